/-
  Rows that lie somewhere, lists of them, slices that were made and are filled one by one. Of no function of the program; no condition.
-/
import Derived.Test.YtmgmdkagnhmihaaDoorOwnG
namespace Go.Proofs.YtmgmdkagnhmihaaDoor
open Go Go.RowKit
set_option maxRecDepth 100000

/-- A row, where it lies, and what it reads. -/
structure Hd where
  A : Option Addr
  n : Nat
  c : Nat
  xs : List Val
abbrev Hd.v (h : Hd) : Value := .slice h.A h.n h.c
def rdH (h : Hd) : List Value := [.slice h.A h.n h.c]
def rdV (x : Val) : List Value := [.int .i64 x.k, .int .i64 x.n, .string x.s]
def rdI (x : Int) : List Value := [.int .i64 x]
def rdB (b : Bool) : List Value := [.bool b]
def rdS (l : List UInt8) : List Value := [.string ⟨l.toArray⟩]
/-- It reads so in w. -/
structure Hd.In (w : World) (h : Hd) : Prop where
  len : h.xs.length = h.n
  max : h.n ≤ maxLen
  sl : Sl w h.A h.xs
theorem Hd.In.after {w w' : World} {h : Hd} (hi : Hd.In w h) (hb : Below w.heap.size w w') : Hd.In w' h := ⟨hi.len, hi.max, hi.sl.after hb⟩
theorem iOk : ElOk Tryd.prog 55 3 1 8 (.int .i64 0) rdI where
  under := Tryd.underlying55
  info := by kernel_rfl
  zs := rfl
  pos := by decide
  len := fun _ => rfl
  one := fun x u hu => by
    simp [rdI] at hu
    rcases hu with rfl; rfl
theorem SlG.sl {w : World} {A : Option Addr} {xs : List Val} (h : SlG w A 3 rdV xs) : Sl w A xs := by
  rcases h with h | ⟨b, off, hA, hlt, h⟩
  · exact .inl h
  · exact .inr ⟨b, off, hA, hlt, fun i x hx => ⟨h i x hx 0 _ rfl, h i x hx 1 _ rfl, h i x hx 2 _ rfl⟩⟩
theorem Sl.slG {w : World} {A : Option Addr} {xs : List Val} (h : Sl w A xs) : SlG w A 3 rdV xs := by
  rcases h with h | ⟨b, off, hA, hlt, h⟩
  · exact .inl h
  · refine .inr ⟨b, off, hA, hlt, fun i x hx j u hu => ?_⟩
    obtain ⟨h0, h1, h2⟩ := h i x hx
    match j, hu with
    | 0, hu => simp [rdV] at hu; subst hu; exact h0
    | 1, hu => simp [rdV] at hu; subst hu; exact h1
    | 2, hu => simp [rdV] at hu; subst hu; exact h2
    | j + 3, hu => simp [rdV] at hu
/-- What a row reads at k. -/
theorem Sl.at3 {w : World} {A : Option Addr} {xs : List Val} (h : Sl w A xs) {k : Nat} (hk : k < xs.length) :
    ∃ b off x, A = some ⟨b, off, none⟩ ∧ b < w.heap.size ∧ xs[k]? = some x ∧ w.cell? ⟨b, off + k * 3, none⟩ = some (.int .i64 x.k) ∧ w.cell? ⟨b, off + k * 3 + 1, none⟩ = some (.int .i64 x.n) ∧ w.cell? ⟨b, off + k * 3 + 2, none⟩ = some (.string x.s) := by
  rcases h with rfl | ⟨b, off, hA, hlt, h⟩
  · simp at hk
  · have := h k xs[k] (List.getElem?_eq_getElem hk)
    exact ⟨b, off, xs[k], hA, hlt, List.getElem?_eq_getElem hk, this⟩
theorem all_dropA (p : Val → Bool) (xs : List Val) (k : Nat) (x : Val) (hx : xs[k]? = some x) : (xs.drop k).all p = (p x && (xs.drop (k + 1)).all p) := by
  have h1 := List.drop_eq_getElem_cons (List.getElem?_eq_some_iff.1 hx).1
  rw [(List.getElem?_eq_some_iff.1 hx).2] at h1
  rw [h1, List.all_cons]
/-- What a slice of one cell an element reads at k. -/
theorem SlG.at1 {α : Type} {rd : α → List Value} {w : World} {A : Option Addr} {xs : List α} (h : SlG w A 1 rd xs) {k : Nat} (hk : k < xs.length) :
    ∃ b off x, A = some ⟨b, off, none⟩ ∧ b < w.heap.size ∧ xs[k]? = some x ∧ ∀ u, (rd x)[0]? = some u → w.cell? ⟨b, off + k, none⟩ = some u := by
  rcases h with rfl | ⟨b, off, hA, hlt, h⟩
  · simp at hk
  · refine ⟨b, off, xs[k], hA, hlt, List.getElem?_eq_getElem hk, fun u hu => ?_⟩
    have := h k xs[k] (List.getElem?_eq_getElem hk) 0 u hu
    rwa [Nat.mul_one, Nat.add_zero] at this
abbrev OwnV (w : World) (B : Nat) (v : Value) (xs : List Val) : Prop := OwnG w B 33 3 rdV v xs
abbrev OwnI (w : World) (B : Nat) (v : Value) (xs : List Int) : Prop := OwnG w B 3 1 rdI v xs
abbrev OwnB (w : World) (B : Nat) (v : Value) (xs : List Bool) : Prop := OwnG w B 4 1 rdB v xs

section
variable {α : Type} {rd : α → List Value} {S N : Nat}
/-- Block g holds N elements' cells, none frozen; the first ones are those of xs. -/
structure Mk (w : World) (g S N : Nat) (rd : α → List Value) (xs : List α) : Prop where
  lt : g < w.heap.size
  all : ∀ j, j < N * S → ∃ u, w.cell? ⟨g, j, none⟩ = some u
  thaw : ∀ j, w.frozen? ⟨g, j, none⟩ = false
  at' : ∀ i x, xs[i]? = some x → ∀ j u, (rd x)[j]? = some u → w.cell? ⟨g, i * S + j, none⟩ = some u
theorem Mk.same {w w' : World} {g : Nat} {xs : List α} (h : Mk w g S N rd xs) (hs : w.heap.size ≤ w'.heap.size) (hb : w'.heap[g]? = w.heap[g]?) : Mk w' g S N rd xs := by
  have hc : ∀ j, w'.cell? ⟨g, j, none⟩ = w.cell? ⟨g, j, none⟩ := fun j => by simp only [World.cell?, hb]
  have hf : ∀ j, w'.frozen? ⟨g, j, none⟩ = w.frozen? ⟨g, j, none⟩ := fun j => by simp only [World.frozen?, hb]
  exact ⟨Nat.lt_of_lt_of_le h.lt hs, fun j hj => by rw [hc]; exact h.all j hj, fun j => by rw [hf]; exact h.thaw j, fun i x hx j u hu => by rw [hc]; exact h.at' i x hx j u hu⟩
theorem Mk.after {w w' : World} {g B : Nat} {xs : List α} (h : Mk w g S N rd xs) (hb : Below B w w') (hg : g < B) : Mk w' g S N rd xs := h.same hb.size (hb.block g hg)
theorem Mk.new (w : World) (cs : Array Value) (T : TypeId) (h : cs.size = N * S) : Mk (w.alloc (.cells cs T)) w.heap.size S N rd ([] : List α) := by
  have e0 : (w.alloc (.cells cs T)).heap[w.heap.size]? = some (.cells cs T (0, 0)) := by
    show (w.heap.push _)[w.heap.size]? = _
    simp
  refine ⟨by simp, fun j hj => ?_, fun j => ?_, fun i x hx => by simp at hx⟩
  · refine ⟨cs[j]'(by omega), ?_⟩
    simp only [World.cell?, e0, Option.isSome_none, Bool.false_eq_true, if_false]
    exact Array.getElem?_eq_getElem _
  · unfold World.frozen?
    rw [show (w.alloc (.cells cs T)).heap[(⟨w.heap.size, j, none⟩ : Addr).block]? = some (.cells cs T (0, 0)) from e0]
    simp
theorem Mk.slG {w : World} {g : Nat} {xs : List α} (h : Mk w g S N rd xs) : SlG w (some ⟨g, 0, none⟩) S rd xs :=
  .inr ⟨g, 0, rfl, h.lt, fun i x hx j u hu => by rw [Nat.zero_add]; exact h.at' i x hx j u hu⟩
/-- One cell written: the next element. -/
theorem Mk.set1 {w : World} {g : Nat} {xs : List α} (hl : ∀ x, (rd x).length = 1) (h : Mk w g 1 N rd xs) (x : α) (v : Value) (hv : rd x = [v]) (hlt : xs.length < N) : Mk (w.setCell ⟨g, xs.length, none⟩ v) g 1 N rd (xs ++ [x]) := by
  obtain ⟨u0, h0⟩ := h.all xs.length (by omega)
  have same : (w.setCell ⟨g, xs.length, none⟩ v).cell? ⟨g, xs.length, none⟩ = some v := World.cell?_setCell_same _ _ _ h0
  have other : ∀ j, j ≠ xs.length → (w.setCell ⟨g, xs.length, none⟩ v).cell? ⟨g, j, none⟩ = w.cell? ⟨g, j, none⟩ := fun j hj => World.cell?_setCell_other _ _ _ _ (by intro e; simp only [Addr.mk.injEq] at e; exact hj e.2.1.symm)
  refine ⟨by simpa using h.lt, fun j hj => ?_, fun j => by rw [World.frozen?_setCell]; exact h.thaw j, fun i y hy j u hu => ?_⟩
  · by_cases e : j = xs.length
    · subst e; exact ⟨v, same⟩
    · rw [other j e]; exact h.all j hj
  · have hj : j < 1 := by have := (List.getElem?_eq_some_iff.1 hu).1; rwa [hl] at this
    by_cases hi : i < xs.length
    · rw [List.getElem?_append_left hi] at hy
      rw [other _ (by omega)]
      exact h.at' i y hy j u hu
    · have hi' : i = xs.length := by
        have := (List.getElem?_eq_some_iff.1 hy).1
        simp at this; omega
      subst hi'
      simp at hy
      subst hy
      obtain rfl : j = 0 := by omega
      rw [hv] at hu
      simp at hu
      subst hu
      rw [Nat.mul_one, Nat.add_zero]
      exact same
/-- Three cells written: the next value. -/
theorem Mk.set3 {w : World} {g : Nat} {xs : List Val} (h : Mk w g 3 N rdV xs) (x : Val) (hlt : xs.length < N) :
    Mk (((w.setCell ⟨g, xs.length * 3, none⟩ (.int .i64 x.k)).setCell ⟨g, xs.length * 3 + 1, none⟩ (.int .i64 x.n)).setCell ⟨g, xs.length * 3 + 2, none⟩ (.string x.s)) g 3 N rdV (xs ++ [x]) := by
  obtain ⟨u0, h0⟩ := h.all (xs.length * 3) (by omega)
  obtain ⟨u1, h1⟩ := h.all (xs.length * 3 + 1) (by omega)
  obtain ⟨u2, h2⟩ := h.all (xs.length * 3 + 2) (by omega)
  have oth : ∀ (w : World) (p j : Nat) (v : Value), j ≠ p → (w.setCell ⟨g, p, none⟩ v).cell? ⟨g, j, none⟩ = w.cell? ⟨g, j, none⟩ := fun w p j v hj => World.cell?_setCell_other _ _ _ _ (by intro e; simp only [Addr.mk.injEq] at e; exact hj e.2.1.symm)
  have k1 : (w.setCell ⟨g, xs.length * 3, none⟩ (.int .i64 x.k)).cell? ⟨g, xs.length * 3 + 1, none⟩ = some u1 := (oth _ _ _ _ (by omega)).trans h1
  have k2 : ((w.setCell ⟨g, xs.length * 3, none⟩ (.int .i64 x.k)).setCell ⟨g, xs.length * 3 + 1, none⟩ (.int .i64 x.n)).cell? ⟨g, xs.length * 3 + 2, none⟩ = some u2 := (oth _ _ _ _ (by omega)).trans ((oth _ _ _ _ (by omega)).trans h2)
  have c2 := World.cell?_setCell_same _ ⟨g, xs.length * 3 + 2, none⟩ (.string x.s) k2
  have c1 := (oth ((w.setCell ⟨g, xs.length * 3, none⟩ (.int .i64 x.k)).setCell ⟨g, xs.length * 3 + 1, none⟩ (.int .i64 x.n)) (xs.length * 3 + 2) (xs.length * 3 + 1) (.string x.s) (by omega)).trans (World.cell?_setCell_same _ ⟨g, xs.length * 3 + 1, none⟩ (.int .i64 x.n) k1)
  have c0 := (oth ((w.setCell ⟨g, xs.length * 3, none⟩ (.int .i64 x.k)).setCell ⟨g, xs.length * 3 + 1, none⟩ (.int .i64 x.n)) (xs.length * 3 + 2) (xs.length * 3) (.string x.s) (by omega)).trans ((oth (w.setCell ⟨g, xs.length * 3, none⟩ (.int .i64 x.k)) (xs.length * 3 + 1) (xs.length * 3) (.int .i64 x.n) (by omega)).trans (World.cell?_setCell_same _ ⟨g, xs.length * 3, none⟩ (.int .i64 x.k) h0))
  have other : ∀ j, j ≠ xs.length * 3 → j ≠ xs.length * 3 + 1 → j ≠ xs.length * 3 + 2 → (((w.setCell ⟨g, xs.length * 3, none⟩ (.int .i64 x.k)).setCell ⟨g, xs.length * 3 + 1, none⟩ (.int .i64 x.n)).setCell ⟨g, xs.length * 3 + 2, none⟩ (.string x.s)).cell? ⟨g, j, none⟩ = w.cell? ⟨g, j, none⟩ := fun j e0 e1 e2 => (oth _ _ _ _ e2).trans ((oth _ _ _ _ e1).trans (oth _ _ _ _ e0))
  refine ⟨by simpa using h.lt, fun j hj => ?_, fun j => by rw [World.frozen?_setCell, World.frozen?_setCell, World.frozen?_setCell]; exact h.thaw j, fun i y hy j u hu => ?_⟩
  · by_cases e0 : j = xs.length * 3
    · subst e0; exact ⟨_, c0⟩
    by_cases e1 : j = xs.length * 3 + 1
    · subst e1; exact ⟨_, c1⟩
    by_cases e2 : j = xs.length * 3 + 2
    · subst e2; exact ⟨_, c2⟩
    rw [other j e0 e1 e2]
    exact h.all j hj
  · have hj : j < 3 := (List.getElem?_eq_some_iff.1 hu).1
    by_cases hi : i < xs.length
    · rw [List.getElem?_append_left hi] at hy
      rw [other _ (by omega) (by omega) (by omega)]
      exact h.at' i y hy j u hu
    · have hi' : i = xs.length := by
        have := (List.getElem?_eq_some_iff.1 hy).1
        simp at this; omega
      subst hi'
      simp at hy
      subst hy
      match j, hu with
      | 0, hu => simp [rdV] at hu; subst hu; exact c0
      | 1, hu => simp [rdV] at hu; subst hu; exact c1
      | 2, hu => simp [rdV] at hu; subst hu; exact c2
/-- make: so many elements, all cells there. -/
theorem make_run {P : Program} {T E : TypeId} {bytes : Nat} {z : Value} (he : ElOk P T E S bytes z rd) (m : Nat) (hb : bytes * m ≤ 281474976710656) (hm : m ≤ maxLen) :
    ∃ cs : Array Value, cs.size = m * S ∧ ∀ w : World, (Instr.makeSlice T (.int .i64 (m : Int)) (.int .i64 (m : Int))).run P w = .ok (.slice (some ⟨w.heap.size, 0, none⟩) m m) (w.alloc (.cells cs E)) := by
  obtain ⟨i0, hi, hz0, hz1, hz2⟩ := he.parts
  refine ⟨madeCells z.cells (m * S), size_madeCells _ _, fun w => ?_⟩
  have h63 : (m : Int) ≤ 9223372036854775807 := by
    have h := hm
    simp [maxLen] at h
    omega
  have hb' : (i0.bytes : Int) * (m : Int) ≤ 281474976710656 := by
    rw [hz2]
    have h : ((bytes * m : Nat) : Int) ≤ 281474976710656 := by omega
    rwa [Int.natCast_mul] at h
  have hr := run_make (P := P) w T E i0 z he.under hi hz0 .i64 .i64 m m (by omega) (Int.le_refl _) hb' h63
  simp only [Int.toNat_natCast, hz1] at hr
  exact hr
theorem SlG.newAt {w : World} {cs : Array Value} {E : TypeId} {b : Nat} (hb : w.heap.size = b) (hl : ∀ x, (rd x).length = S) (xs : List α) (h : cs = (xs.flatMap rd).toArray) : SlG (w.alloc (.cells cs E)) (some ⟨b, 0, none⟩) S rd xs := by
  subst hb
  exact SlG.new hl xs h
end
theorem below_via {w a b : World} (h : Below w.heap.size w a) (g : Below a.heap.size a b) : Below w.heap.size w b := h.trans (g.mono h.size)
theorem below_al {w a : World} (h : Below w.heap.size w a) (o : Obj) : Below w.heap.size w (a.alloc o) := h.alloc h.size o
end Go.Proofs.YtmgmdkagnhmihaaDoor
