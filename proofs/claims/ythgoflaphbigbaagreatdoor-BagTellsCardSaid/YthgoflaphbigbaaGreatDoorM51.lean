/-
  Counts sorted and run together, and the bag of rows, as the program has them; each part says what it proves, and of what.
-/
import Derived.Test.YthgoflaphbigbaaGreatDoorSortK
import Derived.Test.YthgoflaphbigbaaGreatDoorSortP
import Derived.Test.YthgoflaphbigbaaGreatDoorMay5
import Derived.Test.YthgoflaphbigbaaGreatDoorRowsD5
import Derived.Test.YthgoflaphbigbaaGreatDoorJoin
/-
  Counts sorted by their rows, as the program does it (slices.SortFunc over structs): a permutation that rises, in the same place. Of lists of at most a million counts whose rows lie elsewhere.
-/
namespace Go.Proofs.YthgoflaphbigbaaGreatDoor
open Go Go.RowKit Go.Sort
set_option maxRecDepth 100000

/-- What the program compares two counts by. -/
theorem closureC_g (x y : Ct) (W : World) (hx : Ct.In W x) (hy : Ct.In W y) : Calls Tryz.prog 52 #[.agg (rdC x).toArray, .agg (rdC y).toArray] W fun e w' => e = .returned (.int .i64 (cmpL x.h.xs y.h.xs)) ∧ Gr W w' := by
  obtain ⟨⟨xA, xn, xc, xs⟩, xN⟩ := x
  obtain ⟨⟨yA, yn, yc, ys⟩, yN⟩ := y
  have Hx := Lib.hid hx
  have Hy := Lib.hid hy
  clear hx hy
  simp only [rdC]
  go_enter Tryz.func52, Tryz.ntmps52
  go_wp2_with fail
  have hb0 := below_two W (.cells #[.slice xA xn xc, .int .i64 xN] 36) (.cells #[.slice yA yn yc, .int .i64 yN] 36)
  refine (compareL_g xA yA xn yn xc yc xs ys _ (Hx.out.after hb0).hd.len (Hy.out.after hb0).hd.len (Hx.out.after hb0).hd.max (Hy.out.after hb0).hd.max (Hx.out.after hb0).hd.sl (Hy.out.after hb0).hd.sl).mono ?_
  rintro e w1 ⟨rfl, hb1⟩
  clear hb0
  have Hg := Lib.hid ((gr_two W (.cells #[.slice xA xn xc, .int .i64 xN] 36) (.cells #[.slice yA yn yc, .int .i64 yN] 36)).trans hb1)
  clear hb1
  go_wp2
  go_ret
  exact ⟨rfl, Hg.out⟩
theorem enClosureC : ∀ args w, (callFunc 52 args).run Tryz.prog w = .ok (.enter 52 args) w := fun _ _ => by kernel_rfl

/-- A count whose row lies outside block g. -/
def OutC (w : World) (g : Nat) (c : Ct) : Prop := Ct.In w c ∧ (c.h.xs = [] ∨ ∃ b off, c.h.A = some ⟨b, off, none⟩ ∧ b ≠ g ∧ b < w.heap.size)
theorem OutC.same {w w' : World} {g : Nat} {c : Ct} (ho : OutC w g c) (hs : w.heap.size ≤ w'.heap.size) (hb : ∀ b, b ≠ g → b < w.heap.size → w'.heap[b]? = w.heap[b]?) : OutC w' g c := by
  obtain ⟨hin, ho⟩ := ho
  rcases ho with h0 | ⟨b, off, hA, hne, hlt⟩
  · exact ⟨⟨⟨hin.hd.len, hin.hd.max, .inl h0⟩, hin.sz, hin.n64, hin.N64⟩, .inl h0⟩
  · refine ⟨⟨⟨hin.hd.len, hin.hd.max, ?_⟩, hin.sz, hin.n64, hin.N64⟩, .inr ⟨b, off, hA, hne, Nat.lt_of_lt_of_le hlt hs⟩⟩
    rcases hin.hd.sl with h0 | ⟨b', off', hA', hlt', hc⟩
    · exact .inl h0
    · rw [hA] at hA'
      cases hA'
      have e := hb b hne hlt
      have hcell : ∀ j, w'.cell? ⟨b, j, none⟩ = w.cell? ⟨b, j, none⟩ := fun j => by simp only [World.cell?, e]
      exact .inr ⟨b, off, hA, Nat.lt_of_lt_of_le hlt hs, fun i a ha => by rw [hcell, hcell, hcell]; exact hc i a ha⟩
theorem OutC.after {w w' : World} {g : Nat} {c : Ct} (ho : OutC w g c) (hb : Below w.heap.size w w') : OutC w' g c := ho.same hb.size (fun b _ hlt => hb.block b hlt)
theorem OutC.set {w : World} {g : Nat} {c : Ct} (ho : OutC w g c) (i : Nat) (v : Value) : OutC (w.setCell ⟨g, i, none⟩ v) g c :=
  ho.same (by simp) (fun b hb _ => Below.heap_setCell _ _ _ _ (by exact hb))
/-- A row that lay there before block g was made lies outside it. -/
theorem OutC.old {w w' : World} {g : Nat} {c : Ct} (h : Ct.In w c) (hb : Below w.heap.size w w') (hg : w.heap.size ≤ g) : OutC w' g c := by
  refine ⟨h.after hb, ?_⟩
  rcases h.hd.sl with h0 | ⟨b, off, hA, hlt, _⟩
  · exact .inl h0
  · exact .inr ⟨b, off, hA, by omega, Nat.lt_of_lt_of_le hlt hb.size⟩
theorem sortWorldK_block {α : Type} [Inhabited α] (enc : α → List Value) (k : Nat) (w : World) (g off m : Nat) (d : Array α) (os : Array Obj) (b : Nat) (hb : b ≠ g) (hlt : b < w.heap.size) : (sortWorldK enc k w g off m d os).heap[b]? = w.heap[b]? := by
  unfold sortWorldK putRowK
  show ((putRow id (Sort.ahead w m) g off _).heap ++ os)[b]? = _
  rw [Array.getElem?_append_left (by rw [Sort.size_putRow]; exact hlt)]
  show (w.heap.modify g _)[b]? = _
  rw [Array.getElem?_modify, if_neg (Ne.symm hb)]
theorem sortWorldK_size {α : Type} [Inhabited α] (enc : α → List Value) (k : Nat) (w : World) (g off m : Nat) (d : Array α) (os : Array Obj) : w.heap.size ≤ (sortWorldK enc k w g off m d os).heap.size := by
  unfold sortWorldK putRowK
  rw [size_grow, Sort.size_putRow]
  exact Nat.le_add_right _ _
theorem sortWorldK_below {α : Type} [Inhabited α] (enc : α → List Value) (k : Nat) (w0 w : World) (B g off m : Nat) (d : Array α) (os : Array Obj) (h : Below B w0 w) (hg : B ≤ g) (hB : B ≤ w0.heap.size) : Below B w0 (sortWorldK enc k w g off m d os) :=
  ⟨h.os, h.tape, h.output, Nat.le_trans h.size (sortWorldK_size enc k w g off m d os), fun i hi => (sortWorldK_block enc k w g off m d os i (by omega) (Nat.lt_of_lt_of_le (by omega) h.size)).trans (h.block i hi)⟩

/-- Counts outside block g, as a type of their own. -/
abbrev OutCT (w : World) (g : Nat) := { c : Ct // OutC w g c }
instance (w : World) (g : Nat) : Inhabited (OutCT w g) := ⟨⟨⟨⟨none, 0, 0, []⟩, 0⟩, ⟨⟨rfl, Nat.zero_le _, .inl rfl⟩, nofun, nofun, by decide⟩, .inl rfl⟩⟩
def encCO {w : World} {g : Nat} (x : OutCT w g) : List Value := rdC x.1
def cfCO {w : World} {g : Nat} (x y : OutCT w g) : Int := cmpL x.1.h.xs y.1.h.xs
theorem ltCO {w : World} {g : Nat} (x y : OutCT w g) : ltOf cfCO x y = !leR y.1.h.xs x.1.h.xs := by
  unfold ltOf cfCO leR
  rw [cmpL_neg x.1.h.xs y.1.h.xs]
  rcases cmpL_range x.1.h.xs y.1.h.xs with e | e | e <;> rw [e] <;> rfl
theorem swoCO (w : World) (g : Nat) : SWO (ltOf (cfCO (w := w) (g := g))) where
  irrefl x := by
    rw [ltCO]
    have := leR_total x.1.h.xs x.1.h.xs
    rw [Bool.or_self] at this
    rw [this]; rfl
  trans x y z h1 h2 := by
    rw [ltCO, Bool.not_eq_true'] at h1 h2 ⊢
    have t1 := leR_total y.1.h.xs x.1.h.xs
    rw [h1, Bool.false_or] at t1
    cases h3 : leR z.1.h.xs x.1.h.xs
    · rfl
    · rw [leR_trans _ _ _ h3 t1] at h2
      cases h2
  ntrans x y z h1 h2 := by
    rw [ltCO, Bool.not_eq_false'] at h1 h2 ⊢
    exact leR_trans _ _ _ h2 h1
theorem cmpCO (w : World) (g off n : Nat) : CmpLays Tryz.prog 52 #[] (encCO (w := w) (g := g)) 2 cfCO g off n w := by
  intro m os dk _ x y
  have hx : OutC (sortWorldK encCO 2 w g off m dk os) g x.1 := x.2.same (sortWorldK_size _ _ _ _ _ _ _ _) (fun b hb hlt => sortWorldK_block _ _ _ _ _ _ _ _ b hb hlt)
  have hy : OutC (sortWorldK encCO 2 w g off m dk os) g y.1 := y.2.same (sortWorldK_size _ _ _ _ _ _ _ _) (fun b hb hlt => sortWorldK_block _ _ _ _ _ _ _ _ b hb hlt)
  exact closureC_g x.1 y.1 _ hx.1 hy.1
/-- Counts that stand in block g from off on, none frozen. -/
structure Wr (w : World) (g off : Nat) (ks : List Ct) : Prop where
  lt : g < w.heap.size
  at' : ∀ i x, ks[i]? = some x → ∀ j u, (rdC x)[j]? = some u → w.cell? ⟨g, off + i * 2 + j, none⟩ = some u ∧ w.frozen? ⟨g, off + i * 2 + j, none⟩ = false
theorem Wr.slG {w : World} {g off : Nat} {ks : List Ct} (h : Wr w g off ks) : SlG w (some ⟨g, off, none⟩) 2 rdC ks := .inr ⟨g, off, rfl, h.lt, fun i x hx j u hu => (h.at' i x hx j u hu).1⟩
/-- slices.SortFunc over counts whose rows lie outside the list's own block. -/
theorem sortC_c (g off n cap : Nat) (ks : List Ct) (w : World) (hn : ks.length = n) (hn1 : n ≤ 1000000) (hM : Wr w g off ks) (ho : ∀ c ∈ ks, OutC w g c) :
    Calls Tryz.prog 51 #[.slice (some ⟨g, off, none⟩) n cap, .func (.func 52) #[] #[]] w fun e w' => e = .returned (.tuple #[]) ∧
      ∃ ks' : List Ct, ks'.Perm ks ∧ (ks'.Pairwise fun x y => leR x.h.xs y.h.xs = true) ∧ Wr w' g off ks' ∧ (∀ c ∈ ks', OutC w' g c) ∧ (∀ (w0 : World) (B : Nat), Below B w0 w → B ≤ g → B ≤ w0.heap.size → Below B w0 w') ∧ w.heap.size ≤ w'.heap.size := by
  let l : List (OutCT w g) := ks.attachWith (OutC w g) ho
  have hl : l.map (·.1) = ks := List.attachWith_map_subtype_val ..
  have hll : l.length = n := by rw [← hn, ← hl, List.length_map]
  have hsz : l.toArray.size = n := by rw [List.size_toArray]; exact hll
  have hget : ∀ j (hj : j < n), l.toArray[j]! = l[j]'(by omega) := fun j hj => by
    rw [getElem!_pos _ j (by omega)]
    simp
  have hks : ∀ j (hj : j < n), ks[j]? = some (l[j]'(by omega)).1 := fun j hj => by
    have : ks[j]? = (l.map (·.1))[j]? := by rw [hl]
    rw [this, List.getElem?_map, List.getElem?_eq_getElem (by omega)]
    rfl
  have hH : HoldsK encCO 2 w g off l.toArray := by
    intro t ht
    have ht' : t < n * 2 := by rw [size_flatK, hsz] at ht; exact ht
    rw [get_flatK _ _ _ t (by rw [hsz]; exact ht'), hget _ (by omega)]
    have h2 := hM.at' (t / 2) _ (hks (t / 2) (by omega)) (t % 2)
    have e : off + t / 2 * 2 + t % 2 = off + t := by omega
    rw [e] at h2
    have hlt : t % 2 < (encCO (l[t / 2]'(by omega))).length := by
      show t % 2 < 2
      omega
    refine h2 _ ?_
    rw [getElem!_pos (encCO (l[t / 2]'(by omega))) (t % 2) hlt]
    exact List.getElem?_eq_getElem hlt
  have hS := AnyQ.slices_SortFunc Tryz.sortC 2 Tryz.isAgg36 Tryz.sizeOf36 encCO (fun _ => rfl) (fun x v hv => by simp [encCO, rdC] at hv; rcases hv with rfl | rfl <;> rfl) cfCO (swoCO w g) 52 #[] g off cap l.toArray w enClosureC (by rw [hsz]; exact cmpCO w g off n) hH hM.lt (by rw [hsz]; omega)
  rw [hsz] at hS
  refine hS.mono ?_
  rintro e w' ⟨he, d', q, os, hp, hs, rfl⟩
  have hd : d'.size = n := hp.1.trans hsz
  have hperm : d'.toList.Perm l := by
    have := hp.2.2
    rw [show d'.extract 0 n = d' by rw [← hd]; simp, show l.toArray.extract 0 n = l.toArray by rw [← hsz]; simp] at this
    exact this
  refine ⟨he, d'.toList.map (·.1), ?_, ?_, ?_, ?_, ?_, sortWorldK_size _ _ _ _ _ _ _ _⟩
  · rw [← hl]
    exact hperm.map _
  · rw [List.pairwise_map, List.pairwise_iff_getElem]
    intro i j hi hj hij
    have hi' : i < d'.size := by simpa using hi
    have hj' : j < d'.size := by simpa using hj
    have := hs i j (Nat.zero_le _) hij (by omega)
    rw [getElem!_pos _ i hi', getElem!_pos _ j hj', ltCO, Bool.not_eq_false'] at this
    simpa using this
  · have hH2 := holdsK_sortWorldK encCO 2 w g off q l.toArray d' os hM.lt hH hp.1
    refine ⟨Nat.lt_of_lt_of_le hM.lt (sortWorldK_size _ _ _ _ _ _ _ _), fun i x hx j u hu => ?_⟩
    have hj : j < 2 := (List.getElem?_eq_some_iff.1 hu).1
    rw [List.getElem?_map] at hx
    cases hy : d'.toList[i]? with
    | none => rw [hy] at hx; cases hx
    | some y =>
      rw [hy] at hx
      simp only [Option.map_some, Option.some.injEq] at hx
      subst hx
      obtain ⟨hi, hiy⟩ := List.getElem?_eq_some_iff.1 hy
      have hi' : i < d'.size := by simpa using hi
      have h1 := hH2.cell hi' hj
      rw [getElem!_pos _ i hi', show d'[i] = y by simpa using hiy] at h1
      have h3 : (encCO y)[j]! = u := by
        rw [getElem!_pos (encCO y) j (show j < (encCO y).length from hj)]
        have := (List.getElem?_eq_some_iff.1 hu).2
        exact this
      rw [h3] at h1
      exact h1
  · intro c hc
    obtain ⟨x, _, rfl⟩ := List.mem_map.1 hc
    exact x.2.same (sortWorldK_size _ _ _ _ _ _ _ _) (fun b hb hlt => sortWorldK_block _ _ _ _ _ _ _ _ b hb hlt)
  · intro w0 B hb hB hB0
    exact sortWorldK_below _ _ w0 w B g _ _ _ _ hb hB hB0
/-- .. of no counts. -/
theorem sortC0_c (A : Option Addr) (cap : Nat) (w : World) : Calls Tryz.prog 51 #[.slice A 0 cap, .func (.func 52) #[] #[]] w fun e w' => e = .returned (.tuple #[]) ∧ w' = w :=
  AnyF.slices_SortFunc_none Tryz.sortC A cap _ w
end Go.Proofs.YthgoflaphbigbaaGreatDoor
/-
  Plain facts on lists of counts that rise, run together: each row once, with the sum of its counts. No condition.
-/
namespace Go.Proofs.YthgoflaphbigbaaGreatDoor
open Go Go.RowKit
set_option maxRecDepth 100000

theorem sum_perm {a b : Bg} (h : a.Perm b) (s : List Val) : sumB a s = sumB b s := by
  induction h with
  | nil => rfl
  | cons x _ ih => rw [sumB, sumB, ih]
  | swap x y l => rw [sumB, sumB, sumB, sumB]; omega
  | trans _ _ h1 h2 => rw [h1, h2]
theorem sum_bd (P : Int) (hP : 0 ≤ P) : ∀ (b : Bg) (s : List Val), Bd P b → -(b.length * P) ≤ sumB b s ∧ sumB b s ≤ b.length * P
  | [], _, _ => by rw [sumB]; simp
  | x :: b, s, h => by
    have h1 := sum_bd P hP b s (fun y hy => h y (List.mem_cons_of_mem _ hy))
    have h2 := h x (by simp)
    rw [sumB, List.length_cons]
    have e : ((b.length + 1 : Nat) : Int) * P = b.length * P + P := by
      rw [Int.natCast_add, Int.add_mul, Int.natCast_one, Int.one_mul]
    rw [e]
    split <;> omega
/-- M is what the counts of p come to, run together. -/
structure MI (p M : Bg) : Prop where
  asc : Asc M
  sum : ∀ s, sumB M s = sumB p s
  key : ∀ x ∈ M, ∃ y ∈ p, y.1 = x.1
  last : (p = [] ∧ M = []) ∨ ∃ p' M' r n m, p = p' ++ [(r, n)] ∧ M = M' ++ [(r, m)]
theorem MI.start : MI [] [] := ⟨List.Pairwise.nil, fun _ => rfl, nofun, .inl ⟨rfl, rfl⟩⟩
theorem asc_last {M : Bg} {r : List Val} {n : Int} (h : Asc (M ++ [(r, n)])) : Asc M ∧ ∀ x ∈ M, cmpL x.1 r = -1 := by
  unfold Asc at h
  rw [List.pairwise_append] at h
  exact ⟨h.1, fun x hx => h.2.2 x hx (r, n) (by simp)⟩
theorem asc_snoc {M : Bg} {r : List Val} {n : Int} (h : Asc M) (h2 : ∀ x ∈ M, cmpL x.1 r = -1) : Asc (M ++ [(r, n)]) := by
  unfold Asc
  rw [List.pairwise_append]
  exact ⟨h, List.pairwise_singleton _ _, fun x hx y hy => by rw [List.mem_singleton] at hy; rw [hy]; exact h2 x hx⟩
theorem MI.same {p M : Bg} {r q : List Val} {m n : Int} (h : MI p (M ++ [(r, m)])) (hc : cmpL r q = 0) : MI (p ++ [(q, n)]) (M ++ [(r, m + n)]) := by
  have e := cmpL_iff.1 hc
  subst e
  have ha := asc_last h.asc
  refine ⟨asc_snoc ha.1 ha.2, fun s => ?_, fun x hx => ?_, .inr ⟨p, M, r, n, m + n, rfl, rfl⟩⟩
  · have := h.sum s
    rw [sum_append] at this
    rw [sum_append, sum_append, ← this]
    simp only [sumB]
    split <;> omega
  · rcases List.mem_append.1 hx with hx | hx
    · obtain ⟨y, hy, e⟩ := h.key x (List.mem_append_left _ hx)
      exact ⟨y, List.mem_append_left _ hy, e⟩
    · rw [List.mem_singleton] at hx
      exact ⟨(r, n), by simp, by rw [hx]⟩
theorem MI.next {p M : Bg} {q : List Val} {n : Int} (h : MI p M) (hle : ∀ y ∈ p, leR y.1 q = true) (hne : ∀ p' r m, p = p' ++ [(r, m)] → cmpL r q ≠ 0) : MI (p ++ [(q, n)]) (M ++ [(q, n)]) := by
  have hlt : ∀ x ∈ M, cmpL x.1 q = -1 := by
    rcases h.last with ⟨_, hM⟩ | ⟨p', M', r, n', m, hp, hM⟩
    · rw [hM]; nofun
    · have hr : cmpL r q = -1 := by
        have h1 := hle (r, n') (by rw [hp]; simp)
        have h2 := hne p' r n' hp
        unfold leR at h1
        rcases cmpL_range r q with e | e | e
        · exact e
        · exact absurd e h2
        · simp [e] at h1
      intro x hx
      have ha := h.asc
      rw [hM] at ha hx
      rcases List.mem_append.1 hx with hx | hx
      · exact cmpL_trans ((asc_last ha).2 x hx) hr
      · rw [List.mem_singleton] at hx
        rw [hx]
        exact hr
  refine ⟨asc_snoc h.asc hlt, fun s => ?_, fun x hx => ?_, .inr ⟨p, M, q, n, n, rfl, rfl⟩⟩
  · rw [sum_append, sum_append, h.sum s]
  · rcases List.mem_append.1 hx with hx | hx
    · obtain ⟨y, hy, e⟩ := h.key x hx
      exact ⟨y, List.mem_append_left _ hy, e⟩
    · rw [List.mem_singleton] at hx
      exact ⟨(q, n), by simp, by rw [hx]⟩
theorem MI.count {p M : Bg} (h : MI p M) {x : List Val × Int} (hx : x ∈ M) : x.2 = sumB p x.1 := by rw [← h.sum, sum_look _ _ h.asc, look_mem _ x h.asc hx]
theorem MI.bd {p M : Bg} (h : MI p M) (P : Int) (hP : 0 ≤ P) (hb : Bd P p) {x : List Val × Int} (hx : x ∈ M) : -(p.length * P) ≤ x.2 ∧ x.2 ≤ p.length * P := by rw [h.count hx]; exact sum_bd P hP p x.1 hb
/-- Run together, the counts of rows are the bag of rows. -/
theorem MI.of {l : List (List Val)} {p M : Bg} (h : MI p M) (hp : p.Perm (l.map fun r => (r, 1))) : M = ofL l := by
  have hs : ∀ s, sumB p s = sumB (l.map fun r => (r, 1)) s := sum_perm hp
  refine bag_ext M (ofL l) h.asc (asc_of l) (fun x hx => ?_) (nz_of l) fun s => ?_
  · rw [h.count hx, hs, ← look_of]
    obtain ⟨y, hy, e⟩ := h.key x hx
    have hy2 := hp.mem_iff.1 hy
    obtain ⟨r, hr, rfl⟩ := List.mem_map.1 hy2
    simp only at e
    subst e
    have hmem : x.1 ∈ rowsB (ofL l) := (of_perm l).mem_iff.2 hr
    obtain ⟨z, hz, hz2⟩ := List.mem_flatMap.1 hmem
    have e2 := (List.mem_replicate.1 hz2).2
    rw [e2, look_mem _ z (asc_of l) hz]
    have := of_pos l z hz
    omega
  · rw [← sum_look M s h.asc, h.sum, hs, look_of]
/-- Run together, without those that come to nothing, bags are their sum. -/
theorem MI.plus {l : List Bg} {p M : Bg} (h : MI p M) (hp : p.Perm l.flatten) : M.filter (fun x => !(x.2 == 0)) = plusL l := by
  have hfl : ∀ (l : List Bg) (s : List Val), sumB l.flatten s = sumL l s := by
    intro l s
    induction l with
    | nil => rfl
    | cons b l ih => rw [List.flatten_cons, sum_append, ih, sumL]
  have hlook : ∀ (b : Bg) (s : List Val), Asc b → lookB (b.filter fun x => !(x.2 == 0)) s = lookB b s := by
    intro b s hb
    induction b with
    | nil => rfl
    | cons x b ih =>
      have hi := ih (asc_tail hb)
      cases hz : x.2 == 0
      · rw [List.filter_cons_of_pos (by rw [hz]; rfl), lookB, lookB, hi]
      · rw [List.filter_cons_of_neg (by rw [hz]; simp), lookB, hi]
        split
        · rename_i hc
          have e := cmpL_iff.1 hc
          rw [← e, look_none b x.1 (asc_head hb)]
          simpa using (eq_of_beq hz).symm
        · rfl
  refine bag_ext _ _ (List.Pairwise.sublist List.filter_sublist h.asc) (asc_plus l) (fun x hx => ?_) (nz_plus l) fun s => ?_
  · have := (List.mem_filter.1 hx).2
    simpa using this
  · rw [hlook M s h.asc, look_plus, ← hfl l s, ← sum_perm hp s, ← h.sum s, sum_look M s h.asc]
end Go.Proofs.YthgoflaphbigbaaGreatDoor
/-
  Single operations on lists of counts; a row that was made anew. No condition.
-/
namespace Go.Proofs.YthgoflaphbigbaaGreatDoor
open Go Go.RowKit
set_option maxRecDepth 100000

theorem ev_idxK {F : Act} {w : World} {t u : Tmp} {b off n c k : Nat} {o : Oper} (hk : k < n) (ho : o.op = .indexAddr 22 (.tmp t) (.tmp u)) (ht : Reg.slot F t = .slice (some ⟨b, off, none⟩) n c) (hu : Reg.slot F u = .int .i64 k) :
    (execOp F.eval o).run Tryz.prog w = .ok (.value (.pointer (some ⟨b, off + k * 2, none⟩))) w := by
  have e1 : F.eval (.tmp t) = .slice (some ⟨b, off, none⟩) n c := ht
  have e2 : F.eval (.tmp u) = .int .i64 k := hu
  have e0 : (execOp F.eval o).run Tryz.prog w = ((Instr.indexAt 22 (.slice (some ⟨b, off, none⟩) n c) (.int .i64 k)).run Tryz.prog w).andThen fun v w' => .ok (.value v) w' := by
    simp only [execOp, ho, e1, e2, Sem.run_bind, Sem.run_pure]
  rw [e0]
  go_simp
/-- A count whose row was made anew, behind B. -/
structure NewC (w : World) (B : Nat) (xs : List Val) (N : Int) (h : Hd) : Prop where
  ct : Ct.In w ⟨h, N⟩
  eq : h.xs = xs
  lt : ∀ b off, h.A = some ⟨b, off, none⟩ → B ≤ b ∧ b < w.heap.size
theorem NewC.of {w w' : World} {B : Nat} {h : Hd} {c : Ct} (hi : Hd.In w' h) (hx : h.xs = c.h.xs) (hb : ∀ b off, h.A = some ⟨b, off, none⟩ → B ≤ b ∧ b < w'.heap.size) (hc : Ct.In w c) : NewC w' B c.h.xs c.N h :=
  ⟨⟨hi, by rw [hx]; exact hc.sz, by rw [hx]; exact hc.n64, hc.N64⟩, hx, hb⟩
end Go.Proofs.YthgoflaphbigbaaGreatDoor
/-
  Counts run together, as the program does it: each row once, rising, with the sum of its counts, in new memory; the list itself is sorted in its place. Of at most 100000 counts within the bounds.
-/
namespace Go.Proofs.YthgoflaphbigbaaGreatDoor
open Go Go.RowKit
set_option maxRecDepth 100000

/-- The rows of the counts lie apart from the slice at A. -/
def ApartC (w : World) (A : Option Addr) (ol : List Ct) : Prop := ∀ c ∈ ol, Ct.In w c ∧ ∀ g o, A = some ⟨g, o, none⟩ → OutC w g c
theorem ApartC.nil (w : World) (A : Option Addr) : ApartC w A [] := nofun
theorem ApartC.after {w w' : World} {A : Option Addr} {ol : List Ct} (h : ApartC w A ol) (hb : Below w.heap.size w w') : ApartC w' A ol := fun c hc => ⟨(h c hc).1.after hb, fun g o hA => ((h c hc).2 g o hA).after hb⟩
theorem ApartC.each {w : World} {A : Option Addr} {ol : List Ct} (h : ApartC w A ol) : ∀ c ∈ ol, Ct.In w c := fun c hc => (h c hc).1
/-- A count's row, where the world grew by a slice's growing apart from it. -/
theorem grown_ct {w9 X w2 : World} {u u2 : Option Nat} {c : Ct} (hin : Ct.In w9 c) (hne : c.h.xs = [] ∨ ∃ b off, c.h.A = some ⟨b, off, none⟩ ∧ u ≠ some b ∧ b < w9.heap.size) (hX : Below w9.heap.size w9 X) (hg : X.grownBy w2 u) (hloc : u2 = u ∨ u2 = some X.heap.size) : Ct.In w2 c ∧ ∀ g, u2 = some g → OutC w2 g c := by
  rcases hne with h0 | ⟨b, off, hA, hub, hlt⟩
  · have h1 : Ct.In w2 c := ⟨⟨hin.hd.len, hin.hd.max, .inl h0⟩, hin.sz, hin.n64, hin.N64⟩
    exact ⟨h1, fun g _ => ⟨h1, .inl h0⟩⟩
  · have hblk : w2.heap[b]? = w9.heap[b]? := (hg.block b (Nat.lt_of_lt_of_le hlt hX.size) (fun e => hub e.symm)).trans (hX.block b hlt)
    have hsz : w9.heap.size ≤ w2.heap.size := Nat.le_trans hX.size hg.size
    have h1 : Ct.In w2 c := by
      refine ⟨⟨hin.hd.len, hin.hd.max, ?_⟩, hin.sz, hin.n64, hin.N64⟩
      rcases hin.hd.sl with h0 | ⟨b', off', hA', hlt', hc⟩
      · exact .inl h0
      · rw [hA] at hA'
        cases hA'
        have hcell : ∀ j, w2.cell? ⟨b, j, none⟩ = w9.cell? ⟨b, j, none⟩ := fun j => by simp only [World.cell?, hblk]
        exact .inr ⟨b, off, hA, Nat.lt_of_lt_of_le hlt hsz, fun i a ha => by rw [hcell, hcell, hcell]; exact hc i a ha⟩
    refine ⟨h1, fun g hg2 => ⟨h1, .inr ⟨b, off, hA, ?_, Nat.lt_of_lt_of_le hlt hsz⟩⟩⟩
    rintro rfl
    rcases hloc with e | e
    · rw [e] at hg2
      exact hub hg2
    · rw [e] at hg2
      cases hg2
      have := hX.size
      omega
theorem ApartC.app {w9 X w2 : World} {A' A2 : Option Addr} {m c' m2 c2 : Nat} {ol : List Ct} {h : Hd} {N : Int} (hA : ApartC w9 A' ol) (hX : Below w9.heap.size w9 X) (hg : X.grownBy w2 (Value.slice A' m c').ownBlock) (hloc : (Value.slice A2 m2 c2).ownBlock = (Value.slice A' m c').ownBlock ∨ (Value.slice A2 m2 c2).ownBlock = some X.heap.size)
    (hx : Ct.In w9 ⟨h, N⟩) (hx2 : ∀ b off, h.A = some ⟨b, off, none⟩ → (Value.slice A' m c').ownBlock ≠ some b ∧ b < w9.heap.size) (hp : ∀ g o t, A' = some ⟨g, o, t⟩ → t = none) : ApartC w2 A2 (ol ++ [⟨h, N⟩]) := by
  intro c hc
  have key : Ct.In w9 c ∧ (c.h.xs = [] ∨ ∃ b off, c.h.A = some ⟨b, off, none⟩ ∧ (Value.slice A' m c').ownBlock ≠ some b ∧ b < w9.heap.size) := by
    rcases List.mem_append.1 hc with hc | hc
    · refine ⟨(hA c hc).1, ?_⟩
      cases hA' : A' with
      | none =>
        rcases (hA c hc).1.hd.sl with h0 | ⟨b, off, hb, hlt, _⟩
        · exact .inl h0
        · exact .inr ⟨b, off, hb, nofun, hlt⟩
      | some ad =>
        obtain ⟨g, o, t⟩ := ad
        obtain rfl := hp g o t hA'
        rcases ((hA c hc).2 g o hA').2 with h0 | ⟨b, off, hb, hne, hlt⟩
        · exact .inl h0
        · refine .inr ⟨b, off, hb, fun e => hne ?_, hlt⟩
          injection e with e
          exact e.symm
    · rw [List.mem_singleton] at hc
      subst hc
      refine ⟨hx, ?_⟩
      rcases hx.hd.sl with h0 | ⟨b, off, hb, _, _⟩
      · exact .inl h0
      · exact .inr ⟨b, off, hb, hx2 b off hb⟩
  have h2 := grown_ct key.1 key.2 hX hg hloc
  exact ⟨h2.1, fun g o e => h2.2 g (by rw [e]; rfl)⟩
theorem OwnG.plain {w : World} {B m c : Nat} {E : TypeId} {A : Option Addr} {ol : List Ct} (h : OwnG w B E 2 rdC (.slice A m c) ol) : ∀ g o t, A = some ⟨g, o, t⟩ → t = none := by
  intro g o t hA
  rcases h.2 with ⟨hv, _⟩ | ⟨g', cap, cur, hv, _⟩
  · injection hv with e
    rw [hA] at e
    cases e
  · injection hv with e
    rw [hA] at e
    cases e
    rfl
/-- The last one's count is changed. -/
theorem OwnG.setN {w : World} {B g m c : Nat} {ol : List Ct} {h : Hd} {N : Int} (ho : OwnG w B 36 2 rdC (.slice (some ⟨g, 0, none⟩) (m + 1) c) (ol ++ [⟨h, N⟩])) (hm : ol.length = m) (N1 : Int) : OwnG (w.setCell ⟨g, m * 2 + 1, none⟩ (.int .i64 N1)) B 36 2 rdC (.slice (some ⟨g, 0, none⟩) (m + 1) c) (ol ++ [⟨h, N1⟩]) := by
  obtain ⟨h1, h2⟩ := ho
  have hfl : (ol.flatMap rdC).length = m * 2 := by rw [flat_len cOk.len, hm]
  refine ⟨?_, ?_⟩
  · rw [flat_len cOk.len]
  · rcases h2 with ⟨hv, _⟩ | ⟨g', cap, cur, hv, hB, hh, hle, hmx, hsz, htk⟩
    · cases hv
    · injection hv with e1 e2 e3
      cases e1
      subst e3
      have hlen : (ol ++ [(⟨h, N⟩ : Ct)]).length = m + 1 := by rw [List.length_append, hm]; rfl
      have hlen1 : (ol ++ [(⟨h, N1⟩ : Ct)]).length = m + 1 := by rw [List.length_append, hm]; rfl
      rw [hlen] at htk hle
      refine .inr ⟨g, c, cur.setIfInBounds (m * 2 + 1) (.int .i64 N1), by rw [hlen1], hB, heap_setCell_same _ _ _ _ _ _ hh, by rw [hlen1]; exact hle, hmx, by rw [Array.size_setIfInBounds]; exact hsz, ?_⟩
      rw [hlen1, Array.toList_setIfInBounds, List.take_set, htk, List.flatMap_append, List.flatMap_append, List.set_append_right _ _ (by omega), hfl, show m * 2 + 1 - m * 2 = 1 by omega]
      rfl
/-- What counts that were run together say. -/
structure MrgSaid (w : World) (A : Option Addr) (ks : List Ct) (A' : Option Addr) (m c' : Nat) (ol : List Ct) (w' : World) : Prop where
  len : ol.length = m
  le : m ≤ ks.length
  own : OwnG w' w.heap.size 36 2 rdC (.slice A' m c') ol
  apart : ApartC w' A' ol
  mi : ∃ p, p.Perm (pl ks) ∧ MI p (pl ol)
  below : ∀ w0 B, Below B w0 w → (∀ g off, A = some ⟨g, off, none⟩ → B ≤ g) → B ≤ w0.heap.size → Below B w0 w'
/-- What a sort of counts says. -/
structure SrtSaid (w : World) (A : Option Addr) (ks ks' : List Ct) (w' : World) : Prop where
  perm : ks'.Perm ks
  asc : ks'.Pairwise fun x y => leR x.h.xs y.h.xs = true
  sl : SlG w' A 2 rdC ks'
  each : ∀ c ∈ ks', Ct.In w' c
  below : ∀ w0 B, Below B w0 w → (∀ g off, A = some ⟨g, off, none⟩ → B ≤ g) → B ≤ w0.heap.size → Below B w0 w'
  size : w.heap.size ≤ w'.heap.size
theorem sortAny_c (A : Option Addr) (n c : Nat) (ks : List Ct) (w : World) (hn : ks.length = n) (hn1 : n ≤ 1000000) (hM : n = 0 ∨ ∃ g off, A = some ⟨g, off, none⟩ ∧ Wr w g off ks ∧ ∀ c ∈ ks, OutC w g c) :
    Calls Tryz.prog 51 #[.slice A n c, .func (.func 52) #[] #[]] w fun e w' => e = .returned (.tuple #[]) ∧ ∃ ks', SrtSaid w A ks ks' w' := by
  by_cases h0 : n = 0
  · subst h0
    have : ks = [] := List.eq_nil_of_length_eq_zero hn
    subst this
    refine (sortC0_c A c w).mono ?_
    rintro e w' ⟨rfl, rfl⟩
    exact ⟨rfl, [], List.Perm.refl _, List.Pairwise.nil, .inl rfl, nofun, fun w0 B h _ _ => h, Nat.le_refl _⟩
  · rcases hM with h | ⟨g, off, rfl, hW, hO⟩
    · exact absurd h h0
    · refine (sortC_c g off n c ks w hn hn1 hW hO).mono ?_
      rintro e w' ⟨rfl, ks', h1, h2, h3, h4, h5, h6⟩
      exact ⟨rfl, ks', h1, h2, h3.slG, fun c hc => (h4 c hc).1, fun w0 B hb hg hB => h5 w0 B hb (hg g off rfl) hB, h6⟩
theorem pairwise_take {l : List Ct} (h : l.Pairwise fun x y => leR x.h.xs y.h.xs = true) (k : Nat) (x : Ct) (hx : l[k]? = some x) : ∀ y ∈ pl (l.take k), leR y.1 x.h.xs = true := by
  intro y hy
  obtain ⟨c, hc, rfl⟩ := List.mem_map.1 hy
  obtain ⟨i, hi, hic⟩ := List.getElem_of_mem hc
  rw [List.length_take] at hi
  rw [List.getElem_take] at hic
  obtain ⟨hk, hkx⟩ := List.getElem?_eq_some_iff.1 hx
  have := List.pairwise_iff_getElem.1 h i k (by omega) hk (by omega)
  rw [hic, hkx] at this
  exact this
theorem pl_take_succ {l : List Ct} {k : Nat} {x : Ct} (hx : l[k]? = some x) : pl (l.take (k + 1)) = pl (l.take k) ++ [(x.h.xs, x.N)] := by
  unfold pl
  rw [List.take_add_one, hx, List.map_append]
  rfl
theorem pl_split {ol : List Ct} {M : Bg} {r : List Val} {m : Int} (h : pl ol = M ++ [(r, m)]) : ∃ (ol' : List Ct) (h' : Hd) (N : Int), ol = ol' ++ [⟨h', N⟩] ∧ h'.xs = r ∧ N = m ∧ pl ol' = M := by
  have hne : ol ≠ [] := by
    rintro rfl
    have := congrArg List.length h
    simp [pl] at this
  refine ⟨ol.dropLast, (ol.getLast hne).h, (ol.getLast hne).N, (List.dropLast_concat_getLast hne).symm, ?_⟩
  have e : pl ol = pl ol.dropLast ++ [((ol.getLast hne).h.xs, (ol.getLast hne).N)] := by
    have := congrArg pl (List.dropLast_concat_getLast hne).symm
    rw [this, pl_app]
    rfl
  rw [e] at h
  have h2 := List.append_inj' h rfl
  have h3 := List.cons.inj h2.2
  exact ⟨congrArg Prod.fst h3.1, congrArg Prod.snd h3.1, h2.1⟩


set_option maxHeartbeats 4000000 in
theorem merged_c (A : Option Addr) (n c : Nat) (ks : List Ct) (w : World) (hn : ks.length = n) (hn1 : n ≤ 100000) (hM : n = 0 ∨ ∃ g off, A = some ⟨g, off, none⟩ ∧ Wr w g off ks ∧ ∀ c ∈ ks, OutC w g c) (hl : ∀ c ∈ ks, c.h.xs.length ≤ 100000) (hbd : Bd 1000000000 (pl ks)) :
    Calls Tryz.prog 33 #[.slice A n c] w fun e w' => ∃ A' m c' ol, e = .returned (.slice A' m c') ∧ MrgSaid w A ks A' m c' ol w' := by
  have HS := Lib.hid (sortAny_c A n c ks w hn (by omega) hM)
  have Hn := Lib.hid hn
  have Hl := Lib.hid hl
  have Hbd := Lib.hid hbd
  clear hn hl hbd hM
  go_enter Tryz.func33, Tryz.ntmps33
  go_wp2_with fail
  refine HS.out.mono ?_
  rintro e W ⟨rfl, ls, hS⟩
  have Hls : Hid (ls.length = n) := Lib.hid (by rw [hS.perm.length_eq, Hn.out])
  have HS2 := Lib.hid hS
  clear hS HS
  go_wp2_with fail
  go_loopw [3, 10] (fun v i wr => ∃ (k m : Nat) (A' : Option Addr) (c' : Nat) (ol : List Ct), k ≤ n ∧ m ≤ k ∧ i = .int .i64 k ∧ v = .slice A' m c' ∧ Hid (ol.length = m) ∧ Hid (Below W.heap.size W wr) ∧ Hid (OwnG wr W.heap.size 36 2 rdC (.slice A' m c') ol) ∧ Hid (ApartC wr A' ol) ∧ Hid (MI (pl (ls.take k)) (pl ol))) (fun _ i _ => n - (intOf i).toNat)
  case atStart => exact ⟨0, 0, none, 0, [], Nat.zero_le _, Nat.le_refl _, rfl, rfl, Lib.hid rfl, Lib.hid (Below.refl _ _), Lib.hid (OwnG.nil _ _ _), Lib.hid (ApartC.nil _ _), Lib.hid MI.start⟩
  case round =>
    obtain ⟨k, m, A', c', ol, hk, hmk, rfl, rfl, hol, hb, ho, hap, hmi⟩ := hrel
    by_cases hlt : k < n
    · obtain ⟨b, off, rfl⟩ := HS2.out.sl.some2 (k := k) (by rw [Hls.out]; exact hlt)
      obtain ⟨x, hx⟩ : ∃ x, ls[k]? = some x := ⟨_, List.getElem?_eq_getElem (by rw [Hls.out]; exact hlt)⟩
      obtain ⟨hblt, c0, c1⟩ := HS2.out.sl.cell2 hx
      have d0 := (hb.out.cell (p := ⟨b, off + k * 2, none⟩) hblt).trans c0
      have d1 := (hb.out.cell (p := ⟨b, off + k * 2 + 1, none⟩) hblt).trans c1
      have l0 : b < wr.heap.size := Nat.lt_of_lt_of_le hblt hb.out.size
      have Hx := Lib.hid ((HS2.out.each x (List.mem_of_getElem? hx)).after hb.out)
      have Hxl := Lib.hid (Hl.out x (HS2.out.perm.mem_iff.1 (List.mem_of_getElem? hx)))
      have Hpk := Lib.hid (pl_take_succ hx)
      have Hle := Lib.hid (pairwise_take HS2.out.asc k x hx)
      have HN : Hid (-1000000000 ≤ x.N ∧ x.N ≤ 1000000000) := Lib.hid (Hbd.out _ (pl_mem (HS2.out.perm.mem_iff.1 (List.mem_of_getElem? hx))))
      have HM9 : Hid (∀ y ∈ pl ol, -100000000000000 ≤ y.2 ∧ y.2 ≤ 100000000000000) := Lib.hid fun y hy => by
        have hp : Bd 1000000000 (pl (ls.take k)) := fun z hz => by
          obtain ⟨c1, hc1, rfl⟩ := List.mem_map.1 hz
          exact Hbd.out _ (pl_mem (HS2.out.perm.mem_iff.1 (List.mem_of_mem_take hc1)))
        have h1 := hmi.out.bd 1000000000 (by decide) hp hy
        have h2 : (pl (ls.take k)).length ≤ 100000 := by rw [pl_len, List.length_take]; omega
        omega
      clear c0 c1
      have hprev : Hid (∀ j, k = j + 1 → ∃ y : Ct, ls[j]? = some y ∧ Ct.In wr y ∧ wr.cell? ⟨b, off + j * 2, none⟩ = some (.slice y.h.A y.h.n y.h.c)) := Lib.hid (by
        rintro j rfl
        obtain ⟨y, hy⟩ : ∃ y, ls[j]? = some y := ⟨_, List.getElem?_eq_getElem (by rw [Hls.out]; omega)⟩
        obtain ⟨hblt, c0, c1⟩ := HS2.out.sl.cell2 hy
        exact ⟨y, hy, (HS2.out.each y (List.mem_of_getElem? hy)).after hb.out, (hb.out.cell (p := ⟨b, off + j * 2, none⟩) hblt).trans c0⟩)
      clear hx
      obtain ⟨⟨xA, xn, xc, xs⟩, N⟩ := x
      have hgo : (k : Int) < n := by omega
      have lw := hb.out.size
      have Hbw := Lib.hid (below_one wr (.cells #[.slice xA xn xc, .int .i64 N] 36))
      have dg0 : Hid ((wr.alloc (.cells #[.slice xA xn xc, .int .i64 N] 36)).cell? ⟨wr.heap.size, 0, none⟩ = some (.slice xA xn xc)) := Lib.hid (by simp)
      have dg1 : Hid ((wr.alloc (.cells #[.slice xA xn xc, .int .i64 N] 36)).cell? ⟨wr.heap.size, 1, none⟩ = some (.int .i64 N)) := Lib.hid (by simp)
      have Hb1 := Lib.hid (below_via hb.out Hbw.out)
      have Hx1 := Lib.hid (Hx.out.after Hbw.out)
      clear hb
      go_wp2_with fail
      have lg1 : wr.heap.size < (wr.alloc (.cells #[.slice xA xn xc, .int .i64 N] 36)).heap.size := by simp
      have l1 : b < (wr.alloc (.cells #[.slice xA xn xc, .int .i64 N] 36)).heap.size := Nat.lt_trans l0 lg1
      clear d0 d1
      cases hk0 : decide (0 < (k : Int))
      · have hk1 : k = 0 := by have := of_decide_eq_false hk0; omega
        have Hne : Hid (∀ p' r q, pl (ls.take k) = p' ++ [(r, q)] → cmpL r xs ≠ 0) := Lib.hid fun p' r q h => by
          rw [hk1] at h
          have := congrArg List.length h
          simp [pl] at this
        have Hmi2 := Lib.hid (hmi.out.next (n := N) Hle.out Hne.out)
        clear hk1 Hne
        refine Reg.wp_region_vals mixed (by kernel_rfl) [(15, .int .i64 (k : Nat)), (16, .bool false), (17, .bool false), (18, undef), (19, undef), (20, undef), (21, undef), (22, undef), (23, undef), (24, undef), (25, undef), (26, undef), (27, undef), (28, .bool false)] 53 rfl (by kernel_rfl) ?_ ?_
        · intro F hF w' hB
          refine ⟨?_, ?_, ?_, ?_, ?_, ?_, ?_, ?_, ?_, ?_, ?_, ?_, ?_, ?_, trivial⟩
          · exact Reg.doesV_val (ev_move rfl) (by rw [hF]; kernel_rfl) (by rw [hF]; kernel_rfl)
          · exact Reg.doesV_val (by rw [ev_gtC5 (k : Int) 0 rfl (by rw [hF]; kernel_rfl), hk0]) (by rw [hF]; kernel_rfl) (by rw [hF]; kernel_rfl)
          · exact Reg.doesV_val (ev_move rfl) (by rw [hF]; kernel_rfl) (by rw [hF]; kernel_rfl)
          · exact Reg.doesV_skip (by rw [hF]; kernel_rfl) (by rw [hF]; kernel_rfl)
          · exact Reg.doesV_skip (by rw [hF]; kernel_rfl) (by rw [hF]; kernel_rfl)
          · exact Reg.doesV_skip (by rw [hF]; kernel_rfl) (by rw [hF]; kernel_rfl)
          · exact Reg.doesV_skip (by rw [hF]; kernel_rfl) (by rw [hF]; kernel_rfl)
          · exact Reg.doesV_skip (by rw [hF]; kernel_rfl) (by rw [hF]; kernel_rfl)
          · exact Reg.doesV_skip (by rw [hF]; kernel_rfl) (by rw [hF]; kernel_rfl)
          · exact Reg.doesV_skip (by rw [hF]; kernel_rfl) (by rw [hF]; kernel_rfl)
          · exact Reg.doesV_skip (by rw [hF]; kernel_rfl) (by rw [hF]; kernel_rfl)
          · exact Reg.doesV_skip (by rw [hF]; kernel_rfl) (by rw [hF]; kernel_rfl)
          · exact Reg.doesV_skip (by rw [hF]; kernel_rfl) (by rw [hF]; kernel_rfl)
          · exact Reg.doesV_val (ev_pick false rfl (by rw [hF]; kernel_rfl)) (by rw [hF]; kernel_rfl) (by rw [hF]; kernel_rfl)
        · intro w8 hB
          simp only [Reg.putAll, Act.put, List.setIfInBounds_toArray, List.set_cons_zero, List.set_cons_succ]
          have Hb8 := Lib.hid (below_via Hb1.out hB)
          have HbW8 := Lib.hid (below_via Hbw.out hB)
          have g0 := (hB.cell (p := ⟨wr.heap.size, 0, none⟩) lg1).trans dg0.out
          have g1 := (hB.cell (p := ⟨wr.heap.size, 1, none⟩) lg1).trans dg1.out
          have lg8 : wr.heap.size < w8.heap.size := Nat.lt_of_lt_of_le lg1 hB.size
          have HOr : Hid (∀ k, (Value.slice A' m c').ownBlock = some k → k < wr.heap.size) := Lib.hid fun k hk => (ho.out.lt k hk).2
          have HO8 := Lib.hid (ho.out.after HbW8.out)
          have HA8 := Lib.hid (hap.out.after HbW8.out)
          have Hx8 := Lib.hid (Hx.out.after HbW8.out)
          clear hB dg0 dg1 Hb1 Hbw ho hap Hx Hx1
          have G0 := Lib.hid g0
          have G1 := Lib.hid g1
          have Hjn : Hid (joinR [(⟨xA, xn, xc, xs⟩ : Hd)] = xs) := Lib.hid (by simp [joinR])
          go_wp2_with fail
          go_region_held3 (fun w' => w'.cell? ⟨wr.heap.size, 0, none⟩ = some (.slice xA xn xc) ∧ w'.cell? ⟨wr.heap.size, 1, none⟩ = some (.int .i64 N)) (first | exact HGC9.out | exact HGCa.out | go_keep)
            (first
              | (go_at_call 38
                 have hbj := Lib.hid (((Below.refl w8.heap.size w8).alloc (Nat.le_refl _) (.cells #[.slice xA xn xc] 25)).drew)
                 have hsj : Hid (SlG (w8.alloc (.cells #[.slice xA xn xc] 25)).drew (some ⟨w8.heap.size, 0, none⟩) 1 rdH [⟨xA, xn, xc, xs⟩]) := Lib.hid ((SlG.new hOk.len [⟨xA, xn, xc, xs⟩] rfl).after (Below.refl _ _).drew)
                 refine (join_c (some ⟨w8.heap.size, 0, none⟩) 1 1 [⟨xA, xn, xc, xs⟩] (w8.alloc (.cells #[.slice xA xn xc] 25)).drew rfl (by unfold maxLen; omega) hsj.out (fun h' hh' => by rw [List.mem_singleton] at hh'; subst hh'; exact Hx8.out.hd.after hbj.out) (by rw [Hjn.out]; exact Hxl.out)).mono ?_
                 rintro en w9 ⟨v9, rfl, hb9, hv9⟩
                 rw [Hjn.out] at hv9
                 obtain ⟨h9, rfl, hIn9, hxs9, hbl9, hnc9⟩ := hv9.hd
                 have Hb9 := Lib.hid (below_via Hb8.out (below_via hbj.out hb9))
                 have Hb89 := Lib.hid (below_via hbj.out hb9)
                 have HGC9 : Hid (w9.cell? ⟨wr.heap.size, 0, none⟩ = some (.slice xA xn xc) ∧ w9.cell? ⟨wr.heap.size, 1, none⟩ = some (.int .i64 N)) := Lib.hid ⟨(Hb89.out.cell lg8).trans G0.out, (Hb89.out.cell lg8).trans G1.out⟩
                 have HO9 := Lib.hid (HO8.out.after Hb89.out)
                 have Hs89 : Hid (w8.heap.size ≤ w9.heap.size) := Lib.hid Hb89.out.size
                 have HOl : Hid (∀ k, (Value.slice A' m c').ownBlock = some k → k < w8.heap.size) := Lib.hid fun k hk => (HO8.out.lt k hk).2
                 have HA9 := Lib.hid (HA8.out.after Hb89.out)
                 have Hn9 := Lib.hid (NewC.of hIn9 hxs9 hbl9 Hx8.out)
                 obtain ⟨h9A, h9n, h9c, h9xs⟩ := h9
                 dsimp only [Hd.v]
                 clear hv9 hIn9 hxs9 hbl9 hnc9 hb9 hbj hsj HO8 HA8 Hb8)
              | (refine step_appL cOk (by rfl) (.tmp 41) (.tmp 49) (by rfl) W.heap.size (.slice A' m c') ol [⟨⟨h9A, h9n, h9c, h9xs⟩, N⟩] (by rfl) (HO9.out.after ((Below.refl _ _).alloc (Nat.le_refl _) _)) (some ⟨w9.heap.size, 0, none⟩) 1 1 (by rfl) rfl (SlG.new cOk.len [⟨⟨h9A, h9n, h9c, h9xs⟩, N⟩] rfl) (by rw [hol.out]; simp [maxLen]; omega) (by rw [hol.out]; simp; omega) (by have := Hb9.out.size; simp; omega) ?_
                 intro A2 c2 w2 hv hg hloc
                 rw [hol.out] at hv hloc ⊢
                 have HX := Lib.hid (below_one w9 (.cells #[.slice h9A h9n h9c, .int .i64 N] 36))
                 have Hv2 := Lib.hid hv
                 have Hb2 := Lib.hid ((below_al Hb9.out (.cells #[.slice h9A h9n h9c, .int .i64 N] 36)).grown hg (by have := Hb9.out.size; simp; omega) (fun k hk => (HO9.out.lt k hk).1))
                 have HA2 := Lib.hid (HA9.out.app HX.out hg hloc Hn9.out.ct (fun b' off' hb' => ⟨fun e => by have h1 := (HOl.out b' e); have h2 := (Hn9.out.lt b' off' hb').1; simp at h2; omega, (Hn9.out.lt b' off' hb').2⟩) HO9.out.plain)
                 have HGCa : Hid (w2.cell? ⟨wr.heap.size, 0, none⟩ = some (.slice xA xn xc) ∧ w2.cell? ⟨wr.heap.size, 1, none⟩ = some (.int .i64 N)) := Lib.hid (by
                   have hlt9 : wr.heap.size < w9.heap.size := Nat.lt_of_lt_of_le lg8 Hs89.out
                   have hne : some wr.heap.size ≠ (Value.slice A' m c').ownBlock := fun e => by have := HOr.out _ e.symm; omega
                   have hbk : w2.heap[wr.heap.size]? = w9.heap[wr.heap.size]? := (hg.block _ (Nat.lt_of_lt_of_le hlt9 HX.out.size) hne).trans (HX.out.block _ hlt9)
                   refine ⟨?_, ?_⟩
                   · rw [← HGC9.out.1]; simp only [World.cell?, hbk]
                   · rw [← HGC9.out.2]; simp only [World.cell?, hbk])
                 clear hv hg hloc HX))
          have Hmi3 : Hid (MI (pl (ls.take (k + 1))) (pl (ol ++ [⟨⟨h9A, h9n, h9c, h9xs⟩, N⟩]))) := Lib.hid (by
            rw [Hpk.out, pl_app, pl_one]
            have e : h9xs = xs := Hn9.out.eq
            simp only [e]
            exact Hmi2.out)
          have Hol3 : Hid ((ol ++ [(⟨⟨h9A, h9n, h9c, h9xs⟩, N⟩ : Ct)]).length = m + 1) := Lib.hid (by rw [List.length_append, hol.out]; rfl)
          clear Hmi2 Hpk HGC9 HGCa HO9 HA9 Hn9 Hb9 Hb89
          go_wp2
          go_roundw
          case rel => exact ⟨k + 1, m + 1, A2, c2, ol ++ [⟨⟨h9A, h9n, h9c, h9xs⟩, N⟩], by omega, by omega, by go_num, rfl, Hol3, Hb2, Hv2, HA2, Hmi3⟩
          case measure => simp [intOf]; omega
      · obtain ⟨j, hkj⟩ : ∃ j, k = j + 1 := ⟨k - 1, by have := of_decide_eq_true hk0; omega⟩
        have hjn : j < n := by omega
        have hjx : k ≤ 9223372036854775807 := by omega
        obtain ⟨⟨⟨yA, yn, yc, ys⟩, yN⟩, hyj, hy, dq⟩ := hprev.out j hkj
        have Hy := Lib.hid (hy.after Hbw.out)
        have dq := Lib.hid ((Hbw.out.cell (p := ⟨b, off + j * 2, none⟩) l0).trans dq)
        have Hyj := Lib.hid hyj
        clear hy hyj
        cases hC : cmpL ys xs == 0
        · have Hne : Hid (∀ p' r q, pl (ls.take k) = p' ++ [(r, q)] → cmpL r xs ≠ 0) := Lib.hid fun p' r q h => by
            rw [hkj, pl_take_succ Hyj.out] at h
            have := (List.cons.inj (List.append_inj' h rfl).2).1
            have e := congrArg Prod.fst this
            simp only at e
            rw [← e]
            simpa using hC
          have Hmi2 := Lib.hid (hmi.out.next (n := N) Hle.out Hne.out)
          clear Hne
          refine Reg.wp_region_vals mixed (by kernel_rfl) [(15, .int .i64 (k : Nat)), (16, .bool true), (17, .bool true), (18, .slice (some ⟨b, off, none⟩) n c), (19, .int .i64 (k : Nat)), (20, .int .i64 (j : Nat)), (21, .pointer (some ⟨b, off + j * 2, none⟩)), (22, .pointer (some ⟨b, off + j * 2, none⟩)), (23, .slice yA yn yc), (24, .pointer (some ⟨wr.heap.size, 0, none⟩)), (25, .slice xA xn xc), (26, .int .i64 (cmpL ys xs)), (27, .bool false), (28, .bool false)] 53 rfl (by kernel_rfl) ?_ ?_
          · intro F hF w' hB
            have q0 := (hB.cell (p := ⟨b, off + j * 2, none⟩) l1).trans dq.out
            have jx := (hB.cell (p := ⟨wr.heap.size, 0, none⟩) lg1).trans dg0.out
            have ix := Hx1.out.after hB
            have iy := Hy.out.after hB
            refine ⟨?_, ?_, ?_, ?_, ?_, ?_, ?_, ?_, ?_, ?_, ?_, ?_, ?_, ?_, trivial⟩
            · exact Reg.doesV_val (ev_move rfl) (by rw [hF]; kernel_rfl) (by rw [hF]; kernel_rfl)
            · exact Reg.doesV_val (by rw [ev_gtC5 (k : Int) 0 rfl (by rw [hF]; kernel_rfl), hk0]) (by rw [hF]; kernel_rfl) (by rw [hF]; kernel_rfl)
            · exact Reg.doesV_val (ev_move rfl) (by rw [hF]; kernel_rfl) (by rw [hF]; kernel_rfl)
            · exact Reg.doesV_val (ev_move rfl) (by rw [hF]; kernel_rfl) (by rw [hF]; kernel_rfl)
            · exact Reg.doesV_val (ev_move rfl) (by rw [hF]; kernel_rfl) (by rw [hF]; kernel_rfl)
            · exact Reg.doesV_val (ev_dec5 k j hkj hjx rfl (by rw [hF]; kernel_rfl)) (by rw [hF]; kernel_rfl) (by rw [hF]; kernel_rfl)
            · exact Reg.doesV_val (ev_idxK (b := b) (off := off) (n := n) (c := c) (k := j) hjn rfl (by rw [hF]; kernel_rfl) (by rw [hF]; kernel_rfl)) (by rw [hF]; kernel_rfl) (by rw [hF]; kernel_rfl)
            · exact Reg.doesV_val (ev_c0 (b := b) (off := off + j * 2) rfl (by rw [hF]; kernel_rfl)) (by rw [hF]; kernel_rfl) (by rw [hF]; kernel_rfl)
            · exact Reg.doesV_val (ev_ldR (A := yA) (n := yn) (c := yc) q0 rfl (by rw [hF]; kernel_rfl)) (by rw [hF]; kernel_rfl) (by rw [hF]; kernel_rfl)
            · exact Reg.doesV_val (ev_c0 (b := wr.heap.size) (off := 0) rfl (by rw [hF]; kernel_rfl)) (by rw [hF]; kernel_rfl) (by rw [hF]; kernel_rfl)
            · exact Reg.doesV_val (ev_ldR (A := xA) (n := xn) (c := xc) jx rfl (by rw [hF]; kernel_rfl)) (by rw [hF]; kernel_rfl) (by rw [hF]; kernel_rfl)
            · exact Reg.doesV_call (compareL_c yA xA yn xn yc xc ys xs w' iy.hd.len ix.hd.len iy.hd.max ix.hd.max iy.hd.sl ix.hd.sl) (ev_call enKeyCompare rfl (by rw [hF]; kernel_rfl)) (by rw [hF]; kernel_rfl) (by rw [hF]; kernel_rfl)
            · exact Reg.doesV_val (by rw [ev_eqC5 (cmpL ys xs) 0 rfl (by rw [hF]; kernel_rfl), hC]) (by rw [hF]; kernel_rfl) (by rw [hF]; kernel_rfl)
            · exact Reg.doesV_val (ev_pick true rfl (by rw [hF]; kernel_rfl)) (by rw [hF]; kernel_rfl) (by rw [hF]; kernel_rfl)
          · intro w8 hB
            simp only [Reg.putAll, Act.put, List.setIfInBounds_toArray, List.set_cons_zero, List.set_cons_succ]
            have Hb8 := Lib.hid (below_via Hb1.out hB)
            have HbW8 := Lib.hid (below_via Hbw.out hB)
            have g0 := (hB.cell (p := ⟨wr.heap.size, 0, none⟩) lg1).trans dg0.out
            have g1 := (hB.cell (p := ⟨wr.heap.size, 1, none⟩) lg1).trans dg1.out
            have lg8 : wr.heap.size < w8.heap.size := Nat.lt_of_lt_of_le lg1 hB.size
            have HOr : Hid (∀ k, (Value.slice A' m c').ownBlock = some k → k < wr.heap.size) := Lib.hid fun k hk => (ho.out.lt k hk).2
            have HO8 := Lib.hid (ho.out.after HbW8.out)
            have HA8 := Lib.hid (hap.out.after HbW8.out)
            have Hx8 := Lib.hid (Hx.out.after HbW8.out)
            clear hB dg0 dg1 Hb1 Hbw ho hap Hx Hx1
            have G0 := Lib.hid g0
            have G1 := Lib.hid g1
            have Hjn : Hid (joinR [(⟨xA, xn, xc, xs⟩ : Hd)] = xs) := Lib.hid (by simp [joinR])
            go_wp2_with fail
            go_region_held3 (fun w' => w'.cell? ⟨wr.heap.size, 0, none⟩ = some (.slice xA xn xc) ∧ w'.cell? ⟨wr.heap.size, 1, none⟩ = some (.int .i64 N)) (first | exact HGC9.out | exact HGCa.out | go_keep)
              (first
                | (go_at_call 38
                   have hbj := Lib.hid (((Below.refl w8.heap.size w8).alloc (Nat.le_refl _) (.cells #[.slice xA xn xc] 25)).drew)
                   have hsj : Hid (SlG (w8.alloc (.cells #[.slice xA xn xc] 25)).drew (some ⟨w8.heap.size, 0, none⟩) 1 rdH [⟨xA, xn, xc, xs⟩]) := Lib.hid ((SlG.new hOk.len [⟨xA, xn, xc, xs⟩] rfl).after (Below.refl _ _).drew)
                   refine (join_c (some ⟨w8.heap.size, 0, none⟩) 1 1 [⟨xA, xn, xc, xs⟩] (w8.alloc (.cells #[.slice xA xn xc] 25)).drew rfl (by unfold maxLen; omega) hsj.out (fun h' hh' => by rw [List.mem_singleton] at hh'; subst hh'; exact Hx8.out.hd.after hbj.out) (by rw [Hjn.out]; exact Hxl.out)).mono ?_
                   rintro en w9 ⟨v9, rfl, hb9, hv9⟩
                   rw [Hjn.out] at hv9
                   obtain ⟨h9, rfl, hIn9, hxs9, hbl9, hnc9⟩ := hv9.hd
                   have Hb9 := Lib.hid (below_via Hb8.out (below_via hbj.out hb9))
                   have Hb89 := Lib.hid (below_via hbj.out hb9)
                   have HGC9 : Hid (w9.cell? ⟨wr.heap.size, 0, none⟩ = some (.slice xA xn xc) ∧ w9.cell? ⟨wr.heap.size, 1, none⟩ = some (.int .i64 N)) := Lib.hid ⟨(Hb89.out.cell lg8).trans G0.out, (Hb89.out.cell lg8).trans G1.out⟩
                   have HO9 := Lib.hid (HO8.out.after Hb89.out)
                   have Hs89 : Hid (w8.heap.size ≤ w9.heap.size) := Lib.hid Hb89.out.size
                   have HOl : Hid (∀ k, (Value.slice A' m c').ownBlock = some k → k < w8.heap.size) := Lib.hid fun k hk => (HO8.out.lt k hk).2
                   have HA9 := Lib.hid (HA8.out.after Hb89.out)
                   have Hn9 := Lib.hid (NewC.of hIn9 hxs9 hbl9 Hx8.out)
                   obtain ⟨h9A, h9n, h9c, h9xs⟩ := h9
                   dsimp only [Hd.v]
                   clear hv9 hIn9 hxs9 hbl9 hnc9 hb9 hbj hsj HO8 HA8 Hb8)
                | (refine step_appL cOk (by rfl) (.tmp 41) (.tmp 49) (by rfl) W.heap.size (.slice A' m c') ol [⟨⟨h9A, h9n, h9c, h9xs⟩, N⟩] (by rfl) (HO9.out.after ((Below.refl _ _).alloc (Nat.le_refl _) _)) (some ⟨w9.heap.size, 0, none⟩) 1 1 (by rfl) rfl (SlG.new cOk.len [⟨⟨h9A, h9n, h9c, h9xs⟩, N⟩] rfl) (by rw [hol.out]; simp [maxLen]; omega) (by rw [hol.out]; simp; omega) (by have := Hb9.out.size; simp; omega) ?_
                   intro A2 c2 w2 hv hg hloc
                   rw [hol.out] at hv hloc ⊢
                   have HX := Lib.hid (below_one w9 (.cells #[.slice h9A h9n h9c, .int .i64 N] 36))
                   have Hv2 := Lib.hid hv
                   have Hb2 := Lib.hid ((below_al Hb9.out (.cells #[.slice h9A h9n h9c, .int .i64 N] 36)).grown hg (by have := Hb9.out.size; simp; omega) (fun k hk => (HO9.out.lt k hk).1))
                   have HA2 := Lib.hid (HA9.out.app HX.out hg hloc Hn9.out.ct (fun b' off' hb' => ⟨fun e => by have h1 := (HOl.out b' e); have h2 := (Hn9.out.lt b' off' hb').1; simp at h2; omega, (Hn9.out.lt b' off' hb').2⟩) HO9.out.plain)
                   have HGCa : Hid (w2.cell? ⟨wr.heap.size, 0, none⟩ = some (.slice xA xn xc) ∧ w2.cell? ⟨wr.heap.size, 1, none⟩ = some (.int .i64 N)) := Lib.hid (by
                     have hlt9 : wr.heap.size < w9.heap.size := Nat.lt_of_lt_of_le lg8 Hs89.out
                     have hne : some wr.heap.size ≠ (Value.slice A' m c').ownBlock := fun e => by have := HOr.out _ e.symm; omega
                     have hbk : w2.heap[wr.heap.size]? = w9.heap[wr.heap.size]? := (hg.block _ (Nat.lt_of_lt_of_le hlt9 HX.out.size) hne).trans (HX.out.block _ hlt9)
                     refine ⟨?_, ?_⟩
                     · rw [← HGC9.out.1]; simp only [World.cell?, hbk]
                     · rw [← HGC9.out.2]; simp only [World.cell?, hbk])
                   clear hv hg hloc HX))
            have Hmi3 : Hid (MI (pl (ls.take (k + 1))) (pl (ol ++ [⟨⟨h9A, h9n, h9c, h9xs⟩, N⟩]))) := Lib.hid (by
              rw [Hpk.out, pl_app, pl_one]
              have e : h9xs = xs := Hn9.out.eq
              simp only [e]
              exact Hmi2.out)
            have Hol3 : Hid ((ol ++ [(⟨⟨h9A, h9n, h9c, h9xs⟩, N⟩ : Ct)]).length = m + 1) := Lib.hid (by rw [List.length_append, hol.out]; rfl)
            clear Hmi2 Hpk HGC9 HGCa HO9 HA9 Hn9 Hb9 Hb89
            go_wp2
            go_roundw
            case rel => exact ⟨k + 1, m + 1, A2, c2, ol ++ [⟨⟨h9A, h9n, h9c, h9xs⟩, N⟩], by omega, by omega, by go_num, rfl, Hol3, Hb2, Hv2, HA2, Hmi3⟩
            case measure => simp [intOf]; omega
        · refine Reg.wp_region_vals mixed (by kernel_rfl) [(15, .int .i64 (k : Nat)), (16, .bool true), (17, .bool true), (18, .slice (some ⟨b, off, none⟩) n c), (19, .int .i64 (k : Nat)), (20, .int .i64 (j : Nat)), (21, .pointer (some ⟨b, off + j * 2, none⟩)), (22, .pointer (some ⟨b, off + j * 2, none⟩)), (23, .slice yA yn yc), (24, .pointer (some ⟨wr.heap.size, 0, none⟩)), (25, .slice xA xn xc), (26, .int .i64 (cmpL ys xs)), (27, .bool true), (28, .bool true)] 53 rfl (by kernel_rfl) ?_ ?_
          · intro F hF w' hB
            have q0 := (hB.cell (p := ⟨b, off + j * 2, none⟩) l1).trans dq.out
            have jx := (hB.cell (p := ⟨wr.heap.size, 0, none⟩) lg1).trans dg0.out
            have ix := Hx1.out.after hB
            have iy := Hy.out.after hB
            refine ⟨?_, ?_, ?_, ?_, ?_, ?_, ?_, ?_, ?_, ?_, ?_, ?_, ?_, ?_, trivial⟩
            · exact Reg.doesV_val (ev_move rfl) (by rw [hF]; kernel_rfl) (by rw [hF]; kernel_rfl)
            · exact Reg.doesV_val (by rw [ev_gtC5 (k : Int) 0 rfl (by rw [hF]; kernel_rfl), hk0]) (by rw [hF]; kernel_rfl) (by rw [hF]; kernel_rfl)
            · exact Reg.doesV_val (ev_move rfl) (by rw [hF]; kernel_rfl) (by rw [hF]; kernel_rfl)
            · exact Reg.doesV_val (ev_move rfl) (by rw [hF]; kernel_rfl) (by rw [hF]; kernel_rfl)
            · exact Reg.doesV_val (ev_move rfl) (by rw [hF]; kernel_rfl) (by rw [hF]; kernel_rfl)
            · exact Reg.doesV_val (ev_dec5 k j hkj hjx rfl (by rw [hF]; kernel_rfl)) (by rw [hF]; kernel_rfl) (by rw [hF]; kernel_rfl)
            · exact Reg.doesV_val (ev_idxK (b := b) (off := off) (n := n) (c := c) (k := j) hjn rfl (by rw [hF]; kernel_rfl) (by rw [hF]; kernel_rfl)) (by rw [hF]; kernel_rfl) (by rw [hF]; kernel_rfl)
            · exact Reg.doesV_val (ev_c0 (b := b) (off := off + j * 2) rfl (by rw [hF]; kernel_rfl)) (by rw [hF]; kernel_rfl) (by rw [hF]; kernel_rfl)
            · exact Reg.doesV_val (ev_ldR (A := yA) (n := yn) (c := yc) q0 rfl (by rw [hF]; kernel_rfl)) (by rw [hF]; kernel_rfl) (by rw [hF]; kernel_rfl)
            · exact Reg.doesV_val (ev_c0 (b := wr.heap.size) (off := 0) rfl (by rw [hF]; kernel_rfl)) (by rw [hF]; kernel_rfl) (by rw [hF]; kernel_rfl)
            · exact Reg.doesV_val (ev_ldR (A := xA) (n := xn) (c := xc) jx rfl (by rw [hF]; kernel_rfl)) (by rw [hF]; kernel_rfl) (by rw [hF]; kernel_rfl)
            · exact Reg.doesV_call (compareL_c yA xA yn xn yc xc ys xs w' iy.hd.len ix.hd.len iy.hd.max ix.hd.max iy.hd.sl ix.hd.sl) (ev_call enKeyCompare rfl (by rw [hF]; kernel_rfl)) (by rw [hF]; kernel_rfl) (by rw [hF]; kernel_rfl)
            · exact Reg.doesV_val (by rw [ev_eqC5 (cmpL ys xs) 0 rfl (by rw [hF]; kernel_rfl), hC]) (by rw [hF]; kernel_rfl) (by rw [hF]; kernel_rfl)
            · exact Reg.doesV_val (ev_pick true rfl (by rw [hF]; kernel_rfl)) (by rw [hF]; kernel_rfl) (by rw [hF]; kernel_rfl)
          · intro w8 hB
            simp only [Reg.putAll, Act.put, List.setIfInBounds_toArray, List.set_cons_zero, List.set_cons_succ]
            have Hb8 := Lib.hid (below_via Hb1.out hB)
            have HbW8 := Lib.hid (below_via Hbw.out hB)
            have g0 := (hB.cell (p := ⟨wr.heap.size, 0, none⟩) lg1).trans dg0.out
            have g1 := (hB.cell (p := ⟨wr.heap.size, 1, none⟩) lg1).trans dg1.out
            have lg8 : wr.heap.size < w8.heap.size := Nat.lt_of_lt_of_le lg1 hB.size
            have HOr : Hid (∀ k, (Value.slice A' m c').ownBlock = some k → k < wr.heap.size) := Lib.hid fun k hk => (ho.out.lt k hk).2
            have HO8 := Lib.hid (ho.out.after HbW8.out)
            have HA8 := Lib.hid (hap.out.after HbW8.out)
            have Hx8 := Lib.hid (Hx.out.after HbW8.out)
            clear hB dg0 dg1 Hb1 Hbw ho hap Hx Hx1
            obtain ⟨M', hM'⟩ : ∃ M', ∃ q, pl ol = M' ++ [(ys, q)] := by
              rcases hmi.out.last with ⟨h1, _⟩ | ⟨p', M', r, n', q, h1, h2⟩
              · rw [hkj, pl_take_succ Hyj.out] at h1
                have := congrArg List.length h1
                simp at this
              · rw [hkj, pl_take_succ Hyj.out] at h1
                have e := congrArg Prod.fst (List.cons.inj (List.append_inj' h1 rfl).2).1
                simp only at e
                subst e
                exact ⟨M', q, h2⟩
            obtain ⟨q, hM'⟩ := hM'
            obtain ⟨ol', h', N0, rfl, hh', hq', hol'⟩ := pl_split hM'
            subst hq'
            obtain ⟨m', hm'⟩ : ∃ m', m = m' + 1 := ⟨ol'.length, by rw [← hol.out, List.length_append]; rfl⟩
            subst hm'
            have Hol' : Hid (ol'.length = m') := Lib.hid (by have := hol.out; rw [List.length_append] at this; simpa using this)
            obtain ⟨gb, rfl, hgb⟩ : ∃ gb, A' = some ⟨gb, 0, none⟩ ∧ ∃ cur, w8.heap[gb]? = some (.cells cur 36 (0, 0)) := by
              rcases HO8.out.2 with ⟨hv, _⟩ | ⟨g', cap, cur, hv, _, hh, _⟩
              · cases hv
              · injection hv with e1
                exact ⟨g', e1, cur, hh⟩
            obtain ⟨cur, hcur⟩ := hgb
            have hfz : ∀ i, w8.frozen? ⟨gb, i, none⟩ = false := fun i => frozen_of_row _ _ _ _ _ hcur
            have fz := hfz (m' * 2 + 1)
            obtain ⟨A9, c9, e9, e9c, e9d, hs9⟩ := HO8.out.sl cOk.len
            injection e9 with e9 e9a e9b
            subst e9
            clear e9a e9b e9c e9d
            obtain ⟨lgb, cb0, cb1⟩ := hs9.cell2 (k := m') (x := ⟨h', N0⟩) (by rw [List.getElem?_append_right (by rw [Hol'.out]; exact Nat.le_refl _), Hol'.out, Nat.sub_self]; rfl)
            simp only [Nat.zero_add] at cb1
            have hN0 := HM9.out (h'.xs, N0) (pl_mem (x := ⟨h', N0⟩) (List.mem_append_right _ (List.mem_singleton.2 rfl)))
            simp only at hN0
            have hN1 := HN.out
            have hw : IntKind.i64.wrap (N0 + N) = N0 + N := by rw [IntKind.wrap_i64]; omega
            have hsub : IntKind.i64.wrap (m' : Int) = m' := by rw [IntKind.wrap_i64]; omega
            have hm0 : (0 : Int) ≤ m' := by omega
            have hm1 : (m' : Int) < m' + 1 := by omega
            have hgW : W.heap.size ≤ gb := (HO8.out.lt gb rfl).1
            have Hb2 := Lib.hid (Hb8.out.setCell (p := ⟨gb, m' * 2 + 1, none⟩) hgW (.int .i64 (N0 + N)))
            have Hv2 := Lib.hid (OwnG.setN HO8.out Hol'.out (N0 + N))
            have HA2 : Hid (ApartC (w8.setCell ⟨gb, m' * 2 + 1, none⟩ (.int .i64 (N0 + N))) (some ⟨gb, 0, none⟩) (ol' ++ [⟨h', N0 + N⟩])) := Lib.hid (fun c hc => by
              rcases List.mem_append.1 hc with hc | hc
              · have h1 := ((HA8.out c (List.mem_append_left _ hc)).2 gb 0 rfl).set (m' * 2 + 1) (.int .i64 (N0 + N))
                exact ⟨h1.1, fun g o e => by cases e; exact h1⟩
              · rw [List.mem_singleton] at hc
                subst hc
                have h1 := ((HA8.out ⟨h', N0⟩ (by simp)).2 gb 0 rfl).set (m' * 2 + 1) (.int .i64 (N0 + N))
                have h2 : OutC (w8.setCell ⟨gb, m' * 2 + 1, none⟩ (.int .i64 (N0 + N))) gb ⟨h', N0 + N⟩ := ⟨⟨h1.1.hd, h1.1.sz, h1.1.n64, by simp only; omega⟩, h1.2⟩
                exact ⟨h2.1, fun g o e => by cases e; exact h2⟩)
            have Hmi3 : Hid (MI (pl (ls.take (k + 1))) (pl (ol' ++ [⟨h', N0 + N⟩]))) := Lib.hid (by
              rw [Hpk.out, pl_app, pl_one, hh', hol']
              have h1 := hmi.out
              rw [hM'] at h1
              exact h1.same (by simpa using hC))
            have Hol3 : Hid ((ol' ++ [(⟨h', N0 + N⟩ : Ct)]).length = m' + 1) := Lib.hid (by rw [List.length_append, Hol'.out]; rfl)
            clear hs9 cb0 hfz hcur HO8 HA8 Hb8 hmi hM' hh' hol' hN0 hN1 Hpk HM9 HN g0 hkj hjx hprev Hyj dq Hy hC
            have Hb3 := Lib.hid Hb2.out.drew
            have Hv3 := Lib.hid (Hv2.out.after (Below.refl _ _).drew)
            have HA3 := Lib.hid (HA2.out.after (Below.refl _ _).drew)
            clear Hb2 Hv2 HA2
            go_wp2_with fail
            go_region
            clear cb1 fz
            go_wp2
            go_roundw
            case rel => exact ⟨k + 1, m' + 1, some ⟨gb, 0, none⟩, c', ol' ++ [⟨h', N0 + N⟩], by omega, by omega, by go_num, rfl, Hol3, Hb3, Hv3, HA3, Hmi3⟩
            case measure => simp [intOf]; omega
    · obtain rfl : k = n := by omega
      have Ht : Hid (ls.take k = ls) := Lib.hid (List.take_of_length_le (by rw [Hls.out]; exact Nat.le_refl _))
      have HF : Hid (MrgSaid w A ks A' m c' ol wr) := Lib.hid ⟨hol.out, by rw [Hn.out]; exact hmk, ho.out.mono HS2.out.size, hap.out, ⟨pl ls, HS2.out.perm.map _, by have := hmi.out; rw [Ht.out] at this; exact this⟩, fun w0 B h1 h2 h3 => by
        have h4 := HS2.out.below w0 B h1 h2 h3
        exact h4.trans (hb.out.mono (Nat.le_trans h3 h4.size))⟩
      clear hol hb ho hap hmi Ht
      go_wp2
      go_ret
      exact ⟨A', m, c', ol, rfl, HF.out⟩
end Go.Proofs.YthgoflaphbigbaaGreatDoor
/-
  The bag of rows, as the program has it: of at most 100000 rows. In new memory, or nothing.
-/
namespace Go.Proofs.YthgoflaphbigbaaGreatDoor
open Go Go.RowKit
set_option maxRecDepth 100000

theorem kOk : ElOk Tryz.prog 22 36 2 32 (.agg #[.slice none 0 0, .int .i64 0]) rdC where
  under := Tryz.underlying22
  info := by kernel_rfl
  zs := rfl
  pos := by decide
  len := fun _ => rfl
  one := fun x u hu => by
    simp [rdC] at hu
    rcases hu with rfl | rfl <;> rfl
/-- Two cells written: the next count. -/
theorem Mk.set2 {w : World} {g N : Nat} {xs : List Ct} (h : Mk w g 2 N rdC xs) (x : Ct) (hlt : xs.length < N) :
    Mk ((w.setCell ⟨g, xs.length * 2, none⟩ x.h.v).setCell ⟨g, xs.length * 2 + 1, none⟩ (.int .i64 x.N)) g 2 N rdC (xs ++ [x]) := by
  obtain ⟨u0, h0⟩ := h.all (xs.length * 2) (by omega)
  obtain ⟨u1, h1⟩ := h.all (xs.length * 2 + 1) (by omega)
  have oth : ∀ (w : World) (p j : Nat) (v : Value), j ≠ p → (w.setCell ⟨g, p, none⟩ v).cell? ⟨g, j, none⟩ = w.cell? ⟨g, j, none⟩ := fun w p j v hj => World.cell?_setCell_other _ _ _ _ (by intro e; simp only [Addr.mk.injEq] at e; exact hj e.2.1.symm)
  have k1 : (w.setCell ⟨g, xs.length * 2, none⟩ x.h.v).cell? ⟨g, xs.length * 2 + 1, none⟩ = some u1 := (oth _ _ _ _ (by omega)).trans h1
  have c1 := World.cell?_setCell_same _ ⟨g, xs.length * 2 + 1, none⟩ (.int .i64 x.N) k1
  have c0 := (oth (w.setCell ⟨g, xs.length * 2, none⟩ x.h.v) (xs.length * 2 + 1) (xs.length * 2) (.int .i64 x.N) (by omega)).trans (World.cell?_setCell_same _ ⟨g, xs.length * 2, none⟩ x.h.v h0)
  have other : ∀ j, j ≠ xs.length * 2 → j ≠ xs.length * 2 + 1 → ((w.setCell ⟨g, xs.length * 2, none⟩ x.h.v).setCell ⟨g, xs.length * 2 + 1, none⟩ (.int .i64 x.N)).cell? ⟨g, j, none⟩ = w.cell? ⟨g, j, none⟩ := fun j e0 e1 => (oth _ _ _ _ e1).trans (oth _ _ _ _ e0)
  refine ⟨by simpa using h.lt, fun j hj => ?_, fun j => by rw [World.frozen?_setCell, World.frozen?_setCell]; exact h.thaw j, fun i y hy j u hu => ?_⟩
  · by_cases e0 : j = xs.length * 2
    · subst e0; exact ⟨_, c0⟩
    by_cases e1 : j = xs.length * 2 + 1
    · subst e1; exact ⟨_, c1⟩
    rw [other j e0 e1]
    exact h.all j hj
  · have hj : j < 2 := (List.getElem?_eq_some_iff.1 hu).1
    by_cases hi : i < xs.length
    · rw [List.getElem?_append_left hi] at hy
      rw [other _ (by omega) (by omega)]
      exact h.at' i y hy j u hu
    · have hi' : i = xs.length := by
        have := (List.getElem?_eq_some_iff.1 hy).1
        simp at this; omega
      subst hi'
      simp at hy
      subst hy
      match j, hu with
      | 0, hu => simp [rdC] at hu; subst hu; exact c0
      | 1, hu => simp [rdC] at hu; subst hu; exact c1
theorem Mk.wr {w : World} {g N : Nat} {xs : List Ct} (h : Mk w g 2 N rdC xs) : Wr w g 0 xs := ⟨h.lt, fun i x hx j u hu => by rw [Nat.zero_add]; exact ⟨h.at' i x hx j u hu, h.thaw _⟩⟩
/-- A row, once. -/
def oneC (h : Hd) : Ct := ⟨h, 1⟩
theorem pl_ones (hs : List Hd) : pl (hs.map oneC) = (hs.map (·.xs)).map fun r => (r, 1) := by
  unfold pl
  rw [List.map_map, List.map_map]
  rfl
theorem MrgSaid.bg {w w' : World} {A A' : Option Addr} {ks ol : List Ct} {m c' : Nat} (h : MrgSaid w A ks A' m c' ol w') (hm : ks.length ≤ maxLen) : BgIn w' A' m ol := by
  obtain ⟨A2, c2, e2, _, _, hs⟩ := h.own.sl cOk.len
  injection e2 with e2
  subst e2
  exact ⟨h.len, Nat.le_trans h.le hm, hs, h.apart.each⟩
theorem mayR_len {xs : List Val} (h : mayR xs = true) : xs.length ≤ 40 := by
  unfold mayR at h
  rw [Bool.and_eq_true, decide_eq_true_eq] at h
  exact h.1
set_option maxHeartbeats 2000000 in
theorem of_c (A : Option Addr) (n c : Nat) (hs : List Hd) (w : World) (hl : hs.length = n) (hn : n ≤ 100000) (hsl : SlG w A 1 rdH hs) (hin : ∀ h ∈ hs, Ct.In w ⟨h, 1⟩) :
    Calls Tryz.prog 23 #[.slice A n c] w fun e w' => ∃ A' n' c' cs', e = .returned (.slice A' n' c') ∧ Below w.heap.size w w' ∧ BgIn w' A' n' cs' ∧ pl cs' = ofR (hs.map (·.xs)) := by
  obtain ⟨cells, hcs, hmk⟩ := make_run kOk n (by omega) (by unfold maxLen; omega)
  have Hl := Lib.hid hl
  have Hs := Lib.hid hsl
  have Hi := Lib.hid hin
  have Hcs := Lib.hid hcs
  clear hl hsl hin hcs
  go_enter Tryz.func23, Tryz.ntmps23
  go_wp2_with fail
  have Hmk : Hid (Mk (w.alloc (.cells cells 36)) w.heap.size 2 n rdC []) := Mk.new w cells _ (by rw [Hcs.out])
  have Hb1 : Hid (Below w.heap.size w (w.alloc (.cells cells 36))) := below_one _ _
  clear hmk Hcs
  go_loopw [11] (fun i wr => ∃ k : Nat, k ≤ n ∧ i = .int .i64 k ∧ Hid (Below w.heap.size w wr) ∧ Hid (Mk wr w.heap.size 2 n rdC ((hs.take k).map oneC)) ∧ Hid (∀ h ∈ hs.take k, mayR h.xs = true)) (fun i _ => n - (intOf i).toNat)
  case atStart => exact ⟨0, Nat.zero_le _, rfl, Hb1, Hmk, Lib.hid nofun⟩
  case round =>
    obtain ⟨k, hk, rfl, hb, hK, hall⟩ := hrel
    clear Hmk Hb1
    by_cases hlt : k < n
    · obtain ⟨b, off, h, rfl, hblt, hh, c0⟩ := Hs.out.at1 (by rw [Hl.out]; exact hlt)
      have d0 := (hb.out.cell (p := ⟨b, off + k, none⟩) hblt).trans (c0 _ rfl)
      have l0 : b < wr.heap.size := Nat.lt_of_lt_of_le hblt hb.out.size
      have Hh := Lib.hid ((Hi.out h (List.mem_of_getElem? hh)).after hb.out)
      have Htk : Hid (hs.take (k + 1) = hs.take k ++ [h]) := Lib.hid (by rw [List.take_add_one, hh]; rfl)
      have Hno : Hid (mayR h.xs = false → ofR (hs.map (·.xs)) = []) := Lib.hid fun hf => by
        unfold ofR
        rw [if_neg]
        intro ha
        rw [List.all_eq_true.1 ha h.xs (List.mem_map.2 ⟨h, List.mem_of_getElem? hh, rfl⟩)] at hf
        cases hf
      clear c0 hblt hh
      obtain ⟨hA, hn', hc', xs⟩ := h
      simp only [] at d0
      go_wp2_with fail
      refine (mayRow_c hA hn' hc' xs _ Hh.out.hd.len Hh.out.hd.max Hh.out.hd.sl Hh.out.sz).mono ?_
      rintro e w1 ⟨rfl, hb1⟩
      have Hb2 := Lib.hid (below_via hb.out hb1)
      have hM1 := hK.out.after hb1 hK.out.lt
      clear hb1 hb d0
      cases hM : mayR xs
      · have Hno2 := Lib.hid (Hno.out hM)
        clear Hno hM1 hK
        go_wp2
        go_ret
        exact ⟨none, 0, 0, [], rfl, Hb2.out, BgIn.none _, Hno2.out.symm⟩
      · have hlk : ((hs.take k).map oneC).length = k := by rw [List.length_map, List.length_take, Hl.out]; omega
        have hset := hM1.set2 (oneC ⟨hA, hn', hc', xs⟩) (by rw [hlk]; exact hlt)
        rw [hlk] at hset
        have hset2 : Mk ((w1.setCell ⟨w.heap.size, k * 2, none⟩ (.slice hA hn' hc')).setCell ⟨w.heap.size, k * 2 + 1, none⟩ (.int .i64 1)) w.heap.size 2 n rdC ((hs.take (k + 1)).map oneC) := by
          rw [Htk.out, List.map_append]
          exact hset
        obtain ⟨u0, f0⟩ := hM1.all (k * 2) (by omega)
        obtain ⟨u1, f1⟩ := hM1.all (k * 2 + 1) (by omega)
        have z0 := hM1.thaw (k * 2)
        have z1 := hM1.thaw (k * 2 + 1)
        have HF : Hid (Below w.heap.size w ((w1.setCell ⟨w.heap.size, k * 2, none⟩ (.slice hA hn' hc')).setCell ⟨w.heap.size, k * 2 + 1, none⟩ (.int .i64 1))) := (Hb2.out.setCell (Nat.le_refl _) _).setCell (Nat.le_refl _) _
        have HK := Lib.hid hset2
        have Hall2 : Hid (∀ h ∈ hs.take (k + 1), mayR h.xs = true) := Lib.hid fun h hh => by
          rw [Htk.out] at hh
          rcases List.mem_append.1 hh with hh | hh
          · exact hall.out h hh
          · rw [List.mem_singleton] at hh
            subst hh
            exact hM
        clear hset hset2 hM1 hK hall Hno hlk Hh Htk hM
        go_wp2_with fail
        go_roundw
        case rel => exact ⟨k + 1, by omega, by go_num, HF, HK, Hall2⟩
        case measure => simp [intOf]; omega
    · obtain rfl : k = n := by omega
      have ht : hs.take k = hs := List.take_of_length_le (by rw [Hl.out]; omega)
      rw [ht] at hK hall
      have hlen : (hs.map oneC).length = k := by rw [List.length_map, Hl.out]
      have Hof : Hid (ofR (hs.map (·.xs)) = ofL (hs.map (·.xs))) := Lib.hid (by
        unfold ofR
        rw [if_pos]
        rw [List.all_eq_true]
        intro r hr
        obtain ⟨h, hh, rfl⟩ := List.mem_map.1 hr
        exact hall.out h hh)
      have HM := Lib.hid (merged_c (some ⟨w.heap.size, 0, none⟩) k k (hs.map oneC) wr hlen hn (.inr ⟨_, _, rfl, hK.out.wr, fun c hc => by
        obtain ⟨h, hh, rfl⟩ := List.mem_map.1 hc
        exact OutC.old (Hi.out h hh) hb.out (Nat.le_refl _)⟩) (fun c hc => by
        obtain ⟨h, hh, rfl⟩ := List.mem_map.1 hc
        have := mayR_len (hall.out h hh)
        show h.xs.length ≤ 100000
        omega) (fun x hx => by
        rw [pl_ones] at hx
        obtain ⟨r, _, rfl⟩ := List.mem_map.1 hx
        show (-1000000000 : Int) ≤ 1 ∧ (1 : Int) ≤ 1000000000
        decide))
      have Hlen := Lib.hid hlen
      clear hK hlen ht
      go_wp2_with fail
      refine HM.out.mono ?_
      rintro e w2 ⟨A', m, c', ol, rfl, hS⟩
      have HF : Hid (Below w.heap.size w w2 ∧ BgIn w2 A' m ol ∧ pl ol = ofR (hs.map (·.xs))) := Lib.hid ⟨hS.below w w.heap.size hb.out (fun g off e => by cases e; exact Nat.le_refl _) (Nat.le_refl _), hS.bg (by rw [Hlen.out]; unfold maxLen; omega), by
        obtain ⟨p, hp, hmi⟩ := hS.mi
        rw [Hof.out]
        rw [pl_ones] at hp
        exact hmi.of hp⟩
      clear hS HM hb
      go_wp2
      go_ret
      exact ⟨A', m, c', ol, rfl, HF.out.1, HF.out.2.1, HF.out.2.2⟩
end Go.Proofs.YthgoflaphbigbaaGreatDoor
