/-
  The stack of values: what push, pop and result do, of any stack that is the call's own.
-/
import Derived.Test.YticofedglhfdpaaGreatDoorKinds
import Derived.Deep.RegionLaw
import Derived.Deep.AppendLies
namespace Go.Proofs.YticofedglhfdpaaGreatDoor
open Go Go.RowKit
set_option maxRecDepth 100000

theorem Sl.alloc {w : World} {A : Option Addr} {ks : List Val} (h : Sl w A ks) (o : Obj) : Sl (w.alloc o) A ks := h.after (below_one w o)
theorem cellsL_take : ∀ (xs : List Val) (m : Nat), cellsL (xs.take m) = (cellsL xs).take (m * 3)
  | [], m => by simp [cellsL]
  | a :: l, 0 => by simp [cellsL]
  | a :: l, m + 1 => by
    rw [List.take_succ_cons, cellsL, cellsL, cellsL_take l m, show (m + 1) * 3 = m * 3 + 1 + 1 + 1 by omega]
    rfl
/-- The slice v is the call's own, and reads as the values ks; it may be nil. -/
def OwnV (w : World) (B : Nat) (v : Value) (ks : List Val) : Prop := w.ownsRow B 31 3 v ks.length (cellsL ks)
theorem OwnV.nil (w : World) (B : Nat) : OwnV w B (.slice none 0 0) [] := World.ownsRow_nil w B _ 3
theorem OwnV.lt {w : World} {B : Nat} {v : Value} {xs : List Val} (h : OwnV w B v xs) : ∀ k, v.ownBlock = some k → B ≤ k ∧ k < w.heap.size := fun k hk => World.ownsRow.lt h k hk
/-- What is owned stays so where its block does. -/
theorem OwnV.same {w w' : World} {B : Nat} {v : Value} {xs : List Val} (h : OwnV w B v xs) (hb : ∀ k, v.ownBlock = some k → w'.heap[k]? = w.heap[k]?) : OwnV w' B v xs := by
  obtain ⟨h1, h2⟩ := h
  refine ⟨h1, ?_⟩
  rcases h2 with h2 | ⟨g', cap, cur, hv, hB, hh, h3⟩
  · exact .inl h2
  · exact .inr ⟨g', cap, cur, hv, hB, (hb g' (by rw [hv]; rfl)).trans hh, h3⟩
theorem OwnV.after {w w' : World} {B : Nat} {v : Value} {xs : List Val} (h : OwnV w B v xs) (hb : Below w.heap.size w w') : OwnV w' B v xs := h.same fun k hk => hb.block k (h.lt k hk).2
theorem OwnV.alloc {w : World} {B : Nat} {v : Value} {xs : List Val} (h : OwnV w B v xs) (o : Obj) : OwnV (w.alloc o) B v xs := h.after (below_one w o)
theorem OwnV.shape {w : World} {B : Nat} {v : Value} {xs : List Val} (h : OwnV w B v xs) : (v = .slice none 0 0 ∧ xs = []) ∨ ∃ g c, v = .slice (some ⟨g, 0, none⟩) xs.length c ∧ xs.length ≤ c ∧ c ≤ maxLen ∧ ∀ i (a : Val), xs[i]? = some a → w.cell? ⟨g, i * 3, none⟩ = some (.int .i64 a.k) ∧ w.cell? ⟨g, i * 3 + 1, none⟩ = some (.int .i64 a.n) ∧ w.cell? ⟨g, i * 3 + 2, none⟩ = some (.string a.s) := by
  rcases h.2 with ⟨rfl, hn⟩ | ⟨g, cap, cur, rfl, hB, hh, hle, hm, _⟩
  · exact .inl ⟨rfl, List.eq_nil_of_length_eq_zero hn⟩
  · refine .inr ⟨g, cap, rfl, hle, hm, fun i k hk => ?_⟩
    have key : ∀ j u, (cellsL xs)[j]? = some u → w.cell? ⟨g, j, none⟩ = some u := fun j u hu => by
      have := World.ownsRow.cells (g := g) h rfl j u hu
      rwa [Go.WideShapes.add_plain, Nat.zero_add] at this
    obtain ⟨e0, e1, e2⟩ := cellsL_at _ i k hk
    exact ⟨key _ _ e0, key _ _ e1, key _ _ e2⟩
theorem OwnV.isSlice {w : World} {B : Nat} {v : Value} {xs : List Val} (h : OwnV w B v xs) : ∃ A n c, v = .slice A n c := by
  rcases h.shape with ⟨rfl, _⟩ | ⟨g, c, rfl, _⟩
  · exact ⟨_, _, _, rfl⟩
  · exact ⟨_, _, _, rfl⟩
/-- With fewer of them it is still owned. -/
theorem OwnV.shrink {w : World} {B g L c : Nat} {xs : List Val} (h : OwnV w B (.slice (some ⟨g, 0, none⟩) L c) xs) (m : Nat) (hm : m ≤ xs.length) : OwnV w B (.slice (some ⟨g, 0, none⟩) m c) (xs.take m) := by
  obtain ⟨h1, h2⟩ := h
  refine ⟨cellsL_length _, ?_⟩
  rcases h2 with ⟨h2, _⟩ | ⟨g', cap, cur, hv, hB, hh, hle, hmx, hsz, htk⟩
  · cases h2
  · cases hv
    refine .inr ⟨g, c, cur, by rw [List.length_take, Nat.min_eq_left hm], hB, hh, by rw [List.length_take]; omega, hmx, hsz, ?_⟩
    have e : (xs.take m).length * 3 = m * 3 := by rw [List.length_take]; omega
    rw [e, cellsL_take, ← htk, List.take_take]
    congr 1
    omega

/-- Block b holds a struct of two values: what is on the stack, and what it is asked of. -/
def Vx (w : World) (b : Nat) (v u : Value) : Prop := w.heap[b]? = some (.cells #[v, u] 51 (0, 0))
theorem Vx.cell0 {w : World} {b : Nat} {v u : Value} (h : Vx w b v u) : w.cell? ⟨b, 0, none⟩ = some v := by unfold Vx at h; simp [World.cell?, h]
theorem Vx.cell1 {w : World} {b : Nat} {v u : Value} (h : Vx w b v u) : w.cell? ⟨b, 1, none⟩ = some u := by unfold Vx at h; simp [World.cell?, h]
theorem Vx.frozen {w : World} {b : Nat} {v u : Value} (h : Vx w b v u) (i : Nat) : w.frozen? ⟨b, i, none⟩ = false := by unfold Vx at h; simp [World.frozen?, h]
theorem Vx.lt {w : World} {b : Nat} {v u : Value} (h : Vx w b v u) : b < w.heap.size := by
  rcases Nat.lt_or_ge b w.heap.size with hlt | hge
  · exact hlt
  · unfold Vx at h; rw [Array.getElem?_eq_none hge] at h; cases h
theorem Vx.after {w w' : World} {b : Nat} {v u : Value} (h : Vx w b v u) (hb : Below w.heap.size w w') : Vx w' b v u := (hb.block b h.lt).trans h
theorem Vx.set {w : World} {b : Nat} {v u : Value} (h : Vx w b v u) (v' : Value) : Vx (w.setCell ⟨b, 0, none⟩ v') b v' u := by
  unfold Vx at *
  simp [World.setCell, Array.getElem?_modify, h]
theorem Vx.new (w : World) (v u : Value) : Vx (w.alloc (.cells #[v, u] 51)) w.heap.size v u := by
  show (w.heap.push _)[w.heap.size]? = _
  simp
/-- The stack's own block is another one. -/
theorem Vx.apart {w : World} {b B : Nat} {v u x : Value} {xs : List Val} (h : Vx w b v u) (ho : OwnV w B x xs) : x.ownBlock ≠ some b := by
  intro he
  rcases ho.2 with ⟨rfl, _⟩ | ⟨g, cap, cur, rfl, _, hh, _⟩
  · cases he
  · have hg : g = b := by simpa [Value.ownBlock] using he
    subst hg
    unfold Vx at h
    rw [h] at hh
    injection hh with hh
    injection hh with _ ht _
    exact absurd ht (by decide)
theorem OwnV.set {w : World} {b B : Nat} {v u x y : Value} {xs : List Val} (ho : OwnV w B x xs) (h : Vx w b v u) : OwnV (w.setCell ⟨b, 0, none⟩ y) B x xs :=
  ho.same fun k hk => Below.heap_setCell _ _ _ _ (by rintro rfl; exact h.apart ho hk)

set_option maxHeartbeats 1000000 in
theorem pop_fewV (b n : Nat) (v u : Value) (ks : List Val) (B : Nat) (w : World) (hk : Vx w b v u) (ho : OwnV w B v ks) (hn : n ≤ 2) (hl : ks.length < n) :
    Calls Tryz.prog 46 #[.pointer (some ⟨b, 0, none⟩), .int .i64 n] w fun e w' => e = .returned (.tuple #[.slice none 0 0, .bool false]) ∧ w' = w := by
  have c0 := hk.cell0
  have hL : (ks.length : Int) < n := by omega
  rcases ho.shape with ⟨rfl, rfl⟩ | ⟨g, c, rfl, _, _, _⟩
  all_goals
    clear hk ho
    go_enter Tryz.func46, Tryz.ntmps46
    go_wp2
    go_ret2
    exact ⟨rfl, rfl⟩

/-- What pop answers where there are enough. -/
def PopPostV (b n : Nat) (ks : List Val) (B : Nat) (A : Option Addr) (c : Nat) (v' : Value) (w : World) (e : Ending) (w' : World) : Prop :=
  e = .returned (.tuple #[.slice A n c, .bool true]) ∧ w' = w.setCell ⟨b, 0, none⟩ v' ∧ OwnV w B v' (ks.take (ks.length - n)) ∧ Sl w A (ks.drop (ks.length - n)) ∧ ∀ a, A = some a → a.block ≠ b
set_option maxHeartbeats 1000000 in
theorem pop_nilV (b : Nat) (u : Value) (B : Nat) (w : World) (hk : Vx w b (.slice none 0 0) u) :
    Calls Tryz.prog 46 #[.pointer (some ⟨b, 0, none⟩), .int .i64 0] w (PopPostV b 0 [] B none 0 (.slice none 0 0) w) := by
  have c0 := hk.cell0
  have f0 := hk.frozen 0
  have hlt := hk.lt
  clear hk
  go_enter Tryz.func46, Tryz.ntmps46
  go_wp2
  go_ret2
  exact ⟨rfl, rfl, OwnV.nil _ _, .inl rfl, fun a h => by cases h⟩
theorem pop_finV {b n g c L : Nat} {u : Value} {ks : List Val} {B : Nat} {w : World} (hk : Vx w b (.slice (some ⟨g, 0, none⟩) L c) u) (ho : OwnV w B (.slice (some ⟨g, 0, none⟩) L c) ks) (hL : L = ks.length) (hl : n ≤ L) :
    ∀ e o c', e = Ending.returned (.tuple #[.slice (some ⟨g, o, none⟩) (L - (L - n)) c', .bool true]) → (n = 0 ∨ o = (L - n) * 3) → PopPostV b n ks B (some ⟨g, o, none⟩) c' (.slice (some ⟨g, 0, none⟩) (L - n) c) w e (w.setCell ⟨b, 0, none⟩ (.slice (some ⟨g, 0, none⟩) (L - n) c)) := fun e o c' he ho' => by
  have hgb : g ≠ b := fun e => hk.apart ho (by rw [e]; rfl)
  have hg := (ho.lt g rfl).2
  rcases ho.shape with ⟨h0, _⟩ | ⟨g', c'', h0, hle, hmx, hcell⟩
  · cases h0
  cases h0
  refine ⟨by rw [he, show ks.length - (ks.length - n) = n by omega], rfl, ho.shrink _ (by omega), ?_, fun a ha => by cases ha; exact hgb⟩
  rcases ho' with rfl | rfl
  · exact .inl (by simp)
  · refine .inr ⟨g, _, rfl, hg, fun i k hk => ?_⟩
    rw [List.getElem?_drop] at hk
    have := hcell _ _ hk
    rw [Nat.add_mul] at this
    exact this
set_option maxHeartbeats 1000000 in
theorem pop_fullV (b n g c L : Nat) (u : Value) (ks : List Val) (B : Nat) (w : World) (hk : Vx w b (.slice (some ⟨g, 0, none⟩) L c) u) (ho : OwnV w B (.slice (some ⟨g, 0, none⟩) L c) ks) (hL : L = ks.length) (hn : n ≤ 2) (hl : n ≤ L) (hmax : L ≤ 1000) (hle : L ≤ c) (hc1 : L - n = c) :
    Calls Tryz.prog 46 #[.pointer (some ⟨b, 0, none⟩), .int .i64 n] w (PopPostV b n ks B (some ⟨g, 0, none⟩) 0 (.slice (some ⟨g, 0, none⟩) c c) w) := by
  have c0 := hk.cell0
  have f0 := hk.frozen 0
  have hlt := hk.lt
  have hn0 : n = 0 := by omega
  have Hf0 := Lib.hid (show ∀ e, e = Ending.returned (.tuple #[.slice (some ⟨g, 0, none⟩) 0 0, .bool true]) → PopPostV b n ks B (some ⟨g, 0, none⟩) 0 (.slice (some ⟨g, 0, none⟩) c c) w e (w.setCell ⟨b, 0, none⟩ (.slice (some ⟨g, 0, none⟩) c c)) from fun e he => by
    have h := pop_finV hk ho hL hl e 0 0 (by rw [he, show L - (L - n) = 0 by omega]) (.inl hn0)
    rwa [hc1] at h)
  clear hn0 hk ho hL
  go_enter Tryz.func46, Tryz.ntmps46
  go_wp2
  go_ret2
  exact Hf0.out _ rfl
set_option maxHeartbeats 1000000 in
theorem pop_moreV (b n g c L : Nat) (u : Value) (ks : List Val) (B : Nat) (w : World) (hk : Vx w b (.slice (some ⟨g, 0, none⟩) L c) u) (ho : OwnV w B (.slice (some ⟨g, 0, none⟩) L c) ks) (hL : L = ks.length) (hn : n ≤ 2) (hl : n ≤ L) (hmax : L ≤ 1000) (hle : L ≤ c) (hc1 : L - n < c) :
    Calls Tryz.prog 46 #[.pointer (some ⟨b, 0, none⟩), .int .i64 n] w (PopPostV b n ks B (some ⟨g, (L - n) * 3, none⟩) (c - (L - n)) (.slice (some ⟨g, 0, none⟩) (L - n) c) w) := by
  have c0 := hk.cell0
  have f0 := hk.frozen 0
  have hlt := hk.lt
  have Hfin := Lib.hid (pop_finV hk ho hL hl)
  clear hk ho hL
  go_enter Tryz.func46, Tryz.ntmps46
  go_wp2
  go_ret2
  exact Hfin.out _ _ _ rfl (.inr rfl)
/-- pop, its answer told by the stack alone. -/
theorem pop_detV (n : Nat) (v : Value) (ks : List Val) (w0 : World) (B0 : Nat) (ho0 : OwnV w0 B0 v ks) (hn : n ≤ 2) (hl : n ≤ ks.length) (hmax : ks.length ≤ 1000) :
    ∃ A c v', ∀ (b : Nat) (u : Value) (B : Nat) (w : World), Vx w b v u → OwnV w B v ks → Calls Tryz.prog 46 #[.pointer (some ⟨b, 0, none⟩), .int .i64 n] w (PopPostV b n ks B A c v' w) := by
  rcases ho0.shape with ⟨rfl, rfl⟩ | ⟨g, c, rfl, hle, _, _⟩
  · obtain rfl : n = 0 := by simpa using hl
    exact ⟨none, 0, _, fun b u B w hk _ => pop_nilV b u B w hk⟩
  · have hcc : ks.length - n ≤ c := by omega
    rcases Nat.eq_or_lt_of_le hcc with hc1 | hc1
    · exact ⟨_, _, _, fun b u B w hk ho => pop_fullV b n g c _ u ks B w hk ho rfl hn hl hmax hle hc1⟩
    · exact ⟨_, _, _, fun b u B w hk ho => pop_moreV b n g c _ u ks B w hk ho rfl hn hl hmax hle hc1⟩
theorem Sl.set {w : World} {b : Nat} {A : Option Addr} {ks : List Val} {y : Value} (h : Sl w A ks) (hne : ∀ a, A = some a → a.block ≠ b) : Sl (w.setCell ⟨b, 0, none⟩ y) A ks := by
  rcases h with h | ⟨g, off, hA, hlt, h⟩
  · exact .inl h
  · refine .inr ⟨g, off, hA, by simpa [World.setCell] using hlt, fun i k hk => ?_⟩
    have e : (w.setCell ⟨b, 0, none⟩ y).heap[g]? = w.heap[g]? := Below.heap_setCell _ _ _ _ (hne _ hA)
    obtain ⟨h0, h1, h2⟩ := h i k hk
    exact ⟨(World.cell?_of_block (a := ⟨g, _, none⟩) e).trans h0, (World.cell?_of_block (a := ⟨g, _, none⟩) e).trans h1, (World.cell?_of_block (a := ⟨g, _, none⟩) e).trans h2⟩

theorem valInfo : (Tryz.prog.info? 31).map (fun i => (i.zero, i.size, i.bytes)) = some (some nl.v, 3, 32) := by kernel_rfl

/-- append, of one value. -/
theorem wpList_appV {ops : Array Oper} {rest : List Oper} {o : Oper} {a : Act} {Q : Exit → Act → World → Prop} {w0 : World} (x : Val) (hgd : o.guard = none) (s y : Operand) (ho : o.op = .call { callee := .builtin .append, args := #[s, y], argTypes := #[24, 24] })
    (B : Nat) (v : Value) (xs : List Val) (hs : a.eval s = v) (hb : OwnV w0 B v xs) (g : Nat) (hx : a.eval y = .slice (some ⟨g, 0, none⟩) 1 1) (hg : g = w0.heap.size)
    (hmax : xs.length ≤ 1000000) (hB : B ≤ w0.heap.size)
    (h : ∀ v' w', OwnV w' B v' (xs ++ [x]) → w0.grownBy w' v.ownBlock → wpList Tryz.prog ops Q rest (a.put o.dst v') w') : wpList Tryz.prog ops Q (o :: rest) a (w0.alloc (.cells #[.int .i64 x.k, .int .i64 x.n, .string x.s] 31)) := by
  obtain ⟨i0, hi, hz0, hz1, hz2⟩ := info_parts valInfo
  subst hg
  have hal := hb.alloc (.cells #[.int .i64 x.k, .int .i64 x.n, .string x.s] 31)
  have bx := Bx.new w0 x
  have hcells : ∀ j u, (cellsL [x])[j]? = some u → (w0.alloc (.cells #[.int .i64 x.k, .int .i64 x.n, .string x.s] 31)).cell? ((⟨w0.heap.size, 0, none⟩ : Addr).add j) = some u := by
    intro j u hj
    rw [Go.WideShapes.add_plain]
    match j, hj with
    | 0, hj => simp [cellsL] at hj; subst hj; exact bx.cell0
    | 1, hj => simp [cellsL] at hj; subst hj; exact bx.cell1
    | 2, hj => simp [cellsL] at hj; subst hj; exact bx.cell2
    | j + 3, hj => simp [cellsL] at hj
  refine wpList_append_own_at _ hgd s y 24 ho B 31 i0 nl.v 3 32 Tryz.underlying24 hi hz0 hz1 hz2 (by decide) (by decide) v xs.length (cellsL xs) hs hal ⟨w0.heap.size, 0, none⟩ 1 1 (cellsL [x]) hx rfl hcells (cellsL_one [x]) (by unfold maxLen; omega) (by omega) (by simp; omega) ?_
  intro v' w' hown' hgrow _ _
  refine h v' w' ?_ ((World.grownBy_alloc w0 _ _).trans hgrow)
  unfold OwnV
  rw [cellsL_append, List.length_append]
  exact hown'

/-- What push comes to. -/
def PushPostV (b : Nat) (v u : Value) (ks : List Val) (B : Nat) (w : World) (e : Ending) (w' : World) : Prop :=
  e = .returned (.tuple #[]) ∧ Below B w w' ∧ (∀ k, k < w.heap.size → k ≠ b → v.ownBlock ≠ some k → w'.heap[k]? = w.heap[k]?) ∧ ∃ v', Vx w' b v' u ∧ OwnV w' B v' ks
/-- append, of one value, in a statement whose order Go leaves open. -/
theorem step_appV {ops : Array Oper} {o : Oper} {a : Act} {w : World} {K : Act → World → Prop} {Q : Exit → Act → World → Prop} {E : Prop} (x : Val) (hgd : o.guard = none) (s y : Operand) (ho : o.op = .call { callee := .builtin .append, args := #[s, y], argTypes := #[24, 24] })
    (B : Nat) (v : Value) (xs : List Val) (hs : a.eval s = v) (hb : OwnV w B v xs) (g : Nat) (hy : a.eval y = .slice (some ⟨g, 0, none⟩) 1 1) (hbx : Bx w g x) (hmax : xs.length ≤ 1000000) (hB : B ≤ w.heap.size)
    (h : ∀ g' cap w', OwnV w' B (.slice (some ⟨g', 0, none⟩) (xs.length + 1) cap) (xs ++ [x]) → w.grownBy w' v.ownBlock → K (a.put o.dst (.slice (some ⟨g', 0, none⟩) (xs.length + 1) cap)) w') :
    if Region.wanted o (yielded ops a.tmps) = true then Oper.wp Tryz.prog o a w K Q else E := by
  obtain ⟨i0, hi, hz0, hz1, hz2⟩ := info_parts valInfo
  have hcells : ∀ j u, (cellsL [x])[j]? = some u → w.cell? ((⟨g, 0, none⟩ : Addr).add j) = some u := by
    intro j u hj
    rw [Go.WideShapes.add_plain]
    match j, hj with
    | 0, hj => simp [cellsL] at hj; subst hj; exact hbx.cell0
    | 1, hj => simp [cellsL] at hj; subst hj; exact hbx.cell1
    | 2, hj => simp [cellsL] at hj; subst hj; exact hbx.cell2
    | j + 3, hj => simp [cellsL] at hj
  refine step_append_lies w hgd s y 24 ho B 31 i0 nl.v 3 32 Tryz.underlying24 hi hz0 hz1 hz2 (by decide) (by decide) v xs.length (cellsL xs) hs hb ⟨g, 0, none⟩ 1 1 (cellsL [x]) hy rfl hcells (cellsL_one [x]) (by decide) (by unfold maxLen; omega) (by omega) hB _ rfl ?_
  intro g' cap w' hown' hgrow _ _
  refine h g' cap w' ?_ hgrow
  unfold OwnV
  rw [cellsL_append, List.length_append]
  exact hown'
theorem OwnV.drew {w : World} {B : Nat} {v : Value} {xs : List Val} (h : OwnV w B v xs) : OwnV w.drew B v xs := h
set_option maxHeartbeats 4000000 in
theorem push_cV (b : Nat) (x : Val) (v u : Value) (ks : List Val) (B : Nat) (w : World) (hk : Vx w b v u) (ho : OwnV w B v ks) (hB : B ≤ b) (hmax : ks.length ≤ 1000) :
    Calls Tryz.prog 28 #[.pointer (some ⟨b, 0, none⟩), x.v] w (PushPostV b v u (ks ++ [x]) B w) := by
  have c0 := hk.cell0
  have hlt := hk.lt
  obtain ⟨A0, N0, C0, rfl⟩ := ho.isSlice
  have Ho := Lib.hid ho
  have Hk := Lib.hid hk
  clear ho hk
  go_enter Tryz.func28, Tryz.ntmps28
  go_wp2_with fail
  go_region_law (
    refine step_appV x rfl (.tmp 8) (.tmp 10) rfl B _ ks rfl (by exact ((Ho.out.alloc _).alloc _).drew) (w.heap.size + 1) rfl (by exact Bx.new1 w x _) (by omega) (by simp; omega) ?_
    intro g1 C1 w1 hv1 hg1
    have hb1 : Below B w w1 := by
      have h2 : Below B w ((w.alloc (.cells #[.int .i64 x.k, .int .i64 x.n, .string x.s] 31)).alloc (.cells #[.int .i64 x.k, .int .i64 x.n, .string x.s] 31)) := (below_two _ _ _).mono (by omega)
      have h3 : Below B w ((w.alloc (.cells #[.int .i64 x.k, .int .i64 x.n, .string x.s] 31)).alloc (.cells #[.int .i64 x.k, .int .i64 x.n, .string x.s] 31)).drew := ⟨h2.os, h2.tape, h2.output, h2.size, h2.block⟩
      exact h3.grown hg1 (by simp; omega) (fun k hk => (Ho.out.lt k hk).1)
    have k0 : Vx ((w.alloc (.cells #[.int .i64 x.k, .int .i64 x.n, .string x.s] 31)).alloc (.cells #[.int .i64 x.k, .int .i64 x.n, .string x.s] 31)) b _ u := Hk.out.after (below_two w _ _)
    have k1 : Vx w1 b _ u := (hg1.block b (by simp; omega) (fun e => Hk.out.apart Ho.out e.symm)).trans k0
    clear k0
    have Hsm := Lib.hid (show ∀ k, k < w.heap.size → (Value.slice A0 N0 C0).ownBlock ≠ some k → w1.heap[k]? = w.heap[k]? from fun k hk hne => (hg1.block k (by simp; omega) (fun e => hne e.symm)).trans ((below_two w _ _).block k hk))
    have c1 := k1.cell0
    have f1 := k1.frozen 0
    have l1 := k1.lt
    have Hv1 := Lib.hid hv1
    have Hk1 := Lib.hid k1
    have Hb1 := Lib.hid hb1
    clear hv1 hg1 k1 hb1)
  all_goals
    go_wp2
    exact bodyPost_ret (v := .tuple #[]) (by simp [results, Tryz.results28]) rfl ⟨rfl, Hb1.out.setCell hB _, fun k hk hne hno => (Below.heap_setCell _ _ _ _ (by exact hne)).trans (Hsm.out k hk hno), _, Hk1.out.set _, Hv1.out.set Hk1.out⟩
end Go.Proofs.YticofedglhfdpaaGreatDoor
