/-
  The stack of numbers: what push, pop and result do, of any stack that is the call's own.
-/
import Derived.Test.YticofedglhfdpaaGreatDoorKind
import Derived.Test.YticofedglhfdpaaGreatDoorRegT
namespace Go.Proofs.YticofedglhfdpaaGreatDoor
open Go Go.RowKit
set_option maxRecDepth 100000

/-- The slice v is the call's own, and reads as the numbers ks; it may be nil. -/
def OwnI (w : World) (B : Nat) (v : Value) (ks : List Int) : Prop := w.ownsRow B 3 1 v ks.length (ks.map (Value.int .i64))
theorem OwnI.nil (w : World) (B : Nat) : OwnI w B (.slice none 0 0) [] := World.ownsRow_nil w B _ 1
theorem OwnI.lt {w : World} {B : Nat} {v : Value} {xs : List Int} (h : OwnI w B v xs) : ∀ k, v.ownBlock = some k → B ≤ k ∧ k < w.heap.size := fun k hk => World.ownsRow.lt h k hk
/-- What is owned stays so where its block does. -/
theorem OwnI.same {w w' : World} {B : Nat} {v : Value} {xs : List Int} (h : OwnI w B v xs) (hb : ∀ k, v.ownBlock = some k → w'.heap[k]? = w.heap[k]?) : OwnI w' B v xs := by
  obtain ⟨h1, h2⟩ := h
  refine ⟨h1, ?_⟩
  rcases h2 with h2 | ⟨g', cap, cur, hv, hB, hh, h3⟩
  · exact .inl h2
  · exact .inr ⟨g', cap, cur, hv, hB, (hb g' (by rw [hv]; rfl)).trans hh, h3⟩
theorem OwnI.after {w w' : World} {B : Nat} {v : Value} {xs : List Int} (h : OwnI w B v xs) (hb : Below w.heap.size w w') : OwnI w' B v xs := h.same fun k hk => hb.block k (h.lt k hk).2
theorem OwnI.alloc {w : World} {B : Nat} {v : Value} {xs : List Int} (h : OwnI w B v xs) (o : Obj) : OwnI (w.alloc o) B v xs := h.after (below_one w o)
theorem OwnI.shape {w : World} {B : Nat} {v : Value} {xs : List Int} (h : OwnI w B v xs) : (v = .slice none 0 0 ∧ xs = []) ∨ ∃ g c, v = .slice (some ⟨g, 0, none⟩) xs.length c ∧ xs.length ≤ c ∧ c ≤ maxLen ∧ ∀ i k, xs[i]? = some k → w.cell? ⟨g, i, none⟩ = some (.int .i64 k) := by
  rcases h.2 with ⟨rfl, hn⟩ | ⟨g, cap, cur, rfl, hB, hh, hle, hm, _⟩
  · exact .inl ⟨rfl, List.eq_nil_of_length_eq_zero hn⟩
  · refine .inr ⟨g, cap, rfl, hle, hm, fun i k hk => ?_⟩
    have := World.ownsRow.cells (g := g) h rfl i (.int .i64 k) (by rw [List.getElem?_map, hk]; rfl)
    rwa [Go.WideShapes.add_plain, Nat.zero_add] at this
theorem OwnI.isSlice {w : World} {B : Nat} {v : Value} {xs : List Int} (h : OwnI w B v xs) : ∃ A n c, v = .slice A n c := by
  rcases h.shape with ⟨rfl, _⟩ | ⟨g, c, rfl, _⟩
  · exact ⟨_, _, _, rfl⟩
  · exact ⟨_, _, _, rfl⟩
/-- With fewer of them it is still owned. -/
theorem OwnI.shrink {w : World} {B g L c : Nat} {xs : List Int} (h : OwnI w B (.slice (some ⟨g, 0, none⟩) L c) xs) (m : Nat) (hm : m ≤ xs.length) : OwnI w B (.slice (some ⟨g, 0, none⟩) m c) (xs.take m) := by
  obtain ⟨h1, h2⟩ := h
  refine ⟨by simp, ?_⟩
  rcases h2 with ⟨h2, _⟩ | ⟨g', cap, cur, hv, hB, hh, hle, hmx, hsz, htk⟩
  · cases h2
  · cases hv
    refine .inr ⟨g, c, cur, by rw [List.length_take, Nat.min_eq_left hm], hB, hh, by rw [List.length_take]; omega, hmx, hsz, ?_⟩
    have e : (xs.take m).length * 1 = m := by rw [List.length_take]; omega
    rw [e, List.map_take, ← htk, List.take_take]
    congr 1
    omega

/-- Block b holds a struct of two values: what is on the stack, and what it is asked of. -/
def Kx (w : World) (b : Nat) (v u : Value) : Prop := w.heap[b]? = some (.cells #[v, u] 64 (0, 0))
theorem Kx.cell0 {w : World} {b : Nat} {v u : Value} (h : Kx w b v u) : w.cell? ⟨b, 0, none⟩ = some v := by unfold Kx at h; simp [World.cell?, h]
theorem Kx.cell1 {w : World} {b : Nat} {v u : Value} (h : Kx w b v u) : w.cell? ⟨b, 1, none⟩ = some u := by unfold Kx at h; simp [World.cell?, h]
theorem Kx.frozen {w : World} {b : Nat} {v u : Value} (h : Kx w b v u) (i : Nat) : w.frozen? ⟨b, i, none⟩ = false := by unfold Kx at h; simp [World.frozen?, h]
theorem Kx.lt {w : World} {b : Nat} {v u : Value} (h : Kx w b v u) : b < w.heap.size := by
  rcases Nat.lt_or_ge b w.heap.size with hlt | hge
  · exact hlt
  · unfold Kx at h; rw [Array.getElem?_eq_none hge] at h; cases h
theorem Kx.after {w w' : World} {b : Nat} {v u : Value} (h : Kx w b v u) (hb : Below w.heap.size w w') : Kx w' b v u := (hb.block b h.lt).trans h
theorem Kx.set {w : World} {b : Nat} {v u : Value} (h : Kx w b v u) (v' : Value) : Kx (w.setCell ⟨b, 0, none⟩ v') b v' u := by
  unfold Kx at *
  simp [World.setCell, Array.getElem?_modify, h]
theorem Kx.new (w : World) (v u : Value) : Kx (w.alloc (.cells #[v, u] 64)) w.heap.size v u := by
  show (w.heap.push _)[w.heap.size]? = _
  simp
/-- The stack's own block is another one. -/
theorem Kx.apart {w : World} {b B : Nat} {v u x : Value} {xs : List Int} (h : Kx w b v u) (ho : OwnI w B x xs) : x.ownBlock ≠ some b := by
  intro he
  rcases ho.2 with ⟨rfl, _⟩ | ⟨g, cap, cur, rfl, _, hh, _⟩
  · cases he
  · have hg : g = b := by simpa [Value.ownBlock] using he
    subst hg
    unfold Kx at h
    rw [h] at hh
    injection hh with hh
    injection hh with _ ht _
    exact absurd ht (by decide)
theorem OwnI.set {w : World} {b B : Nat} {v u x y : Value} {xs : List Int} (ho : OwnI w B x xs) (h : Kx w b v u) : OwnI (w.setCell ⟨b, 0, none⟩ y) B x xs :=
  ho.same fun k hk => Below.heap_setCell _ _ _ _ (by rintro rfl; exact h.apart ho hk)

set_option maxHeartbeats 1000000 in
theorem pop_few (b n : Nat) (v u : Value) (ks : List Int) (B : Nat) (w : World) (hk : Kx w b v u) (ho : OwnI w B v ks) (hn : n ≤ 2) (hl : ks.length < n) :
    Calls Tryz.prog 54 #[.pointer (some ⟨b, 0, none⟩), .int .i64 n] w fun e w' => e = .returned (.tuple #[.slice none 0 0, .bool false]) ∧ w' = w := by
  have c0 := hk.cell0
  have hL : (ks.length : Int) < n := by omega
  rcases ho.shape with ⟨rfl, rfl⟩ | ⟨g, c, rfl, _, _, _⟩
  all_goals
    clear hk ho
    go_enter Tryz.func54, Tryz.ntmps54
    go_wp2
    go_ret2
    exact ⟨rfl, rfl⟩

/-- What pop answers where there are enough. -/
def PopPost (b n : Nat) (ks : List Int) (B : Nat) (A : Option Addr) (c : Nat) (v' : Value) (w : World) (e : Ending) (w' : World) : Prop :=
  e = .returned (.tuple #[.slice A n c, .bool true]) ∧ w' = w.setCell ⟨b, 0, none⟩ v' ∧ OwnI w B v' (ks.take (ks.length - n)) ∧ SlI w A (ks.drop (ks.length - n)) ∧ ∀ a, A = some a → a.block ≠ b
set_option maxHeartbeats 1000000 in
theorem pop_nil (b : Nat) (u : Value) (B : Nat) (w : World) (hk : Kx w b (.slice none 0 0) u) :
    Calls Tryz.prog 54 #[.pointer (some ⟨b, 0, none⟩), .int .i64 0] w (PopPost b 0 [] B none 0 (.slice none 0 0) w) := by
  have c0 := hk.cell0
  have f0 := hk.frozen 0
  have hlt := hk.lt
  clear hk
  go_enter Tryz.func54, Tryz.ntmps54
  go_wp2
  go_ret2
  exact ⟨rfl, rfl, OwnI.nil _ _, .inl rfl, fun a h => by cases h⟩
theorem pop_fin {b n g c L : Nat} {u : Value} {ks : List Int} {B : Nat} {w : World} (hk : Kx w b (.slice (some ⟨g, 0, none⟩) L c) u) (ho : OwnI w B (.slice (some ⟨g, 0, none⟩) L c) ks) (hL : L = ks.length) (hl : n ≤ L) :
    ∀ e o c', e = Ending.returned (.tuple #[.slice (some ⟨g, o, none⟩) (L - (L - n)) c', .bool true]) → (n = 0 ∨ o = L - n) → PopPost b n ks B (some ⟨g, o, none⟩) c' (.slice (some ⟨g, 0, none⟩) (L - n) c) w e (w.setCell ⟨b, 0, none⟩ (.slice (some ⟨g, 0, none⟩) (L - n) c)) := fun e o c' he ho' => by
  have hgb : g ≠ b := fun e => hk.apart ho (by rw [e]; rfl)
  have hg := (ho.lt g rfl).2
  rcases ho.shape with ⟨h0, _⟩ | ⟨g', c'', h0, hle, hmx, hcell⟩
  · cases h0
  cases h0
  refine ⟨by rw [he, show ks.length - (ks.length - n) = n by omega], rfl, ho.shrink _ (by omega), ?_, fun a ha => by cases ha; exact hgb⟩
  rcases ho' with rfl | rfl
  · exact .inl (by simp)
  · exact .inr ⟨g, _, rfl, hg, fun i k hk => by rw [List.getElem?_drop] at hk; exact hcell _ _ hk⟩
set_option maxHeartbeats 1000000 in
theorem pop_full (b n g c L : Nat) (u : Value) (ks : List Int) (B : Nat) (w : World) (hk : Kx w b (.slice (some ⟨g, 0, none⟩) L c) u) (ho : OwnI w B (.slice (some ⟨g, 0, none⟩) L c) ks) (hL : L = ks.length) (hn : n ≤ 2) (hl : n ≤ L) (hmax : L ≤ 1000) (hle : L ≤ c) (hc1 : L - n = c) :
    Calls Tryz.prog 54 #[.pointer (some ⟨b, 0, none⟩), .int .i64 n] w (PopPost b n ks B (some ⟨g, 0, none⟩) 0 (.slice (some ⟨g, 0, none⟩) c c) w) := by
  have c0 := hk.cell0
  have f0 := hk.frozen 0
  have hlt := hk.lt
  have hn0 : n = 0 := by omega
  have Hf0 := Lib.hid (show ∀ e, e = Ending.returned (.tuple #[.slice (some ⟨g, 0, none⟩) 0 0, .bool true]) → PopPost b n ks B (some ⟨g, 0, none⟩) 0 (.slice (some ⟨g, 0, none⟩) c c) w e (w.setCell ⟨b, 0, none⟩ (.slice (some ⟨g, 0, none⟩) c c)) from fun e he => by
    have h := pop_fin hk ho hL hl e 0 0 (by rw [he, show L - (L - n) = 0 by omega]) (.inl hn0)
    rwa [hc1] at h)
  clear hn0 hk ho hL
  go_enter Tryz.func54, Tryz.ntmps54
  go_wp2
  go_ret2
  exact Hf0.out _ rfl
set_option maxHeartbeats 1000000 in
theorem pop_more (b n g c L : Nat) (u : Value) (ks : List Int) (B : Nat) (w : World) (hk : Kx w b (.slice (some ⟨g, 0, none⟩) L c) u) (ho : OwnI w B (.slice (some ⟨g, 0, none⟩) L c) ks) (hL : L = ks.length) (hn : n ≤ 2) (hl : n ≤ L) (hmax : L ≤ 1000) (hle : L ≤ c) (hc1 : L - n < c) :
    Calls Tryz.prog 54 #[.pointer (some ⟨b, 0, none⟩), .int .i64 n] w (PopPost b n ks B (some ⟨g, L - n, none⟩) (c - (L - n)) (.slice (some ⟨g, 0, none⟩) (L - n) c) w) := by
  have c0 := hk.cell0
  have f0 := hk.frozen 0
  have hlt := hk.lt
  have Hfin := Lib.hid (pop_fin hk ho hL hl)
  clear hk ho hL
  go_enter Tryz.func54, Tryz.ntmps54
  go_wp2
  go_ret2
  exact Hfin.out _ _ _ rfl (.inr rfl)
/-- pop, its answer told by the stack alone. -/
theorem pop_det (n : Nat) (v : Value) (ks : List Int) (w0 : World) (B0 : Nat) (ho0 : OwnI w0 B0 v ks) (hn : n ≤ 2) (hl : n ≤ ks.length) (hmax : ks.length ≤ 1000) :
    ∃ A c v', ∀ (b : Nat) (u : Value) (B : Nat) (w : World), Kx w b v u → OwnI w B v ks → Calls Tryz.prog 54 #[.pointer (some ⟨b, 0, none⟩), .int .i64 n] w (PopPost b n ks B A c v' w) := by
  rcases ho0.shape with ⟨rfl, rfl⟩ | ⟨g, c, rfl, hle, _, _⟩
  · obtain rfl : n = 0 := by simpa using hl
    exact ⟨none, 0, _, fun b u B w hk _ => pop_nil b u B w hk⟩
  · have hcc : ks.length - n ≤ c := by omega
    rcases Nat.eq_or_lt_of_le hcc with hc1 | hc1
    · exact ⟨_, _, _, fun b u B w hk ho => pop_full b n g c _ u ks B w hk ho rfl hn hl hmax hle hc1⟩
    · exact ⟨_, _, _, fun b u B w hk ho => pop_more b n g c _ u ks B w hk ho rfl hn hl hmax hle hc1⟩
theorem SlI.set {w : World} {b : Nat} {A : Option Addr} {ks : List Int} {y : Value} (h : SlI w A ks) (hne : ∀ a, A = some a → a.block ≠ b) : SlI (w.setCell ⟨b, 0, none⟩ y) A ks := by
  rcases h with h | ⟨g, off, hA, hlt, h⟩
  · exact .inl h
  · refine .inr ⟨g, off, hA, by simpa [World.setCell] using hlt, fun i k hk => ?_⟩
    have e : (w.setCell ⟨b, 0, none⟩ y).heap[g]? = w.heap[g]? := Below.heap_setCell _ _ _ _ (hne _ hA)
    rw [← h i k hk]
    exact World.cell?_of_block e

theorem intInfo : (Tryz.prog.info? 3).map (fun i => (i.zero, i.size, i.bytes)) = some (some (.int .i64 0), 1, 8) := by kernel_rfl
/-- append, of one number. -/
theorem wpList_appI {ops : Array Oper} {rest : List Oper} {o : Oper} {a : Act} {Q : Exit → Act → World → Prop} {w0 : World} (x : Int) (hgd : o.guard = none) (s y : Operand) (ho : o.op = .call { callee := .builtin .append, args := #[s, y], argTypes := #[41, 41] })
    (B : Nat) (v : Value) (xs : List Int) (hs : a.eval s = v) (hb : OwnI w0 B v xs) (g : Nat) (hx : a.eval y = .slice (some ⟨g, 0, none⟩) 1 1) (hg : g = w0.heap.size)
    (hmax : xs.length ≤ 1000000) (hB : B ≤ w0.heap.size)
    (h : ∀ v' w', OwnI w' B v' (xs ++ [x]) → w0.grownBy w' v.ownBlock → wpList Tryz.prog ops Q rest (a.put o.dst v') w') : wpList Tryz.prog ops Q (o :: rest) a (w0.alloc (.cells #[.int .i64 x] 3)) := by
  obtain ⟨i0, hi, hz0, hz1, hz2⟩ := info_parts intInfo
  subst hg
  have hal := hb.alloc (.cells #[.int .i64 x] 3)
  refine wpList_append_own_at _ hgd s y 41 ho B 3 i0 (.int .i64 0) 1 8 Tryz.underlying41 hi hz0 hz1 hz2 (by decide) (by decide) v xs.length (xs.map (Value.int .i64)) hs hal ⟨w0.heap.size, 0, none⟩ 1 1 [.int .i64 x] hx rfl (cell_one_new _ _ _) (by intro u hu; simp at hu; subst hu; rfl) (by unfold maxLen; omega) (by omega) (by simp; omega) ?_
  intro v' w' hown' hgrow _ _
  refine h v' w' ?_ ((World.grownBy_alloc w0 _ _).trans hgrow)
  unfold OwnI
  rw [List.map_append, List.length_append]
  exact hown'

/-- What push comes to. -/
def PushPost (b : Nat) (u : Value) (ks : List Int) (B : Nat) (w : World) (e : Ending) (w' : World) : Prop :=
  e = .returned (.tuple #[]) ∧ Below B w w' ∧ ∃ v', Kx w' b v' u ∧ OwnI w' B v' ks
set_option maxHeartbeats 1000000 in
theorem push_c (b : Nat) (x : Int) (v u : Value) (ks : List Int) (B : Nat) (w : World) (hk : Kx w b v u) (ho : OwnI w B v ks) (hB : B ≤ b) (hmax : ks.length ≤ 1000) :
    Calls Tryz.prog 38 #[.pointer (some ⟨b, 0, none⟩), .int .i64 x] w (PushPost b u (ks ++ [x]) B w) := by
  have c0 := hk.cell0
  have hlt := hk.lt
  have Ho := Lib.hid ho
  have Hk := Lib.hid hk
  clear ho hk
  go_enter Tryz.func38, Tryz.ntmps38
  go_wp2_with (at_builtin; go_must (
    refine wpList_appI x rfl (.tmp 8) (.tmp 10) rfl B _ ks rfl Ho.out _ rfl rfl (by omega) (by omega) ?_
    intro v1 w1 hv1 hg1
    obtain ⟨A1, N1, C1, rfl⟩ := hv1.isSlice
    have hb1 : Below B w w1 := (Below.refl B w).grown hg1 (by omega) (fun k hk => (Ho.out.lt k hk).1)
    have k1 : Kx w1 b v u := (hg1.block b hlt (fun e => Hk.out.apart Ho.out e.symm)).trans Hk.out
    have c1 := k1.cell0
    have f1 := k1.frozen 0
    have l1 := k1.lt
    have Hv1 := Lib.hid hv1
    have Hk1 := Lib.hid k1
    have Hb1 := Lib.hid hb1
    clear hv1 hg1 k1 hb1))
  exact bodyPost_ret (v := .tuple #[]) (by simp [results, Tryz.results38]) rfl ⟨rfl, Hb1.out.setCell hB _, _, Hk1.out.set _, Hv1.out.set Hk1.out⟩
end Go.Proofs.YticofedglhfdpaaGreatDoor
