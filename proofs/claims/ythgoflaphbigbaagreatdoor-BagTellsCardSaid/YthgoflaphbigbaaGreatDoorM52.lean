/-
  Bags together, how often a row is there, a bag turned round, and its rows, as the program has them; each part says what it proves, and of what.
-/
import Derived.Test.YthgoflaphbigbaaGreatDoorM51
import Derived.Lib.SliceRun
import Derived.Test.YthgoflaphbigbaaGreatDoorMay5
import Derived.Test.YthgoflaphbigbaaGreatDoorBagQ
/-
  slices.IndexFunc, slices.ContainsFunc and slices.DeleteFunc over counts, by a question on the count alone, as the program calls them. Of all lists of counts; what is deleted from is the call's own.
-/
namespace Go.Proofs.YthgoflaphbigbaaGreatDoor
open Go Go.RowKit
set_option maxRecDepth 100000

/-- The first place at which p holds, from k on; else -1. -/
def idxF (p : Int → Bool) : List Ct → Nat → Int
  | [], _ => -1
  | x :: l, k => if p x.N then (k : Int) else idxF p l (k + 1)
theorem idxF_drop (p : Int → Bool) (cs : List Ct) (k : Nat) (x : Ct) (h : cs[k]? = some x) : idxF p (cs.drop k) k = if p x.N then (k : Int) else idxF p (cs.drop (k + 1)) (k + 1) := by
  have h1 := List.drop_eq_getElem_cons (List.getElem?_eq_some_iff.1 h).1
  rw [(List.getElem?_eq_some_iff.1 h).2] at h1
  rw [h1, idxF]
theorem idxF_spec (p : Int → Bool) : ∀ (l : List Ct) (k : Nat), (idxF p l k = -1 ∧ ∀ x ∈ l, p x.N = false) ∨ ∃ i x, idxF p l k = ((k + i : Nat) : Int) ∧ l[i]? = some x ∧ p x.N = true ∧ ∀ y ∈ l.take i, p y.N = false
  | [], k => .inl ⟨rfl, nofun⟩
  | x :: l, k => by
    cases h : p x.N
    · rcases idxF_spec p l (k + 1) with ⟨h1, h2⟩ | ⟨i, y, h1, h2, h3, h4⟩
      · refine .inl ⟨by rw [idxF, h, if_neg (by simp), h1], fun y hy => ?_⟩
        rcases List.mem_cons.1 hy with rfl | hy
        · exact h
        · exact h2 y hy
      · refine .inr ⟨i + 1, y, by rw [idxF, h, if_neg (by simp), h1]; congr 1; omega, by simpa using h2, h3, fun z hz => ?_⟩
        rw [List.take_succ_cons] at hz
        rcases List.mem_cons.1 hz with rfl | hz
        · exact h
        · exact h4 z hz
    · exact .inr ⟨0, x, by rw [idxF, h, if_pos rfl]; rfl, rfl, h, nofun⟩
/-- A question on a count. -/
def Asks (g : FuncId) (p : Int → Bool) : Prop := ∀ (A : Option Addr) (n c : Nat) (N : Int) (w : World), Calls Tryz.prog g #[.agg #[.slice A n c, .int .i64 N]] w fun e w' => e = .returned (.bool (p N)) ∧ Gr w w'
theorem asksBey : Asks 25 beyB := beyond_g
theorem asksZero : Asks 36 (fun N => N == 0) := zero_g
set_option maxHeartbeats 2000000 in
theorem idx_c (g : FuncId) (p : Int → Bool) (hp : Asks g p) (eg : ∀ args w, (callFunc g args).run Tryz.prog w = .ok (.enter g args) w) (A : Option Addr) (n c : Nat) (cs : List Ct) (w : World) (hB : BgIn w A n cs) :
    Calls Tryz.prog 53 #[.slice A n c, .func (.func g) #[] #[]] w fun e w' => e = .returned (.int .i64 (idxF p cs 0)) ∧ Below w.heap.size w w' := by
  obtain ⟨R, hR⟩ : ∃ R, idxF p cs 0 = R := ⟨_, rfl⟩
  rw [hR]
  have HR := Lib.hid hR
  have HB := Lib.hid hB
  have Hp := Lib.hid hp
  have hmx : n ≤ 9223372036854775807 := hB.max
  clear hB hR hp
  go_enter Tryz.func53, Tryz.ntmps53
  go_wp2_with fail
  go_loopw [8] (fun i wr => ∃ k : Nat, k ≤ n ∧ i = .int .i64 k ∧ Hid (Below w.heap.size w wr) ∧ Hid (idxF p (cs.drop k) k = R)) (fun i _ => n - (intOf i).toNat)
  case atStart => exact ⟨0, Nat.zero_le _, rfl, Lib.hid (Below.refl _ _), HR⟩
  case round =>
    obtain ⟨k, hk, rfl, hb, hinv⟩ := hrel
    clear HR
    by_cases hlt : k < n
    · obtain ⟨b, off, rfl⟩ := HB.out.sl.some2 (k := k) (by rw [HB.out.len]; exact hlt)
      obtain ⟨x, hx⟩ : ∃ x, cs[k]? = some x := ⟨_, List.getElem?_eq_getElem (by rw [HB.out.len]; exact hlt)⟩
      obtain ⟨hblt, c0, c1⟩ := HB.out.sl.cell2 hx
      have d0 := (hb.out.cell (p := ⟨b, off + k * 2, none⟩) hblt).trans c0
      have d1 := (hb.out.cell (p := ⟨b, off + k * 2 + 1, none⟩) hblt).trans c1
      have l0 : b < wr.heap.size := Nat.lt_of_lt_of_le hblt hb.out.size
      have Hst := Lib.hid ((idxF_drop p cs k x hx).symm.trans hinv.out)
      clear hinv c0 c1 hx
      obtain ⟨⟨xA, xn, xc, xs⟩, N⟩ := x
      simp only [] at d0 d1
      have hgo : (k : Int) < n := by omega
      have HC := Lib.hid (Hp.out xA xn xc N wr)
      cases hq : p N
      · have Hst2 : Hid (idxF p (cs.drop (k + 1)) (k + 1) = R) := by
          have := Hst.out
          simp only [hq] at this
          exact Lib.hid this
        clear Hst
        go_wp2_with fail
        refine HC.out.mono ?_
        rintro e w1 ⟨rfl, hg1⟩
        rw [hq]
        have Hb1 := Lib.hid (below_via hb.out hg1.below)
        clear hg1 hb d0 d1 HC
        go_wp2
        go_roundw
        case rel => exact ⟨k + 1, by omega, by go_num, Hb1, Hst2⟩
        case measure => simp [intOf]; omega
      · have Hst2 : Hid ((k : Int) = R) := by
          have := Hst.out
          simp only [hq] at this
          exact Lib.hid this
        clear Hst
        go_wp2_with fail
        refine HC.out.mono ?_
        rintro e w1 ⟨rfl, hg1⟩
        rw [hq]
        have Hb1 := Lib.hid (below_via hb.out hg1.below)
        clear hg1 hb d0 d1 HC
        go_wp2
        go_ret
        exact ⟨congrArg (fun z => Ending.returned (Value.int .i64 z)) Hst2.out, Hb1.out⟩
    · obtain rfl : k = n := by omega
      have Hst' : Hid (-1 = R) := by
        have := hinv.out
        rw [show cs.drop k = [] from List.drop_eq_nil_of_le (by rw [HB.out.len]; exact Nat.le_refl _)] at this
        exact Lib.hid this
      clear hinv
      go_wp2
      go_ret
      exact ⟨congrArg (fun z => Ending.returned (Value.int .i64 z)) Hst'.out, hb.out⟩
theorem idx_any (p : Int → Bool) (cs : List Ct) : decide (0 ≤ idxF p cs 0) = cs.any fun x => p x.N := by
  rcases idxF_spec p cs 0 with ⟨h1, h2⟩ | ⟨i, x, h1, h2, h3, _⟩
  · rw [h1]
    symm
    rw [show decide ((0 : Int) ≤ -1) = false from rfl, List.any_eq_false]
    intro x hx
    rw [h2 x hx]
    decide
  · rw [h1, decide_eq_true (by omega)]
    symm
    rw [List.any_eq_true]
    exact ⟨x, List.mem_of_getElem? h2, h3⟩
theorem contains_c (A : Option Addr) (n c : Nat) (cs : List Ct) (w : World) (hB : BgIn w A n cs) :
    Calls Tryz.prog 34 #[.slice A n c, .func (.func 25) #[] #[]] w fun e w' => e = .returned (.bool (cs.any fun x => beyB x.N)) ∧ Below w.heap.size w w' := by
  have HC := Lib.hid (idx_c 25 beyB asksBey (fun _ _ => by kernel_rfl) A n c cs w hB)
  rw [← idx_any]
  obtain ⟨R, hR⟩ : ∃ R, idxF beyB cs 0 = R := ⟨_, rfl⟩
  rw [hR] at HC ⊢
  clear hB hR
  go_enter Tryz.func34, Tryz.ntmps34
  go_wp2_with fail
  refine HC.out.mono ?_
  rintro e w1 ⟨rfl, hb1⟩
  go_wp2
  go_ret
  exact ⟨rfl, hb1⟩
end Go.Proofs.YthgoflaphbigbaaGreatDoor
/-
  slices.DeleteFunc over counts, as the program calls it: what comes to nothing is cut out, in its place. Of lists of at most 100000 counts that are the call's own, whose rows lie apart.
-/
namespace Go.Proofs.YthgoflaphbigbaaGreatDoor
open Go Go.RowKit
set_option maxRecDepth 100000

/-- Those that are there. -/
def fl (l : List Ct) : List Ct := l.filter fun x => !(x.N == 0)
theorem fl_pl (l : List Ct) : pl (fl l) = (pl l).filter fun x => !(x.2 == 0) := by
  unfold fl pl
  rw [List.filter_map]
  rfl
theorem fl_take {l : List Ct} {j : Nat} {x : Ct} (h : l[j]? = some x) : fl (l.take (j + 1)) = fl (l.take j) ++ if x.N == 0 then [] else [x] := by
  unfold fl
  rw [List.take_add_one, h, List.filter_append]
  congr 1
  cases hz : x.N == 0 <;> simp [hz]
theorem fl_len (l : List Ct) : (fl l).length ≤ l.length := List.length_filter_le _ _
/-- Under way: the first i stand where they should, those from j on as they stood. -/
structure DelSt (w : World) (g n i j : Nat) (ol : List Ct) : Prop where
  lt : g < w.heap.size
  thaw : ∀ t, w.frozen? ⟨g, t, none⟩ = false
  all : ∀ t, t < n * 2 → ∃ u, w.cell? ⟨g, t, none⟩ = some u
  len : (fl (ol.take j)).length = i
  lo : ∀ t x, (fl (ol.take j))[t]? = some x → w.cell? ⟨g, t * 2, none⟩ = some (.slice x.h.A x.h.n x.h.c) ∧ w.cell? ⟨g, t * 2 + 1, none⟩ = some (.int .i64 x.N)
  hi : ∀ t x, j ≤ t → ol[t]? = some x → w.cell? ⟨g, t * 2, none⟩ = some (.slice x.h.A x.h.n x.h.c) ∧ w.cell? ⟨g, t * 2 + 1, none⟩ = some (.int .i64 x.N)
  out : ∀ c ∈ ol, OutC w g c
  ij : i < j
theorem DelSt.after {w w' : World} {g n i j : Nat} {ol : List Ct} (h : DelSt w g n i j ol) (hb : Below w.heap.size w w') : DelSt w' g n i j ol :=
  ⟨Nat.lt_of_lt_of_le h.lt hb.size, fun t => by rw [hb.frozen (p := ⟨g, t, none⟩) h.lt]; exact h.thaw t, fun t ht => by rw [hb.cell (p := ⟨g, t, none⟩) h.lt]; exact h.all t ht, h.len,
    fun t x hx => by rw [hb.cell (p := ⟨g, t * 2, none⟩) h.lt, hb.cell (p := ⟨g, t * 2 + 1, none⟩) h.lt]; exact h.lo t x hx,
    fun t x ht hx => by rw [hb.cell (p := ⟨g, t * 2, none⟩) h.lt, hb.cell (p := ⟨g, t * 2 + 1, none⟩) h.lt]; exact h.hi t x ht hx, fun c hc => (h.out c hc).after hb, h.ij⟩
theorem DelSt.skip {w : World} {g n i j : Nat} {ol : List Ct} {x : Ct} (h : DelSt w g n i j ol) (hx : ol[j]? = some x) (hz : (x.N == 0) = true) : DelSt w g n i (j + 1) ol := by
  have e : fl (ol.take (j + 1)) = fl (ol.take j) := by rw [fl_take hx, hz, if_pos rfl, List.append_nil]
  exact ⟨h.lt, h.thaw, h.all, by rw [e]; exact h.len, by rw [e]; exact h.lo, fun t y ht => h.hi t y (by omega), h.out, by have := h.ij; omega⟩
theorem DelSt.keep {w : World} {g n i j : Nat} {ol : List Ct} {x : Ct} (h : DelSt w g n i j ol) (hl : ol.length = n) (hx : ol[j]? = some x) (hz : (x.N == 0) = false) : DelSt ((w.setCell ⟨g, i * 2, none⟩ x.h.v).setCell ⟨g, i * 2 + 1, none⟩ (.int .i64 x.N)) g n (i + 1) (j + 1) ol := by
  have e : fl (ol.take (j + 1)) = fl (ol.take j) ++ [x] := by rw [fl_take hx, hz, if_neg (by decide)]
  have hij := h.ij
  have hjn : j < n := by rw [← hl]; exact (List.getElem?_eq_some_iff.1 hx).1
  obtain ⟨u0, h0⟩ := h.all (i * 2) (by omega)
  obtain ⟨u1, h1⟩ := h.all (i * 2 + 1) (by omega)
  have oth : ∀ (w : World) (p j : Nat) (v : Value), j ≠ p → (w.setCell ⟨g, p, none⟩ v).cell? ⟨g, j, none⟩ = w.cell? ⟨g, j, none⟩ := fun w p j v hj => World.cell?_setCell_other _ _ _ _ (by intro e; simp only [Addr.mk.injEq] at e; exact hj e.2.1.symm)
  have k1 : (w.setCell ⟨g, i * 2, none⟩ x.h.v).cell? ⟨g, i * 2 + 1, none⟩ = some u1 := (oth _ _ _ _ (by omega)).trans h1
  have c1 := World.cell?_setCell_same _ ⟨g, i * 2 + 1, none⟩ (.int .i64 x.N) k1
  have c0 := (oth (w.setCell ⟨g, i * 2, none⟩ x.h.v) (i * 2 + 1) (i * 2) (.int .i64 x.N) (by omega)).trans (World.cell?_setCell_same _ ⟨g, i * 2, none⟩ x.h.v h0)
  have other : ∀ j, j ≠ i * 2 → j ≠ i * 2 + 1 → ((w.setCell ⟨g, i * 2, none⟩ x.h.v).setCell ⟨g, i * 2 + 1, none⟩ (.int .i64 x.N)).cell? ⟨g, j, none⟩ = w.cell? ⟨g, j, none⟩ := fun j e0 e1 => (oth _ _ _ _ e1).trans (oth _ _ _ _ e0)
  refine ⟨by simpa using h.lt, fun t => by rw [World.frozen?_setCell, World.frozen?_setCell]; exact h.thaw t, fun t ht => ?_, by rw [e, List.length_append, h.len]; rfl, fun t y hy => ?_, fun t y ht hy => ?_, fun c hc => ((h.out c hc).set _ _).set _ _, by omega⟩
  · by_cases e0 : t = i * 2
    · subst e0; exact ⟨_, c0⟩
    by_cases e1 : t = i * 2 + 1
    · subst e1; exact ⟨_, c1⟩
    rw [other t e0 e1]
    exact h.all t ht
  · rw [e] at hy
    by_cases ht : t < i
    · rw [List.getElem?_append_left (by rw [h.len]; exact ht)] at hy
      rw [other _ (by omega) (by omega), other _ (by omega) (by omega)]
      exact h.lo t y hy
    · have ht' : t = i := by
        have := (List.getElem?_eq_some_iff.1 hy).1
        rw [List.length_append, h.len] at this
        simp at this
        omega
      subst ht'
      rw [List.getElem?_append_right (by rw [h.len]; exact Nat.le_refl _), h.len, Nat.sub_self] at hy
      simp at hy
      subst hy
      exact ⟨c0, c1⟩
  · rw [other _ (by omega) (by omega), other _ (by omega) (by omega)]
    exact h.hi t y (by omega) hy
theorem setCs_block (g : Nat) : ∀ (vs : List Value) (o : Nat) (w : World) (b : Nat), b ≠ g → (w.setCells g o vs).heap[b]? = w.heap[b]?
  | [], _, _, _, _ => rfl
  | v :: r, o, w, b, hb => by
    rw [World.setCells]
    exact (setCs_block g r _ _ b hb).trans (Below.heap_setCell _ _ _ _ hb)
theorem setCs_size (g : Nat) : ∀ (vs : List Value) (o : Nat) (w : World), (w.setCells g o vs).heap.size = w.heap.size
  | [], _, _ => rfl
  | v :: r, o, w => by
    rw [World.setCells, setCs_size g r]
    simp
theorem setCs_below {B g : Nat} (hg : B ≤ g) {w0 : World} : ∀ (vs : List Value) (o : Nat) (w : World), Below B w0 w → Below B w0 (w.setCells g o vs)
  | [], _, _, h => h
  | v :: r, o, w, h => by
    rw [World.setCells]
    exact setCs_below hg r _ _ (h.setCell hg v)
/-- 'clear' of counts: some cells from o on are written. -/
theorem clear2_run (w : World) (ty : TypeId) (b o n c : Nat) (hn : 0 < n) (hc : ∀ j, j < n * 2 → (w.cell? ⟨b, o + j, none⟩).isSome = true) (hf : ∀ j, w.frozen? ⟨b, j, none⟩ = false) :
    ∃ vs : List Value, vs.length = n * 2 ∧ (Builtin.clear_ #[23] ty #[.slice (some ⟨b, o, none⟩) n c]).run Tryz.prog w = .ok (.tuple #[]) (w.setCells b o vs) := by
  have hv : ∀ w, (zeroValue 36).run Tryz.prog w = .ok (.agg #[.slice none 0 0, .int .i64 0]) w := Tryz.zeroValue36
  have hlen : (Builtin.zeroCells (Value.agg #[.slice none 0 0, .int .i64 0]).cells n).toList.length = n * 2 := by
    rw [Array.length_toList, size_zeroCells]
    rfl
  have hone : ∀ v ∈ (Builtin.zeroCells (Value.agg #[.slice none 0 0, .int .i64 0]).cells n).toList, v.oneCell' = true := by
    intro v hv'
    rw [Array.mem_toList_iff] at hv'
    unfold Builtin.zeroCells at hv'
    rw [Array.mem_map] at hv'
    obtain ⟨i, _, rfl⟩ := hv'
    have hs : (Value.agg #[.slice none 0 0, .int .i64 0]).cells = #[.slice none 0 0, .int .i64 0] := by kernel_rfl
    rw [hs]
    have h2 : i % (#[Value.slice none 0 0, .int .i64 0] : Array Value).size = 0 ∨ i % (#[Value.slice none 0 0, .int .i64 0] : Array Value).size = 1 := by
      show i % 2 = 0 ∨ i % 2 = 1
      omega
    rcases h2 with e | e <;> rw [e] <;> rfl
  refine ⟨_, hlen, ?_⟩
  have hst := run_storeCells_cells (P := Tryz.prog) b o _ 0 w (fun j hj => by rw [hlen] at hj; simpa using hc j hj) (fun j _ => hf _) hone
  simp only [Nat.add_zero] at hst
  obtain ⟨m, rfl⟩ : ∃ m, n = m + 1 := ⟨n - 1, by omega⟩
  simp [Builtin.clear_, run_underlying Tryz.underlying23, hv, hst]
/-- What is said of counts of which those that come to nothing were cut out. -/
structure DelSaid (w : World) (B : Nat) (ol : List Ct) (A' : Option Addr) (m : Nat) (w' : World) : Prop where
  bg : ∃ ol', BgIn w' A' m ol' ∧ pl ol' = (pl ol).filter fun x => !(x.2 == 0)
  below : ∀ w0 B0, Below B0 w0 w → B0 ≤ B → B0 ≤ w0.heap.size → Below B0 w0 w'
set_option maxHeartbeats 4000000 in
theorem del_c (A : Option Addr) (n c B : Nat) (ol : List Ct) (w : World) (ho : OwnG w B 36 2 rdC (.slice A n c) ol) (hl : ol.length = n) (hn : n ≤ 100000) (hap : ApartC w A ol) (hBw : B ≤ w.heap.size) :
    Calls Tryz.prog 35 #[.slice A n c, .func (.func 36) #[] #[]] w fun e w' => ∃ A' m c', e = .returned (.slice A' m c') ∧ DelSaid w B ol A' m w' := by
  have hBg : BgIn w A n ol := by
    obtain ⟨A2, c2, e2, _, _, hs⟩ := ho.sl cOk.len
    injection e2 with e2
    subst e2
    exact ⟨hl, by unfold maxLen; omega, hs, hap.each⟩
  have HI := Lib.hid (idx_c 36 (fun N => N == 0) asksZero (fun _ _ => by kernel_rfl) A n c ol w hBg)
  rcases idxF_spec (fun N => N == 0) ol 0 with ⟨h1, h2⟩ | ⟨i0, x0, h1, h2, h3, h4⟩
  · rw [h1] at HI
    have HF : Hid (∀ w', Below w.heap.size w w' → DelSaid w B ol A n w') := Lib.hid fun w' hb => ⟨⟨ol, hBg.after hb, by
      symm
      rw [List.filter_eq_self]
      intro y hy
      obtain ⟨z, hz, rfl⟩ := List.mem_map.1 hy
      have h5 : (z.N == 0) = false := h2 z hz
      simp only [h5]
      rfl⟩, fun w0 B0 hb0 hB0 _ => hb0.trans (hb.mono (Nat.le_trans hB0 hBw))⟩
    clear hBg h1 h2 ho hap
    go_enter Tryz.func35, Tryz.ntmps35
    go_wp2_with fail
    refine HI.out.mono ?_
    rintro e w1 ⟨rfl, hb1⟩
    have HF1 := Lib.hid (HF.out w1 hb1)
    clear hb1 HF HI
    go_wp2
    go_ret
    exact ⟨A, n, c, rfl, HF1.out⟩
  · rw [h1, Nat.zero_add] at HI
    have hi0 : i0 < n := by rw [← hl]; exact (List.getElem?_eq_some_iff.1 h2).1
    obtain ⟨g, rfl, cur, hcur, hnc, hcs⟩ : ∃ g, A = some ⟨g, 0, none⟩ ∧ ∃ cur, w.heap[g]? = some (.cells cur 36 (0, 0)) ∧ n ≤ c ∧ cur.size = c * 2 := by
      rcases ho.2 with ⟨hv, hz⟩ | ⟨g', cap, cur, hv, _, hh, hle, _, hsz, _⟩
      · rw [hl] at hz; omega
      · injection hv with e1 e2 e3
        subst e3
        exact ⟨g', e1, cur, hh, by rw [hl] at hle; exact hle, hsz⟩
    have hgB : B ≤ g := (ho.lt g rfl).1
    have hflt : fl (ol.take i0) = ol.take i0 := by
      unfold fl
      rw [List.filter_eq_self]
      intro y hy
      have h5 : (y.N == 0) = false := h4 y hy
      rw [h5]
      rfl
    have HS : Hid (DelSt w g n i0 (i0 + 1) ol) := Lib.hid (by
      have e : fl (ol.take (i0 + 1)) = ol.take i0 := by
        rw [fl_take h2, show (x0.N == 0) = true from h3, if_pos rfl, List.append_nil, hflt]
      have hcell : ∀ t x, ol[t]? = some x → w.cell? ⟨g, t * 2, none⟩ = some (.slice x.h.A x.h.n x.h.c) ∧ w.cell? ⟨g, t * 2 + 1, none⟩ = some (.int .i64 x.N) := fun t x hx => by
        have := (hBg.sl.cell2 hx).2
        rwa [Nat.zero_add] at this
      refine ⟨(ho.lt g rfl).2, fun t => frozen_of_row _ _ _ _ _ hcur, fun t ht => ⟨cur[t]'(by rw [hcs]; omega), ?_⟩, by rw [e, List.length_take, hl]; omega, fun t x hx => ?_, fun t x _ hx => hcell t x hx, fun c hc => (hap c hc).2 g 0 rfl, by omega⟩
      · simp only [World.cell?, hcur, Option.isSome_none, Bool.false_eq_true, if_false]
        exact Array.getElem?_eq_getElem _
      · rw [e] at hx
        refine hcell t x ?_
        rw [List.getElem?_take] at hx
        split at hx
        · exact hx
        · cases hx)
    have Hl := Lib.hid hl
    clear hBg h1 h2 h3 h4 ho hap hflt hcur hcs hl
    have hne1 : ((i0 : Int) == -1) = false := beq_eq_false_iff_ne.2 (by omega)
    go_enter Tryz.func35, Tryz.ntmps35
    go_wp2_with fail
    refine HI.out.mono ?_
    rintro e w1 ⟨rfl, hb1⟩
    have HS1 := Lib.hid (HS.out.after hb1)
    have Hb1 : Hid (Below B w w1) := Lib.hid (hb1.mono hBw)
    clear hb1 HS HI
    go_wp2_with fail
    go_loopw [5, 6] (fun a d wr => ∃ i j : Nat, j ≤ n ∧ i < j ∧ a = .int .i64 i ∧ d = .int .i64 j ∧ Hid (Below B w wr) ∧ Hid (DelSt wr g n i j ol)) (fun _ d _ => n - (intOf d).toNat)
    case atStart => exact ⟨i0, i0 + 1, by omega, by omega, rfl, by go_num, Hb1, HS1⟩
    case round =>
      obtain ⟨i, j, hj, hij, rfl, rfl, hb, hS⟩ := hrel
      clear HS1 Hb1
      by_cases hlt : j < n
      · obtain ⟨x, hx⟩ : ∃ x, ol[j]? = some x := ⟨_, List.getElem?_eq_getElem (by rw [Hl.out]; exact hlt)⟩
        obtain ⟨d0, d1⟩ := hS.out.hi j x (Nat.le_refl _) hx
        have Hx := Lib.hid hx
        have l0 := hS.out.lt
        clear hx
        obtain ⟨⟨xA, xn, xc, xs⟩, N⟩ := x
        simp only [] at d0 d1
        have hgo : (j : Int) < n := by omega
        have hBr : B ≤ wr.heap.size := Nat.le_trans hBw hb.out.size
        cases hz : N == 0
        · go_wp2_with fail
          refine (zero_g xA xn xc N _).mono ?_
          rintro e w2 ⟨rfl, hg2⟩
          rw [hz]
          have Hb2 := Lib.hid (below_via (below_one wr (.cells #[.slice xA xn xc, .int .i64 N] 36)) hg2.below)
          have HS2 := Lib.hid (hS.out.after Hb2.out)
          have HK := Lib.hid (HS2.out.keep Hl.out Hx.out hz)
          obtain ⟨u0, f0⟩ := HS2.out.all (i * 2) (by omega)
          obtain ⟨u1, f1⟩ := HS2.out.all (i * 2 + 1) (by omega)
          have z0 := HS2.out.thaw (i * 2)
          have z1 := HS2.out.thaw (i * 2 + 1)
          have e0 : w2.cell? ⟨wr.heap.size, 0, none⟩ = some (.slice xA xn xc) := (hg2.below.cell (p := ⟨wr.heap.size, 0, none⟩) (by simp)).trans (by simp)
          have e1 : w2.cell? ⟨wr.heap.size, 1, none⟩ = some (.int .i64 N) := (hg2.below.cell (p := ⟨wr.heap.size, 1, none⟩) (by simp)).trans (by simp)
          have HF : Hid (Below B w ((w2.setCell ⟨g, i * 2, none⟩ (.slice xA xn xc)).setCell ⟨g, i * 2 + 1, none⟩ (.int .i64 N))) := Lib.hid (((hb.out.trans (Hb2.out.mono hBr)).setCell hgB _).setCell hgB _)
          clear hg2 Hb2 HS2 hb hS d0 d1 Hx hBr
          have hii : (i : Int) < n := by omega
          have hi0' : (0 : Int) ≤ i := by omega
          go_wp2_with fail
          go_roundw
          case rel => exact ⟨i + 1, j + 1, by omega, by omega, by go_num, by go_num, HF, HK⟩
          case measure => simp [intOf]; omega
        · go_wp2_with fail
          refine (zero_g xA xn xc N _).mono ?_
          rintro e w2 ⟨rfl, hg2⟩
          rw [hz]
          have Hb2 := Lib.hid (below_via (below_one wr (.cells #[.slice xA xn xc, .int .i64 N] 36)) hg2.below)
          have HK := Lib.hid ((hS.out.after Hb2.out).skip Hx.out hz)
          have HF : Hid (Below B w w2) := Lib.hid (hb.out.trans (Hb2.out.mono hBr))
          clear hg2 Hb2 hb hS d0 d1 Hx hBr
          go_wp2_with fail
          go_roundw
          case rel => exact ⟨i, j + 1, by omega, by omega, rfl, by go_num, HF, HK⟩
          case measure => simp [intOf]; omega
      · obtain rfl : j = n := by omega
        have hcl : ∃ vs : List Value, vs.length = (j - i) * 2 ∧ ∀ ty, (Builtin.clear_ #[23] ty #[.slice (some ⟨g, i * 2, none⟩) (j - i) (c - i)]).run Tryz.prog wr = .ok (.tuple #[]) (wr.setCells g (i * 2) vs) := by
          obtain ⟨vs, hv1, hv2⟩ := clear2_run wr 0 g (i * 2) (j - i) (c - i) (by omega) (fun t ht => by obtain ⟨u, hu⟩ := hS.out.all (i * 2 + t) (by omega); rw [hu]; rfl) hS.out.thaw
          exact ⟨vs, hv1, fun _ => hv2⟩
        obtain ⟨vs, hvs, hcl⟩ := hcl
        have ht : ol.take j = ol := List.take_of_length_le (by rw [Hl.out]; exact Nat.le_refl _)
        have HF : Hid (DelSaid w B ol (some ⟨g, 0, none⟩) i (wr.setCells g (i * 2) vs)) := Lib.hid (by
          have hS' := hS.out
          have hlen := hS'.len
          have hlo := hS'.lo
          rw [ht] at hlen hlo
          have hblk : ∀ b, b ≠ g → b < wr.heap.size → (wr.setCells g (i * 2) vs).heap[b]? = wr.heap[b]? := fun b hb _ => setCs_block g vs _ _ b hb
          have hsz : (wr.setCells g (i * 2) vs).heap.size = wr.heap.size := setCs_size g vs _ _
          refine ⟨⟨fl ol, ⟨hlen, by unfold maxLen; omega, .inr ⟨g, 0, rfl, by rw [hsz]; exact hS'.lt, fun t x hx q u hu => ?_⟩, fun c hc => ((hS'.out c (List.mem_filter.1 hc).1).same (by rw [hsz]; exact Nat.le_refl _) hblk).1⟩, fl_pl ol⟩, fun w0 B0 h0 h1 _ => ?_⟩
          · have hti : t < i := by rw [← hlen]; exact (List.getElem?_eq_some_iff.1 hx).1
            have hq : q < 2 := (List.getElem?_eq_some_iff.1 hu).1
            rw [World.cell?_setCells_out g vs (i * 2) wr _ (fun _ _ => .inl (by simp only; omega))]
            have h3 := hlo t x hx
            match q, hu with
            | 0, hu => simp [rdC] at hu; subst hu; rw [Nat.zero_add]; exact h3.1
            | 1, hu => simp [rdC] at hu; subst hu; rw [Nat.zero_add]; exact h3.2
          · exact setCs_below (Nat.le_trans h1 hgB) vs _ _ (h0.trans (hb.out.mono h1)))
        clear hS hb hvs ht
        have hci : ¬ c = i := by omega
        have hii : (i : Int) ≤ j := by omega
        have hic : (i : Int) ≤ c := by omega
        have hi0' : (0 : Int) ≤ i := by omega
        have hjc : (j : Int) ≤ c := by omega
        go_wp2
        go_ret
        exact ⟨_, _, _, rfl, HF.out⟩
end Go.Proofs.YthgoflaphbigbaaGreatDoor
/-
  Bags together, as the program has it: of at most 1000 bags, of at most 100000 rows together. In new memory, or nothing.
-/
namespace Go.Proofs.YthgoflaphbigbaaGreatDoor
open Go Go.RowKit
set_option maxRecDepth 100000

theorem append_types (w : World) (ty : TypeId) (b : Option Addr) (n1 c1 : Nat) (A : Option Addr) (n c : Nat) : (Builtin.append_ #[22, 23] ty #[.slice b n1 c1, .slice A n c]).run Tryz.prog w = (Builtin.append_ #[22, 22] ty #[.slice b n1 c1, .slice A n c]).run Tryz.prog w := by
  simp [Builtin.append_, run_underlying Tryz.underlying22, run_underlying Tryz.underlying23]
/-- APPEND of a bag onto a list of counts of the call's own. -/
theorem wpList_appU {ops : Array Oper} {rest : List Oper} {o : Oper} {a : Act} {Q : Exit → Act → World → Prop} {w : World} (hgd : o.guard = none) (s x : Operand) (ho : o.op = .call { callee := .builtin .append, args := #[s, x], argTypes := #[22, 23] })
    (B : Nat) (v : Value) (xs ys : List Ct) (A : Option Addr) (n c : Nat) (hs : a.eval s = v) (hb : OwnG w B 36 2 rdC v xs) (hx : a.eval x = .slice A n c) (hn : ys.length = n) (hsl : SlG w A 2 rdC ys)
    (hmax : xs.length + ys.length ≤ maxLen) (hbytes : (xs.length + ys.length) * 32 ≤ 140737488355328) (hB : B ≤ w.heap.size)
    (h : ∀ v' w', OwnG w' B 36 2 rdC v' (xs ++ ys) → w.grownBy w' v.ownBlock → wpList Tryz.prog ops Q rest (a.put o.dst v') w') : wpList Tryz.prog ops Q (o :: rest) a w := by
  obtain ⟨i0, hi, hz0, hz1, hz2⟩ := kOk.parts
  subst hn
  obtain ⟨b1, c1, hv1⟩ := hb.isSlice
  have some_case : ∀ (ad : Addr), A = some ad → (∀ j u, (ys.flatMap rdC)[j]? = some u → w.cell? (ad.add j) = some u) → wpList Tryz.prog ops Q (o :: rest) a w := by
    intro ad hA hcells
    subst hA
    refine wpList_plain hgd fun K hK => ?_
    obtain ⟨v', w', hr, h2, h3, h4, h5⟩ := run_append_own_at (P := Tryz.prog) w B 22 o.type 36 i0 _ 2 32 kOk.under hi hz0 hz1 hz2 kOk.zs kOk.pos v xs.length (xs.flatMap rdC) hb ad ys.length c (ys.flatMap rdC) (flat_len kOk.len ys) hcells (fun u hu => by obtain ⟨q, _, hq⟩ := List.mem_flatMap.1 hu; exact kOk.one q u hq) hmax hbytes hB
    rw [hv1, ← append_types, ← hv1] at hr
    unfold Oper.wp execOp
    simp only [ho, resolve, invoke, builtin, Sem.run_bind, Sem.run_pure, Result.andThen_ok, List.map_toArray, List.map_cons, List.map_nil, hs, hx, hr]
    refine hK _ _ (h v' w' ?_ h3)
    unfold OwnG
    rw [List.flatMap_append, List.length_append]
    exact h2
  rcases hsl with rfl | ⟨b, off, hA, hlt, hc⟩
  · cases A with
    | some ad => exact some_case ad rfl (fun j u hj => by simp at hj)
    | none =>
      refine wpList_plain hgd fun K hK => ?_
      have hr := app_none kOk w v B c o.type xs hb
      rw [hv1, ← append_types, ← hv1] at hr
      unfold Oper.wp execOp
      have hx' : a.eval x = .slice none 0 c := hx
      simp only [ho, resolve, invoke, builtin, Sem.run_bind, Sem.run_pure, Result.andThen_ok, List.map_toArray, List.map_cons, List.map_nil, hs, hx', hr]
      exact hK _ _ (h v w (by rw [List.append_nil]; exact hb) (World.grownBy.refl w _))
  · refine some_case ⟨b, off, none⟩ hA fun j u hj => ?_
    rw [Go.WideShapes.add_plain]
    exact SlG.flat kOk.len kOk.pos hc j u hj
/-- All counts of some bags. -/
def allC (bs : List Bh) : List Ct := bs.flatMap (·.cs)
theorem allC_take {bs : List Bh} {k : Nat} {b : Bh} (h : bs[k]? = some b) : allC (bs.take (k + 1)) = allC (bs.take k) ++ b.cs := by
  unfold allC
  rw [List.take_add_one, h, List.flatMap_append]
  simp
theorem allC_len {bs : List Bh} (h : ∀ b ∈ bs, b.cs.length = b.n) : (allC bs).length = totB bs := by
  induction bs with
  | nil => rfl
  | cons b bs ih =>
    have h1 := ih fun c hc => h c (List.mem_cons_of_mem _ hc)
    unfold allC at h1 ⊢
    rw [List.flatMap_cons, List.length_append, h1, h b (by simp)]
    rfl
theorem allC_pl (bs : List Bh) : pl (allC bs) = (bs.map fun b => pl b.cs).flatten := by
  unfold allC pl
  induction bs with
  | nil => rfl
  | cons b bs ih => rw [List.flatMap_cons, List.map_append, ih, List.map_cons, List.flatten_cons]
theorem OwnG.wrC {w : World} {B n c : Nat} {A : Option Addr} {ol : List Ct} (h : OwnG w B 36 2 rdC (.slice A n c) ol) (hl : ol.length = n) : n = 0 ∨ ∃ g off, A = some ⟨g, off, none⟩ ∧ Wr w g off ol ∧ B ≤ g := by
  rcases h.2 with ⟨hv, hz⟩ | ⟨g, cap, cur, hv, hB, hh, _⟩
  · exact .inl (by rw [← hl, hz])
  · injection hv with e1
    subst e1
    refine .inr ⟨g, 0, rfl, ⟨(h.lt g rfl).2, fun i x hx j u hu => ?_⟩, hB⟩
    obtain ⟨A2, c2, e2, _, _, hs⟩ := h.sl cOk.len
    injection e2 with e2
    subst e2
    have hc2 := hs.cell2 hx
    refine ⟨?_, frozen_of_row _ _ _ _ _ hh⟩
    match j, hu with
    | 0, hu => simp [rdC] at hu; subst hu; exact hc2.2.1
    | 1, hu => simp [rdC] at hu; subst hu; exact hc2.2.2
theorem mayBag_rows {b : Bg} (h : mayBag b = true) : ∀ x ∈ b, x.1.length ≤ 100000 := fun x hx => by
  have := mayR_len (okC_parts (may_okC h x hx)).2.2.2
  omega
/-- No count is beyond the bounds, if the sum may be. -/
theorem bey_may {l : List Bg} {p M : Bg} (hl : ∀ b ∈ l, mayBag b = true) (h : MI p M) (hp : p.Perm l.flatten) : mayBag (plusL l) = !(M.any fun x => beyB x.2) := by
  have hf := h.plus hp
  cases hb : M.any fun x => beyB x.2
  · rw [Bool.not_false, ← hf]
    rw [List.any_eq_false] at hb
    refine may_of (by rw [hf]; exact asc_plus l) fun x hx => ?_
    obtain ⟨h1, h2⟩ := List.mem_filter.1 hx
    have h3 : x ∈ plusL l := by rw [← hf]; exact hx
    have h4 := hb x h1
    rw [bey_fits] at h4
    have h5 : (decide (-1000000000 ≤ x.2) && decide (x.2 ≤ 1000000000)) = true := by
      cases hq : (decide (-1000000000 ≤ x.2) && decide (x.2 ≤ 1000000000))
      · rw [hq] at h4; simp at h4
      · rfl
    rw [Bool.and_eq_true, decide_eq_true_eq, decide_eq_true_eq] at h5
    exact okC_of (nz_plus l x h3) h5.1 h5.2 (key_plus (fun r => mayR r = true) l (fun b hb y hy => (okC_parts (may_okC (hl b hb) y hy)).2.2.2) x h3)
  · rw [Bool.not_true]
    rw [List.any_eq_true] at hb
    obtain ⟨x, hx, hbx⟩ := hb
    cases hm : mayBag (plusL l)
    · rfl
    · exfalso
      rw [bey_fits] at hbx
      have hz : (x.2 == 0) = false := by
        cases hq : x.2 == 0
        · rfl
        · rw [eq_of_beq hq] at hbx
          exact absurd hbx (by decide)
      have hin : x ∈ plusL l := by
        rw [← hf]
        exact List.mem_filter.2 ⟨hx, by rw [hz]; rfl⟩
      have h5 := okC_parts (may_okC hm x hin)
      rw [decide_eq_true h5.2.1, decide_eq_true h5.2.2.1] at hbx
      exact absurd hbx (by decide)
set_option maxHeartbeats 4000000 in
theorem plus_c (A : Option Addr) (n c : Nat) (bs : List Bh) (w : World) (hl : bs.length = n) (hn : n ≤ 1000) (hsl : SlG w A 1 rdBh bs) (hin : ∀ b ∈ bs, Bh.In w b) (ht : totB bs ≤ 100000) :
    Calls Tryz.prog 12 #[.slice A n c] w fun e w' => ∃ A' n' c' cs', e = .returned (.slice A' n' c') ∧ Below w.heap.size w w' ∧ BgIn w' A' n' cs' ∧ pl cs' = plusR (bs.map fun b => pl b.cs) := by
  have Hl := Lib.hid hl
  have Hs := Lib.hid hsl
  have Hi := Lib.hid hin
  have Ht := Lib.hid ht
  clear hl hsl hin ht
  go_enter Tryz.func12, Tryz.ntmps12
  go_wp2_with fail
  go_loopw [3, 9] (fun v i wr => ∃ k : Nat, k ≤ n ∧ i = .int .i64 k ∧ Hid (Below w.heap.size w wr) ∧ Hid (OwnG wr w.heap.size 36 2 rdC v (allC (bs.take k))) ∧ Hid (∀ b ∈ bs.take k, mayBag (pl b.cs) = true)) (fun _ i _ => n - (intOf i).toNat)
  case atStart => exact ⟨0, Nat.zero_le _, rfl, Lib.hid (Below.refl _ _), Lib.hid (OwnG.nil _ _ _), Lib.hid nofun⟩
  case round =>
    obtain ⟨k, hk, rfl, hb, ho, hall⟩ := hrel
    by_cases hlt : k < n
    · obtain ⟨b, off, x, rfl, hblt, hx, c0⟩ := Hs.out.at1 (by rw [Hl.out]; exact hlt)
      have d0 := (hb.out.cell (p := ⟨b, off + k, none⟩) hblt).trans (c0 _ rfl)
      have l0 : b < wr.heap.size := Nat.lt_of_lt_of_le hblt hb.out.size
      have hxi : BgIn wr x.A x.n x.cs := (Hi.out x (List.mem_of_getElem? hx)).after hb.out
      have Hx := Lib.hid hxi
      have Htk := Lib.hid (allC_take hx)
      have Htt : Hid (∀ y ∈ bs.take (k + 1), y ∈ bs.take k ∨ y = x) := Lib.hid fun y hy => by
        rw [List.take_add_one, hx] at hy
        rcases List.mem_append.1 hy with hy | hy
        · exact .inl hy
        · simp at hy; exact .inr hy
      have Hno : Hid (mayBag (pl x.cs) = false → plusR (bs.map fun b => pl b.cs) = []) := Lib.hid fun hf => by
        unfold plusR
        rw [if_neg]
        intro ha
        rw [Bool.and_eq_true] at ha
        rw [List.all_eq_true.1 ha.1 (pl x.cs) (List.mem_map.2 ⟨x, List.mem_of_getElem? hx, rfl⟩)] at hf
        cases hf
      have Hlen : Hid ((allC (bs.take k)).length + x.cs.length ≤ 100000) := Lib.hid (by
        have h1 := totB_take bs k x hx
        have h2 := totB_le bs (k + 1)
        have h3 := allC_len (bs := bs.take k) fun b hb => (Hi.out b (List.mem_of_mem_take hb)).len
        have h4 := hxi.len
        have := Ht.out
        omega)
      clear c0 hblt hx hxi
      obtain ⟨xA, xn, xc, cs⟩ := x
      simp only [] at d0
      have HM := Lib.hid (mayBag_c xA xn xc cs wr Hx.out)
      go_wp2_with fail
      refine HM.out.mono ?_
      rintro e w1 ⟨rfl, hb1⟩
      have Hb2 := Lib.hid (below_via hb.out hb1)
      have HO1 := Lib.hid (ho.out.after hb1)
      have Hx1 := Lib.hid (Hx.out.after hb1)
      clear hb1 hb d0 HM ho Hx
      cases hM : mayBag (pl cs)
      · have Hno2 := Lib.hid (Hno.out hM)
        clear Hno
        go_wp2
        go_ret
        exact ⟨none, 0, 0, [], rfl, Hb2.out, BgIn.none _, Hno2.out.symm⟩
      · have Hall2 : Hid (∀ b ∈ bs.take (k + 1), mayBag (pl b.cs) = true) := Lib.hid fun b hb => by
          rcases Htt.out b hb with h | h
          · exact hall.out b h
          · subst h; exact hM
        clear Hno hall Htt hM
        go_wp2_with (at_builtin; go_must (refine wpList_appU rfl (.tmp 16) (.tmp 17) rfl w.heap.size _ (allC (bs.take k)) cs xA xn xc rfl HO1.out rfl Hx1.out.len Hx1.out.sl (by have := Hlen.out; unfold maxLen; omega) (by have := Hlen.out; omega) Hb2.out.size ?_; intro v1 w2 hv1 hg1; rw [← Htk.out] at hv1; have Hb3 := Lib.hid (Hb2.out.grown hg1 Hb2.out.size (fun k hk => (HO1.out.lt k hk).1)); have Hv1 := Lib.hid hv1; clear hv1 hg1))
        go_roundw
        case rel => exact ⟨k + 1, by omega, by go_num, Hb3, Hv1, Hall2⟩
        case measure => simp [intOf]; omega
    · obtain rfl : k = n := by omega
      have ht : bs.take k = bs := List.take_of_length_le (by rw [Hl.out]; omega)
      rw [ht] at ho hall
      obtain ⟨A1, c1, rfl⟩ := ho.out.isSlice
      have hlen : (allC bs).length ≤ 100000 := by
        rw [allC_len fun b hb => (Hi.out b hb).len]
        exact Ht.out
      have hct : ∀ c ∈ allC bs, Ct.In w c := fun c hc => by
        obtain ⟨b, hb, hc⟩ := List.mem_flatMap.1 hc
        exact (Hi.out b hb).each c hc
      have hmay : ∀ x ∈ pl (allC bs), ∃ b ∈ bs.map (fun b => pl b.cs), mayBag b = true ∧ x ∈ b := fun x hx => by
        rw [allC_pl] at hx
        obtain ⟨b, hb, hx⟩ := List.mem_flatten.1 hx
        obtain ⟨q, hq, rfl⟩ := List.mem_map.1 hb
        exact ⟨_, hb, hall.out q hq, hx⟩
      have HM := Lib.hid (merged_c A1 (allC bs).length c1 (allC bs) wr rfl hlen (by
        rcases ho.out.wrC rfl with h | ⟨g, off, h1, h2, h3⟩
        · exact .inl h
        · exact .inr ⟨g, off, h1, h2, fun c hc => OutC.old (hct c hc) hb.out h3⟩) (fun c hc => by
        obtain ⟨b, _, h1, h2⟩ := hmay _ (pl_mem hc)
        exact mayBag_rows h1 _ h2) (fun x hx => by
        obtain ⟨b, _, h1, h2⟩ := hmay _ hx
        exact bd_may h1 x h2))
      have Hg : Hid (∀ g off, A1 = some ⟨g, off, none⟩ → w.heap.size ≤ g) := Lib.hid fun g off e => (ho.out.lt g (by rw [e]; rfl)).1
      have Hlen := Lib.hid hlen
      have Hall : Hid (∀ b ∈ bs.map (fun b => pl b.cs), mayBag b = true) := Lib.hid fun b hb => by
        obtain ⟨q, hq, rfl⟩ := List.mem_map.1 hb
        exact hall.out q hq
      clear hlen hct hmay ht hall ho
      go_wp2_with fail
      refine HM.out.mono ?_
      rintro e w2 ⟨A', m, c', ol, rfl, hS⟩
      have HS := Lib.hid hS
      have Hb2 := Lib.hid (hS.below w w.heap.size hb.out Hg.out (Nat.le_refl _))
      have hm5 : m ≤ 100000 := Nat.le_trans hS.le Hlen.out
      have Hc := Lib.hid (contains_c A' m c' ol w2 (hS.bg (by have := Hlen.out; unfold maxLen; omega)))
      have Hr : Hid (plusR (bs.map fun b => pl b.cs) = if (ol.any fun x => beyB x.N) then [] else (pl ol).filter fun x => !(x.2 == 0)) := Lib.hid (by
        obtain ⟨p, hp, hmi⟩ := hS.mi
        rw [allC_pl] at hp
        have h1 := bey_may Hall.out hmi hp
        have h2 : (pl ol).any (fun x => beyB x.2) = ol.any fun x => beyB x.N := by unfold pl; rw [List.any_map]; rfl
        rw [h2] at h1
        unfold plusR
        rw [List.all_eq_true.2 Hall.out, Bool.true_and, h1, hmi.plus hp]
        cases ol.any fun x => beyB x.N <;> rfl)
      have Hsz := Lib.hid hb.out.size
      clear hS HM hb
      go_wp2_with fail
      refine Hc.out.mono ?_
      rintro e w3 ⟨rfl, hb3⟩
      cases hany : ol.any fun x => beyB x.N
      · have Hr2 : Hid (plusR (bs.map fun b => pl b.cs) = (pl ol).filter fun x => !(x.2 == 0)) := Lib.hid (by rw [Hr.out, hany]; rfl)
        have Hb3 := Lib.hid (below_via Hb2.out hb3)
        have HD := Lib.hid (del_c A' m c' w.heap.size ol w3 ((HS.out.own.after hb3).mono Hsz.out) HS.out.len hm5 (HS.out.apart.after hb3) Hb3.out.size)
        clear Hr hb3 Hc
        go_wp2_with fail
        refine HD.out.mono ?_
        rintro e w4 ⟨A4, m4, c4, rfl, hD⟩
        have HF : Hid (∃ cs', Below w.heap.size w w4 ∧ BgIn w4 A4 m4 cs' ∧ pl cs' = plusR (bs.map fun b => pl b.cs)) := Lib.hid (by
          obtain ⟨cs', h1, h2⟩ := hD.bg
          exact ⟨cs', hD.below w w.heap.size Hb3.out (Nat.le_refl _) (Nat.le_refl _), h1, by rw [h2, Hr2.out]⟩)
        clear hD HD
        go_wp2
        go_ret
        obtain ⟨cs', h1, h2, h3⟩ := HF.out
        exact ⟨A4, m4, c4, cs', rfl, h1, h2, h3⟩
      · have Hr2 : Hid (plusR (bs.map fun b => pl b.cs) = []) := Lib.hid (by rw [Hr.out, hany]; rfl)
        have Hb3 := Lib.hid (below_via Hb2.out hb3)
        clear Hr hb3 Hc
        go_wp2
        go_ret
        exact ⟨none, 0, 0, [], rfl, Hb3.out, BgIn.none _, Hr2.out.symm⟩
end Go.Proofs.YthgoflaphbigbaaGreatDoor
/-
  How often a row is in a bag, as the program has it (sort.Find over the bag's rows). Of all bags.
-/
namespace Go.Proofs.YthgoflaphbigbaaGreatDoor
open Go Go.RowKit
set_option maxRecDepth 100000

theorem ev_ldBg {F : Act} {w : World} {b off : Nat} {A : Option Addr} {n c : Nat} {t : Tmp} {o : Oper} (h0 : w.cell? ⟨b, off, none⟩ = some (.slice A n c)) (ho : o.op = .load 23 (.tmp t)) (ht : Reg.slot F t = .pointer (some ⟨b, off, none⟩)) :
    (execOp F.eval o).run Tryz.prog w = .ok (.value (.slice A n c)) w := by
  have e : F.eval (.tmp t) = .pointer (some ⟨b, off, none⟩) := ht
  have e0 : (execOp F.eval o).run Tryz.prog w = ((Instr.loadAt 23 (.pointer (some ⟨b, off, none⟩))).run Tryz.prog w).andThen fun v w' => .ok (.value v) w' := by
    simp only [execOp, ho, e, Sem.run_bind, Sem.run_pure]
  rw [e0]
  go_simp
/-- The row and the bag that the closure has. -/
structure Cap (w : World) (p q : Nat) (r : Hd) (A : Option Addr) (n c : Nat) (cs : List Ct) : Prop where
  rb : w.cell? ⟨p, 0, none⟩ = some (.slice r.A r.n r.c)
  bb : w.cell? ⟨q, 0, none⟩ = some (.slice A n c)
  rl : p < w.heap.size
  bl : q < w.heap.size
  rin : Hd.In w r
  bin : BgIn w A n cs
theorem Cap.after {w w' : World} {p q : Nat} {r : Hd} {A : Option Addr} {n c : Nat} {cs : List Ct} (h : Cap w p q r A n c cs) (hb : Below w.heap.size w w') : Cap w' p q r A n c cs :=
  ⟨(hb.cell (p := ⟨p, 0, none⟩) h.rl).trans h.rb, (hb.cell (p := ⟨q, 0, none⟩) h.bl).trans h.bb, Nat.lt_of_lt_of_le h.rl hb.size, Nat.lt_of_lt_of_le h.bl hb.size, h.rin.after hb, h.bin.after hb⟩
set_option maxHeartbeats 1000000 in
theorem get1_c (p q i : Nat) (r : Hd) (A : Option Addr) (n c : Nat) (cs : List Ct) (x : Ct) (w : World) (hC : Cap w p q r A n c cs) (hx : cs[i]? = some x) :
    Calls Tryz.prog 32 #[.int .i64 i, .pointer (some ⟨p, 0, none⟩), .pointer (some ⟨q, 0, none⟩)] w fun e w' => e = .returned (.int .i64 (cmpL r.xs x.h.xs)) ∧ Below w.heap.size w w' := by
  have hin : i < n := by rw [← hC.bin.len]; exact (List.getElem?_eq_some_iff.1 hx).1
  obtain ⟨b, off, rfl⟩ := hC.bin.sl.some2 (k := i) (by rw [hC.bin.len]; exact hin)
  obtain ⟨hblt, c0, c1⟩ := hC.bin.sl.cell2 hx
  have Hx := Lib.hid (hC.bin.each x (List.mem_of_getElem? hx))
  have Hr := Lib.hid hC.rin
  have D0 := Lib.hid c0
  have R0 := Lib.hid hC.rb
  have B0 := Lib.hid hC.bb
  have lp := hC.rl
  have lq := hC.bl
  clear hC hx c0 c1
  obtain ⟨⟨xA, xn, xc, xs⟩, N⟩ := x
  obtain ⟨rA, rn, rc, rs⟩ := r
  go_enter Tryz.func32, Tryz.ntmps32
  go_wp2_with fail
  refine Reg.wp_region_vals mixed (by kernel_rfl) [(5, .slice rA rn rc), (6, .slice (some ⟨b, off, none⟩) n c), (7, .int .i64 (i : Nat)), (8, .pointer (some ⟨b, off + i * 2, none⟩)), (9, .pointer (some ⟨b, off + i * 2, none⟩)), (10, .slice xA xn xc), (11, .int .i64 (cmpL rs xs)), (4, .int .i64 (cmpL rs xs))] 12 rfl (by kernel_rfl) ?_ ?_
  · intro F hF w' hB
    have jr := (hB.cell (p := ⟨p, 0, none⟩) lp).trans R0.out
    have jb := (hB.cell (p := ⟨q, 0, none⟩) lq).trans B0.out
    have jx := (hB.cell (p := ⟨b, off + i * 2, none⟩) hblt).trans D0.out
    have ix := Hx.out.after hB
    have ir := Hr.out.after hB
    refine ⟨?_, ?_, ?_, ?_, ?_, ?_, ?_, ?_, trivial⟩
    · exact Reg.doesV_val (ev_ldR (A := rA) (n := rn) (c := rc) jr rfl (by rw [hF]; kernel_rfl)) (by rw [hF]; kernel_rfl) (by rw [hF]; kernel_rfl)
    · exact Reg.doesV_val (ev_ldBg (A := some ⟨b, off, none⟩) (n := n) (c := c) jb rfl (by rw [hF]; kernel_rfl)) (by rw [hF]; kernel_rfl) (by rw [hF]; kernel_rfl)
    · exact Reg.doesV_val (ev_move rfl) (by rw [hF]; kernel_rfl) (by rw [hF]; kernel_rfl)
    · exact Reg.doesV_val (ev_idxC (b := b) (off := off) (n := n) (c := c) (k := i) hin rfl (by rw [hF]; kernel_rfl) (by rw [hF]; kernel_rfl)) (by rw [hF]; kernel_rfl) (by rw [hF]; kernel_rfl)
    · exact Reg.doesV_val (ev_c0 (b := b) (off := off + i * 2) rfl (by rw [hF]; kernel_rfl)) (by rw [hF]; kernel_rfl) (by rw [hF]; kernel_rfl)
    · exact Reg.doesV_val (ev_ldR (A := xA) (n := xn) (c := xc) jx rfl (by rw [hF]; kernel_rfl)) (by rw [hF]; kernel_rfl) (by rw [hF]; kernel_rfl)
    · exact Reg.doesV_call (compareL_c rA xA rn xn rc xc rs xs w' ir.len ix.hd.len ir.max ix.hd.max ir.sl ix.hd.sl) (ev_call enKeyCompare rfl (by rw [hF]; kernel_rfl)) (by rw [hF]; kernel_rfl) (by rw [hF]; kernel_rfl)
    · exact Reg.doesV_val (ev_assign rfl) (by rw [hF]; kernel_rfl) (by rw [hF]; kernel_rfl)
  · intro w8 hB
    simp only [Reg.putAll, Act.put, List.setIfInBounds_toArray, List.set_cons_zero, List.set_cons_succ]
    have Hb := Lib.hid hB
    clear hB
    go_wp2
    go_ret
    exact ⟨rfl, Hb.out⟩

theorem asc_at {cs : List Ct} (ha : Asc (pl cs)) {i j : Nat} {x y : Ct} (hx : cs[i]? = some x) (hy : cs[j]? = some y) (hij : i < j) : cmpL x.h.xs y.h.xs = -1 := by
  obtain ⟨h1, e1⟩ := List.getElem?_eq_some_iff.1 (pl_at hx)
  obtain ⟨h2, e2⟩ := List.getElem?_eq_some_iff.1 (pl_at hy)
  have := List.pairwise_iff_getElem.1 ha i j h1 h2 hij
  rw [e1, e2] at this
  exact this
/-- Where the search has come to: what stands ahead of i is less, what stands from j on is not. -/
structure FindSt (rs : List Val) (cs : List Ct) (i j : Nat) : Prop where
  lo : ∀ t x, t < i → cs[t]? = some x → cmpL rs x.h.xs = 1
  hi : ∀ t x, j ≤ t → cs[t]? = some x → cmpL rs x.h.xs ≠ 1
theorem FindSt.up {rs : List Val} {cs : List Ct} {i j h : Nat} {x : Ct} (ha : Asc (pl cs)) (hF : FindSt rs cs i j) (hx : cs[h]? = some x) (hc : cmpL rs x.h.xs = 1) : FindSt rs cs (h + 1) j := by
  refine ⟨fun t y ht hy => ?_, hF.hi⟩
  by_cases e : t = h
  · subst e
    rw [hx] at hy
    cases hy
    exact hc
  · have h1 := asc_at ha hy hx (by omega)
    have h2 : cmpL x.h.xs rs = -1 := by rw [cmpL_neg rs x.h.xs, hc]
    have h3 := cmpL_trans h1 h2
    rw [cmpL_neg y.h.xs rs, h3]
    rfl
theorem FindSt.down {rs : List Val} {cs : List Ct} {i j h : Nat} {x : Ct} (ha : Asc (pl cs)) (hF : FindSt rs cs i j) (hx : cs[h]? = some x) (hc : cmpL rs x.h.xs ≠ 1) : FindSt rs cs i h := by
  refine ⟨hF.lo, fun t y ht hy => ?_⟩
  by_cases e : t = h
  · subst e
    rw [hx] at hy
    cases hy
    exact hc
  · have h1 := asc_at ha hx hy (by omega)
    intro hq
    have h2 : cmpL y.h.xs rs = -1 := by rw [cmpL_neg rs y.h.xs, hq]
    have h3 := cmpL_trans h1 h2
    rw [cmpL_neg x.h.xs rs, h3] at hc
    exact hc rfl
/-- What the search says. -/
structure FindSaid (rs : List Val) (cs : List Ct) (i : Nat) (f : Bool) : Prop where
  yes : f = true → ∃ x, cs[i]? = some x ∧ cmpL rs x.h.xs = 0
  no : f = false → ∀ x ∈ cs, cmpL rs x.h.xs ≠ 0
structure FindEnd (w : World) (rs : List Val) (cs : List Ct) (i : Nat) (f : Bool) (w' : World) : Prop where
  below : Below w.heap.size w w'
  said : FindSaid rs cs i f
theorem FindSt.out {rs : List Val} {cs : List Ct} {i : Nat} {x : Ct} (ha : Asc (pl cs)) (hF : FindSt rs cs i i) (hx : cs[i]? = some x) : FindSaid rs cs i (cmpL rs x.h.xs == 0) := by
  refine ⟨fun h => ⟨x, hx, eq_of_beq h⟩, fun h y hy hq => ?_⟩
  obtain ⟨t, ht, e⟩ := List.getElem_of_mem hy
  have hy2 : cs[t]? = some y := by rw [List.getElem?_eq_getElem ht, e]
  rcases Nat.lt_trichotomy t i with h1 | h1 | h1
  · have := hF.lo t y h1 hy2
    rw [hq] at this
    cases this
  · subst h1
    rw [hx] at hy2
    cases hy2
    rw [hq] at h
    cases h
  · have h2 := asc_at ha hx hy2 h1
    have e2 := cmpL_iff.1 hq
    have h3 : cmpL rs x.h.xs = 1 := by rw [e2, cmpL_neg x.h.xs y.h.xs, h2]; rfl
    exact hF.hi i x (Nat.le_refl _) hx h3
theorem FindSt.end {rs : List Val} {cs : List Ct} {i : Nat} (hF : FindSt rs cs i i) (hi : cs.length ≤ i) : FindSaid rs cs i false := by
  refine ⟨nofun, fun _ y hy hq => ?_⟩
  obtain ⟨t, ht, e⟩ := List.getElem_of_mem hy
  have := hF.lo t y (by omega) (by rw [List.getElem?_eq_getElem ht, e])
  rw [hq] at this
  cases this
set_option maxHeartbeats 4000000 in
theorem find_c (p q : Nat) (r : Hd) (A : Option Addr) (n c : Nat) (cs : List Ct) (w : World) (hC : Cap w p q r A n c cs) (ha : Asc (pl cs)) (hn : n ≤ 4611686018427387903) :
    Calls Tryz.prog 31 #[.int .i64 n, .func (.func 32) #[] #[.pointer (some ⟨p, 0, none⟩), .pointer (some ⟨q, 0, none⟩)]] w fun e w' => ∃ (i : Nat) (f : Bool), e = .returned (.tuple #[.int .i64 i, .bool f]) ∧ FindEnd w r.xs cs i f w' := by
  have HC := Lib.hid hC
  have Ha := Lib.hid ha
  have Hlen := Lib.hid hC.bin.len
  clear hC ha
  go_enter Tryz.func31, Tryz.ntmps31
  go_wp2_with fail
  go_loopw [4, 6] (fun a d wr => ∃ i j : Nat, i ≤ j ∧ j ≤ n ∧ a = .int .i64 i ∧ d = .int .i64 j ∧ Hid (Below w.heap.size w wr) ∧ Hid (FindSt r.xs cs i j)) (fun a d _ => (intOf d).toNat - (intOf a).toNat)
  case atStart => exact ⟨0, n, Nat.zero_le _, Nat.le_refl _, rfl, rfl, Lib.hid (Below.refl _ _), Lib.hid ⟨nofun, fun t x ht hx => by have := (List.getElem?_eq_some_iff.1 hx).1; rw [Hlen.out] at this; omega⟩⟩
  case round =>
    obtain ⟨i, j, hij, hjn, rfl, rfl, hb, hF⟩ := hrel
    by_cases hlt : i < j
    · obtain ⟨h, hh⟩ : ∃ h : Nat, h = (i + j) / 2 := ⟨_, rfl⟩
      have hlt' : (i : Int) < j := by omega
      have hhn : h < n := by omega
      obtain ⟨x, hx⟩ : ∃ x, cs[h]? = some x := ⟨_, List.getElem?_eq_getElem (by rw [Hlen.out]; exact hhn)⟩
      have HG := Lib.hid (get1_c p q h r A n c cs x wr (HC.out.after hb.out) hx)
      have Hx := Lib.hid hx
      have eh : ((i : Int) + j) / 2 = (h : Nat) := by omega
      have hih : i ≤ h := by omega
      have hhj : h < j := by omega
      clear hx hh
      go_wp2_with fail
      refine HG.out.mono ?_
      rintro e w1 ⟨rfl, hb1⟩
      have Hb1 := Lib.hid (below_via hb.out hb1)
      obtain ⟨C, hC⟩ : ∃ C, cmpL r.xs x.h.xs = C := ⟨_, rfl⟩
      rw [hC]
      have HCr : C = -1 ∨ C = 0 ∨ C = 1 := by rw [← hC]; exact cmpL_range _ _
      have HC2 := Lib.hid hC
      clear hC hb1 hb HG eh
      cases hc : decide (0 < C)
      · have Hne : Hid (FindSt r.xs cs i h) := Lib.hid (hF.out.down Ha.out Hx.out (by rw [HC2.out]; have := of_decide_eq_false hc; omega))
        clear hF HC2 HCr
        go_wp2_with fail
        go_roundw
        case rel => exact ⟨i, h, by omega, by omega, rfl, rfl, Hb1, Hne⟩
        case measure => simp [intOf]; omega
      · have Hne : Hid (FindSt r.xs cs (h + 1) j) := Lib.hid (hF.out.up Ha.out Hx.out (by rw [HC2.out]; have := of_decide_eq_true hc; omega))
        clear hF HC2 HCr
        go_wp2_with fail
        go_roundw
        case rel => exact ⟨h + 1, j, by omega, by omega, by go_num, rfl, Hb1, Hne⟩
        case measure => simp [intOf]; omega
    · obtain rfl : i = j := by omega
      have hlt' : ¬ (i : Int) < i := by omega
      by_cases hin : i < n
      · obtain ⟨x, hx⟩ : ∃ x, cs[i]? = some x := ⟨_, List.getElem?_eq_getElem (by rw [Hlen.out]; exact hin)⟩
        have HG := Lib.hid (get1_c p q i r A n c cs x wr (HC.out.after hb.out) hx)
        have HO := Lib.hid (hF.out.out Ha.out hx)
        have hin' : (i : Int) < n := by omega
        clear hx hF
        go_wp2_with fail
        refine HG.out.mono ?_
        rintro e w1 ⟨rfl, hb1⟩
        have Hb1 := Lib.hid (below_via hb.out hb1)
        obtain ⟨C, hC⟩ : ∃ C, cmpL r.xs x.h.xs = C := ⟨_, rfl⟩
        rw [hC] at HO ⊢
        clear hC hb1 hb HG
        go_wp2
        go_ret2
        exact ⟨i, C == 0, rfl, Hb1.out, HO.out⟩
      · have HO := Lib.hid (hF.out.end (by rw [Hlen.out]; omega))
        have hin' : ¬ (i : Int) < n := by omega
        clear hF
        go_wp2
        go_ret2
        first | exact ⟨i, .inl ⟨rfl, hb.out, HO.out⟩⟩ | exact .inl ⟨i, rfl, hb.out, HO.out⟩
theorem FindSaid.get {rs : List Val} {cs : List Ct} {i : Nat} {x : Ct} (ha : Asc (pl cs)) (hx : cs[i]? = some x) (hc : cmpL rs x.h.xs = 0) : lookB (pl cs) rs = x.N := by
  have e := cmpL_iff.1 hc
  rw [e]
  exact look_mem (pl cs) (x.h.xs, x.N) ha (List.mem_of_getElem? (pl_at hx))
theorem FindSaid.none {rs : List Val} {cs : List Ct} (h : ∀ x ∈ cs, cmpL rs x.h.xs ≠ 0) : lookB (pl cs) rs = 0 := by
  induction cs with
  | nil => rfl
  | cons x cs ih =>
    show (if cmpL x.h.xs rs = 0 then x.N else lookB (pl cs) rs) = 0
    rw [if_neg, ih fun y hy => h y (List.mem_cons_of_mem _ hy)]
    intro e
    refine h x (by simp) ?_
    rw [cmpL_neg x.h.xs rs, e]
    rfl
set_option maxHeartbeats 2000000 in
theorem get_c (A : Option Addr) (n c : Nat) (cs : List Ct) (r : Hd) (w : World) (hB : BgIn w A n cs) (hr : Hd.In w r) (hn : n ≤ 4611686018427387903) :
    Calls Tryz.prog 9 #[.slice A n c, .slice r.A r.n r.c] w fun e w' => e = .returned (.int .i64 (getB (pl cs) r.xs)) ∧ Below w.heap.size w w' := by
  obtain ⟨R, hR⟩ : ∃ R, getB (pl cs) r.xs = R := ⟨_, rfl⟩
  rw [hR]
  have HR := Lib.hid hR
  have Hb0 := Lib.hid (below_two w (.cells #[.slice A n c] 23) (.cells #[.slice r.A r.n r.c] 25))
  have HC : Hid (Cap ((w.alloc (.cells #[.slice A n c] 23)).alloc (.cells #[.slice r.A r.n r.c] 25)) (w.heap.size + 1) w.heap.size r A n c cs) := Lib.hid ⟨by simp, by simp, by simp, by simp; omega, hr.after Hb0.out, hB.after Hb0.out⟩
  have HM := Lib.hid (mayBag_c A n c cs _ HC.out.bin)
  clear hB hr hR
  go_enter Tryz.func9, Tryz.ntmps9
  go_wp2_with fail
  refine HM.out.mono ?_
  rintro e w1 ⟨rfl, hb1⟩
  have HC1 := Lib.hid (HC.out.after hb1)
  have Hb1 := Lib.hid (below_via Hb0.out hb1)
  have bb := HC1.out.bb
  have bl := HC1.out.bl
  clear hb1 HM HC Hb0
  cases hM : mayBag (pl cs)
  · have HR2 : Hid (0 = R) := Lib.hid (by rw [← HR.out]; unfold getB; rw [hM]; rfl)
    clear bb bl HR
    go_wp2
    go_ret
    exact ⟨congrArg (fun z => Ending.returned (Value.int .i64 z)) HR2.out, Hb1.out⟩
  · have Ha := Lib.hid (may_asc hM)
    have HR2 : Hid (lookB (pl cs) r.xs = R) := Lib.hid (by rw [← HR.out]; unfold getB; rw [hM]; rfl)
    have HFd := Lib.hid (find_c (w.heap.size + 1) w.heap.size r A n c cs w1 HC1.out Ha.out hn)
    clear HR
    go_wp2_with fail
    refine HFd.out.mono ?_
    rintro e w2 ⟨i, f, rfl, ⟨hb2, hS⟩⟩
    have Hb2 := Lib.hid (below_via Hb1.out hb2)
    have HC2 := Lib.hid (HC1.out.after hb2)
    have HS := Lib.hid hS
    clear hb2 hS bb bl HFd Hb1 HC1
    cases f
    · have HR3 : Hid (0 = R) := Lib.hid (by rw [← HR2.out]; exact (FindSaid.none (HS.out.no rfl)).symm)
      clear HR2
      go_wp2
      go_ret
      exact ⟨congrArg (fun z => Ending.returned (Value.int .i64 z)) HR3.out, Hb2.out⟩
    · obtain ⟨x, hx, hc⟩ := HS.out.yes rfl
      have HR3 : Hid (x.N = R) := Lib.hid (by rw [← HR2.out]; exact (FindSaid.get Ha.out hx hc).symm)
      have hin : i < n := by rw [← HC2.out.bin.len]; exact (List.getElem?_eq_some_iff.1 hx).1
      obtain ⟨b, off, rfl⟩ := HC2.out.bin.sl.some2 (k := i) (by rw [HC2.out.bin.len]; exact hin)
      obtain ⟨hblt, c0, c1⟩ := HC2.out.bin.sl.cell2 hx
      have bb := HC2.out.bb
      have hin' : (i : Int) < n := by omega
      clear HR2 hx hc c0 HC2
      go_wp2
      go_ret
      exact ⟨congrArg (fun z => Ending.returned (Value.int .i64 z)) HR3.out, Hb2.out⟩
end Go.Proofs.YthgoflaphbigbaaGreatDoor
/-
  A bag turned round, as the program has it: of at most 100000 rows. In new memory, or nothing.
-/
namespace Go.Proofs.YthgoflaphbigbaaGreatDoor
open Go Go.RowKit
set_option maxRecDepth 100000

theorem neg_take_succ {cs : List Ct} {k : Nat} {x : Ct} (hx : cs[k]? = some x) : negB (pl (cs.take (k + 1))) = negB (pl (cs.take k)) ++ [(x.h.xs, -x.N)] := by
  rw [pl_take_succ hx]
  unfold negB
  rw [List.map_append]
  rfl
set_option maxHeartbeats 4000000 in
theorem neg_c (A : Option Addr) (n c : Nat) (cs : List Ct) (w : World) (hB : BgIn w A n cs) (hn : n ≤ 100000) :
    Calls Tryz.prog 14 #[.slice A n c] w fun e w' => ∃ A' n' c' cs', e = .returned (.slice A' n' c') ∧ Below w.heap.size w w' ∧ BgIn w' A' n' cs' ∧ pl cs' = negR (pl cs) := by
  obtain ⟨cells, hcs, hmk⟩ := make_run cOk n (by omega) (by unfold maxLen; omega)
  have HB := Lib.hid hB
  have Hcs := Lib.hid hcs
  have HM := Lib.hid (mayBag_c A n c cs w hB)
  clear hB hcs
  go_enter Tryz.func14, Tryz.ntmps14
  go_wp2_with fail
  refine HM.out.mono ?_
  rintro e w1 ⟨rfl, hb1⟩
  have Hb1 := Lib.hid hb1
  clear hb1 HM
  cases hM : mayBag (pl cs)
  · have Hno : Hid (negR (pl cs) = []) := Lib.hid (by unfold negR; rw [hM]; rfl)
    clear hmk Hcs
    go_wp2
    go_ret
    exact ⟨none, 0, 0, [], rfl, Hb1.out, BgIn.none _, Hno.out.symm⟩
  · have Hyes : Hid (negR (pl cs) = negB (pl cs)) := Lib.hid (by unfold negR; rw [hM]; rfl)
    have HMy := Lib.hid hM
    clear hM
    go_wp2_with fail
    have Hmk : Hid (Mk (w1.alloc (.cells cells 36)) w1.heap.size 2 n rdC []) := Mk.new w1 cells _ (by rw [Hcs.out])
    have Hb2 : Hid (Below w.heap.size w (w1.alloc (.cells cells 36))) := Lib.hid (below_al Hb1.out _)
    have hg1 := Hb1.out.size
    clear hmk Hcs
    go_loopw [14] (fun i wr => ∃ (k : Nat) (ks : List Ct), k ≤ n ∧ i = .int .i64 k ∧ Hid (Below w.heap.size w wr) ∧ Hid (ks.length = k) ∧ Hid (Mk wr w1.heap.size 2 n rdC ks) ∧ Hid (pl ks = negB (pl (cs.take k))) ∧ Hid (∀ c ∈ ks, OutC wr w1.heap.size c)) (fun i _ => n - (intOf i).toNat)
    case atStart => exact ⟨0, [], Nat.zero_le _, rfl, Hb2, Lib.hid rfl, Hmk, Lib.hid rfl, Lib.hid nofun⟩
    case round =>
      obtain ⟨k, ks, hk, rfl, hb, hkl, hK, hpl, hO⟩ := hrel
      clear Hmk Hb2
      by_cases hlt : k < n
      · obtain ⟨b, off, x, rfl, hblt, hx, c0, c1⟩ := HB.out.sl.at2 (k := k) (by rw [HB.out.len]; exact hlt)
        have d0 := (hb.out.cell (p := ⟨b, off + k * 2, none⟩) hblt).trans c0
        have d1 := (hb.out.cell (p := ⟨b, off + k * 2 + 1, none⟩) hblt).trans c1
        have l0 : b < wr.heap.size := Nat.lt_of_lt_of_le hblt hb.out.size
        have hq := bd_may HMy.out _ (pl_mem (List.mem_of_getElem? hx))
        simp only [] at hq
        have hw : IntKind.i64.wrap (-x.N) = -x.N := by rw [IntKind.wrap_i64]; omega
        have Hq := Lib.hid hq
        have Hx := Lib.hid ((HB.out.each x (List.mem_of_getElem? hx)).after hb.out)
        have Hxl := Lib.hid (mayR_len (okC_parts (may_okC HMy.out _ (pl_mem (List.mem_of_getElem? hx)))).2.2.2)
        have Hnt := Lib.hid (neg_take_succ hx)
        have lgN := hK.out.lt
        have hkk : k * 2 + 1 < n * 2 := by omega
        have Hbw := Lib.hid (below_one wr (.cells #[.slice x.h.A x.h.n x.h.c, .int .i64 x.N] 36))
        have HF : Hid (∀ w', Below wr.heap.size wr w' → ∃ u0 u1, w'.cell? ⟨w1.heap.size, k * 2, none⟩ = some u0 ∧ w'.cell? ⟨w1.heap.size, k * 2 + 1, none⟩ = some u1 ∧ w'.frozen? ⟨w1.heap.size, k * 2, none⟩ = false ∧ w'.frozen? ⟨w1.heap.size, k * 2 + 1, none⟩ = false) := Lib.hid fun w' hb' => by
          have hK' := hK.out.after hb' hK.out.lt
          obtain ⟨u0, f0⟩ := hK'.all (k * 2) (by omega)
          obtain ⟨u1, f1⟩ := hK'.all (k * 2 + 1) (by omega)
          exact ⟨u0, u1, f0, f1, hK'.thaw _, hK'.thaw _⟩
        clear hx c0 c1 hq hblt
        obtain ⟨⟨xA, xn, xc, xs⟩, N⟩ := x
        simp only [] at d0 d1 hw
        have Hjn : Hid (joinR [(⟨xA, xn, xc, xs⟩ : Hd)] = xs) := Lib.hid (by simp [joinR])
        have g0 : (wr.alloc (.cells #[.slice xA xn xc, .int .i64 N] 36)).cell? ⟨wr.heap.size, 0, none⟩ = some (.slice xA xn xc) := by simp
        have g1 : (wr.alloc (.cells #[.slice xA xn xc, .int .i64 N] 36)).cell? ⟨wr.heap.size, 1, none⟩ = some (.int .i64 N) := by simp
        have G0 := Lib.hid g0
        have G1 := Lib.hid g1
        have lg8 : wr.heap.size < (wr.alloc (.cells #[.slice xA xn xc, .int .i64 N] 36)).heap.size := by simp
        obtain ⟨w8, hw8⟩ : ∃ w8, wr.alloc (.cells #[.slice xA xn xc, .int .i64 N] 36) = w8 := ⟨_, rfl⟩
        have Hw8 := Lib.hid hw8
        clear g0 g1
        go_wp2_with fail
        rw [Hw8.out] at G0 G1 lg8 Hbw
        clear hw8 Hw8 d0 d1
        obtain ⟨u0, u1, f0, f1, z0, z1⟩ := HF.out w8 Hbw.out
        have g0 := G0.out
        have g1 := G1.out
        have hlw8 : w1.heap.size < w8.heap.size := Nat.lt_trans lgN lg8
        have HS6 : Hid (∀ w', Below w8.heap.size w8 w' → w'.cell? ⟨wr.heap.size, 0, none⟩ = some (.slice xA xn xc) ∧ w'.cell? ⟨wr.heap.size, 1, none⟩ = some (.int .i64 N) ∧ w'.cell? ⟨w1.heap.size, k * 2, none⟩ = some u0 ∧ w'.cell? ⟨w1.heap.size, k * 2 + 1, none⟩ = some u1 ∧ w'.frozen? ⟨w1.heap.size, k * 2, none⟩ = false ∧ w'.frozen? ⟨w1.heap.size, k * 2 + 1, none⟩ = false) := Lib.hid fun w' hb' => ⟨(hb'.cell lg8).trans g0, (hb'.cell lg8).trans g1, (hb'.cell hlw8).trans f0, (hb'.cell hlw8).trans f1, (hb'.frozen hlw8).trans z0, (hb'.frozen hlw8).trans z1⟩
        clear f0 f1 z0 z1
        go_region_held3 (fun w' => w'.cell? ⟨wr.heap.size, 0, none⟩ = some (.slice xA xn xc) ∧ w'.cell? ⟨wr.heap.size, 1, none⟩ = some (.int .i64 N)) (first | exact HGC9.out | exact HGCs.out | go_keep)
          (first
            | (go_at_call 38
               have hbj := Lib.hid (((Below.refl w8.heap.size w8).alloc (Nat.le_refl _) (.cells #[.slice xA xn xc] 25)).drew)
               have hsj : Hid (SlG (w8.alloc (.cells #[.slice xA xn xc] 25)).drew (some ⟨w8.heap.size, 0, none⟩) 1 rdH [⟨xA, xn, xc, xs⟩]) := Lib.hid ((SlG.new hOk.len [⟨xA, xn, xc, xs⟩] rfl).after (Below.refl _ _).drew)
               refine (join_c (some ⟨w8.heap.size, 0, none⟩) 1 1 [⟨xA, xn, xc, xs⟩] (w8.alloc (.cells #[.slice xA xn xc] 25)).drew rfl (by unfold maxLen; omega) hsj.out (fun h' hh' => by rw [List.mem_singleton] at hh'; subst hh'; exact (Hx.out.after Hbw.out).hd.after hbj.out) (by rw [Hjn.out]; have := Hxl.out; exact Nat.le_trans this (by decide))).mono ?_
               rintro en w9 ⟨v9, rfl, hb9, hv9⟩
               rw [Hjn.out] at hv9
               obtain ⟨h9, rfl, hIn9, hxs9, hbl9, hnc9⟩ := hv9.hd
               have Hb89 := Lib.hid (below_via hbj.out hb9)
               have Hbr9 := Lib.hid (below_via Hbw.out Hb89.out)
               obtain ⟨q0, q1, f0, f1, z0, z1⟩ := HS6.out w9 Hb89.out
               have HGC9 := Lib.hid (And.intro q0 q1)
               have Hn9 := Lib.hid (NewC.of hIn9 hxs9 hbl9 Hx.out)
               obtain ⟨h9A, h9n, h9c, h9xs⟩ := h9
               have hne0 : (⟨w1.heap.size, k * 2, none⟩ : Addr).block ≠ wr.heap.size := Nat.ne_of_lt lgN
               have oth : ∀ (W : World) (j i : Nat) (v : Value), (W.setCell ⟨w1.heap.size, j, none⟩ v).cell? ⟨wr.heap.size, i, none⟩ = W.cell? ⟨wr.heap.size, i, none⟩ := fun W j i v => World.cell?_setCell_other _ _ _ _ (by intro e; simp only [Addr.mk.injEq] at e; exact hne0 e.1)
               have HGCs : Hid (((w9.setCell ⟨w1.heap.size, k * 2, none⟩ (.slice h9A h9n h9c)).setCell ⟨w1.heap.size, k * 2 + 1, none⟩ (.int .i64 (-N))).cell? ⟨wr.heap.size, 0, none⟩ = some (.slice xA xn xc) ∧ ((w9.setCell ⟨w1.heap.size, k * 2, none⟩ (.slice h9A h9n h9c)).setCell ⟨w1.heap.size, k * 2 + 1, none⟩ (.int .i64 (-N))).cell? ⟨wr.heap.size, 1, none⟩ = some (.int .i64 N)) := Lib.hid (And.intro ((oth _ _ _ _).trans ((oth _ _ _ _).trans q0)) ((oth _ _ _ _).trans ((oth _ _ _ _).trans q1)))
               dsimp only [Hd.v]
               clear oth hne0 q0 q1
               clear hv9 hIn9 hxs9 hbl9 hnc9 hb9 hbj hsj))
        have Hlen9 := Lib.hid (hK.out.after Hbr9.out hK.out.lt)
        have hset := Hlen9.out.set2 ⟨⟨h9A, h9n, h9c, h9xs⟩, -N⟩ (by rw [hkl.out]; exact hlt)
        rw [hkl.out] at hset
        have HK2 := Lib.hid hset
        have HF2 := Lib.hid (((below_via hb.out Hbr9.out).setCell (p := ⟨w1.heap.size, k * 2, none⟩) hg1 (.slice h9A h9n h9c)).setCell (p := ⟨w1.heap.size, k * 2 + 1, none⟩) hg1 (.int .i64 (-N)))
        have Hkl2 : Hid ((ks ++ [(⟨⟨h9A, h9n, h9c, h9xs⟩, -N⟩ : Ct)]).length = k + 1) := Lib.hid (by rw [List.length_append, hkl.out]; rfl)
        have Hpl2 : Hid (pl (ks ++ [⟨⟨h9A, h9n, h9c, h9xs⟩, -N⟩]) = negB (pl (cs.take (k + 1)))) := Lib.hid (by
          rw [pl_app, pl_one, hpl.out, Hnt.out]
          have e : h9xs = xs := Hn9.out.eq
          simp only [e])
        have Hnew : Hid (OutC w9 w1.heap.size ⟨⟨h9A, h9n, h9c, h9xs⟩, -N⟩) := Lib.hid (by
          have hct := Hn9.out.ct
          have hqq := Hq.out
          refine ⟨⟨hct.hd, hct.sz, hct.n64, by simp only []; omega⟩, ?_⟩
          rcases hct.hd.sl with h0 | ⟨b', off', hA, hlt', _⟩
          · exact .inl h0
          · refine .inr ⟨b', off', hA, ?_, hlt'⟩
            have h2 := (Hn9.out.lt b' off' hA).1
            simp at h2
            omega)
        have HO2 : Hid (∀ c ∈ ks ++ [(⟨⟨h9A, h9n, h9c, h9xs⟩, -N⟩ : Ct)], OutC ((w9.setCell ⟨w1.heap.size, k * 2, none⟩ (.slice h9A h9n h9c)).setCell ⟨w1.heap.size, k * 2 + 1, none⟩ (.int .i64 (-N))) w1.heap.size c) := Lib.hid fun c hc => by
          rcases List.mem_append.1 hc with hc | hc
          · exact (((hO.out c hc).after Hbr9.out).set _ _).set _ _
          · rw [List.mem_singleton] at hc
            subst hc
            exact (Hnew.out.set _ _).set _ _
        clear Hlen9 hset hb hkl hK hpl hO Hnew Hn9 HGC9 HGCs HS6 Hbr9 Hb89
        go_wp2
        go_roundw
        case rel => exact ⟨k + 1, ks ++ [⟨⟨h9A, h9n, h9c, h9xs⟩, -N⟩], by omega, by go_num, HF2, Hkl2, HK2, Hpl2, HO2⟩
        case measure => simp [intOf]; omega
      · obtain rfl : k = n := by omega
        have Ht : Hid (cs.take k = cs) := Lib.hid (List.take_of_length_le (by rw [HB.out.len]; exact Nat.le_refl _))
        have HF : Hid (BgIn wr (some ⟨w1.heap.size, 0, none⟩) k ks ∧ pl ks = negR (pl cs)) := Lib.hid ⟨⟨hkl.out, by unfold maxLen; omega, hK.out.slG, fun c hc => (hO.out c hc).1⟩, by rw [hpl.out, Ht.out, Hyes.out]⟩
        clear hkl hK hpl hO Ht
        go_wp2
        go_ret
        exact ⟨_, _, _, ks, rfl, hb.out, HF.out.1, HF.out.2⟩
end Go.Proofs.YthgoflaphbigbaaGreatDoor
/-
  The rows of a bag, each as often as its count says, as the program has it: of at most 100000 counts. In new memory, or nothing.
-/
namespace Go.Proofs.YthgoflaphbigbaaGreatDoor
open Go Go.RowKit
set_option maxRecDepth 100000

set_option maxHeartbeats 2000000 in
theorem listable_c (A : Option Addr) (n c : Nat) (cs : List Ct) (w : World) (hB : BgIn w A n cs) (hn : n ≤ 100000) (hbd : Bd 1000000000 (pl cs)) :
    Calls Tryz.prog 44 #[.slice A n c] w fun e w' => e = .returned (.bool (okFrom 0 (pl cs))) ∧ Below w.heap.size w w' := by
  obtain ⟨R, hR⟩ : ∃ R, okFrom 0 (pl cs) = R := ⟨_, rfl⟩
  rw [hR]
  have HR := Lib.hid hR
  have HB := Lib.hid hB
  have Hbd := Lib.hid hbd
  clear hB hR hbd
  go_enter Tryz.func44, Tryz.ntmps44
  go_wp2_with fail
  go_loopw [3, 8] (fun v i wr => ∃ (k : Nat) (s : Int), k ≤ n ∧ i = .int .i64 k ∧ v = .int .i64 s ∧ 0 ≤ s ∧ s ≤ k * 1000000000 ∧ Hid (Below w.heap.size w wr) ∧ Hid (okFrom s ((pl cs).drop k) = R)) (fun _ i _ => n - (intOf i).toNat)
  case atStart => exact ⟨0, 0, Nat.zero_le _, rfl, rfl, by decide, by decide, Lib.hid (Below.refl _ _), HR⟩
  case round =>
    obtain ⟨k, s, hk, rfl, rfl, hs0, hs1, hb, hinv⟩ := hrel
    clear HR
    by_cases hlt : k < n
    · obtain ⟨b, off, rfl⟩ := HB.out.sl.some2 (k := k) (by rw [HB.out.len]; exact hlt)
      obtain ⟨x, hx⟩ : ∃ x, cs[k]? = some x := ⟨_, List.getElem?_eq_getElem (by rw [HB.out.len]; exact hlt)⟩
      obtain ⟨hblt, c0, c1⟩ := HB.out.sl.cell2 hx
      have d0 := (hb.out.cell (p := ⟨b, off + k * 2, none⟩) hblt).trans c0
      have d1 := (hb.out.cell (p := ⟨b, off + k * 2 + 1, none⟩) hblt).trans c1
      have l0 : b < wr.heap.size := Nat.lt_of_lt_of_le hblt hb.out.size
      have hst := hinv.out
      rw [pl_drop hx] at hst
      have Hst := Lib.hid hst
      have hq : -1000000000 ≤ x.N ∧ x.N ≤ 1000000000 := Hbd.out _ (pl_mem (List.mem_of_getElem? hx))
      clear hinv c0 c1 hx hst
      obtain ⟨⟨xA, xn, xc, xs⟩, N⟩ := x
      simp only [] at d0 d1 hq
      have hgo : (k : Int) < n := by omega
      by_cases hN : N < 0
      · have Hst2 : Hid (false = R) := Lib.hid (by rw [← Hst.out]; exact (okFrom_neg s _ _ hN).symm)
        have Hb1 := Lib.hid (below_al hb.out (.cells #[.slice xA xn xc, .int .i64 N] 36))
        clear Hst hb
        go_wp2
        go_ret
        exact ⟨congrArg (fun z => Ending.returned (Value.bool z)) Hst2.out, Hb1.out⟩
      · have Hst2 : Hid (okFrom (s + N) ((pl cs).drop (k + 1)) = R) := Lib.hid (by rw [← Hst.out]; exact (okFrom_step s (xs, N) _ (show (0 : Int) ≤ N by omega)).symm)
        have Hb1 := Lib.hid (below_al hb.out (.cells #[.slice xA xn xc, .int .i64 N] 36))
        have hw : IntKind.i64.wrap (s + N) = s + N := by rw [IntKind.wrap_i64]; omega
        clear Hst hb
        go_wp2_with fail
        go_roundw
        case rel => exact ⟨k + 1, s + N, by omega, by go_num, rfl, by omega, by push_cast; omega, Hb1, Hst2⟩
        case measure => simp [intOf]; omega
    · obtain rfl : k = n := by omega
      have Hst' : Hid (decide (s ≤ 100000) = R) := by
        have := hinv.out
        rw [show (pl cs).drop k = [] from List.drop_eq_nil_of_le (by rw [pl_len, HB.out.len]; omega)] at this
        rw [← this]
        unfold okFrom totN
        exact Lib.hid (by simp)
      clear hinv
      go_wp2
      go_ret
      exact ⟨congrArg (fun z => Ending.returned (Value.bool z)) Hst'.out, hb.out⟩
/-- What Rows answers: the rows, and whether there are any. -/
structure RowsSaidP (w : World) (cs : List Ct) (R : Bool) (v : Value) (w' : World) : Prop where
  said : ∃ A' n' c' hs, v = .slice A' n' c' ∧ hs.length = n' ∧ n' ≤ 100000 ∧ SlG w' A' 1 rdH hs ∧ (∀ h ∈ hs, Ct.In w' ⟨h, 1⟩) ∧ hs.map (·.xs) = (if R then rowsB (pl cs) else [])
  below : Below w.heap.size w w'
theorem RowsSaidP.no {w w' : World} {cs : List Ct} (h : Below w.heap.size w w') : RowsSaidP w cs false (.slice none 0 0) w' := ⟨⟨none, 0, 0, [], rfl, rfl, Nat.zero_le _, .inl rfl, nofun, rfl⟩, h⟩
theorem OwnG.plainH {w : World} {B m c : Nat} {E : TypeId} {A : Option Addr} {ol : List Hd} (h : OwnG w B E 1 rdH (.slice A m c) ol) : ∀ g o t, A = some ⟨g, o, t⟩ → t = none := by
  intro g o t hA
  rcases h.2 with ⟨hv, _⟩ | ⟨g', cap, cur, hv, _⟩
  · injection hv with e
    rw [hA] at e
    cases e
  · injection hv with e
    rw [hA] at e
    cases e
    rfl
theorem rowsB_take {cs : List Ct} {k : Nat} {x : Ct} (hx : cs[k]? = some x) : rowsB (pl (cs.take (k + 1))) = rowsB (pl (cs.take k)) ++ List.replicate x.N.toNat x.h.xs := by
  rw [pl_take_succ hx]
  unfold rowsB
  rw [List.flatMap_append]
  simp
theorem rowsB_len (cs : List Ct) (h : okFrom 0 (pl cs) = true) (k : Nat) : (rowsB (pl (cs.take k))).length ≤ 100000 := by
  unfold okFrom at h
  rw [Bool.and_eq_true, decide_eq_true_eq, Int.zero_add] at h
  have h1 := rowsC_len cs h.1
  have h2 := rowsC_le cs k
  rw [← rowsC_xs, List.length_map]
  omega
/-- Rows under way: those that are there, apart from the slice that holds them; and a box that stays. -/
structure RowSt (w wr : World) (A' : Option Addr) (m c' : Nat) (hs : List Hd) : Prop where
  len : hs.length = m
  below : Below w.heap.size w wr
  own : OwnG wr w.heap.size 25 1 rdH (.slice A' m c') hs
  apart : ApartC wr A' (hs.map oneC)
structure BoxSt (wr : World) (g0 : Nat) (A' : Option Addr) (m c' : Nat) (x : Ct) : Prop where
  b0 : wr.cell? ⟨g0, 0, none⟩ = some (.slice x.h.A x.h.n x.h.c)
  b1 : wr.cell? ⟨g0, 1, none⟩ = some (.int .i64 x.N)
  lt : g0 < wr.heap.size
  ne : ∀ k, (Value.slice A' m c').ownBlock = some k → k ≠ g0
theorem BoxSt.after {w w' : World} {g0 m c' : Nat} {A' : Option Addr} {x : Ct} (h : BoxSt w g0 A' m c' x) (hb : Below w.heap.size w w') : BoxSt w' g0 A' m c' x :=
  ⟨(hb.cell (p := ⟨g0, 0, none⟩) h.lt).trans h.b0, (hb.cell (p := ⟨g0, 1, none⟩) h.lt).trans h.b1, Nat.lt_of_lt_of_le h.lt hb.size, h.ne⟩
theorem RowSt.after {w wr w' : World} {A' : Option Addr} {m c' : Nat} {hs : List Hd} (h : RowSt w wr A' m c' hs) (hb : Below wr.heap.size wr w') : RowSt w w' A' m c' hs :=
  ⟨h.len, below_via h.below hb, h.own.after hb, h.apart.after hb⟩
set_option maxHeartbeats 8000000 in
theorem rows_c (A : Option Addr) (n c : Nat) (cs : List Ct) (w : World) (hB : BgIn w A n cs) (hn : n ≤ 100000) :
    Calls Tryz.prog 18 #[.slice A n c] w fun e w' => ∃ v, e = .returned (.tuple #[v, .bool (rowsOkB (pl cs))]) ∧ RowsSaidP w cs (rowsOkB (pl cs)) v w' := by
  obtain ⟨R, hR⟩ : ∃ R, rowsOkB (pl cs) = R := ⟨_, rfl⟩
  rw [hR]
  have HR := Lib.hid hR
  have HB := Lib.hid hB
  have HM := Lib.hid (mayBag_c A n c cs w hB)
  clear hB hR
  go_enter Tryz.func18, Tryz.ntmps18
  go_wp2_with fail
  refine HM.out.mono ?_
  rintro e w1 ⟨rfl, hb1⟩
  have Hb1 := Lib.hid hb1
  clear hb1 HM
  cases hM : mayBag (pl cs)
  · obtain rfl : R = false := by rw [← HR.out]; unfold rowsOkB; rw [hM, Bool.and_false]
    clear HR
    go_wp2
    go_ret2
    exact ⟨_, rfl, RowsSaidP.no Hb1.out⟩
  · have HMy := Lib.hid hM
    have HL := Lib.hid (listable_c A n c cs w1 (HB.out.after Hb1.out) hn (bd_may hM))
    clear hM
    go_wp2_with fail
    refine HL.out.mono ?_
    rintro e w2 ⟨rfl, hb2⟩
    have Hb2 := Lib.hid (below_via Hb1.out hb2)
    clear hb2 HL Hb1
    cases hO : okFrom 0 (pl cs)
    · obtain rfl : R = false := by rw [← HR.out]; unfold rowsOkB; rw [hO, Bool.false_and]
      clear HR
      go_wp2
      go_ret2
      exact ⟨_, rfl, RowsSaidP.no Hb2.out⟩
    · obtain rfl : R = true := by rw [← HR.out]; unfold rowsOkB; rw [hO, HMy.out]; rfl
      have HOk := Lib.hid hO
      clear HR hO
      go_wp2_with fail
      go_loopw [4, 17] (fun v i wr => ∃ (k m : Nat) (A' : Option Addr) (c' : Nat) (hs : List Hd), k ≤ n ∧ i = .int .i64 k ∧ v = .slice A' m c' ∧ Hid (RowSt w wr A' m c' hs) ∧ Hid (hs.map (·.xs) = rowsB (pl (cs.take k)))) (fun _ i _ => n - (intOf i).toNat)
      case atStart => exact ⟨0, 0, none, 0, [], Nat.zero_le _, rfl, rfl, Lib.hid ⟨rfl, Hb2.out, OwnG.nil _ _ _, ApartC.nil _ _⟩, Lib.hid rfl⟩
      case round =>
        obtain ⟨k, m, A', c', hs, hk, rfl, rfl, hS, hX⟩ := hrel
        obtain ⟨W, hW⟩ : ∃ W, W = wr := ⟨wr, rfl⟩
        subst hW
        by_cases hlt : k < n
        · obtain ⟨b, off, rfl⟩ := HB.out.sl.some2 (k := k) (by rw [HB.out.len]; exact hlt)
          obtain ⟨x, hx⟩ : ∃ x, cs[k]? = some x := ⟨_, List.getElem?_eq_getElem (by rw [HB.out.len]; exact hlt)⟩
          obtain ⟨hblt, c0, c1⟩ := HB.out.sl.cell2 hx
          have d0 := (hS.out.below.cell (p := ⟨b, off + k * 2, none⟩) hblt).trans c0
          have d1 := (hS.out.below.cell (p := ⟨b, off + k * 2 + 1, none⟩) hblt).trans c1
          have l0 : b < W.heap.size := Nat.lt_of_lt_of_le hblt hS.out.below.size
          have Hxi := Lib.hid (HB.out.each x (List.mem_of_getElem? hx))
          have Hxl := Lib.hid (mayR_len (okC_parts (may_okC HMy.out _ (pl_mem (List.mem_of_getElem? hx)))).2.2.2)
          have hNN : 0 ≤ x.N ∧ x.N ≤ 100000 := by
            have h1 := HOk.out
            unfold okFrom at h1
            rw [Bool.and_eq_true, decide_eq_true_eq, Int.zero_add] at h1
            exact nn_le _ h1.1 h1.2 _ (pl_mem (List.mem_of_getElem? hx))
          have Hrt := Lib.hid (rowsB_take hx)
          have Hrl := Lib.hid (rowsB_len cs HOk.out (k + 1))
          clear c0 c1 hx hblt
          obtain ⟨⟨xA, xn, xc, xs⟩, N⟩ := x
          simp only [] at d0 d1 hNN
          obtain ⟨M, rfl⟩ : ∃ M : Nat, N = M := ⟨N.toNat, by omega⟩
          have hM5 : M ≤ 100000 := by omega
          clear hNN
          have hgo : (k : Int) < n := by omega
          have HBx : Hid (BoxSt (W.alloc (.cells #[.slice xA xn xc, .int .i64 M] 36)) W.heap.size A' m c' ⟨⟨xA, xn, xc, xs⟩, M⟩) := Lib.hid ⟨by simp, by simp, by simp, fun q hq => by have := (hS.out.own.lt q hq).2; omega⟩
          have HSx := Lib.hid (hS.out.after (below_one W (.cells #[.slice xA xn xc, .int .i64 M] 36)))
          clear hS
          go_wp2_with fail
          go_loopw [4, 23] (fun v q w3 => ∃ (j m : Nat) (A' : Option Addr) (c' : Nat) (hs : List Hd), j ≤ M ∧ q = .int .i64 j ∧ v = .slice A' m c' ∧ Hid (RowSt w w3 A' m c' hs) ∧ Hid (BoxSt w3 W.heap.size A' m c' ⟨⟨xA, xn, xc, xs⟩, M⟩) ∧ Hid (hs.map (·.xs) = rowsB (pl (cs.take k)) ++ List.replicate j xs)) (fun _ q _ => M - (intOf q).toNat)
          case atStart => exact ⟨0, m, A', c', hs, Nat.zero_le _, rfl, rfl, HSx, HBx, Lib.hid (by rw [hX.out]; simp)⟩
          case round =>
            obtain ⟨j, m, A', c', hs, hj, rfl, rfl, hS, hBx, hX⟩ := hrel
            clear HSx HBx
            by_cases hltj : j < M
            · have b0 := hBx.out.b0
              have b1 := hBx.out.b1
              have lb := hBx.out.lt
              simp only [] at b0 b1
              have Hjn : Hid (joinR [(⟨xA, xn, xc, xs⟩ : Hd)] = xs) := Lib.hid (by simp [joinR])
              have Hml : Hid (hs.length + 1 ≤ 100000) := Lib.hid (by
                have h1 := congrArg List.length hX.out
                rw [List.length_map, List.length_append, List.length_replicate] at h1
                have h2 := Hrl.out
                rw [Hrt.out, List.length_append, List.length_replicate] at h2
                simp only [Int.toNat_natCast] at h2
                omega)
              have hgj : (j : Int) < M := by omega
              go_wp2_with fail
              refine (join_c (some ⟨wr.heap.size, 0, none⟩) 1 1 [⟨xA, xn, xc, xs⟩] _ rfl (by unfold maxLen; omega) (SlG.new hOk.len [⟨xA, xn, xc, xs⟩] rfl) (fun h' hh' => by rw [List.mem_singleton] at hh'; subst hh'; exact (Hxi.out.after (below_via hS.out.below (below_one _ _))).hd) (by rw [Hjn.out]; have := Hxl.out; exact Nat.le_trans this (by decide))).mono ?_
              rintro en w9 ⟨v9, rfl, hb9, hv9⟩
              rw [Hjn.out] at hv9
              obtain ⟨h9, rfl, hIn9, hxs9, hbl9, hnc9⟩ := hv9.hd
              have Hbr9 := Lib.hid (below_via (below_one wr (.cells #[.slice xA xn xc] 25)) hb9)
              have HS9 := Lib.hid (hS.out.after Hbr9.out)
              have HB9 := Lib.hid (hBx.out.after Hbr9.out)
              have Hn9 : Hid (Ct.In w9 ⟨h9, 1⟩ ∧ h9.xs = xs ∧ ∀ b off, h9.A = some ⟨b, off, none⟩ → (Value.slice A' m c').ownBlock ≠ some b ∧ b < w9.heap.size) := Lib.hid ⟨⟨hIn9, by rw [hxs9]; exact Hxi.out.sz, by rw [hxs9]; exact Hxi.out.n64, by simp⟩, hxs9, fun b' off' hb' => ⟨fun e => by have h1 := (hS.out.own.lt b' e).2; have h2 := (hbl9 b' off' hb').1; simp at h2; omega, (hbl9 b' off' hb').2⟩⟩
              obtain ⟨h9A, h9n, h9c, h9xs⟩ := h9
              dsimp only [Hd.v]
              have hlw9 : w.heap.size ≤ w9.heap.size := HS9.out.below.size
              clear hv9 hIn9 hxs9 hbl9 hnc9 hb9 hS hBx b0 b1
              go_wp2_with (at_builtin; go_must (refine wpList_appL hOk rfl (.tmp 25) (.tmp 30) rfl w.heap.size _ hs [⟨h9A, h9n, h9c, h9xs⟩] (some ⟨w9.heap.size, 0, none⟩) 1 1 rfl (HS9.out.own.alloc _) rfl rfl (SlG.new hOk.len [⟨h9A, h9n, h9c, h9xs⟩] rfl) (by have := Hml.out; simp [maxLen]; omega) (by have := Hml.out; simp; omega) (by simp; omega) ?_; intro v2 w2' hv2 hg2 hloc2; obtain ⟨A2, c2, rfl⟩ := hv2.isSlice; have HX := Lib.hid (below_one w9 (.cells #[.slice h9A h9n h9c] 25)); have Hv2 := Lib.hid hv2; have Hg2 := Lib.hid hg2; have Hl2 := Lib.hid hloc2; clear hv2 hg2 hloc2))
              have hm1 : (hs ++ [(⟨h9A, h9n, h9c, h9xs⟩ : Hd)]).length = m + 1 := by rw [List.length_append, HS9.out.len]; rfl
              have HS2 : Hid (RowSt w w2' A2 (m + 1) c2 (hs ++ [⟨h9A, h9n, h9c, h9xs⟩])) := Lib.hid ⟨hm1, (below_al HS9.out.below (.cells #[.slice h9A h9n h9c] 25)).grown Hg2.out (by simp; omega) (fun q hq => (HS9.out.own.lt q hq).1), by have := Hv2.out; rw [hm1] at this; exact this, by
                rw [List.map_append]
                exact HS9.out.apart.app HX.out Hg2.out Hl2.out Hn9.out.1 Hn9.out.2.2 HS9.out.own.plainH⟩
              have HB2 : Hid (BoxSt w2' W.heap.size A2 (m + 1) c2 ⟨⟨xA, xn, xc, xs⟩, M⟩) := Lib.hid (by
                have h9b := HB9.out
                have hne : some W.heap.size ≠ (Value.slice A' m c').ownBlock := fun e => h9b.ne _ e.symm rfl
                have hbk : w2'.heap[W.heap.size]? = w9.heap[W.heap.size]? := (Hg2.out.block _ (Nat.lt_of_lt_of_le h9b.lt HX.out.size) hne).trans (HX.out.block _ h9b.lt)
                refine ⟨?_, ?_, Nat.lt_of_lt_of_le h9b.lt (Nat.le_trans HX.out.size Hg2.out.size), fun q hq => ?_⟩
                · rw [← h9b.b0]; simp only [World.cell?, hbk]
                · rw [← h9b.b1]; simp only [World.cell?, hbk]
                · rcases Hl2.out with e | e
                  · exact h9b.ne q (e.symm.trans (by rw [hm1]; exact hq))
                  · have e2 : (Value.slice A2 (m + 1) c2).ownBlock = some q := hq
                    have e3 : (Value.slice A2 (m + 1) c2).ownBlock = (Value.slice A2 (hs ++ [(⟨h9A, h9n, h9c, h9xs⟩ : Hd)]).length c2).ownBlock := by rw [hm1]
                    rw [e3, e] at e2
                    injection e2 with e2
                    have := h9b.lt
                    simp at e2
                    omega)
              have HX2 : Hid ((hs ++ [(⟨h9A, h9n, h9c, h9xs⟩ : Hd)]).map (·.xs) = rowsB (pl (cs.take k)) ++ List.replicate (j + 1) xs) := Lib.hid (by
                rw [List.map_append, hX.out, List.replicate_succ', List.append_assoc]
                have e : h9xs = xs := Hn9.out.2.1
                simp only [List.map_cons, List.map_nil, e])
              rw [HS9.out.len]
              clear HS9 HB9 Hn9 HX Hv2 Hg2 Hl2 hX hm1 hlw9 Hbr9
              go_roundw
              case rel => exact ⟨j + 1, m + 1, A2, c2, hs ++ [⟨h9A, h9n, h9c, h9xs⟩], by omega, by go_num, rfl, HS2, HB2, HX2⟩
              case measure => simp [intOf]; omega
            · obtain rfl : j = M := by omega
              have HX2 : Hid (hs.map (·.xs) = rowsB (pl (cs.take (k + 1)))) := Lib.hid (by rw [hX.out, Hrt.out]; simp)
              have hgj : ¬ (j : Int) < j := by omega
              clear hX hBx
              go_wp2_with fail
              go_roundw
              case rel => exact ⟨k + 1, m, A', c', hs, by omega, by go_num, rfl, hS, HX2⟩
              case measure => simp [intOf]; omega
        · obtain rfl : k = n := by omega
          have Ht : Hid (cs.take k = cs) := Lib.hid (List.take_of_length_le (by rw [HB.out.len]; exact Nat.le_refl _))
          have HF : Hid (RowsSaidP w cs true (.slice A' m c') W) := Lib.hid (by
            obtain ⟨A2, c2, e2, _, _, hs2⟩ := hS.out.own.sl hOk.len
            injection e2 with e2
            subst e2
            refine ⟨⟨A', m, c', hs, rfl, hS.out.len, ?_, hs2, fun h hh => (hS.out.apart (oneC h) (List.mem_map.2 ⟨h, hh, rfl⟩)).1, by rw [hX.out, Ht.out]; rfl⟩, hS.out.below⟩
            have h1 := congrArg List.length hX.out
            rw [List.length_map, hS.out.len] at h1
            rw [h1]
            exact rowsB_len cs HOk.out k)
          clear hX hS Ht
          go_wp2
          go_ret2
          exact ⟨_, rfl, HF.out⟩
end Go.Proofs.YthgoflaphbigbaaGreatDoor
