/-
  Values picked of a row by numbers of columns, of every row and all numbers.
-/
import Derived.Test.YtbhliihmipbfjaaDoorRMay
namespace Go.Proofs.YtbhliihmipbfjaaDoor
open Go Go.RowKit
set_option maxRecDepth 100000

/-- The values of these columns; none: one of them is not there. -/
def pickR (xs : List Val) : List Int → Option (List Val)
  | [] => some []
  | c :: cs => if 0 ≤ c ∧ c < xs.length then (match xs[c.toNat]? with | some x => (pickR xs cs).map (x :: ·) | none => none) else none
/-- What Pick answers. -/
def pickOk (xs : List Val) (cs : List Int) (h : Hd) (ok : Bool) : Prop := match pickR xs cs with | some l => ok = true ∧ h.xs = l | none => ok = false ∧ h.xs = []
theorem pickR_drop (xs : List Val) (cs : List Int) (k : Nat) (c : Int) (hc : cs[k]? = some c) : pickR xs (cs.drop k) = if 0 ≤ c ∧ c < xs.length then (match xs[c.toNat]? with | some x => (pickR xs (cs.drop (k + 1))).map (x :: ·) | none => none) else none := by
  have h1 := List.drop_eq_getElem_cons (List.getElem?_eq_some_iff.1 hc).1
  rw [(List.getElem?_eq_some_iff.1 hc).2] at h1
  rw [h1, pickR]
set_option maxHeartbeats 1000000 in
theorem pick_c (A B : Option Addr) (n c m d : Nat) (xs : List Val) (cs : List Int) (w : World) (hn : xs.length = n) (_hn1 : n ≤ maxLen) (hs : Sl w A xs) (hm : cs.length = m) (hm1 : m ≤ 1000) (hk : SlG w B 1 rdI cs) :
    Calls Tryd.prog 15 #[.slice A n c, .slice B m d] w fun en w' => ∃ (h : Hd) (ok : Bool), en = .returned (.tuple #[h.v, .bool ok]) ∧ Below w.heap.size w w' ∧ Hd.In w' h ∧ pickOk xs cs h ok := by
  unfold maxLen at _hn1
  obtain ⟨cells, hcs, hmk⟩ := make_run vOk m (by omega) (by unfold maxLen; omega)
  have Hs := Lib.hid hs
  have Hn := Lib.hid hn
  have Hm := Lib.hid hm
  have Hk := Lib.hid hk
  have Hcs := Lib.hid hcs
  clear hs hn hm hk hcs
  go_enter Tryd.func15, Tryd.ntmps15
  go_wp2_with fail
  have Hmk : Hid (Mk (w.alloc (.cells cells 45)) w.heap.size 3 m rdV []) := Mk.new w cells _ Hcs.out
  have Hb1 : Hid (Below w.heap.size w (w.alloc (.cells cells 45))) := below_one _ _
  clear hmk Hcs
  go_loopw [14] (fun i wr => ∃ k : Nat, k ≤ m ∧ i = .int .i64 k ∧ Hid (Below w.heap.size w wr) ∧ ∃ l : List Val, Hid (l.length = k ∧ Mk wr w.heap.size 3 m rdV l ∧ pickR xs cs = (pickR xs (cs.drop k)).map (l ++ ·))) (fun i _ => m - (intOf i).toNat)
  case atStart => exact ⟨0, Nat.zero_le _, rfl, Hb1, [], ⟨rfl, Hmk.out, by simp⟩⟩
  case round =>
    obtain ⟨k, hk, rfl, hb, l, hl⟩ := hrel
    clear Hmk Hb1
    by_cases hlt : k < m
    · obtain ⟨b, off, y, rfl, hblt, hy, c0⟩ := Hk.out.at1 (by rw [Hm.out]; exact hlt)
      have d0 := (hb.out.cell (p := ⟨b, off + k, none⟩) hblt).trans (c0 _ rfl)
      have l0 : b < wr.heap.size := Nat.lt_of_lt_of_le hblt hb.out.size
      have hst := pickR_drop xs cs k y hy
      rw [Hn.out] at hst
      have Hst := Lib.hid hst
      clear hst hy c0 hblt
      by_cases hin : 0 ≤ y ∧ y < n
      · obtain ⟨j, rfl⟩ : ∃ j : Nat, y = j := ⟨y.toNat, by omega⟩
        have hj : j < n := by omega
        obtain ⟨b2, off2, x, rfl, hblt2, hx, e0, e1, e2⟩ := Hs.out.at3 (by rw [Hn.out]; exact hj)
        have d1 := (hb.out.cell (p := ⟨b2, off2 + j * 3, none⟩) hblt2).trans e0
        have d2 := (hb.out.cell (p := ⟨b2, off2 + j * 3 + 1, none⟩) hblt2).trans e1
        have d3 := (hb.out.cell (p := ⟨b2, off2 + j * 3 + 2, none⟩) hblt2).trans e2
        obtain ⟨u0, f0⟩ := hl.out.2.1.all (k * 3) (by omega)
        obtain ⟨u1, f1⟩ := hl.out.2.1.all (k * 3 + 1) (by omega)
        obtain ⟨u2, f2⟩ := hl.out.2.1.all (k * 3 + 2) (by omega)
        have z0 := hl.out.2.1.thaw (k * 3)
        have z1 := hl.out.2.1.thaw (k * 3 + 1)
        have z2 := hl.out.2.1.thaw (k * 3 + 2)
        have hne : w.heap.size ≠ b2 := by omega
        have Hx := Lib.hid hx
        clear e0 e1 e2 hx hin
        go_wp2_with fail
        go_roundw
        case rel =>
          refine ⟨k + 1, by omega, by go_num, ?_, l ++ [x], ?_⟩
          · exact Lib.hid (((hb.out.setCell (Nat.le_refl _) _).setCell (Nat.le_refl _) _).setCell (Nat.le_refl _) _)
          · have := hl.out.2.1.set3 x (by rw [hl.out.1]; exact hlt)
            rw [hl.out.1] at this
            refine Lib.hid ⟨by rw [List.length_append, hl.out.1]; rfl, this, ?_⟩
            rw [hl.out.2.2, Hst.out, if_pos ⟨by omega, by omega⟩, Int.toNat_natCast, Hx.out]
            simp [Function.comp_def]
        case measure => simp [intOf]; omega
      · have hnone : Hid (pickR xs cs = none) := by
          have h2 := Hst.out
          rw [if_neg hin] at h2
          have h3 := hl.out.2.2
          rw [h2] at h3
          exact h3
        clear Hst
        rcases Int.lt_or_le y 0 with hy0 | hy0
        · go_wp2_with fail
          go_ret2
          refine ⟨⟨none, 0, 0, []⟩, false, rfl, hb.out, ⟨rfl, Nat.zero_le _, .inl rfl⟩, ?_⟩
          unfold pickOk
          rw [hnone.out]
          exact ⟨rfl, rfl⟩
        · have hy1 : (n : Int) ≤ y := by omega
          clear hin
          go_wp2_with fail
          go_ret2
          refine ⟨⟨none, 0, 0, []⟩, false, rfl, hb.out, ⟨rfl, Nat.zero_le _, .inl rfl⟩, ?_⟩
          unfold pickOk
          rw [hnone.out]
          exact ⟨rfl, rfl⟩
    · obtain rfl : k = m := by omega
      go_wp2_with fail
      go_ret2
      refine ⟨⟨some ⟨w.heap.size, 0, none⟩, k, k, l⟩, true, rfl, hb.out, ⟨hl.out.1, by unfold maxLen; show k ≤ _; omega, hl.out.2.1.slG.sl⟩, ?_⟩
      unfold pickOk
      have h3 := hl.out.2.2
      rw [show cs.drop k = [] from List.drop_eq_nil_of_le (by rw [Hm.out]; omega), pickR] at h3
      rw [h3]
      simp
end Go.Proofs.YtbhliihmipbfjaaDoor
