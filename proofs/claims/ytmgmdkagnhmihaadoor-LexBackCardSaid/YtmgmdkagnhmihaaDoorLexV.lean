/-
  The calls whose answers the document fixes: no condition.
-/
import Derived.Test.YtmgmdkagnhmihaaDoorLexU
namespace Go.Proofs.YtmgmdkagnhmihaaDoor
open Go Go.RowKit
set_option maxRecDepth 100000

theorem rint_c (n : Int) (w : World) : Calls Tryd.prog 15 #[.int .i64 n] w fun e w' => e = .returned (iv n).v ∧ Below w.heap.size w w' := by
  go_enter Tryd.func15, Tryd.ntmps15
  go_wp2
  exact bodyPost_ret (v := (iv n).v) (by simp [results, Tryd.results15, go_sem, iv]) rfl ⟨rfl, below_one _ _⟩
/-- The tokens of the first text. -/
def fixT : List Tk := [wrdT [97], sgnT [40], intT (-1), sgnT [41]]
theorem fix_lex : lexO [97, 40, 45, 49, 41] = some fixT := by kernel_rfl
theorem fix_bad : lexO [48, 49] = none := by kernel_rfl
theorem fix_prt : prtO fixT = [97, 32, 40, 32, 45, 49, 32, 41] := by kernel_rfl
theorem fix_may : mayT (wrdT [97]) = true := by kernel_rfl
theorem fix_zero : mayT tk0 = false := by kernel_rfl
theorem fix_lexL : lexL [97, 40, 45, 49, 41] = some fixT := by kernel_rfl
/-- Tokens that may be are short. -/
theorem may_bounds (t : Tk) (hm : mayT t = true) : t.t.size ≤ maxLen ∧ t.v.s.size ≤ maxLen := by
  by_cases hk : (t.k == 1) = true
  · obtain ⟨h1, h2⟩ := may_size t hm hk
    refine ⟨by rw [h2]; exact Nat.zero_le _, by unfold maxLen; omega⟩
  · obtain ⟨k, s, v⟩ := t
    have e : s.size = s.data.toList.length := rfl
    simp only at *
    unfold mayT at hm
    simp only at hm
    have hk2 : (k == 1) = false := by simpa using hk
    rw [hk2] at hm
    split at hm
    · simp only [Bool.and_eq_true, Val.eq_iff] at hm
      have hw := hm.1
      rw [hm.2]
      unfold wordB at hw
      split at hw
      · cases hw
      · rename_i c r e2
        simp only [Bool.and_eq_true, decide_eq_true_eq] at hw
        rw [e, e2]
        exact ⟨by unfold maxLen; omega, Nat.zero_le _⟩
    · simp only [Bool.false_eq_true, if_false] at hm
      split at hm
      · simp only [Bool.and_eq_true, Val.eq_iff] at hm
        have hw := hm.1
        rw [hm.2]
        unfold signB at hw
        split at hw
        · rename_i c e2
          rw [e, e2]
          exact ⟨by unfold maxLen; simp, Nat.zero_le _⟩
        · cases hw
      · cases hm
theorem lex_facts {s : List UInt8} {a : List Tk} (h : lexL s = some a) : (∀ t ∈ a, mayT t = true) ∧ (∀ t ∈ a, T64 t) ∧ (∀ t ∈ a, t.t.size ≤ maxLen ∧ t.v.s.size ≤ maxLen) := by
  have hm := lex_may s.length s a (Nat.le_refl _) h
  exact ⟨fun t ht => (hm t ht).1, fun t ht => (hm t ht).2, fun t ht => may_bounds t (hm t ht).1⟩
set_option maxHeartbeats 1000000 in
theorem fixed_c (w : World) (hG : GL w) : Calls Tryd.prog 7 #[] w fun e w' => e = .returned (.bool true) ∧ Below w.heap.size w w' := by
  have HG := Lib.hid hG
  clear hG
  go_enter Tryd.func7, Tryd.ntmps7
  go_wp2_with fail
  refine (lex_c [97, 40, 45, 49, 41] w (by decide) HG.out).mono ?_
  rintro e w1 ⟨v, n, rfl, hL, hb1⟩
  rw [fix_lex] at hL
  obtain ⟨rfl, hown, _⟩ := hL
  obtain ⟨A, c, rfl, hc, hm, hs⟩ := hown.sl tOk.len
  have e4 : fixT.length = 4 := rfl
  rw [e4] at hc ⊢
  have HS1 := Lib.hid hs
  have HB1 := Lib.hid hb1
  clear hown hs hb1
  go_wp2_with fail
  refine (lex_c [48, 49] w1 (by decide) (HG.out.after HB1.out)).mono ?_
  rintro e w2 ⟨v, n, rfl, hL, hb2⟩
  rw [fix_bad] at hL
  obtain ⟨rfl, rfl⟩ := hL
  have HS2 := Lib.hid (HS1.out.after hb2)
  have HB2 := Lib.hid (below_via HB1.out hb2)
  clear hb2 HS1 HB1
  go_wp2_with fail
  refine (rint_c (-1) w2).mono ?_
  rintro e w3 ⟨rfl, hb3⟩
  have HS3 := Lib.hid (HS2.out.after hb3)
  have HB3 := Lib.hid (below_via HB2.out hb3)
  clear hb3 HS2 HB2
  go_wp2_with fail
  refine (tsame_c A (some ⟨w3.heap.size, 0, none⟩) 4 4 c 4 fixT fixT _ rfl rfl (by decide) (by decide) (HS3.out.alloc _) (SlG.new tOk.len fixT rfl)).mono ?_
  rintro e w4 ⟨rfl, hb4⟩
  rw [decide_eq_true (rfl : fixT = fixT)]
  have HS4 := Lib.hid ((HS3.out.alloc _).after hb4)
  have HB4 := Lib.hid (below_via (below_al HB3.out _) hb4)
  clear hb4 HS3 HB3
  go_wp2_with fail
  refine (print_c A 4 c fixT w4 rfl (by decide) HS4.out (lex_facts fix_lexL).2.1 (lex_facts fix_lexL).2.2 (HG.out.after HB4.out)).mono ?_
  rintro e w5 ⟨rfl, hb5⟩
  rw [fix_prt]
  have HS5 := Lib.hid (HS4.out.after hb5)
  have HB5 := Lib.hid (below_via HB4.out hb5)
  clear hb5 HS4 HB4
  obtain ⟨b, off, x, rfl, hblt, hx, c0, c1, c2, c3, c4⟩ := HS5.out.at5 (k := 0) (by decide)
  have hx2 : wrdT [97] = x := by simpa [fixT] using hx
  subst hx2
  simp only [Nat.zero_mul, Nat.add_zero] at c0 c1 c2 c3 c4
  have Hm := Lib.hid (tmay_c (wrdT [97]) w5 (by decide) (by decide))
  rw [fix_may] at Hm
  clear hx HS5
  go_wp2_with fail
  refine Hm.out.mono ?_
  rintro e w6 ⟨rfl, hb6⟩
  have HB6 := Lib.hid (below_via HB5.out hb6)
  have Hz := Lib.hid (tmay_c tk0 w6 (by decide) (by decide))
  rw [fix_zero] at Hz
  clear hb6 HB5 c0 c1 c2 c3 c4 hblt Hm
  go_wp2_with fail
  refine Hz.out.mono ?_
  rintro e w7 ⟨rfl, hb7⟩
  have HB7 := Lib.hid (below_via HB6.out hb7)
  clear hb7 HB6 Hz
  go_wp2
  go_ret
  exact ⟨rfl, HB7.out⟩
end Go.Proofs.YtmgmdkagnhmihaaDoor
