/-
  BagTexts, walked: unlike bags that may be have unlike texts. Of all bags.
-/
import Derived.Test.YthgoflaphbigbaaDoorSameP5
namespace Go.Proofs.YthgoflaphbigbaaDoor
open Go Go.RowKit
set_option maxRecDepth 100000

theorem small_parts {b : Bg} (h : smallB b = true) : b.length ≤ 60 ∧ ∀ x ∈ b, x.1.length ≤ 40 ∧ ∀ v ∈ x.1, v.s.size ≤ 1000 := by
  unfold smallB at h
  rw [Bool.and_eq_true, decide_eq_true_eq, List.all_eq_true] at h
  refine ⟨h.2, fun x hx => ?_⟩
  have h2 := h.1 x hx
  unfold shortB at h2
  rw [Bool.and_eq_true, decide_eq_true_eq, List.all_eq_true] at h2
  exact ⟨h2.2, fun v hv => of_decide_eq_true (h2.1 v hv)⟩
theorem small_short {b : Bg} (h : smallB b = true) : ∀ x ∈ b, x.1.length ≤ 200 ∧ ∀ v ∈ x.1, v.s.size ≤ 2000 := fun x hx => by
  have h1 := (small_parts h).2 x hx
  exact ⟨by omega, fun v hv => by have := h1.2 v hv; omega⟩
theorem texts_same (a b : Bg) (ha : mayBag a = true) (hb : mayBag b = true) : decide (bagTR a = bagTR b) = sameB a b := by
  have e : (bagTR a = bagTR b) ↔ a = b := by
    unfold bagTR
    rw [if_pos ha, if_pos hb]
    exact ⟨fun h => bagT_inj a b (may_rowsOk ha) (may_rowsOk hb) h, fun h => by rw [h]⟩
  cases h : sameB a b
  · refine decide_eq_false fun h2 => ?_
    rw [(sameB_iff a b).2 (e.1 h2)] at h
    cases h
  · exact decide_eq_true (e.2 ((sameB_iff a b).1 h))
theorem bytes_eq (a b : List UInt8) : ((⟨a.toArray⟩ : ByteArray).toList == (⟨b.toArray⟩ : ByteArray).toList) = decide (a = b) := by
  by_cases h : a = b
  · subst h
    simp
  · rw [decide_eq_false h, beq_eq_false_iff_ne]
    intro e
    have e2 := toList_inj e
    injection e2 with e3
    exact h (by simpa using congrArg Array.toList e3)
set_option maxHeartbeats 8000000 in
theorem bagTexts_w (A B : Option Addr) (n m c d : Nat) (ax bx : List Ct) (w : World) (hA : BgIn w A n ax) (hB : BgIn w B m bx) (hG : Gl w) :
    Calls Tryd.prog 6 #[.slice A n c, .slice B m d] w fun e w' => e = .returned (.bool true) ∧ Below w.heap.size w w' := by
  have HA := Lib.hid hA
  have HB := Lib.hid hB
  have HG := Lib.hid hG
  clear hA hB hG
  go_enter Tryd.func6, Tryd.ntmps6
  go_wp2_with fail
  refine (fixed_c w HG.out).mono ?_
  rintro e w1 ⟨rfl, hb⟩
  have Sw1 := Lib.hid (hb)
  clear hb
  go_wp2_with fail
  refine (smallB_c A n c ax w1 (HA.out.after Sw1.out)).mono ?_
  rintro e w2 ⟨rfl, hb⟩
  have Sw2 := Lib.hid (hb)
  clear hb
  cases hsa : smallB (pl ax)
  · go_wp2_with fail
    refine (fixed_c w2 (HG.out.after (below_via Sw1.out Sw2.out))).mono ?_
    rintro e w3 ⟨rfl, hb⟩
    have Sw3 := Lib.hid (hb)
    clear hb
    have HF := Lib.hid (below_via (below_via Sw1.out Sw2.out) Sw3.out)
    clear Sw1 Sw2 Sw3
    go_wp2
    go_ret
    exact ⟨rfl, HF.out⟩
  · have Hhsa := Lib.hid hsa
    clear hsa
    go_wp2_with fail
    refine (smallB_c B m d bx w2 (HB.out.after (below_via Sw1.out Sw2.out))).mono ?_
    rintro e w3 ⟨rfl, hb⟩
    have Sw3 := Lib.hid (hb)
    clear hb
    cases hsb : smallB (pl bx)
    · go_wp2_with fail
      refine (fixed_c w3 (HG.out.after (below_via (below_via Sw1.out Sw2.out) Sw3.out))).mono ?_
      rintro e w4 ⟨rfl, hb⟩
      have Sw4 := Lib.hid (hb)
      clear hb
      have HF := Lib.hid (below_via (below_via (below_via Sw1.out Sw2.out) Sw3.out) Sw4.out)
      clear Sw1 Sw2 Sw3 Sw4
      go_wp2
      go_ret
      exact ⟨rfl, HF.out⟩
    · have Hhsb := Lib.hid hsb
      clear hsb
      go_wp2_with fail
      refine (rmayBag_c A n c ax w3 (HA.out.after (below_via (below_via Sw1.out Sw2.out) Sw3.out))).mono ?_
      rintro e w4 ⟨rfl, hb⟩
      have Sw4 := Lib.hid (hb)
      clear hb
      cases hma : mayBag (pl ax)
      · go_wp2_with fail
        refine (fixed_c w4 (HG.out.after (below_via (below_via (below_via Sw1.out Sw2.out) Sw3.out) Sw4.out))).mono ?_
        rintro e w5 ⟨rfl, hb⟩
        have Sw5 := Lib.hid (hb)
        clear hb
        have HF := Lib.hid (below_via (below_via (below_via (below_via Sw1.out Sw2.out) Sw3.out) Sw4.out) Sw5.out)
        clear Sw1 Sw2 Sw3 Sw4 Sw5
        go_wp2
        go_ret
        exact ⟨rfl, HF.out⟩
      · have Hhma := Lib.hid hma
        clear hma
        go_wp2_with fail
        refine (rmayBag_c B m d bx w4 (HB.out.after (below_via (below_via (below_via Sw1.out Sw2.out) Sw3.out) Sw4.out))).mono ?_
        rintro e w5 ⟨rfl, hb⟩
        have Sw5 := Lib.hid (hb)
        clear hb
        cases hmb : mayBag (pl bx)
        · go_wp2_with fail
          refine (fixed_c w5 (HG.out.after (below_via (below_via (below_via (below_via Sw1.out Sw2.out) Sw3.out) Sw4.out) Sw5.out))).mono ?_
          rintro e w6 ⟨rfl, hb⟩
          have Sw6 := Lib.hid (hb)
          clear hb
          have HF := Lib.hid (below_via (below_via (below_via (below_via (below_via Sw1.out Sw2.out) Sw3.out) Sw4.out) Sw5.out) Sw6.out)
          clear Sw1 Sw2 Sw3 Sw4 Sw5 Sw6
          go_wp2
          go_ret
          exact ⟨rfl, HF.out⟩
        · have Hhmb := Lib.hid hmb
          clear hmb
          have hna : n ≤ 60 := by have := (small_parts Hhsa.out).1; rw [pl_len, HA.out.len] at this; exact this
          have hnb : m ≤ 60 := by have := (small_parts Hhsb.out).1; rw [pl_len, HB.out.len] at this; exact this
          go_wp2_with fail
          refine (textB_c A n c ax w5 (HA.out.after (below_via (below_via (below_via (below_via Sw1.out Sw2.out) Sw3.out) Sw4.out) Sw5.out)) (by omega) (short_of_pl HA.out rfl (small_short Hhsa.out)) (HG.out.after (below_via (below_via (below_via (below_via Sw1.out Sw2.out) Sw3.out) Sw4.out) Sw5.out))).mono ?_
          rintro e w6 ⟨rfl, hb⟩
          have Sw6 := Lib.hid (hb)
          clear hb
          obtain ⟨X, hX⟩ : ∃ X : ByteArray, ⟨(bagTR (pl ax)).toArray⟩ = X := ⟨_, rfl⟩
          have HX := Lib.hid hX
          rw [hX]
          clear hX
          go_wp2_with fail
          refine (textB_c B m d bx w6 (HB.out.after (below_via (below_via (below_via (below_via (below_via Sw1.out Sw2.out) Sw3.out) Sw4.out) Sw5.out) Sw6.out)) (by omega) (short_of_pl HB.out rfl (small_short Hhsb.out)) (HG.out.after (below_via (below_via (below_via (below_via (below_via Sw1.out Sw2.out) Sw3.out) Sw4.out) Sw5.out) Sw6.out))).mono ?_
          rintro e w7 ⟨rfl, hb⟩
          have Sw7 := Lib.hid (hb)
          clear hb
          obtain ⟨Y, hY⟩ : ∃ Y : ByteArray, ⟨(bagTR (pl bx)).toArray⟩ = Y := ⟨_, rfl⟩
          have HY := Lib.hid hY
          rw [hY]
          clear hY
          go_wp2_with fail
          refine (sameB_c A B n m c d ax bx w7 (HA.out.after (below_via (below_via (below_via (below_via (below_via (below_via Sw1.out Sw2.out) Sw3.out) Sw4.out) Sw5.out) Sw6.out) Sw7.out)) (HB.out.after (below_via (below_via (below_via (below_via (below_via (below_via Sw1.out Sw2.out) Sw3.out) Sw4.out) Sw5.out) Sw6.out) Sw7.out))).mono ?_
          rintro e w8 ⟨rfl, hb⟩
          have Sw8 := Lib.hid (hb)
          clear hb
          have hXY : (X.toList == Y.toList) = sameB (pl ax) (pl bx) := by rw [← HX.out, ← HY.out, bytes_eq, texts_same _ _ Hhma.out Hhmb.out]
          obtain ⟨Z, hZ⟩ : ∃ Z, sameB (pl ax) (pl bx) = Z := ⟨_, rfl⟩
          rw [hZ] at hXY ⊢
          have HF := Lib.hid (below_via (below_via (below_via (below_via (below_via (below_via (below_via Sw1.out Sw2.out) Sw3.out) Sw4.out) Sw5.out) Sw6.out) Sw7.out) Sw8.out)
          clear hZ Sw1 Sw2 Sw3 Sw4 Sw5 Sw6 Sw7 Sw8
          cases Z
          all_goals
            go_wp2
            go_ret
            exact ⟨rfl, HF.out⟩
end Go.Proofs.YthgoflaphbigbaaDoor
