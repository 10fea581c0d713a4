/-
  BagSums, walked: bags together are the same in any order, and any grouping; each row is there as often as in all; with one that is turned round it comes to what there was without. Of all bags.
-/
import Derived.Test.YthgoflaphbigbaaGreatDoorSmallZ5
import Derived.Test.YthgoflaphbigbaaGreatDoorLow5
namespace Go.Proofs.YthgoflaphbigbaaGreatDoor
open Go Go.RowKit
set_option maxRecDepth 100000

theorem plus_ok (l : List Bg) (hl : ∀ b ∈ l, mayBag b = true) (hs : ∀ s, -1000000000 ≤ sumL l s ∧ sumL l s ≤ 1000000000) : plusR l = plusL l ∧ mayBag (plusL l) = true := ⟨plusR_of hl (may_plus l hl hs), may_plus l hl hs⟩
/-- What is said of three bags together. -/
structure Sums (a b c : Bg) : Prop where
  may : mayBag (plusR [a, b, c]) = true
  rot : plusR [c, a, b] = plusR [a, b, c]
  grp : plusR [plusR [a, b], c] = plusR [a, b, c]
  neg : plusR [plusR [a, b, c], negR b] = plusR [a, c]
  get : ∀ s, getB (plusR [a, b, c]) s = getB a s + getB b s + getB c s
  ra : ∀ s, -1000000 ≤ getB a s ∧ getB a s ≤ 1000000
  rb : ∀ s, -1000000 ≤ getB b s ∧ getB b s ≤ 1000000
  rc : ∀ s, -1000000 ≤ getB c s ∧ getB c s ≤ 1000000
theorem sums_of {a b c : Bg} (ha : lowB a = true) (hb : lowB b = true) (hc : lowB c = true) : Sums a b c := by
  obtain ⟨ba, _, ma⟩ := low_parts ha
  obtain ⟨bb, _, mb⟩ := low_parts hb
  obtain ⟨bc, _, mc⟩ := low_parts hc
  have la := fun s => look_low 1000000 (by decide) a s ba
  have lb := fun s => look_low 1000000 (by decide) b s bb
  have lc := fun s => look_low 1000000 (by decide) c s bc
  have sa := fun s => sum_look a s (may_asc ma)
  have sb := fun s => sum_look b s (may_asc mb)
  have sc := fun s => sum_look c s (may_asc mc)
  have mnb : mayBag (negB b) = true := may_neg mb
  have enb : negR b = negB b := by unfold negR; rw [if_pos mb]
  have snb : ∀ s, sumB (negB b) s = -lookB b s := fun s => by rw [sum_neg, sb]
  have m3 : ∀ x y z : Bg, mayBag x = true → mayBag y = true → mayBag z = true → ∀ q ∈ [x, y, z], mayBag q = true := fun x y z h1 h2 h3 q hq => by
    simp only [List.mem_cons, List.not_mem_nil, or_false] at hq
    rcases hq with rfl | rfl | rfl
    · exact h1
    · exact h2
    · exact h3
  have m2 : ∀ x y : Bg, mayBag x = true → mayBag y = true → ∀ q ∈ [x, y], mayBag q = true := fun x y h1 h2 q hq => by
    simp only [List.mem_cons, List.not_mem_nil, or_false] at hq
    rcases hq with rfl | rfl
    · exact h1
    · exact h2
  have e1 : ∀ s, sumL [a, b, c] s = lookB a s + lookB b s + lookB c s := fun s => by simp only [sumL, sa, sb, sc]; omega
  have p1 := plus_ok [a, b, c] (m3 a b c ma mb mc) fun s => by rw [e1]; have := la s; have := lb s; have := lc s; omega
  have e2 : ∀ s, sumL [c, a, b] s = lookB a s + lookB b s + lookB c s := fun s => by simp only [sumL, sa, sb, sc]; omega
  have p2 := plus_ok [c, a, b] (m3 c a b mc ma mb) fun s => by rw [e2]; have := la s; have := lb s; have := lc s; omega
  have e3 : ∀ s, sumL [a, b] s = lookB a s + lookB b s := fun s => by simp only [sumL, sa, sb]; omega
  have p3 := plus_ok [a, b] (m2 a b ma mb) fun s => by rw [e3]; have := la s; have := lb s; omega
  have e4 : ∀ s, sumL [plusL [a, b], c] s = lookB a s + lookB b s + lookB c s := fun s => by
    show sumB (plusL [a, b]) s + (sumB c s + 0) = _
    rw [sum_plus, e3, sc]; omega
  have p4 := plus_ok [plusL [a, b], c] (m2 _ c p3.2 mc) fun s => by rw [e4]; have := la s; have := lb s; have := lc s; omega
  have e5 : ∀ s, sumL [a, c] s = lookB a s + lookB c s := fun s => by simp only [sumL, sa, sc]; omega
  have p5 := plus_ok [a, c] (m2 a c ma mc) fun s => by rw [e5]; have := la s; have := lc s; omega
  have e6 : ∀ s, sumL [plusL [a, b, c], negB b] s = lookB a s + lookB c s := fun s => by
    show sumB (plusL [a, b, c]) s + (sumB (negB b) s + 0) = _
    rw [sum_plus, e1, snb]; omega
  have p6 := plus_ok [plusL [a, b, c], negB b] (m2 _ _ p1.2 mnb) fun s => by rw [e6]; have := la s; have := lc s; omega
  have ga : ∀ s, getB a s = lookB a s := fun s => by unfold getB; rw [if_pos ma]
  have gb : ∀ s, getB b s = lookB b s := fun s => by unfold getB; rw [if_pos mb]
  have gc : ∀ s, getB c s = lookB c s := fun s => by unfold getB; rw [if_pos mc]
  refine ⟨by rw [p1.1]; exact p1.2, ?_, ?_, ?_, fun s => ?_, fun s => by rw [ga]; exact la s, fun s => by rw [gb]; exact lb s, fun s => by rw [gc]; exact lc s⟩
  · rw [p1.1, p2.1]
    exact plus_ext fun s => by rw [e1, e2]
  · rw [p3.1, p1.1, p4.1]
    exact plus_ext fun s => by rw [e1, e4]
  · rw [p1.1, enb, p6.1, p5.1]
    exact plus_ext fun s => by rw [e5, e6]
  · rw [p1.1, ga, gb, gc]
    unfold getB
    rw [if_pos p1.2, look_plus, e1]
theorem low_len {b : Bg} (h : lowB b = true) : b.length ≤ 60 := (small_parts (low_parts h).2.1).1
set_option maxHeartbeats 16000000 in
theorem bagSums_w (A B C : Option Addr) (n m q c d f : Nat) (ax bx cx : List Ct) (w : World) (hA : BgIn w A n ax) (hB : BgIn w B m bx) (hC : BgIn w C q cx) (hG : Gl w) :
    Calls Tryz.prog 4 #[.slice A n c, .slice B m d, .slice C q f] w fun e w' => e = .returned (.bool true) ∧ Below w.heap.size w w' := by
  have HA := Lib.hid hA
  have HB := Lib.hid hB
  have HC := Lib.hid hC
  have HG := Lib.hid hG
  clear hA hB hC hG
  go_enter Tryz.func4, Tryz.ntmps4
  go_wp2_with fail
  refine (fixed_c w HG.out).mono ?_
  rintro e w1 ⟨rfl, hb⟩
  have Sw1 := Lib.hid (hb)
  clear hb
  go_wp2_with fail
  refine (low_c A n c ax w1 (HA.out.after Sw1.out)).mono ?_
  rintro e w2 ⟨rfl, hb⟩
  have Sw2 := Lib.hid (hb)
  clear hb
  cases hla : lowB (pl ax)
  · go_wp2_with fail
    refine (fixed_c w2 (HG.out.after (below_via Sw1.out Sw2.out))).mono ?_
    rintro e w3 ⟨rfl, hb⟩
    have Sw3 := Lib.hid (hb)
    clear hb
    have HF := Lib.hid (below_via (below_via Sw1.out Sw2.out) Sw3.out)
    clear Sw1 Sw2 Sw3
    go_wp2
    go_ret
    exact ⟨rfl, HF.out⟩
  · have Hhla := Lib.hid hla
    clear hla
    go_wp2_with fail
    refine (low_c B m d bx w2 (HB.out.after (below_via Sw1.out Sw2.out))).mono ?_
    rintro e w3 ⟨rfl, hb⟩
    have Sw3 := Lib.hid (hb)
    clear hb
    cases hlb : lowB (pl bx)
    · go_wp2_with fail
      refine (fixed_c w3 (HG.out.after (below_via (below_via Sw1.out Sw2.out) Sw3.out))).mono ?_
      rintro e w4 ⟨rfl, hb⟩
      have Sw4 := Lib.hid (hb)
      clear hb
      have HF := Lib.hid (below_via (below_via (below_via Sw1.out Sw2.out) Sw3.out) Sw4.out)
      clear Sw1 Sw2 Sw3 Sw4
      go_wp2
      go_ret
      exact ⟨rfl, HF.out⟩
    · have Hhlb := Lib.hid hlb
      clear hlb
      go_wp2_with fail
      refine (low_c C q f cx w3 (HC.out.after (below_via (below_via Sw1.out Sw2.out) Sw3.out))).mono ?_
      rintro e w4 ⟨rfl, hb⟩
      have Sw4 := Lib.hid (hb)
      clear hb
      cases hlc : lowB (pl cx)
      · go_wp2_with fail
        refine (fixed_c w4 (HG.out.after (below_via (below_via (below_via Sw1.out Sw2.out) Sw3.out) Sw4.out))).mono ?_
        rintro e w5 ⟨rfl, hb⟩
        have Sw5 := Lib.hid (hb)
        clear hb
        have HF := Lib.hid (below_via (below_via (below_via (below_via Sw1.out Sw2.out) Sw3.out) Sw4.out) Sw5.out)
        clear Sw1 Sw2 Sw3 Sw4 Sw5
        go_wp2
        go_ret
        exact ⟨rfl, HF.out⟩
      · have Hhlc := Lib.hid hlc
        clear hlc
        have hna : n ≤ 60 := by have := low_len Hhla.out; rw [pl_len, HA.out.len] at this; exact this
        have hnb : m ≤ 60 := by have := low_len Hhlb.out; rw [pl_len, HB.out.len] at this; exact this
        have hnc : q ≤ 60 := by have := low_len Hhlc.out; rw [pl_len, HC.out.len] at this; exact this
        have SS := Lib.hid (sums_of Hhla.out Hhlb.out Hhlc.out)
        go_wp2_with fail
        have hal := plus_c (some ⟨w4.heap.size, 0, none⟩) 3 3 [⟨A, n, c, ax⟩, ⟨B, m, d, bx⟩, ⟨C, q, f, cx⟩] (w4.alloc (.cells #[.slice A n c, .slice B m d, .slice C q f] 23)) rfl (by omega) (SlG.new bOkL.len [⟨A, n, c, ax⟩, ⟨B, m, d, bx⟩, ⟨C, q, f, cx⟩] rfl) (fun h hh => by simp only [List.mem_cons, List.not_mem_nil, or_false] at hh; rcases hh with rfl | rfl | rfl; exact HA.out.after (below_via (below_via (below_via (below_via Sw1.out Sw2.out) Sw3.out) Sw4.out) (below_one _ _)); exact HB.out.after (below_via (below_via (below_via (below_via Sw1.out Sw2.out) Sw3.out) Sw4.out) (below_one _ _)); exact HC.out.after (below_via (below_via (below_via (below_via Sw1.out Sw2.out) Sw3.out) Sw4.out) (below_one _ _))) (by show n + (m + (q + 0)) ≤ 100000; omega)
        simp only [List.map_cons, List.map_nil] at hal
        have Hal := Lib.hid hal
        clear hal
        refine (Hal.out).mono ?_
        rintro e w5 ⟨Aal, nal, cal, oal, rfl, hb, hBal, hpal⟩
        have Sw5 := Lib.hid ((below_via (below_one _ _) hb))
        have Bal := Lib.hid hBal
        have Pal := Lib.hid hpal
        have Lal : nal ≤ 180 := by
          have h5 := congrArg List.length hpal
          rw [pl_len, hBal.len] at h5
          have h6 := len_plusR [pl ax, pl bx, pl cx]
          simp only [lenL, pl_len, HA.out.len, HB.out.len, HC.out.len] at h6
          omega
        clear hb hBal hpal Hal
        go_wp2_with fail
        have hr1 := plus_c (some ⟨w5.heap.size, 0, none⟩) 3 3 [⟨C, q, f, cx⟩, ⟨A, n, c, ax⟩, ⟨B, m, d, bx⟩] (w5.alloc (.cells #[.slice C q f, .slice A n c, .slice B m d] 23)) rfl (by omega) (SlG.new bOkL.len [⟨C, q, f, cx⟩, ⟨A, n, c, ax⟩, ⟨B, m, d, bx⟩] rfl) (fun h hh => by simp only [List.mem_cons, List.not_mem_nil, or_false] at hh; rcases hh with rfl | rfl | rfl; exact HC.out.after (below_via (below_via (below_via (below_via (below_via Sw1.out Sw2.out) Sw3.out) Sw4.out) Sw5.out) (below_one _ _)); exact HA.out.after (below_via (below_via (below_via (below_via (below_via Sw1.out Sw2.out) Sw3.out) Sw4.out) Sw5.out) (below_one _ _)); exact HB.out.after (below_via (below_via (below_via (below_via (below_via Sw1.out Sw2.out) Sw3.out) Sw4.out) Sw5.out) (below_one _ _))) (by show q + (n + (m + 0)) ≤ 100000; omega)
        simp only [List.map_cons, List.map_nil] at hr1
        have Hr1 := Lib.hid hr1
        clear hr1
        refine (Hr1.out).mono ?_
        rintro e w6 ⟨Ar1, nr1, cr1, or1, rfl, hb, hBr1, hpr1⟩
        have Sw6 := Lib.hid ((below_via (below_one _ _) hb))
        have Br1 := Lib.hid hBr1
        have Pr1 := Lib.hid hpr1
        have Lr1 : nr1 ≤ 180 := by
          have h5 := congrArg List.length hpr1
          rw [pl_len, hBr1.len] at h5
          have h6 := len_plusR [pl cx, pl ax, pl bx]
          simp only [lenL, pl_len, HC.out.len, HA.out.len, HB.out.len] at h6
          omega
        clear hb hBr1 hpr1 Hr1
        have hs := sameB_c Aal Ar1 nal nr1 cal cr1 oal or1 w6 (Bal.out.after Sw6.out) (Br1.out.after (Below.refl _ _))
        rw [Pal.out, Pr1.out, SS.out.rot, sameB_self] at hs
        have Hs := Lib.hid hs
        clear hs
        go_wp2_with fail
        refine (Hs.out).mono ?_
        rintro e w7 ⟨rfl, hb⟩
        have Sw7 := Lib.hid (hb)
        clear hb Hs
        go_wp2_with fail
        have hab := plus_c (some ⟨w7.heap.size, 0, none⟩) 2 2 [⟨A, n, c, ax⟩, ⟨B, m, d, bx⟩] (w7.alloc (.cells #[.slice A n c, .slice B m d] 23)) rfl (by omega) (SlG.new bOkL.len [⟨A, n, c, ax⟩, ⟨B, m, d, bx⟩] rfl) (fun h hh => by simp only [List.mem_cons, List.not_mem_nil, or_false] at hh; rcases hh with rfl | rfl; exact HA.out.after (below_via (below_via (below_via (below_via (below_via (below_via (below_via Sw1.out Sw2.out) Sw3.out) Sw4.out) Sw5.out) Sw6.out) Sw7.out) (below_one _ _)); exact HB.out.after (below_via (below_via (below_via (below_via (below_via (below_via (below_via Sw1.out Sw2.out) Sw3.out) Sw4.out) Sw5.out) Sw6.out) Sw7.out) (below_one _ _))) (by show n + (m + 0) ≤ 100000; omega)
        simp only [List.map_cons, List.map_nil] at hab
        have Hab := Lib.hid hab
        clear hab
        refine (Hab.out).mono ?_
        rintro e w8 ⟨Aab, nab, cab, oab, rfl, hb, hBab, hpab⟩
        have Sw8 := Lib.hid ((below_via (below_one _ _) hb))
        have Bab := Lib.hid hBab
        have Pab := Lib.hid hpab
        have Lab : nab ≤ 120 := by
          have h5 := congrArg List.length hpab
          rw [pl_len, hBab.len] at h5
          have h6 := len_plusR [pl ax, pl bx]
          simp only [lenL, pl_len, HA.out.len, HB.out.len] at h6
          omega
        clear hb hBab hpab Hab
        go_wp2_with fail
        have hg1 := plus_c (some ⟨w8.heap.size, 0, none⟩) 2 2 [⟨Aab, nab, cab, oab⟩, ⟨C, q, f, cx⟩] (w8.alloc (.cells #[.slice Aab nab cab, .slice C q f] 23)) rfl (by omega) (SlG.new bOkL.len [⟨Aab, nab, cab, oab⟩, ⟨C, q, f, cx⟩] rfl) (fun h hh => by simp only [List.mem_cons, List.not_mem_nil, or_false] at hh; rcases hh with rfl | rfl; exact Bab.out.after (below_one _ _); exact HC.out.after (below_via (below_via (below_via (below_via (below_via (below_via (below_via (below_via Sw1.out Sw2.out) Sw3.out) Sw4.out) Sw5.out) Sw6.out) Sw7.out) Sw8.out) (below_one _ _))) (by show nab + (q + 0) ≤ 100000; omega)
        simp only [List.map_cons, List.map_nil, Pab.out] at hg1
        have Hg1 := Lib.hid hg1
        clear hg1
        refine (Hg1.out).mono ?_
        rintro e w9 ⟨Ag1, ng1, cg1, og1, rfl, hb, hBg1, hpg1⟩
        have Sw9 := Lib.hid ((below_via (below_one _ _) hb))
        have Bg1 := Lib.hid hBg1
        have Pg1 := Lib.hid hpg1
        clear hb hBg1 hpg1 Hg1
        have hs := sameB_c Aal Ag1 nal ng1 cal cg1 oal og1 w9 (Bal.out.after (below_via (below_via (below_via Sw6.out Sw7.out) Sw8.out) Sw9.out)) (Bg1.out.after (Below.refl _ _))
        rw [Pal.out, Pg1.out, SS.out.grp, sameB_self] at hs
        have Hs := Lib.hid hs
        clear hs
        go_wp2_with fail
        refine (Hs.out).mono ?_
        rintro e w10 ⟨rfl, hb⟩
        have Sw10 := Lib.hid (hb)
        clear hb Hs
        go_wp2_with fail
        refine (neg_c B m d bx w10 (HB.out.after (below_via (below_via (below_via (below_via (below_via (below_via (below_via (below_via (below_via Sw1.out Sw2.out) Sw3.out) Sw4.out) Sw5.out) Sw6.out) Sw7.out) Sw8.out) Sw9.out) Sw10.out)) (by omega)).mono ?_
        rintro e w11 ⟨Ane, nne, cne, one, rfl, hb, hBne, hpne⟩
        have Sw11 := Lib.hid (hb)
        have Bne := Lib.hid hBne
        have Pne := Lib.hid hpne
        have Lne : nne ≤ 60 := by
          have h5 := congrArg List.length hpne
          rw [pl_len, hBne.len] at h5
          have h6 : (negR (pl bx)).length ≤ (pl bx).length := by
            unfold negR negB
            split
            · rw [List.length_map]; exact Nat.le_refl _
            · exact Nat.zero_le _
          rw [pl_len, HB.out.len] at h6
          omega
        clear hb hBne hpne
        go_wp2_with fail
        have hg2 := plus_c (some ⟨w11.heap.size, 0, none⟩) 2 2 [⟨Aal, nal, cal, oal⟩, ⟨Ane, nne, cne, one⟩] (w11.alloc (.cells #[.slice Aal nal cal, .slice Ane nne cne] 23)) rfl (by omega) (SlG.new bOkL.len [⟨Aal, nal, cal, oal⟩, ⟨Ane, nne, cne, one⟩] rfl) (fun h hh => by simp only [List.mem_cons, List.not_mem_nil, or_false] at hh; rcases hh with rfl | rfl; exact Bal.out.after (below_via (below_via (below_via (below_via (below_via (below_via Sw6.out Sw7.out) Sw8.out) Sw9.out) Sw10.out) Sw11.out) (below_one _ _)); exact Bne.out.after (below_one _ _)) (by show nal + (nne + 0) ≤ 100000; omega)
        simp only [List.map_cons, List.map_nil, Pal.out, Pne.out] at hg2
        have Hg2 := Lib.hid hg2
        clear hg2
        refine (Hg2.out).mono ?_
        rintro e w12 ⟨Ag2, ng2, cg2, og2, rfl, hb, hBg2, hpg2⟩
        have Sw12 := Lib.hid ((below_via (below_one _ _) hb))
        have Bg2 := Lib.hid hBg2
        have Pg2 := Lib.hid hpg2
        clear hb hBg2 hpg2 Hg2
        go_wp2_with fail
        have hac := plus_c (some ⟨w12.heap.size, 0, none⟩) 2 2 [⟨A, n, c, ax⟩, ⟨C, q, f, cx⟩] (w12.alloc (.cells #[.slice A n c, .slice C q f] 23)) rfl (by omega) (SlG.new bOkL.len [⟨A, n, c, ax⟩, ⟨C, q, f, cx⟩] rfl) (fun h hh => by simp only [List.mem_cons, List.not_mem_nil, or_false] at hh; rcases hh with rfl | rfl; exact HA.out.after (below_via (below_via (below_via (below_via (below_via (below_via (below_via (below_via (below_via (below_via (below_via (below_via Sw1.out Sw2.out) Sw3.out) Sw4.out) Sw5.out) Sw6.out) Sw7.out) Sw8.out) Sw9.out) Sw10.out) Sw11.out) Sw12.out) (below_one _ _)); exact HC.out.after (below_via (below_via (below_via (below_via (below_via (below_via (below_via (below_via (below_via (below_via (below_via (below_via Sw1.out Sw2.out) Sw3.out) Sw4.out) Sw5.out) Sw6.out) Sw7.out) Sw8.out) Sw9.out) Sw10.out) Sw11.out) Sw12.out) (below_one _ _))) (by show n + (q + 0) ≤ 100000; omega)
        simp only [List.map_cons, List.map_nil] at hac
        have Hac := Lib.hid hac
        clear hac
        refine (Hac.out).mono ?_
        rintro e w13 ⟨Aac, nac, cac, oac, rfl, hb, hBac, hpac⟩
        have Sw13 := Lib.hid ((below_via (below_one _ _) hb))
        have Bac := Lib.hid hBac
        have Pac := Lib.hid hpac
        clear hb hBac hpac Hac
        have hs := sameB_c Ag2 Aac ng2 nac cg2 cac og2 oac w13 (Bg2.out.after Sw13.out) (Bac.out.after (Below.refl _ _))
        rw [Pg2.out, Pac.out, SS.out.neg, sameB_self] at hs
        have Hs := Lib.hid hs
        clear hs
        go_wp2_with fail
        refine (Hs.out).mono ?_
        rintro e w14 ⟨rfl, hb⟩
        have Sw14 := Lib.hid (hb)
        clear hb Hs
        have hm := mayBag_c Aal nal cal oal w14 (Bal.out.after (below_via (below_via (below_via (below_via (below_via (below_via (below_via (below_via Sw6.out Sw7.out) Sw8.out) Sw9.out) Sw10.out) Sw11.out) Sw12.out) Sw13.out) Sw14.out))
        rw [Pal.out, SS.out.may] at hm
        have Hm := Lib.hid hm
        clear hm
        go_wp2_with fail
        refine (Hm.out).mono ?_
        rintro e w15 ⟨rfl, hb⟩
        have Sw15 := Lib.hid (hb)
        clear hb Hm
        have Hbz := Lib.hid (below_via (below_via (below_via (below_via (below_via (below_via (below_via (below_via (below_via (below_via (below_via (below_via (below_via (below_via Sw1.out Sw2.out) Sw3.out) Sw4.out) Sw5.out) Sw6.out) Sw7.out) Sw8.out) Sw9.out) Sw10.out) Sw11.out) Sw12.out) Sw13.out) Sw14.out) Sw15.out)
        have Bz := Lib.hid (Bal.out.after (below_via (below_via (below_via (below_via (below_via (below_via (below_via (below_via (below_via Sw6.out Sw7.out) Sw8.out) Sw9.out) Sw10.out) Sw11.out) Sw12.out) Sw13.out) Sw14.out) Sw15.out))
        obtain ⟨W, hW⟩ : ∃ W, W = w15 := ⟨_, rfl⟩
        rw [← hW] at Hbz Bz ⊢
        clear hW Sw1 Sw2 Sw3 Sw4 Sw5 Sw6 Sw7 Sw8 Sw9 Sw10 Sw11 Sw12 Sw13 Sw14 Sw15
        go_wp2_with fail
        go_loopw [8] (fun i wr => ∃ k : Nat, k ≤ n ∧ i = .int .i64 k ∧ Hid (Below W.heap.size W wr)) (fun i _ => n - (intOf i).toNat)
        case atStart => exact ⟨0, Nat.zero_le _, rfl, Lib.hid (Below.refl _ _)⟩
        case round =>
          obtain ⟨k, hk, rfl, hb⟩ := hrel
          by_cases hlt : k < n
          · obtain ⟨b, off, x, rfl, hblt, hx, c0, c1⟩ := HA.out.sl.at2 (k := k) (by rw [HA.out.len]; exact hlt)
            have Hb0 := Lib.hid (below_via Hbz.out hb.out)
            have d0 := (Hb0.out.cell (p := ⟨b, off + k * 2, none⟩) hblt).trans c0
            have l0 : b < wr.heap.size := Nat.lt_of_lt_of_le hblt Hb0.out.size
            have Hx := Lib.hid (HA.out.each x (List.mem_of_getElem? hx)).hd
            clear c0 c1 hx hblt
            obtain ⟨⟨xA, xn, xc, xs⟩, N⟩ := x
            simp only [] at d0
            have hgo : (k : Int) < n := by omega
            obtain ⟨ga, hga⟩ : ∃ ga, getB (pl ax) xs = ga := ⟨_, rfl⟩
            obtain ⟨gb, hgb⟩ : ∃ gb, getB (pl bx) xs = gb := ⟨_, rfl⟩
            obtain ⟨gc, hgc⟩ : ∃ gc, getB (pl cx) xs = gc := ⟨_, rfl⟩
            have ra := SS.out.ra xs
            have rb := SS.out.rb xs
            have rc := SS.out.rc xs
            have hgs : getB (pl oal) xs = ga + gb + gc := by rw [Pal.out, SS.out.get, hga, hgb, hgc]
            rw [hga] at ra
            rw [hgb] at rb
            rw [hgc] at rc
            have hw1 : IntKind.i64.wrap (ga + gb) = ga + gb := by rw [IntKind.wrap_i64]; omega
            have hw2 : IntKind.i64.wrap (ga + gb + gc) = ga + gb + gc := by rw [IntKind.wrap_i64]; omega
            have h1 := get_c Aal nal cal oal ⟨xA, xn, xc, xs⟩ wr (Bz.out.after hb.out) (Hx.out.after Hb0.out) (by omega)
            rw [show getB (pl oal) (⟨xA, xn, xc, xs⟩ : Hd).xs = ga + gb + gc from hgs] at h1
            have H1 := Lib.hid h1
            have Ga := Lib.hid hga
            have Gb := Lib.hid hgb
            have Gc := Lib.hid hgc
            clear h1 hga hgb hgc hgs ra rb rc
            go_wp2_with fail
            refine H1.out.mono ?_
            rintro e y1 ⟨rfl, hy1⟩
            have Y1 := Lib.hid hy1
            have h2 := get_c (some ⟨b, off, none⟩) n c ax ⟨xA, xn, xc, xs⟩ y1 (HA.out.after (below_via Hb0.out Y1.out)) (Hx.out.after (below_via Hb0.out Y1.out)) (by omega)
            rw [show getB (pl ax) (⟨xA, xn, xc, xs⟩ : Hd).xs = ga from Ga.out] at h2
            have H2 := Lib.hid h2
            clear hy1 h2 H1
            go_wp2_with fail
            refine H2.out.mono ?_
            rintro e y2 ⟨rfl, hy2⟩
            have Y2 := Lib.hid (below_via Y1.out hy2)
            have h3 := get_c B m d bx ⟨xA, xn, xc, xs⟩ y2 (HB.out.after (below_via Hb0.out Y2.out)) (Hx.out.after (below_via Hb0.out Y2.out)) (by omega)
            rw [show getB (pl bx) (⟨xA, xn, xc, xs⟩ : Hd).xs = gb from Gb.out] at h3
            have H3 := Lib.hid h3
            clear hy2 h3 H2
            go_wp2_with fail
            refine H3.out.mono ?_
            rintro e y3 ⟨rfl, hy3⟩
            have Y3 := Lib.hid (below_via Y2.out hy3)
            have h4 := get_c C q f cx ⟨xA, xn, xc, xs⟩ y3 (HC.out.after (below_via Hb0.out Y3.out)) (Hx.out.after (below_via Hb0.out Y3.out)) (by omega)
            rw [show getB (pl cx) (⟨xA, xn, xc, xs⟩ : Hd).xs = gc from Gc.out] at h4
            have H4 := Lib.hid h4
            clear hy3 h4 H3
            go_wp2_with fail
            refine H4.out.mono ?_
            rintro e y4 ⟨rfl, hy4⟩
            have HF := Lib.hid (below_via hb.out (below_via Y3.out hy4))
            clear hy4 H4 d0
            go_wp2
            go_roundw
            case rel => exact ⟨k + 1, by omega, by go_num, HF⟩
            case measure => simp [intOf]; omega
          · obtain rfl : k = n := by omega
            have hgo : ¬ (k : Int) < k := by omega
            have HF := Lib.hid (below_via Hbz.out hb.out)
            go_wp2
            go_ret
            exact ⟨rfl, HF.out⟩
end Go.Proofs.YthgoflaphbigbaaGreatDoor
