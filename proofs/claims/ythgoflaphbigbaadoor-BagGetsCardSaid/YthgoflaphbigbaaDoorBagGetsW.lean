/-
  BagGets, walked: a row that is put once more is there once more, and no other one is. Of all bags and rows.
-/
import Derived.Test.YthgoflaphbigbaaDoorLow5
import Derived.Test.YthgoflaphbigbaaDoorBagTextsW
namespace Go.Proofs.YthgoflaphbigbaaDoor
open Go Go.RowKit
set_option maxRecDepth 100000

theorem of_one (r : List Val) (h : mayR r = true) : ofR [r] = [(r, 1)] := by
  unfold ofR
  rw [if_pos (by simp [h])]
  rfl
theorem may_of1 (r : List Val) (h : mayR r = true) : mayBag [(r, 1)] = true := may_of (List.pairwise_singleton _ _) fun x hx => by
  rw [List.mem_singleton] at hx
  subst hx
  exact okC_of (show (1 : Int) ≠ 0 by decide) (show (-1000000000 : Int) ≤ 1 by decide) (show (1 : Int) ≤ 1000000000 by decide) h
theorem gets_plain (b : Bg) (r s : List Val) (hb : Bd 1000000 b) (hm : mayBag b = true) (hr : mayR r = true) : getB (plusR [b, [(r, 1)]]) s = getB b s + if cmpL r s = 0 then 1 else 0 := by
  have hs : ∀ q, sumL [b, [(r, 1)]] q = lookB b q + if cmpL r q = 0 then 1 else 0 := fun q => by
    simp only [sumL, sumB, Int.add_zero]
    rw [sum_look b q (may_asc hm)]
  have hall : ∀ x ∈ [b, [(r, 1)]], mayBag x = true := fun x hx => by
    simp only [List.mem_cons, List.not_mem_nil, or_false] at hx
    rcases hx with rfl | rfl
    · exact hm
    · exact may_of1 r hr
  have hp : mayBag (plusL [b, [(r, 1)]]) = true := may_plus _ hall fun q => by
    have := look_low 1000000 (by decide) b q hb
    rw [hs q]
    split <;> omega
  rw [plusR_of hall hp]
  unfold getB
  rw [if_pos hp, if_pos hm, look_plus, hs]
theorem len_bothG : ∀ (b a : Bg), (bothB a b).length ≤ a.length + b.length
  | [], a => Nat.le_refl _
  | x :: b, a => by
    have h1 := len_bothG b (addB a x.1 x.2)
    have h2 := len_add a x.1 x.2
    rw [both_cons, List.length_cons]
    omega
theorem valid_size {v : Val} (h : Valid v) : v.s.size ≤ 1000 := by
  rcases h with ⟨_, _, h⟩ | ⟨_, _, h⟩ | ⟨_, h⟩ | ⟨_, _, h⟩
  · rw [h]; exact Nat.zero_le _
  · rw [h]; exact Nat.zero_le _
  · rw [h]; exact Nat.zero_le _
  · exact h
theorem len_plus2 (a b : Bg) : (plusR [a, b]).length ≤ a.length + b.length := by
  unfold plusR
  split
  · unfold plusL
    simp only [List.foldl_cons, List.foldl_nil]
    have h1 := len_bothG a []
    have h2 := len_bothG b (bothB [] a)
    simp only [List.length_nil] at h1
    omega
  · exact Nat.zero_le _
theorem text_of1 (r s : List Val) (hr : mayR r = true) (hs : mayR s = true) : decide (bagTR [(r, 1)] = bagTR [(s, 1)]) = decide (cmpL r s = 0) := by
  rw [texts_same _ _ (may_of1 r hr) (may_of1 s hs), Bool.eq_iff_iff]
  simp [sameB]
theorem small_of1 {r : List Val} (h : mayR r = true) : ∀ x ∈ ([(r, 1)] : Bg), x.1.length ≤ 200 ∧ ∀ v ∈ x.1, v.s.size ≤ 2000 := fun x hx => by
  rw [List.mem_singleton] at hx
  subst hx
  refine ⟨by have := mayR_len h; simp only []; omega, fun v hv => ?_⟩
  have := (may_rowsOk (may_of1 r h)) (r, 1) (by simp) v hv
  exact Nat.le_trans (valid_size this) (by decide)
set_option maxHeartbeats 8000000 in
theorem bagGets_w (A : Option Addr) (n c : Nat) (cs : List Ct) (r s : Hd) (w : World) (hB : BgIn w A n cs) (hr : ∀ N : Int, -9223372036854775808 ≤ N → N ≤ 9223372036854775807 → Ct.In w ⟨r, N⟩) (hs : ∀ N : Int, -9223372036854775808 ≤ N → N ≤ 9223372036854775807 → Ct.In w ⟨s, N⟩) (hG : Gl w) :
    Calls Tryd.prog 5 #[.slice A n c, r.v, s.v] w fun e w' => e = .returned (.bool true) ∧ Below w.heap.size w w' := by
  have HA := Lib.hid hB
  have Hr := Lib.hid (hr 1 (by decide) (by decide))
  have Hs := Lib.hid (hs 1 (by decide) (by decide))
  have HG := Lib.hid hG
  clear hB hr hs hG
  obtain ⟨rA, rn, rc, rx⟩ := r
  obtain ⟨sA, sn, sc, sx⟩ := s
  dsimp only [Hd.v]
  go_enter Tryd.func5, Tryd.ntmps5
  go_wp2_with fail
  refine (fixed_c w HG.out).mono ?_
  rintro e w1 ⟨rfl, hb⟩
  have Sw1 := Lib.hid (hb)
  clear hb
  go_wp2_with fail
  refine (low_c A n c cs w1 (HA.out.after Sw1.out)).mono ?_
  rintro e w2 ⟨rfl, hb⟩
  have Sw2 := Lib.hid (hb)
  clear hb
  cases hlo : lowB (pl cs)
  · go_wp2_with fail
    refine (fixed_c w2 (HG.out.after (below_via Sw1.out Sw2.out))).mono ?_
    rintro e w3 ⟨rfl, hb⟩
    have Sw3 := Lib.hid (hb)
    clear hb
    have HF := Lib.hid (below_via (below_via Sw1.out Sw2.out) Sw3.out)
    clear Sw1 Sw2 Sw3
    go_wp2
    go_ret
    exact ⟨rfl, HF.out⟩
  · have Hhlo := Lib.hid hlo
    clear hlo
    go_wp2_with fail
    refine (rmayRow_c rA rn rc rx w2 (Hr.out.after (below_via Sw1.out Sw2.out)).hd.len (Hr.out.after (below_via Sw1.out Sw2.out)).hd.max (Hr.out.after (below_via Sw1.out Sw2.out)).hd.sl Hr.out.sz).mono ?_
    rintro e w3 ⟨rfl, hb⟩
    have Sw3 := Lib.hid (hb)
    clear hb
    rw [rmay_mayR]
    cases hmr : mayR rx
    · go_wp2_with fail
      refine (fixed_c w3 (HG.out.after (below_via (below_via Sw1.out Sw2.out) Sw3.out))).mono ?_
      rintro e w4 ⟨rfl, hb⟩
      have Sw4 := Lib.hid (hb)
      clear hb
      have HF := Lib.hid (below_via (below_via (below_via Sw1.out Sw2.out) Sw3.out) Sw4.out)
      clear Sw1 Sw2 Sw3 Sw4
      go_wp2
      go_ret
      exact ⟨rfl, HF.out⟩
    · have Hhmr := Lib.hid hmr
      clear hmr
      go_wp2_with fail
      refine (rmayRow_c sA sn sc sx w3 (Hs.out.after (below_via (below_via Sw1.out Sw2.out) Sw3.out)).hd.len (Hs.out.after (below_via (below_via Sw1.out Sw2.out) Sw3.out)).hd.max (Hs.out.after (below_via (below_via Sw1.out Sw2.out) Sw3.out)).hd.sl Hs.out.sz).mono ?_
      rintro e w4 ⟨rfl, hb⟩
      have Sw4 := Lib.hid (hb)
      clear hb
      rw [rmay_mayR]
      cases hms : mayR sx
      · go_wp2_with fail
        refine (fixed_c w4 (HG.out.after (below_via (below_via (below_via Sw1.out Sw2.out) Sw3.out) Sw4.out))).mono ?_
        rintro e w5 ⟨rfl, hb⟩
        have Sw5 := Lib.hid (hb)
        clear hb
        have HF := Lib.hid (below_via (below_via (below_via (below_via Sw1.out Sw2.out) Sw3.out) Sw4.out) Sw5.out)
        clear Sw1 Sw2 Sw3 Sw4 Sw5
        go_wp2
        go_ret
        exact ⟨rfl, HF.out⟩
      · have Hhms := Lib.hid hms
        clear hms
        have hna : n ≤ 60 := by have := (small_parts (low_parts Hhlo.out).2.1).1; rw [pl_len, HA.out.len] at this; exact this
        go_wp2_with fail
        have hcoa := of_c (some ⟨w4.heap.size, 0, none⟩) 1 1 [⟨rA, rn, rc, rx⟩] (w4.alloc (.cells #[.slice rA rn rc] 31)) rfl (by omega) (SlG.new hOk.len [⟨rA, rn, rc, rx⟩] rfl) (fun h hh => by rw [List.mem_singleton] at hh; subst hh; exact Hr.out.after (below_via (below_via (below_via (below_via Sw1.out Sw2.out) Sw3.out) Sw4.out) (below_one _ _)))
        simp only [List.map_cons, List.map_nil] at hcoa
        rw [of_one rx Hhmr.out] at hcoa
        have Hcoa := Lib.hid hcoa
        clear hcoa
        refine (Hcoa.out).mono ?_
        rintro e w5 ⟨Aa, na, ca, oa, rfl, hb, hBa, hpa⟩
        have Sw5 := Lib.hid ((below_via (below_one _ _) hb))
        obtain rfl : na = 1 := len_of_pl hBa hpa
        have Ba := Lib.hid hBa
        have Pa := Lib.hid hpa
        clear hb hBa hpa Hcoa
        go_wp2_with fail
        have hcp := plus_c (some ⟨w5.heap.size, 0, none⟩) 2 2 [⟨A, n, c, cs⟩, ⟨Aa, 1, ca, oa⟩] (w5.alloc (.cells #[.slice A n c, .slice Aa 1 ca] 27)) rfl (by omega) (SlG.new bOkL.len [⟨A, n, c, cs⟩, ⟨Aa, 1, ca, oa⟩] rfl) (fun h hh => by simp only [List.mem_cons, List.not_mem_nil, or_false] at hh; rcases hh with rfl | rfl; exact HA.out.after (below_via (below_via (below_via (below_via (below_via Sw1.out Sw2.out) Sw3.out) Sw4.out) Sw5.out) (below_one _ _)); exact Ba.out.after (below_one _ _)) (by show n + (1 + 0) ≤ 100000; omega)
        simp only [List.map_cons, List.map_nil, Pa.out] at hcp
        have Hcp := Lib.hid hcp
        clear hcp
        refine (Hcp.out).mono ?_
        rintro e w6 ⟨Ap, np, cp, ps, rfl, hb, hBp, hpp⟩
        have Sw6 := Lib.hid ((below_via (below_one _ _) hb))
        have Bp := Lib.hid hBp
        have Pp := Lib.hid hpp
        clear hb hBp hpp Hcp
        go_wp2_with fail
        have hcob := of_c (some ⟨w6.heap.size, 0, none⟩) 1 1 [⟨rA, rn, rc, rx⟩] (w6.alloc (.cells #[.slice rA rn rc] 31)) rfl (by omega) (SlG.new hOk.len [⟨rA, rn, rc, rx⟩] rfl) (fun h hh => by rw [List.mem_singleton] at hh; subst hh; exact Hr.out.after (below_via (below_via (below_via (below_via (below_via (below_via Sw1.out Sw2.out) Sw3.out) Sw4.out) Sw5.out) Sw6.out) (below_one _ _)))
        simp only [List.map_cons, List.map_nil] at hcob
        rw [of_one rx Hhmr.out] at hcob
        have Hcob := Lib.hid hcob
        clear hcob
        refine (Hcob.out).mono ?_
        rintro e w7 ⟨Ab, nb, cb, ob, rfl, hb, hBb, hpb⟩
        have Sw7 := Lib.hid ((below_via (below_one _ _) hb))
        obtain rfl : nb = 1 := len_of_pl hBb hpb
        have Bb := Lib.hid hBb
        have Pb := Lib.hid hpb
        clear hb hBb hpb Hcob
        go_wp2_with fail
        refine (textB_c Ab 1 cb ob w7 Bb.out (by omega) (short_of_pl Bb.out Pb.out (small_of1 Hhmr.out)) (HG.out.after (below_via (below_via (below_via (below_via (below_via (below_via Sw1.out Sw2.out) Sw3.out) Sw4.out) Sw5.out) Sw6.out) Sw7.out))).mono ?_
        rintro e w8 ⟨rfl, hb⟩
        have Sw8 := Lib.hid (hb)
        clear hb
        obtain ⟨X, hX⟩ : ∃ X : ByteArray, ⟨(bagTR (pl ob)).toArray⟩ = X := ⟨_, rfl⟩
        have HX := Lib.hid hX
        rw [hX]
        clear hX
        go_wp2_with fail
        have hcod := of_c (some ⟨w8.heap.size, 0, none⟩) 1 1 [⟨sA, sn, sc, sx⟩] (w8.alloc (.cells #[.slice sA sn sc] 31)) rfl (by omega) (SlG.new hOk.len [⟨sA, sn, sc, sx⟩] rfl) (fun h hh => by rw [List.mem_singleton] at hh; subst hh; exact Hs.out.after (below_via (below_via (below_via (below_via (below_via (below_via (below_via (below_via Sw1.out Sw2.out) Sw3.out) Sw4.out) Sw5.out) Sw6.out) Sw7.out) Sw8.out) (below_one _ _)))
        simp only [List.map_cons, List.map_nil] at hcod
        rw [of_one sx Hhms.out] at hcod
        have Hcod := Lib.hid hcod
        clear hcod
        refine (Hcod.out).mono ?_
        rintro e w9 ⟨Ad, nd, cd, od, rfl, hb, hBd, hpd⟩
        have Sw9 := Lib.hid ((below_via (below_one _ _) hb))
        obtain rfl : nd = 1 := len_of_pl hBd hpd
        have Bd := Lib.hid hBd
        have Pd := Lib.hid hpd
        clear hb hBd hpd Hcod
        go_wp2_with fail
        refine (textB_c Ad 1 cd od w9 Bd.out (by omega) (short_of_pl Bd.out Pd.out (small_of1 Hhms.out)) (HG.out.after (below_via (below_via (below_via (below_via (below_via (below_via (below_via (below_via Sw1.out Sw2.out) Sw3.out) Sw4.out) Sw5.out) Sw6.out) Sw7.out) Sw8.out) Sw9.out))).mono ?_
        rintro e w10 ⟨rfl, hb⟩
        have Sw10 := Lib.hid (hb)
        clear hb
        obtain ⟨Y, hY⟩ : ∃ Y : ByteArray, ⟨(bagTR (pl od)).toArray⟩ = Y := ⟨_, rfl⟩
        have HY := Lib.hid hY
        rw [hY]
        clear hY
        have hXY : (X.toList == Y.toList) = decide (cmpL rx sx = 0) := by rw [← HX.out, ← HY.out, bytes_eq, Pb.out, Pd.out, text_of1 _ _ Hhmr.out Hhms.out]
        have hnp : np ≤ 100000 := by
          have h5 := Bp.out.len
          have h6 := congrArg List.length Pp.out
          have h7 := len_plus2 (pl cs) [(rx, 1)]
          rw [pl_len, h5] at h6
          rw [pl_len, HA.out.len] at h7
          simp only [List.length_cons, List.length_nil] at h7
          omega
        obtain ⟨Gb, hGb⟩ : ∃ Gb, getB (pl cs) sx = Gb := ⟨_, rfl⟩
        have hGlow : -1000000 ≤ Gb ∧ Gb ≤ 1000000 := by
          rw [← hGb]
          unfold getB
          rw [if_pos (low_parts Hhlo.out).2.2]
          exact look_low 1000000 (by decide) _ _ (low_parts Hhlo.out).1
        have hgp : getB (pl ps) sx = Gb + if cmpL rx sx = 0 then 1 else 0 := by
          rw [Pp.out, gets_plain _ _ _ (low_parts Hhlo.out).1 (low_parts Hhlo.out).2.2 Hhmr.out, hGb]
        have HGb := Lib.hid hGb
        clear hGb
        cases hcm : decide (cmpL rx sx = 0)
        · have hgp2 : getB (pl ps) sx = Gb + 0 := by rw [hgp, if_neg (of_decide_eq_false hcm)]
          rw [hcm] at hXY
          have Hcg := get_c Ap np cp ps ⟨sA, sn, sc, sx⟩ w10 (Bp.out.after (below_via (below_via (below_via Sw7.out Sw8.out) Sw9.out) Sw10.out)) (Hs.out.after (below_via (below_via (below_via (below_via (below_via (below_via (below_via (below_via (below_via Sw1.out Sw2.out) Sw3.out) Sw4.out) Sw5.out) Sw6.out) Sw7.out) Sw8.out) Sw9.out) Sw10.out)).hd (by omega)
          have hgp3 : getB (pl ps) (⟨sA, sn, sc, sx⟩ : Hd).xs = Gb + 0 := hgp2
          rw [hgp3] at Hcg
          have HCg := Lib.hid Hcg
          clear Hcg hgp hgp2 hgp3 hcm
          go_wp2_with fail
          refine (HCg.out).mono ?_
          rintro e w11 ⟨rfl, hb⟩
          have Sw11 := Lib.hid (hb)
          clear hb HCg
          have Hch := get_c A n c cs ⟨sA, sn, sc, sx⟩ w11 (HA.out.after (below_via (below_via (below_via (below_via (below_via (below_via (below_via (below_via (below_via (below_via Sw1.out Sw2.out) Sw3.out) Sw4.out) Sw5.out) Sw6.out) Sw7.out) Sw8.out) Sw9.out) Sw10.out) Sw11.out)) (Hs.out.after (below_via (below_via (below_via (below_via (below_via (below_via (below_via (below_via (below_via (below_via Sw1.out Sw2.out) Sw3.out) Sw4.out) Sw5.out) Sw6.out) Sw7.out) Sw8.out) Sw9.out) Sw10.out) Sw11.out)).hd (by omega)
          have hgp4 : getB (pl cs) (⟨sA, sn, sc, sx⟩ : Hd).xs = Gb := HGb.out
          rw [hgp4] at Hch
          have HCh := Lib.hid Hch
          clear Hch hgp4
          go_wp2_with fail
          refine (HCh.out).mono ?_
          rintro e w12 ⟨rfl, hb⟩
          have Sw12 := Lib.hid (hb)
          clear hb HCh
          have hwr : IntKind.i64.wrap (Gb + 0) = Gb + 0 := by rw [IntKind.wrap_i64]; omega
          have HF := Lib.hid (below_via (below_via (below_via (below_via (below_via (below_via (below_via (below_via (below_via (below_via (below_via Sw1.out Sw2.out) Sw3.out) Sw4.out) Sw5.out) Sw6.out) Sw7.out) Sw8.out) Sw9.out) Sw10.out) Sw11.out) Sw12.out)
          clear Sw1 Sw2 Sw3 Sw4 Sw5 Sw6 Sw7 Sw8 Sw9 Sw10 Sw11 Sw12
          go_wp2
          go_ret
          exact ⟨by simp, HF.out⟩
        · have hgp2 : getB (pl ps) sx = Gb + 1 := by rw [hgp, if_pos (of_decide_eq_true hcm)]
          rw [hcm] at hXY
          have Hcg := get_c Ap np cp ps ⟨sA, sn, sc, sx⟩ w10 (Bp.out.after (below_via (below_via (below_via Sw7.out Sw8.out) Sw9.out) Sw10.out)) (Hs.out.after (below_via (below_via (below_via (below_via (below_via (below_via (below_via (below_via (below_via Sw1.out Sw2.out) Sw3.out) Sw4.out) Sw5.out) Sw6.out) Sw7.out) Sw8.out) Sw9.out) Sw10.out)).hd (by omega)
          have hgp3 : getB (pl ps) (⟨sA, sn, sc, sx⟩ : Hd).xs = Gb + 1 := hgp2
          rw [hgp3] at Hcg
          have HCg := Lib.hid Hcg
          clear Hcg hgp hgp2 hgp3 hcm
          go_wp2_with fail
          refine (HCg.out).mono ?_
          rintro e w11 ⟨rfl, hb⟩
          have Sw11 := Lib.hid (hb)
          clear hb HCg
          have Hch := get_c A n c cs ⟨sA, sn, sc, sx⟩ w11 (HA.out.after (below_via (below_via (below_via (below_via (below_via (below_via (below_via (below_via (below_via (below_via Sw1.out Sw2.out) Sw3.out) Sw4.out) Sw5.out) Sw6.out) Sw7.out) Sw8.out) Sw9.out) Sw10.out) Sw11.out)) (Hs.out.after (below_via (below_via (below_via (below_via (below_via (below_via (below_via (below_via (below_via (below_via Sw1.out Sw2.out) Sw3.out) Sw4.out) Sw5.out) Sw6.out) Sw7.out) Sw8.out) Sw9.out) Sw10.out) Sw11.out)).hd (by omega)
          have hgp4 : getB (pl cs) (⟨sA, sn, sc, sx⟩ : Hd).xs = Gb := HGb.out
          rw [hgp4] at Hch
          have HCh := Lib.hid Hch
          clear Hch hgp4
          go_wp2_with fail
          refine (HCh.out).mono ?_
          rintro e w12 ⟨rfl, hb⟩
          have Sw12 := Lib.hid (hb)
          clear hb HCh
          have hwr : IntKind.i64.wrap (Gb + 1) = Gb + 1 := by rw [IntKind.wrap_i64]; omega
          have HF := Lib.hid (below_via (below_via (below_via (below_via (below_via (below_via (below_via (below_via (below_via (below_via (below_via Sw1.out Sw2.out) Sw3.out) Sw4.out) Sw5.out) Sw6.out) Sw7.out) Sw8.out) Sw9.out) Sw10.out) Sw11.out) Sw12.out)
          clear Sw1 Sw2 Sw3 Sw4 Sw5 Sw6 Sw7 Sw8 Sw9 Sw10 Sw11 Sw12
          go_wp2
          go_ret
          exact ⟨by simp, HF.out⟩
end Go.Proofs.YthgoflaphbigbaaDoor
