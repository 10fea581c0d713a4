/-
  BagTells, walked: whether a bag may be, how often a row is there, two bags together, one turned, its rows, and its text, is as the document says. Of all bags and rows.
-/
import Derived.Test.YthgoflaphbigbaaGreatDoorSmallZ5
import Derived.Test.YthgoflaphbigbaaGreatDoorM53
import Derived.Test.YthgoflaphbigbaaGreatDoorM54
namespace Go.Proofs.YthgoflaphbigbaaGreatDoor
open Go Go.RowKit
set_option maxRecDepth 100000

set_option maxHeartbeats 16000000 in
theorem bagTells_w (A B : Option Addr) (n m c d : Nat) (ax bx : List Ct) (r : Hd) (w : World) (hA : BgIn w A n ax) (hB : BgIn w B m bx) (hr : ∀ N : Int, -9223372036854775808 ≤ N → N ≤ 9223372036854775807 → Ct.In w ⟨r, N⟩) (hG : Gl w) :
    Calls Tryz.prog 3 #[.slice A n c, .slice B m d, r.v] w fun e w' => e = .returned (.bool true) ∧ Below w.heap.size w w' := by
  have HA := Lib.hid hA
  have HB := Lib.hid hB
  have Hr := Lib.hid (hr 1 (by decide) (by decide))
  have HG := Lib.hid hG
  clear hA hB hr hG
  obtain ⟨rA, rn, rc, rx⟩ := r
  dsimp only [Hd.v]
  go_enter Tryz.func3, Tryz.ntmps3
  go_wp2_with fail
  refine (smallB_c A n c ax w (HA.out.after (Below.refl _ _))).mono ?_
  rintro e w1 ⟨rfl, hb⟩
  have Sw1 := Lib.hid (hb)
  clear hb
  cases hsa : smallB (pl ax)
  · go_wp2_with fail
    refine (fixed_c w1 (HG.out.after Sw1.out)).mono ?_
    rintro e w2 ⟨rfl, hb⟩
    have Sw2 := Lib.hid (hb)
    clear hb
    have HF := Lib.hid (below_via Sw1.out Sw2.out)
    clear Sw1 Sw2
    go_wp2
    go_ret
    exact ⟨rfl, HF.out⟩
  · have Hhsa := Lib.hid hsa
    clear hsa
    go_wp2_with fail
    refine (smallB_c B m d bx w1 (HB.out.after Sw1.out)).mono ?_
    rintro e w2 ⟨rfl, hb⟩
    have Sw2 := Lib.hid (hb)
    clear hb
    cases hsb : smallB (pl bx)
    · go_wp2_with fail
      refine (fixed_c w2 (HG.out.after (below_via Sw1.out Sw2.out))).mono ?_
      rintro e w3 ⟨rfl, hb⟩
      have Sw3 := Lib.hid (hb)
      clear hb
      have HF := Lib.hid (below_via (below_via Sw1.out Sw2.out) Sw3.out)
      clear Sw1 Sw2 Sw3
      go_wp2
      go_ret
      exact ⟨rfl, HF.out⟩
    · have Hhsb := Lib.hid hsb
      clear hsb
      have hna : n ≤ 60 := by have := (small_parts Hhsa.out).1; rw [pl_len, HA.out.len] at this; exact this
      have hnb : m ≤ 60 := by have := (small_parts Hhsb.out).1; rw [pl_len, HB.out.len] at this; exact this
      obtain ⟨MA, hMA⟩ : ∃ MA, mayBag (pl ax) = MA := ⟨_, rfl⟩
      have ha := mayBag_c A n c ax w2 (HA.out.after (below_via Sw1.out Sw2.out))
      rw [hMA] at ha
      have Ha := Lib.hid ha
      clear ha
      go_wp2_with fail
      refine (Ha.out).mono ?_
      rintro e w3 ⟨rfl, hb⟩
      have Sw3 := Lib.hid (hb)
      clear hb Ha
      have hb := rmayBag_c A n c ax w3 (HA.out.after (below_via (below_via Sw1.out Sw2.out) Sw3.out))
      rw [hMA] at hb
      have Hb := Lib.hid hb
      clear hb
      go_wp2_with fail
      refine (Hb.out).mono ?_
      rintro e w4 ⟨rfl, hb⟩
      have Sw4 := Lib.hid (hb)
      clear hb Hb
      clear hMA
      obtain ⟨GA, hGA⟩ : ∃ GA, getB (pl ax) (⟨rA, rn, rc, rx⟩ : Hd).xs = GA := ⟨_, rfl⟩
      have hc1 := get_c A n c ax ⟨rA, rn, rc, rx⟩ w4 (HA.out.after (below_via (below_via (below_via Sw1.out Sw2.out) Sw3.out) Sw4.out)) (Hr.out.after (below_via (below_via (below_via Sw1.out Sw2.out) Sw3.out) Sw4.out)).hd (by omega)
      rw [hGA] at hc1
      have Hc1 := Lib.hid hc1
      clear hc1
      go_wp2_with fail
      refine (Hc1.out).mono ?_
      rintro e w5 ⟨rfl, hb⟩
      have Sw5 := Lib.hid (hb)
      clear hb Hc1
      have hc2 := rgetB_c A n c ax ⟨rA, rn, rc, rx⟩ w5 (HA.out.after (below_via (below_via (below_via (below_via Sw1.out Sw2.out) Sw3.out) Sw4.out) Sw5.out)) (Hr.out.after (below_via (below_via (below_via (below_via Sw1.out Sw2.out) Sw3.out) Sw4.out) Sw5.out)).hd
      rw [hGA] at hc2
      have Hc2 := Lib.hid hc2
      clear hc2
      go_wp2_with fail
      refine (Hc2.out).mono ?_
      rintro e w6 ⟨rfl, hb⟩
      have Sw6 := Lib.hid (hb)
      clear hb Hc2
      clear hGA
      go_wp2_with fail
      have hpa := plus_c (some ⟨w6.heap.size, 0, none⟩) 2 2 [⟨A, n, c, ax⟩, ⟨B, m, d, bx⟩] (w6.alloc (.cells #[.slice A n c, .slice B m d] 23)) rfl (by omega) (SlG.new bOkL.len [⟨A, n, c, ax⟩, ⟨B, m, d, bx⟩] rfl) (fun h hh => by simp only [List.mem_cons, List.not_mem_nil, or_false] at hh; rcases hh with rfl | rfl; exact HA.out.after (below_via (below_via (below_via (below_via (below_via (below_via Sw1.out Sw2.out) Sw3.out) Sw4.out) Sw5.out) Sw6.out) (below_one _ _)); exact HB.out.after (below_via (below_via (below_via (below_via (below_via (below_via Sw1.out Sw2.out) Sw3.out) Sw4.out) Sw5.out) Sw6.out) (below_one _ _))) (by show n + (m + 0) ≤ 100000; omega)
      simp only [List.map_cons, List.map_nil] at hpa
      have Hpa := Lib.hid hpa
      clear hpa
      refine (Hpa.out).mono ?_
      rintro e w7 ⟨Apa, npa, cpa, opa, rfl, hb, hBpa, hppa⟩
      have Sw7 := Lib.hid ((below_via (below_one _ _) hb))
      have Bpa := Lib.hid hBpa
      have Ppa := Lib.hid hppa
      clear hb hBpa hppa Hpa
      go_wp2_with fail
      have hpb := rplusB_c (some ⟨w7.heap.size, 0, none⟩) 2 2 [⟨A, n, c, ax⟩, ⟨B, m, d, bx⟩] (w7.alloc (.cells #[.slice A n c, .slice B m d] 23)) rfl (by omega) (SlG.new bOkL.len [⟨A, n, c, ax⟩, ⟨B, m, d, bx⟩] rfl) (fun h hh => by simp only [List.mem_cons, List.not_mem_nil, or_false] at hh; rcases hh with rfl | rfl; exact HA.out.after (below_via (below_via (below_via (below_via (below_via (below_via (below_via Sw1.out Sw2.out) Sw3.out) Sw4.out) Sw5.out) Sw6.out) Sw7.out) (below_one _ _)); exact HB.out.after (below_via (below_via (below_via (below_via (below_via (below_via (below_via Sw1.out Sw2.out) Sw3.out) Sw4.out) Sw5.out) Sw6.out) Sw7.out) (below_one _ _))) (by show n + (m + 0) ≤ 100000; omega)
      simp only [List.map_cons, List.map_nil] at hpb
      have Hpb := Lib.hid hpb
      clear hpb
      refine (Hpb.out).mono ?_
      rintro e w8 ⟨Apb, npb, cpb, opb, rfl, hb, hBpb, hppb⟩
      have Sw8 := Lib.hid ((below_via (below_one _ _) hb))
      have Bpb := Lib.hid hBpb
      have Ppb := Lib.hid hppb
      clear hb hBpb hppb Hpb
      have hs := sameB_c Apa Apb npa npb cpa cpb opa opb w8 (Bpa.out.after Sw8.out) (Bpb.out.after (Below.refl _ _))
      rw [Ppa.out, Ppb.out, sameB_self] at hs
      have Hs := Lib.hid hs
      clear hs
      go_wp2_with fail
      refine (Hs.out).mono ?_
      rintro e w9 ⟨rfl, hb⟩
      have Sw9 := Lib.hid (hb)
      clear hb Hs
      go_wp2_with fail
      refine (neg_c A n c ax w9 (HA.out.after (below_via (below_via (below_via (below_via (below_via (below_via (below_via (below_via Sw1.out Sw2.out) Sw3.out) Sw4.out) Sw5.out) Sw6.out) Sw7.out) Sw8.out) Sw9.out)) (by omega)).mono ?_
      rintro e w10 ⟨Ana, nna, cna, ona, rfl, hb, hBna, hpna⟩
      have Sw10 := Lib.hid (hb)
      have Bna := Lib.hid hBna
      have Pna := Lib.hid hpna
      clear hb hBna hpna
      go_wp2_with fail
      refine (rnegB_c A n c ax w10 (HA.out.after (below_via (below_via (below_via (below_via (below_via (below_via (below_via (below_via (below_via Sw1.out Sw2.out) Sw3.out) Sw4.out) Sw5.out) Sw6.out) Sw7.out) Sw8.out) Sw9.out) Sw10.out)) (by omega)).mono ?_
      rintro e w11 ⟨Anb, nnb, cnb, onb, rfl, hb, hBnb, hpnb⟩
      have Sw11 := Lib.hid (hb)
      have Bnb := Lib.hid hBnb
      have Pnb := Lib.hid hpnb
      clear hb hBnb hpnb
      have hs := sameB_c Ana Anb nna nnb cna cnb ona onb w11 (Bna.out.after Sw11.out) (Bnb.out.after (Below.refl _ _))
      rw [Pna.out, Pnb.out, sameB_self] at hs
      have Hs := Lib.hid hs
      clear hs
      go_wp2_with fail
      refine (Hs.out).mono ?_
      rintro e w12 ⟨rfl, hb⟩
      have Sw12 := Lib.hid (hb)
      clear hb Hs
      obtain ⟨X, hX⟩ : ∃ X : ByteArray, ⟨(bagTR (pl ax)).toArray⟩ = X := ⟨_, rfl⟩
      have ht1 := textB_c A n c ax w12 (HA.out.after (below_via (below_via (below_via (below_via (below_via (below_via (below_via (below_via (below_via (below_via (below_via Sw1.out Sw2.out) Sw3.out) Sw4.out) Sw5.out) Sw6.out) Sw7.out) Sw8.out) Sw9.out) Sw10.out) Sw11.out) Sw12.out)) (by omega) (short_of_pl HA.out rfl (small_short Hhsa.out)) (HG.out.after (below_via (below_via (below_via (below_via (below_via (below_via (below_via (below_via (below_via (below_via (below_via Sw1.out Sw2.out) Sw3.out) Sw4.out) Sw5.out) Sw6.out) Sw7.out) Sw8.out) Sw9.out) Sw10.out) Sw11.out) Sw12.out))
      rw [hX] at ht1
      have Ht1 := Lib.hid ht1
      clear ht1
      go_wp2_with fail
      refine (Ht1.out).mono ?_
      rintro e w13 ⟨rfl, hb⟩
      have Sw13 := Lib.hid (hb)
      clear hb Ht1
      have ht2 := rtextB_c A n c ax w13 (HA.out.after (below_via (below_via (below_via (below_via (below_via (below_via (below_via (below_via (below_via (below_via (below_via (below_via Sw1.out Sw2.out) Sw3.out) Sw4.out) Sw5.out) Sw6.out) Sw7.out) Sw8.out) Sw9.out) Sw10.out) Sw11.out) Sw12.out) Sw13.out)) (by omega) (short_of_pl HA.out rfl (small_short Hhsa.out))
      rw [hX] at ht2
      have Ht2 := Lib.hid ht2
      clear ht2
      go_wp2_with fail
      refine (Ht2.out).mono ?_
      rintro e w14 ⟨rfl, hb⟩
      have Sw14 := Lib.hid (hb)
      clear hb Ht2
      clear hX
      have hXX : (X.toList == X.toList) = true := by simp
      have Hbz := Lib.hid (below_via (below_via (below_via (below_via (below_via (below_via (below_via (below_via (below_via (below_via (below_via (below_via (below_via Sw1.out Sw2.out) Sw3.out) Sw4.out) Sw5.out) Sw6.out) Sw7.out) Sw8.out) Sw9.out) Sw10.out) Sw11.out) Sw12.out) Sw13.out) Sw14.out)
      clear Sw1 Sw2 Sw3 Sw4 Sw5 Sw6 Sw7 Sw8 Sw9 Sw10 Sw11 Sw12 Sw13 Sw14
      go_wp2_with fail
      go_loopw [7, 8] (fun v i wr => ∃ (k : Nat) (u : Int), k ≤ n ∧ i = .int .i64 k ∧ v = .int .i64 u ∧ Hid (Below w.heap.size w wr)) (fun _ i _ => n - (intOf i).toNat)
      case atStart => exact ⟨0, 0, Nat.zero_le _, rfl, rfl, Hbz⟩
      case round =>
        obtain ⟨k, u, hk, rfl, rfl, hb⟩ := hrel
        clear Hbz
        by_cases hlt : k < n
        · obtain ⟨b, off, x, rfl, hblt, hx, c0, c1⟩ := HA.out.sl.at2 (k := k) (by rw [HA.out.len]; exact hlt)
          have d1 := (hb.out.cell (p := ⟨b, off + k * 2 + 1, none⟩) hblt).trans c1
          have l0 : b < wr.heap.size := Nat.lt_of_lt_of_le hblt hb.out.size
          clear c0 c1 hx hblt
          obtain ⟨xh, N⟩ := x
          simp only [] at d1
          have hgo : (k : Int) < n := by omega
          by_cases hmx : u < N
          · go_wp2
            go_roundw
            case rel => exact ⟨k + 1, _, by omega, by go_num, rfl, hb⟩
            case measure => simp [intOf]; omega
          · go_wp2
            go_roundw
            case rel => exact ⟨k + 1, _, by omega, by go_num, rfl, hb⟩
            case measure => simp [intOf]; omega
        · obtain rfl : k = n := by omega
          have hgo : ¬ (k : Int) < k := by omega
          have hend : ∀ (v1 : World) (_ : Below w.heap.size w v1), True := fun _ _ => trivial
          clear hend
          cases h1 : decide (5000 < u)
          · go_wp2_with fail
            obtain ⟨RR, hRR⟩ : ∃ RR, rowsOkB (pl ax) = RR := ⟨_, rfl⟩
            have hr1 := rows_c A k c ax wr (HA.out.after hb.out) (by omega)
            rw [hRR] at hr1
            have Hr1 := Lib.hid hr1
            clear hr1
            refine Hr1.out.mono ?_
            rintro e v1 ⟨vv, rfl, ⟨hsaid, hb1⟩⟩
            obtain ⟨Al, nl, cl, hl, rfl, hll, hnl, hlsl, hlin, hlx⟩ := hsaid
            have T1 := Lib.hid (below_via hb.out hb1)
            have Lsl := Lib.hid hlsl
            have Lin := Lib.hid hlin
            have Lx := Lib.hid hlx
            have Ll := Lib.hid hll
            have Lnl := Lib.hid hnl
            clear hb1 hlsl hlin hlx hll hnl Hr1
            have hr2 := rrowsB_c A k c ax v1 (HA.out.after T1.out)
            rw [hRR] at hr2
            have Hr2 := Lib.hid hr2
            clear hr2 hRR
            go_wp2_with fail
            refine Hr2.out.mono ?_
            rintro e v2 ⟨vv2, rfl, ⟨hsaid, hb2⟩⟩
            obtain ⟨Am, nm, cm, hm, rfl, hml, hnm, hmsl, hmin, hmx⟩ := hsaid
            have T2 := Lib.hid hb2
            have Msl := Lib.hid hmsl
            have Min : Hid (∀ h ∈ hm, Hd.In v2 h) := Lib.hid fun h hh => by
              obtain ⟨x, hx, rfl⟩ := hmin h hh
              exact ((HA.out.after (below_via T1.out T2.out)).each x hx).hd
            have Mx := Lib.hid hmx
            have Ml := Lib.hid hml
            have Mnm := Lib.hid hnm
            clear hb2 hmsl hmin hmx hml hnm Hr2
            go_wp2_with fail
            refine (fixed_c v2 (HG.out.after (below_via T1.out T2.out))).mono ?_
            rintro e v3 ⟨rfl, hb3⟩
            have T3 := Lib.hid hb3
            clear hb3
            have hcs := sameRows_c Al Am nl nm cl cm hl hm v3 Ll.out Ml.out (by have := Lnl.out; unfold maxLen; omega) (by have := Mnm.out; unfold maxLen; omega) (Lsl.out.after (below_via T2.out T3.out)) (fun h hh => ((Lin.out h hh).after (below_via T2.out T3.out)).hd) (Msl.out.after T3.out) (fun h hh => (Min.out h hh).after T3.out)
            rw [Lx.out, Mx.out, sameR_self] at hcs
            have Hcs := Lib.hid hcs
            clear hcs
            go_wp2_with fail
            refine Hcs.out.mono ?_
            rintro e v4 ⟨rfl, hb4⟩
            have HF := Lib.hid (below_via (below_via (below_via T1.out T2.out) T3.out) hb4)
            clear hb4 Hcs
            cases RR
            all_goals
              go_wp2
              go_ret
              exact ⟨rfl, HF.out⟩
          · cases h2 : decide (u ≤ 100000)
            · go_wp2_with fail
              obtain ⟨RR, hRR⟩ : ∃ RR, rowsOkB (pl ax) = RR := ⟨_, rfl⟩
              have hr1 := rows_c A k c ax wr (HA.out.after hb.out) (by omega)
              rw [hRR] at hr1
              have Hr1 := Lib.hid hr1
              clear hr1
              refine Hr1.out.mono ?_
              rintro e v1 ⟨vv, rfl, ⟨hsaid, hb1⟩⟩
              obtain ⟨Al, nl, cl, hl, rfl, hll, hnl, hlsl, hlin, hlx⟩ := hsaid
              have T1 := Lib.hid (below_via hb.out hb1)
              have Lsl := Lib.hid hlsl
              have Lin := Lib.hid hlin
              have Lx := Lib.hid hlx
              have Ll := Lib.hid hll
              have Lnl := Lib.hid hnl
              clear hb1 hlsl hlin hlx hll hnl Hr1
              have hr2 := rrowsB_c A k c ax v1 (HA.out.after T1.out)
              rw [hRR] at hr2
              have Hr2 := Lib.hid hr2
              clear hr2 hRR
              go_wp2_with fail
              refine Hr2.out.mono ?_
              rintro e v2 ⟨vv2, rfl, ⟨hsaid, hb2⟩⟩
              obtain ⟨Am, nm, cm, hm, rfl, hml, hnm, hmsl, hmin, hmx⟩ := hsaid
              have T2 := Lib.hid hb2
              have Msl := Lib.hid hmsl
              have Min : Hid (∀ h ∈ hm, Hd.In v2 h) := Lib.hid fun h hh => by
                obtain ⟨x, hx, rfl⟩ := hmin h hh
                exact ((HA.out.after (below_via T1.out T2.out)).each x hx).hd
              have Mx := Lib.hid hmx
              have Ml := Lib.hid hml
              have Mnm := Lib.hid hnm
              clear hb2 hmsl hmin hmx hml hnm Hr2
              go_wp2_with fail
              refine (fixed_c v2 (HG.out.after (below_via T1.out T2.out))).mono ?_
              rintro e v3 ⟨rfl, hb3⟩
              have T3 := Lib.hid hb3
              clear hb3
              have hcs := sameRows_c Al Am nl nm cl cm hl hm v3 Ll.out Ml.out (by have := Lnl.out; unfold maxLen; omega) (by have := Mnm.out; unfold maxLen; omega) (Lsl.out.after (below_via T2.out T3.out)) (fun h hh => ((Lin.out h hh).after (below_via T2.out T3.out)).hd) (Msl.out.after T3.out) (fun h hh => (Min.out h hh).after T3.out)
              rw [Lx.out, Mx.out, sameR_self] at hcs
              have Hcs := Lib.hid hcs
              clear hcs
              go_wp2_with fail
              refine Hcs.out.mono ?_
              rintro e v4 ⟨rfl, hb4⟩
              have HF := Lib.hid (below_via (below_via (below_via T1.out T2.out) T3.out) hb4)
              clear hb4 Hcs
              cases RR
              all_goals
                go_wp2
                go_ret
                exact ⟨rfl, HF.out⟩
            · go_wp2_with fail
              refine (fixed_c wr (HG.out.after hb.out)).mono ?_
              rintro e v1 ⟨rfl, hb1⟩
              have HF := Lib.hid (below_via hb.out hb1)
              clear hb1
              go_wp2
              go_ret
              exact ⟨rfl, HF.out⟩
end Go.Proofs.YthgoflaphbigbaaGreatDoor
