/-
  The law RowFits, walked: of any row, columns and number it answers true, and turns nothing that was there.
-/
import Derived.Test.YtbhliihmipbfjaaDoorEv4
namespace Go.Proofs.YtbhliihmipbfjaaDoor
open Go Go.RowKit
set_option maxRecDepth 100000

set_option maxHeartbeats 2000000 in
theorem fits4_c (A B C : Option Addr) (n c k kc b bc : Nat) (xs : List Val) (ks : List Int) (bs : List Bool) (pv : Value) (at_ : Int) (w : World) (hx : RowIn w A n xs) (hc : n ≤ c) (hk : ColIn w B C k b ks bs) (hat : -9223372036854775808 ≤ at_ ∧ at_ ≤ 9223372036854775807) (hG : Gl w) :
    Calls Tryd.prog 5 #[.slice A n c, .agg #[.slice B k kc, .slice C b bc, pv], .int .i64 at_] w fun en w' => en = .returned (.bool true) ∧ Below w.heap.size w w' := by
  have Hx0 := Lib.hid hx
  have Hk0 := Lib.hid hk
  have HG0 := Lib.hid hG
  clear hx hk hG
  go_enter Tryd.func5, Tryd.ntmps5
  go_wp2_with fail
  have HW : Hid (Below w.heap.size w (w.alloc (.cells #[.slice A n c, .slice B k kc] 0))) := below_one _ _
  clear HW
  obtain ⟨W0, hW0, HW, Hbx⟩ : ∃ W0, w.alloc (.cells #[.slice B k kc, .slice C b bc, pv] 36) = W0 ∧ Hid (Below w.heap.size w W0) ∧ Hid (CBx W0 w.heap.size (.slice B k kc) (.slice C b bc)) := ⟨_, rfl, Lib.hid (below_one _ _), Lib.hid (CBx.newAt rfl)⟩
  rw [hW0]
  clear hW0
  have Hx := Lib.hid (Hx0.out.after HW.out)
  have Hk := Lib.hid (Hk0.out.after HW.out)
  have HG := Lib.hid (HG0.out.after HW.out)
  clear Hx0 Hk0 HG0
  obtain ⟨gb, hgb⟩ : ∃ gb, w.heap.size = gb := ⟨_, rfl⟩
  rw [hgb] at Hbx ⊢
  clear hgb
  refine (fixed_c _ HG.out).mono ?_
  rintro en w1 ⟨rfl, hb1⟩
  have Hb1 := Lib.hid hb1
  clear hb1
  go_wp2_with fail
  refine (long_c A n c xs _ Hx.out.len Hx.out.max (Hx.out.after Hb1.out).sl Hx.out.sz).mono ?_
  rintro en w2 ⟨rfl, hb2⟩
  have Hb2 := Lib.hid (below_via Hb1.out hb2)
  clear hb2 Hb1
  cases hmx : longR xs
  case true =>
    go_wp2_with fail
    refine (fixed_c _ (HG.out.after Hb2.out)).mono ?_
    rintro en w9 ⟨rfl, hb9⟩
    have Hb9 := Lib.hid (HW.out.trans ((below_via Hb2.out hb9).mono HW.out.size))
    clear hb9
    go_wp2
    go_ret
    exact ⟨rfl, Hb9.out⟩
  clear hmx
  have cb0 := (Hbx.out.after Hb2.out).c0
  have cb1 := (Hbx.out.after Hb2.out).c1
  have lb0 := (Hbx.out.after Hb2.out).lt
  go_wp2_with fail
  refine (fits_c A B C n c k kc b bc xs ks bs _ Hx.out.len Hx.out.max (Hx.out.after Hb2.out).sl Hx.out.sz Hk.out.kl Hk.out.km (Hk.out.after Hb2.out).ks Hk.out.bl Hk.out.bm (Hk.out.after Hb2.out).bs).mono ?_
  rintro en w3 ⟨rfl, hb3⟩
  have Hb3 := Lib.hid (below_via Hb2.out hb3)
  clear hb3 Hb2 cb0 cb1 lb0
  cases hfit : fitsR xs ks bs
  case false =>
    go_wp2_with fail
    refine (fixed_c _ (HG.out.after Hb3.out)).mono ?_
    rintro en w9 ⟨rfl, hb9⟩
    have Hb9 := Lib.hid (HW.out.trans ((below_via Hb3.out hb9).mono HW.out.size))
    clear hb9
    go_wp2
    go_ret
    exact ⟨rfl, Hb9.out⟩
  obtain ⟨hp1, hp2, hp3, hp4⟩ := fits_parts hfit
  have hn40 := may_len hp1
  rw [Hx.out.len] at hn40 hp2 hp3
  rw [Hk.out.kl] at hp2
  rw [Hk.out.bl] at hp3
  have Hfit := Lib.hid hfit
  clear hp1 hp4 hfit
  obtain rfl := hp2.symm
  obtain rfl := hp3.symm
  by_cases h0 : at_ < 0
  case pos =>
    go_wp2_with fail
    refine (fixed_c _ (HG.out.after Hb3.out)).mono ?_
    rintro en w9 ⟨rfl, hb9⟩
    have Hb9 := Lib.hid (HW.out.trans ((below_via Hb3.out hb9).mono HW.out.size))
    clear hb9
    go_wp2
    go_ret
    exact ⟨rfl, Hb9.out⟩
  by_cases h1 : (n : Int) ≤ at_
  case pos =>
    go_wp2_with fail
    refine (fixed_c _ (HG.out.after Hb3.out)).mono ?_
    rintro en w9 ⟨rfl, hb9⟩
    have Hb9 := Lib.hid (HW.out.trans ((below_via Hb3.out hb9).mono HW.out.size))
    clear hb9
    go_wp2
    go_ret
    exact ⟨rfl, Hb9.out⟩
  obtain ⟨i, rfl⟩ : ∃ i : Nat, at_ = i := ⟨at_.toNat, by omega⟩
  have hin : i < n := by omega
  have h0' : decide ((i : Int) < 0) = false := decide_eq_false (by omega)
  have h1' : decide ((n : Int) ≤ (i : Int)) = false := decide_eq_false (by omega)
  have h2' : decide (n ≤ i) = false := decide_eq_false (by omega)
  clear h0 h1 hat
  go_wp2_with fail
  have Hown : Hid (OwnB (w3.alloc (.cells #[] 4)) W0.heap.size (.slice (some ⟨w3.heap.size, 0, none⟩) 0 0) []) := OwnG.made w3 W0.heap.size _ #[] 0 Hb3.out.size (Nat.zero_le _) rfl
  have Hb4 : Hid (Below W0.heap.size W0 (w3.alloc (.cells #[] 4))) := below_al Hb3.out _
  clear Hb3
  go_loopw [7, 8] (fun v q wr => ∃ j : Nat, j ≤ n ∧ q = .int .i64 j ∧ Hid (OwnB wr W0.heap.size v (List.replicate j true)) ∧ Hid (Below W0.heap.size W0 wr)) (fun _ q _ => n - (intOf q).toNat)
  case atStart => exact ⟨0, Nat.zero_le _, rfl, Hown, Hb4⟩
  case round =>
    obtain ⟨j, hj, rfl, ho, hb⟩ := hrel
    clear Hown Hb4
    by_cases hlt : j < n
    · obtain ⟨A1, c1, hv⟩ := ho.out.isSlice
      rw [List.length_replicate] at hv
      subst hv
      go_wp2_with (at_builtin; go_must (
        refine wpList_appG bOk rfl (.tmp 43) (.tmp 44) rfl W0.heap.size _ (List.replicate j true) [true] (some ⟨wr.heap.size, 0, none⟩) 1 1 rfl (ho.out.alloc _) rfl rfl (SlG.new bOk.len [true] rfl) (by simp [maxLen]; omega) (by simp; omega) (by have := hb.out.size; simp; omega) ?_
        intro v3 w4 hv3 hg3
        have e3 : List.replicate j true ++ [true] = List.replicate (j + 1) true := List.replicate_succ'.symm
        rw [e3] at hv3
        have Hv3 := Lib.hid hv3
        have Hb5 := Lib.hid ((hb.out.alloc hb.out.size _).grown hg3 (by have := hb.out.size; simp; omega) (fun k hk => (ho.out.lt k hk).1))
        clear hv3 hg3 e3))
      go_roundw
      case rel => exact ⟨j + 1, by omega, by go_num, Hv3, Hb5⟩
      case measure => simp [intOf]; omega
    · obtain rfl : j = n := by omega
      obtain ⟨A', c', rfl, _, _, hall⟩ := ho.out.sl bOk.len
      rw [List.length_replicate]
      have Hall := Lib.hid hall
      clear hall ho
      have Hx2 := Lib.hid (Hx.out.after hb.out)
      go_wp2_with (at_builtin; go_must (
        refine wpList_appG vOk rfl (.tmp 46) (.tmp 47) rfl wr.heap.size _ ([] : List Val) xs A j c rfl (OwnG.made wr wr.heap.size _ #[] 0 (Nat.le_refl _) (Nat.zero_le _) rfl) rfl Hx.out.len (Hx2.out.after (below_one _ _)).sl.slG (by rw [Hx.out.len]; simp only [List.length_nil]; unfold maxLen; omega) (by rw [Hx.out.len]; simp only [List.length_nil]; omega) (by simp) ?_
        intro v3 w4 hv3 hg3
        rw [List.nil_append] at hv3
        have hb4 := (below_one wr (.cells #[] 45)).grown hg3 (by simp) (fun k hk => by cases hk; exact Nat.le_refl _)
        have hxne : xs ≠ [] := fun e => by have := Hx.out.len; rw [e] at this; simp at this; omega
        have hsl := hv3.hd
        obtain ⟨g, c3, rfl, hg1, hg2, hfz⟩ := OwnG.some hv3 hxne
        obtain ⟨⟨sA, sn, sc, sxs⟩, hv, hsi, hsx, _, _⟩ := hsl
        simp only [] at hsx hv
        subst hsx
        injection hv with hv1 hv2 hv3'
        subst hv1 hv2 hv3'
        have hss := hsi.sl
        simp only [] at hss
        have hlen := Hx.out.len
        obtain ⟨y, hy⟩ : ∃ y, sxs[i]? = some y := ⟨_, List.getElem?_eq_getElem (by omega)⟩
        obtain ⟨b1, o1, y1, e1, _, _, d0, d1, d2⟩ := hss.at3 (k := i) (by omega)
        injection e1 with e1
        injection e1 with e1 e2
        subst e1 e2
        rw [Nat.zero_add] at d0 d1 d2
        have z0 := hfz (i * 3)
        have z1 := hfz (i * 3 + 1)
        have z2 := hfz (i * 3 + 2)
        rw [hlen]
        have Hss := Lib.hid hss
        have Hb4 := Lib.hid hb4
        have Hg1 := Lib.hid hg1
        clear hv3 hg3 hb4 hss hsi hy hfz hxne hlen hg1))
      obtain ⟨bB, oB, kk, rfl, hbB, hkk, ck⟩ := Hk.out.ks.at1 (k := i) (by rw [Hk.out.kl]; exact hin)
      obtain ⟨bC, oC, z, rfl, hbC, hz, cz⟩ := Hk.out.bs.at1 (k := i) (by rw [Hk.out.bl]; exact hin)
      have hb5 := Hb4.out.setCell (p := ⟨g, i * 3, none⟩) Hg1.out (.int .i64 0)
      have hb6 := hb5.setCell (p := ⟨g, i * 3 + 1, none⟩) Hg1.out (.int .i64 0)
      have hb7 := hb6.setCell (p := ⟨g, i * 3 + 2, none⟩) Hg1.out (.string ⟨#[]⟩)
      have Hset3 : Hid (Sl _ (some ⟨g, 0, none⟩) (sxs.set i nl)) := Hss.out.set3 i (by rw [Hx.out.len]; exact hin) nl
      obtain ⟨w5, hw5⟩ : ∃ w5, ((w4.setCell ⟨g, i * 3, none⟩ (.int .i64 0)).setCell ⟨g, i * 3 + 1, none⟩ (.int .i64 0)).setCell ⟨g, i * 3 + 2, none⟩ (.string ⟨#[]⟩) = w5 := ⟨_, rfl⟩
      rw [show ((w4.setCell ⟨g, i * 3, none⟩ (.int .i64 nl.k)).setCell ⟨g, i * 3 + 1, none⟩ (.int .i64 nl.n)).setCell ⟨g, i * 3 + 2, none⟩ (.string nl.s) = w5 from hw5] at Hset3
      rw [hw5] at hb7 ⊢
      have hb8 := below_via hb.out hb7
      have Hx3 := Lib.hid (Hx.out.after hb8)
      have Hk3 := Lib.hid (Hk.out.after hb8)
      have Hbx3 := Lib.hid (Hbx.out.after hb8)
      have Hall3 := Lib.hid (Hall.out.after hb7)
      have dk := Lib.hid ((hb8.cell (p := ⟨bB, oB + i, none⟩) hbB).trans (ck _ rfl))
      have dz := Lib.hid ((hb8.cell (p := ⟨bC, oC + i, none⟩) hbC).trans (cz _ rfl))
      have lB : bB < w5.heap.size := Nat.lt_of_lt_of_le hbB hb8.size
      have lC : bC < w5.heap.size := Nat.lt_of_lt_of_le hbC hb8.size
      have hmore := fits_more Hfit.out
      rw [Hx.out.len] at hmore
      have Hmore := Lib.hid hmore
      have hset := fits_set Hfit.out i kk z (by rw [Hx.out.len]; exact hin) hkk hz
      have Hb4' := Lib.hid hb8
      clear Hb4 hb5 hb6 hb7 hb8 hw5 ck cz hkk hz hbB hbC hmore Hall Hss Hg1 hb Hx2 d0 d1 d2 z0 z1 z2 Hfit Hbx
      have Hb4 := Hb4'
      clear Hb4'
      cases z
      · rw [Bool.false_or] at hset
        have Hset := Lib.hid hset
        clear hset
        refine Reg.wp_region_vals mixed (by kernel_rfl) [(53, .slice A j c), (54, .pointer (some ⟨gb, 0, none⟩)), (55, .slice (some ⟨bB, oB, none⟩) j kc), (56, .slice A' j c'), (57, .bool true), (58, .bool true), (59, .slice (some ⟨g, 0, none⟩) j c3), (60, .pointer (some ⟨gb, 0, none⟩)), (61, .slice (some ⟨bB, oB, none⟩) j kc), (62, .pointer (some ⟨gb, 1, none⟩)), (63, .slice (some ⟨bC, oC, none⟩) j bc), (64, .bool (kk == 0)), (65, .pointer (some ⟨gb, 1, none⟩)), (66, .slice (some ⟨bC, oC, none⟩) j bc), (67, .int .i64 (i : Nat)), (68, .pointer (some ⟨bC, oC + i, none⟩)), (69, .bool false), (70, .bool false), (71, .pointer (some ⟨gb, 0, none⟩)), (72, .slice (some ⟨bB, oB, none⟩) j kc), (73, .int .i64 (i : Nat)), (74, .pointer (some ⟨bB, oB + i, none⟩)), (75, .int .i64 kk), (76, .bool (kk == 0)), (77, .bool (kk == 0)), (78, .bool true), (79, .bool true), (6, .bool true)] 80 rfl (by kernel_rfl) ?_ ?_
        · intro F hF w' hB
          have ix := Hx3.out.after hB
          have ik := Hk3.out.after hB
          have ib := Hbx3.out.after hB
          have iall := Hall3.out.after hB
          have iset := Hset3.out.after hB
          have jz := (hB.cell (p := ⟨bC, oC + i, none⟩) lC).trans dz.out
          have jk := (hB.cell (p := ⟨bB, oB + i, none⟩) lB).trans dk.out
          refine ⟨?_, ?_, ?_, ?_, ?_, ?_, ?_, ?_, ?_, ?_, ?_, ?_, ?_, ?_, ?_, ?_, ?_, ?_, ?_, ?_, ?_, ?_, ?_, ?_, ?_, ?_, ?_, ?_, trivial⟩
          · exact Reg.doesV_val (ev_move rfl) (by rw [hF]; kernel_rfl) (by rw [hF]; kernel_rfl)
          · exact Reg.doesV_val (ev_fld0 (b := gb) rfl (by rw [hF]; kernel_rfl)) (by rw [hF]; kernel_rfl) (by rw [hF]; kernel_rfl)
          · exact Reg.doesV_val (ev_loadIs (A := some ⟨bB, oB, none⟩) (n := j) (c := kc) ib.c0 rfl (by rw [hF]; kernel_rfl)) (by rw [hF]; kernel_rfl) (by rw [hF]; kernel_rfl)
          · exact Reg.doesV_val (ev_move rfl) (by rw [hF]; kernel_rfl) (by rw [hF]; kernel_rfl)
          · exact Reg.doesV_call (by have h := fits_c A (some ⟨bB, oB, none⟩) A' j c j kc j c' sxs ks (List.replicate j true) w' Hx.out.len Hx.out.max ix.sl Hx.out.sz ik.kl ik.km ik.ks (by simp) Hx.out.max iall; rw [Hmore.out] at h; exact h) (ev_call enFits rfl (by rw [hF]; kernel_rfl)) (by rw [hF]; kernel_rfl) (by rw [hF]; kernel_rfl)
          · exact Reg.doesV_val (ev_move rfl) (by rw [hF]; kernel_rfl) (by rw [hF]; kernel_rfl)
          · exact Reg.doesV_val (ev_move rfl) (by rw [hF]; kernel_rfl) (by rw [hF]; kernel_rfl)
          · exact Reg.doesV_val (ev_fld0 (b := gb) rfl (by rw [hF]; kernel_rfl)) (by rw [hF]; kernel_rfl) (by rw [hF]; kernel_rfl)
          · exact Reg.doesV_val (ev_loadIs (A := some ⟨bB, oB, none⟩) (n := j) (c := kc) ib.c0 rfl (by rw [hF]; kernel_rfl)) (by rw [hF]; kernel_rfl) (by rw [hF]; kernel_rfl)
          · exact Reg.doesV_val (ev_fld1 (b := gb) rfl (by rw [hF]; kernel_rfl)) (by rw [hF]; kernel_rfl) (by rw [hF]; kernel_rfl)
          · exact Reg.doesV_val (ev_loadBs (A := some ⟨bC, oC, none⟩) (n := j) (c := bc) ib.c1 rfl (by rw [hF]; kernel_rfl)) (by rw [hF]; kernel_rfl) (by rw [hF]; kernel_rfl)
          · exact Reg.doesV_call (by have h := fits_c (some ⟨g, 0, none⟩) (some ⟨bB, oB, none⟩) (some ⟨bC, oC, none⟩) j c3 j kc j bc (sxs.set i nl) ks bs w' (by rw [List.length_set]; exact Hx.out.len) Hx.out.max iset (fun x hx => by rcases List.mem_or_eq_of_mem_set hx with h | h; exact Hx.out.sz x h; rw [h]; exact Nat.zero_le _) ik.kl ik.km ik.ks ik.bl ik.bm ik.bs; rw [Hset.out] at h; exact h) (ev_call enFits rfl (by rw [hF]; kernel_rfl)) (by rw [hF]; kernel_rfl) (by rw [hF]; kernel_rfl)
          · exact Reg.doesV_val (ev_fld1 (b := gb) rfl (by rw [hF]; kernel_rfl)) (by rw [hF]; kernel_rfl) (by rw [hF]; kernel_rfl)
          · exact Reg.doesV_val (ev_loadBs (A := some ⟨bC, oC, none⟩) (n := j) (c := bc) ib.c1 rfl (by rw [hF]; kernel_rfl)) (by rw [hF]; kernel_rfl) (by rw [hF]; kernel_rfl)
          · exact Reg.doesV_val (ev_move rfl) (by rw [hF]; kernel_rfl) (by rw [hF]; kernel_rfl)
          · exact Reg.doesV_val (ev_idxB (b := bC) (off := oC) (n := j) (c := bc) (k := i) hin rfl (by rw [hF]; kernel_rfl) (by rw [hF]; kernel_rfl)) (by rw [hF]; kernel_rfl) (by rw [hF]; kernel_rfl)
          · exact Reg.doesV_val (ev_loadB (k := false) jz rfl (by rw [hF]; kernel_rfl)) (by rw [hF]; kernel_rfl) (by rw [hF]; kernel_rfl)
          · exact Reg.doesV_val (ev_move rfl) (by rw [hF]; kernel_rfl) (by rw [hF]; kernel_rfl)
          · exact Reg.doesV_val (ev_fld0 (b := gb) rfl (by rw [hF]; kernel_rfl)) (by rw [hF]; kernel_rfl) (by rw [hF]; kernel_rfl)
          · exact Reg.doesV_val (ev_loadIs (A := some ⟨bB, oB, none⟩) (n := j) (c := kc) ib.c0 rfl (by rw [hF]; kernel_rfl)) (by rw [hF]; kernel_rfl) (by rw [hF]; kernel_rfl)
          · exact Reg.doesV_val (ev_move rfl) (by rw [hF]; kernel_rfl) (by rw [hF]; kernel_rfl)
          · exact Reg.doesV_val (ev_idxI (b := bB) (off := oB) (n := j) (c := kc) (k := i) hin rfl (by rw [hF]; kernel_rfl) (by rw [hF]; kernel_rfl)) (by rw [hF]; kernel_rfl) (by rw [hF]; kernel_rfl)
          · exact Reg.doesV_val (ev_loadI (k := kk) jk rfl (by rw [hF]; kernel_rfl)) (by rw [hF]; kernel_rfl) (by rw [hF]; kernel_rfl)
          · exact Reg.doesV_val (ev_eqIC kk 0 rfl (by rw [hF]; kernel_rfl)) (by rw [hF]; kernel_rfl) (by rw [hF]; kernel_rfl)
          · exact Reg.doesV_val (ev_pick false rfl (by rw [hF]; kernel_rfl)) (by rw [hF]; kernel_rfl) (by rw [hF]; kernel_rfl)
          · exact Reg.doesV_val (by rw [ev_eqB (kk == 0) (kk == 0) rfl (by rw [hF]; kernel_rfl) (by rw [hF]; kernel_rfl), beq_self_eq_true]) (by rw [hF]; kernel_rfl) (by rw [hF]; kernel_rfl)
          · exact Reg.doesV_val (ev_pick true rfl (by rw [hF]; kernel_rfl)) (by rw [hF]; kernel_rfl) (by rw [hF]; kernel_rfl)
          · exact Reg.doesV_val (ev_assign rfl) (by rw [hF]; kernel_rfl) (by rw [hF]; kernel_rfl)
        · intro w8 hB
          simp only [Reg.putAll, Act.put, List.setIfInBounds_toArray, List.set_cons_zero, List.set_cons_succ]
          have Hb8 := Lib.hid (HW.out.trans ((Hb4.out.trans (hB.mono Hb4.out.size)).mono HW.out.size))
          clear hB Hb4 Hx3 Hk3 Hbx3 Hall3 Hset3 dz dk Hmore Hset Hx Hk
          go_wp2
          go_ret
          exact ⟨rfl, Hb8.out⟩
      · rw [Bool.true_or] at hset
        have Hset := Lib.hid hset
        clear hset
        refine Reg.wp_region_vals mixed (by kernel_rfl) [(53, .slice A j c), (54, .pointer (some ⟨gb, 0, none⟩)), (55, .slice (some ⟨bB, oB, none⟩) j kc), (56, .slice A' j c'), (57, .bool true), (58, .bool true), (59, .slice (some ⟨g, 0, none⟩) j c3), (60, .pointer (some ⟨gb, 0, none⟩)), (61, .slice (some ⟨bB, oB, none⟩) j kc), (62, .pointer (some ⟨gb, 1, none⟩)), (63, .slice (some ⟨bC, oC, none⟩) j bc), (64, .bool true), (65, .pointer (some ⟨gb, 1, none⟩)), (66, .slice (some ⟨bC, oC, none⟩) j bc), (67, .int .i64 (i : Nat)), (68, .pointer (some ⟨bC, oC + i, none⟩)), (69, .bool true), (70, .bool true), (71, undef), (72, undef), (73, undef), (74, undef), (75, undef), (76, undef), (77, .bool true), (78, .bool true), (79, .bool true), (6, .bool true)] 80 rfl (by kernel_rfl) ?_ ?_
        · intro F hF w' hB
          have ix := Hx3.out.after hB
          have ik := Hk3.out.after hB
          have ib := Hbx3.out.after hB
          have iall := Hall3.out.after hB
          have iset := Hset3.out.after hB
          have jz := (hB.cell (p := ⟨bC, oC + i, none⟩) lC).trans dz.out
          refine ⟨?_, ?_, ?_, ?_, ?_, ?_, ?_, ?_, ?_, ?_, ?_, ?_, ?_, ?_, ?_, ?_, ?_, ?_, ?_, ?_, ?_, ?_, ?_, ?_, ?_, ?_, ?_, ?_, trivial⟩
          · exact Reg.doesV_val (ev_move rfl) (by rw [hF]; kernel_rfl) (by rw [hF]; kernel_rfl)
          · exact Reg.doesV_val (ev_fld0 (b := gb) rfl (by rw [hF]; kernel_rfl)) (by rw [hF]; kernel_rfl) (by rw [hF]; kernel_rfl)
          · exact Reg.doesV_val (ev_loadIs (A := some ⟨bB, oB, none⟩) (n := j) (c := kc) ib.c0 rfl (by rw [hF]; kernel_rfl)) (by rw [hF]; kernel_rfl) (by rw [hF]; kernel_rfl)
          · exact Reg.doesV_val (ev_move rfl) (by rw [hF]; kernel_rfl) (by rw [hF]; kernel_rfl)
          · exact Reg.doesV_call (by have h := fits_c A (some ⟨bB, oB, none⟩) A' j c j kc j c' sxs ks (List.replicate j true) w' Hx.out.len Hx.out.max ix.sl Hx.out.sz ik.kl ik.km ik.ks (by simp) Hx.out.max iall; rw [Hmore.out] at h; exact h) (ev_call enFits rfl (by rw [hF]; kernel_rfl)) (by rw [hF]; kernel_rfl) (by rw [hF]; kernel_rfl)
          · exact Reg.doesV_val (ev_move rfl) (by rw [hF]; kernel_rfl) (by rw [hF]; kernel_rfl)
          · exact Reg.doesV_val (ev_move rfl) (by rw [hF]; kernel_rfl) (by rw [hF]; kernel_rfl)
          · exact Reg.doesV_val (ev_fld0 (b := gb) rfl (by rw [hF]; kernel_rfl)) (by rw [hF]; kernel_rfl) (by rw [hF]; kernel_rfl)
          · exact Reg.doesV_val (ev_loadIs (A := some ⟨bB, oB, none⟩) (n := j) (c := kc) ib.c0 rfl (by rw [hF]; kernel_rfl)) (by rw [hF]; kernel_rfl) (by rw [hF]; kernel_rfl)
          · exact Reg.doesV_val (ev_fld1 (b := gb) rfl (by rw [hF]; kernel_rfl)) (by rw [hF]; kernel_rfl) (by rw [hF]; kernel_rfl)
          · exact Reg.doesV_val (ev_loadBs (A := some ⟨bC, oC, none⟩) (n := j) (c := bc) ib.c1 rfl (by rw [hF]; kernel_rfl)) (by rw [hF]; kernel_rfl) (by rw [hF]; kernel_rfl)
          · exact Reg.doesV_call (by have h := fits_c (some ⟨g, 0, none⟩) (some ⟨bB, oB, none⟩) (some ⟨bC, oC, none⟩) j c3 j kc j bc (sxs.set i nl) ks bs w' (by rw [List.length_set]; exact Hx.out.len) Hx.out.max iset (fun x hx => by rcases List.mem_or_eq_of_mem_set hx with h | h; exact Hx.out.sz x h; rw [h]; exact Nat.zero_le _) ik.kl ik.km ik.ks ik.bl ik.bm ik.bs; rw [Hset.out] at h; exact h) (ev_call enFits rfl (by rw [hF]; kernel_rfl)) (by rw [hF]; kernel_rfl) (by rw [hF]; kernel_rfl)
          · exact Reg.doesV_val (ev_fld1 (b := gb) rfl (by rw [hF]; kernel_rfl)) (by rw [hF]; kernel_rfl) (by rw [hF]; kernel_rfl)
          · exact Reg.doesV_val (ev_loadBs (A := some ⟨bC, oC, none⟩) (n := j) (c := bc) ib.c1 rfl (by rw [hF]; kernel_rfl)) (by rw [hF]; kernel_rfl) (by rw [hF]; kernel_rfl)
          · exact Reg.doesV_val (ev_move rfl) (by rw [hF]; kernel_rfl) (by rw [hF]; kernel_rfl)
          · exact Reg.doesV_val (ev_idxB (b := bC) (off := oC) (n := j) (c := bc) (k := i) hin rfl (by rw [hF]; kernel_rfl) (by rw [hF]; kernel_rfl)) (by rw [hF]; kernel_rfl) (by rw [hF]; kernel_rfl)
          · exact Reg.doesV_val (ev_loadB (k := true) jz rfl (by rw [hF]; kernel_rfl)) (by rw [hF]; kernel_rfl) (by rw [hF]; kernel_rfl)
          · exact Reg.doesV_val (ev_move rfl) (by rw [hF]; kernel_rfl) (by rw [hF]; kernel_rfl)
          · exact Reg.doesV_skip (by rw [hF]; kernel_rfl) (by rw [hF]; kernel_rfl)
          · exact Reg.doesV_skip (by rw [hF]; kernel_rfl) (by rw [hF]; kernel_rfl)
          · exact Reg.doesV_skip (by rw [hF]; kernel_rfl) (by rw [hF]; kernel_rfl)
          · exact Reg.doesV_skip (by rw [hF]; kernel_rfl) (by rw [hF]; kernel_rfl)
          · exact Reg.doesV_skip (by rw [hF]; kernel_rfl) (by rw [hF]; kernel_rfl)
          · exact Reg.doesV_skip (by rw [hF]; kernel_rfl) (by rw [hF]; kernel_rfl)
          · exact Reg.doesV_val (ev_pick true rfl (by rw [hF]; kernel_rfl)) (by rw [hF]; kernel_rfl) (by rw [hF]; kernel_rfl)
          · exact Reg.doesV_val (by rw [ev_eqB true true rfl (by rw [hF]; kernel_rfl) (by rw [hF]; kernel_rfl), beq_self_eq_true]) (by rw [hF]; kernel_rfl) (by rw [hF]; kernel_rfl)
          · exact Reg.doesV_val (ev_pick true rfl (by rw [hF]; kernel_rfl)) (by rw [hF]; kernel_rfl) (by rw [hF]; kernel_rfl)
          · exact Reg.doesV_val (ev_assign rfl) (by rw [hF]; kernel_rfl) (by rw [hF]; kernel_rfl)
        · intro w8 hB
          simp only [Reg.putAll, Act.put, List.setIfInBounds_toArray, List.set_cons_zero, List.set_cons_succ]
          have Hb8 := Lib.hid (HW.out.trans ((Hb4.out.trans (hB.mono Hb4.out.size)).mono HW.out.size))
          clear hB Hb4 Hx3 Hk3 Hbx3 Hall3 Hset3 dz dk Hmore Hset Hx Hk
          go_wp2
          go_ret
          exact ⟨rfl, Hb8.out⟩
end Go.Proofs.YtbhliihmipbfjaaDoor
