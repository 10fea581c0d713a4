/-
  The document's own: what stays of a bag. Of all views, and bags of at most 10000 rows.
-/
import Derived.Test.YtbpopkgpepmlcaaGreatRL
set_option linter.unusedVariables false
set_option linter.unusedSimpArgs false
namespace Go.Proofs.YtbpopkgpepmlcaaGreat
open Go Go.RowKit
set_option maxRecDepth 100000
attribute [local go_sem ↓] Go.wp_at_zero Go.wp_at_succ

theorem rtrue_c (A A2 : Option Addr) (n c m c2 : Nat) (e : List Nd) (row : List Val) (w : World) (hn : e.length = n) (hs : SlN w A e) (hmax : n ≤ maxLen) (hm : row.length = m) (hmax2 : m ≤ maxLen) (hs2 : Sl w A2 row) (hz : ∀ x ∈ e, x.v.s.size ≤ maxLen) (hr64 : ∀ v ∈ row, I6n v.n) (he64 : ∀ x ∈ e, I6n x.v.n) :
    Calls Tryz.prog 28 #[.slice A n c, .slice A2 m c2] w fun en w' => TrueSaid w (trueR e row) en w' := by
  by_cases h0 : n = 0
  · have e1 : trueR e row = (true, 0) := by unfold trueR; rw [if_pos (by omega)]
    rw [e1]
    subst h0
    have hsaid : Hid (∀ w', Below w.heap.size w w' → TrueSaid w (true, 0) (.returned (.tuple #[.bool true, .int .i64 0])) w') := Lib.hid fun w' hb => ⟨true, rfl, fun _ => rfl, hb⟩
    obtain ⟨R, hR⟩ : ∃ R, TrueSaid w (true, 0) = R := ⟨_, rfl⟩
    rw [hR] at hsaid ⊢
    clear e1 hs hs2 hm hz hn hmax hmax2 hr64 he64 hR
    go_enter Tryz.func28, Tryz.ntmps28
    go_wp2
    exact hsaid.out _ (Below.refl _ _)
  · have e1 : trueR e row = ((evalR e row).1.eq tt, (evalR e row).2) := by unfold trueR; rw [if_neg (by omega)]
    rw [e1]
    exact rtrue_of A A2 n c m c2 (evalR e row).1 (evalR e row).2 w h0 hmax (Lib.hid (reval_c A A2 n c m c2 e row w hn hs hmax hm hmax2 hs2 hz hr64 he64))
set_option maxHeartbeats 8000000 in
theorem rwhere10_c (x : Vq) (A : Option Addr) (n c : Nat) (cs : List Ct) (w : World) (hx : Vq.In w x) (h64 : ∀ y ∈ x.e, I6n y.v.n) (hA : BgIn w A n cs) (hn : n ≤ 10000) :
    Calls Tryz.prog 9 #[x.w, .slice A n c] w fun e w' => ∃ A' n' c' os er, e = .returned (.tuple #[.slice A' n' c', .int .i64 er]) ∧ WhereSaid w (trueR x.e) cs A' n' os er w' := by
  have H64 := Lib.hid h64
  clear h64
  have HX := Lib.hid hx
  have HA := Lib.hid hA
  clear hx hA
  obtain ⟨nm, fr, wt, o0, o1, eA, en, ec, ee, pA, pn, pc, ps, gr, aA, an, ac⟩ := x
  have hb0 : Below w.heap.size w ((w.alloc (.cells #[.string nm, .string fr, .string wt, .int .i64 o0, .int .i64 o1, .slice eA en ec, .slice pA pn pc, .bool gr, .slice aA an ac] 28)).alloc (.cells #[] 44)) := below_al (below_one _ _) _
  have hq0 : Bq ((w.alloc (.cells #[.string nm, .string fr, .string wt, .int .i64 o0, .int .i64 o1, .slice eA en ec, .slice pA pn pc, .bool gr, .slice aA an ac] 28)).alloc (.cells #[] 44)) w.heap.size (⟨nm, fr, wt, o0, o1, eA, en, ec, ee, pA, pn, pc, ps, gr, aA, an, ac⟩ : Vq) := (Bq.new w (⟨nm, fr, wt, o0, o1, eA, en, ec, ee, pA, pn, pc, ps, gr, aA, an, ac⟩ : Vq)).below (below_one _ _) (by simp)
  have hl0 : w.heap.size < ((w.alloc (.cells #[.string nm, .string fr, .string wt, .int .i64 o0, .int .i64 o1, .slice eA en ec, .slice pA pn pc, .bool gr, .slice aA an ac] 28)).alloc (.cells #[] 44)).heap.size := by simp; omega
  have Hb0 := Lib.hid hb0
  have HQ := Lib.hid hq0
  have Hl := Lib.hid hl0
  clear hb0 hq0 hl0
  dsimp only [Vq.w]
  try simp only at H64
  have ho0 : OwnG ((w.alloc (.cells #[.string nm, .string fr, .string wt, .int .i64 o0, .int .i64 o1, .slice eA en ec, .slice pA pn pc, .bool gr, .slice aA an ac] 28)).alloc (.cells #[] 44)) (w.heap.size + 1) 44 2 rdC (.slice (some ⟨w.heap.size + 1, 0, none⟩) 0 0) [] := by
    have h := OwnG.made (S := 2) (rd := rdC) (w.alloc (.cells #[.string nm, .string fr, .string wt, .int .i64 o0, .int .i64 o1, .slice eA en ec, .slice pA pn pc, .bool gr, .slice aA an ac] 28)) (w.heap.size + 1) 44 #[] 0 (by simp) (Nat.zero_le _) rfl
    rw [show (w.alloc (.cells #[.string nm, .string fr, .string wt, .int .i64 o0, .int .i64 o1, .slice eA en ec, .slice pA pn pc, .bool gr, .slice aA an ac] 28)).heap.size = w.heap.size + 1 by simp] at h
    exact h
  have HO0 := Lib.hid ho0
  clear ho0
  go_enter Tryz.func9, Tryz.ntmps9
  go_wp2_with fail
  obtain ⟨W, hW⟩ : ∃ W : World, (w.alloc (.cells #[.string nm, .string fr, .string wt, .int .i64 o0, .int .i64 o1, .slice eA en ec, .slice pA pn pc, .bool gr, .slice aA an ac] 28)).alloc (.cells #[] 44) = W := ⟨_, rfl⟩
  rw [hW] at Hb0 HQ Hl HO0 ⊢
  clear hW
  go_loopw [6, 7] (fun v q wr => ∃ (k : Nat) (os : List Ct), k ≤ n ∧ q = .int .i64 k ∧ Hid (Below (w.heap.size + 1) W wr) ∧ Hid (OwnG wr (w.heap.size + 1) 44 2 rdC v os) ∧ Hid (∀ y ∈ os, y ∈ cs) ∧ Hid (os.length ≤ k) ∧ Hid (pl os = stayB (fun r => (trueR ee r).1) ((pl cs).take k)) ∧ Hid (errW (trueR ee) (pl cs) = errW (trueR ee) ((pl cs).drop k)) ∧ Hid (mayBag (pl cs) = true ∨ k = 0)) (fun _ q _ => n - (intOf q).toNat)
  case atStart => exact ⟨0, [], Nat.zero_le _, rfl, Lib.hid (Below.refl _ _), HO0, Lib.hid nofun, Lib.hid (Nat.le_refl _), Lib.hid rfl, Lib.hid rfl, Lib.hid (.inr rfl)⟩
  case round =>
    obtain ⟨k, os, hk, rfl, hb, HO, HI, HLn, HP, HE, HK⟩ := hrel
    clear HO0
    have Hw := Lib.hid (Hb0.out.trans (hb.out.mono (Nat.le_succ _)))
    have hlw : w.heap.size + 1 ≤ wr.heap.size := Nat.le_trans Hl.out hb.out.size
    obtain ⟨A', c', hv, hcl, hcm, hsl⟩ := HO.out.sl cOk.len
    obtain ⟨n', hn'⟩ : ∃ n', os.length = n' := ⟨_, rfl⟩
    rw [hn'] at hv
    subst hv
    have HN' := Lib.hid hn'
    have HSl := Lib.hid hsl
    have HBg : Hid (BgIn wr A' n' os) := Lib.hid ⟨hn', by rw [← hn']; exact Nat.le_trans hcl hcm, hsl, fun y hy => ((HA.out.each y (HI.out y hy)).after Hw.out)⟩
    have hn3 : n' ≤ k := by have := HLn.out; omega
    clear hn' hsl hcl hcm
    by_cases hlt : k < n
    · have hgo : (k : Int) < n := by omega
      go_wp2_with fail
      refine (rmayBag_c A n c cs _ (HA.out.after Hw.out)).mono ?_
      rintro e w1 ⟨rfl, hb1⟩
      replace hb := Lib.hid (hb.out.trans (hb1.mono hlw))
      replace Hw := Lib.hid (below_via Hw.out hb1)
      replace hlw := Nat.le_trans hlw hb1.size
      replace HO := Lib.hid (HO.out.after hb1)
      replace HBg := Lib.hid (HBg.out.after hb1)
      clear hb1
      cases hma : mayBag (pl cs)
      case false =>
        obtain rfl : k = 0 := by
          have h9 := HK.out
          rw [hma] at h9
          rcases h9 with h9 | h9
          · cases h9
          · exact h9
        obtain rfl : n' = 0 := by omega
        have HW : Hid (WhereSaid w (trueR ee) cs A' 0 os 0 w1) := Lib.hid ⟨Hw.out, HBg.out, by rw [hma]; rfl, by
          rw [hma, List.eq_nil_of_length_eq_zero HN'.out]
          rfl⟩
        clear hma
        go_wp2_with fail
        go_ret2
        exact ⟨_, _, _, _, _, rfl, HW.out⟩
      case true =>
        have HM := Lib.hid hma
        clear hma
        obtain ⟨b, off, rfl⟩ := HA.out.sl.some2 (k := k) (by rw [HA.out.len]; exact hlt)
        obtain ⟨y, hy⟩ : ∃ y, cs[k]? = some y := ⟨_, List.getElem?_eq_getElem (by rw [HA.out.len]; exact hlt)⟩
        obtain ⟨hblt, c0, c1⟩ := HA.out.sl.cell2 hy
        have d0 := (Hw.out.cell (p := ⟨b, off + k * 2, none⟩) hblt).trans c0
        have l0 : b < w1.heap.size := Nat.lt_of_lt_of_le hblt Hw.out.size
        have q5 := (HQ.out.below hb.out (Nat.lt_succ_self _)).whr
        try simp only at q5
        have lq : w.heap.size < w1.heap.size := hlw
        have HC0 := Lib.hid c0
        have HC1 := Lib.hid c1
        have HB1 := Lib.hid hblt
        have Hyr := Lib.hid ((HA.out.each y (List.mem_of_getElem? hy)).after Hw.out)
        have HVr := Lib.hid (HX.out.after Hw.out)
        have Hym := Lib.hid (List.mem_of_getElem? hy)
        have Htk := Lib.hid (stay_take (fun r => (trueR ee r).1) (pl_at hy))
        have Hed := Lib.hid (errW_drop (trueR ee) (pl cs) k _ (pl_at hy))
        clear c0 c1 hy hblt
        obtain ⟨⟨xA, xn, xc, xs⟩, N⟩ := y
        try simp only at d0
        obtain ⟨⟨Tb, Te⟩, hT⟩ : ∃ T, trueR ee xs = T := ⟨_, rfl⟩
        have HT := Lib.hid hT
        clear hT
        have HC : Hid (Below w1.heap.size w1 w1) := Lib.hid (Below.refl _ _)
        have HS : Hid (∀ w' : World, Below w1.heap.size w1 w' → w'.cell? ⟨b, off + k * 2, none⟩ = some (.slice xA xn xc) ∧ w'.cell? ⟨w.heap.size, 5, none⟩ = some (.slice eA en ec)) := Lib.hid fun w' h => ⟨(h.cell l0).trans d0, (h.cell lq).trans q5⟩
        go_wp2_with fail
        go_region_held3 (fun w' => w'.cell? ⟨b, off + k * 2, none⟩ = some (.slice xA xn xc) ∧ w'.cell? ⟨w.heap.size, 5, none⟩ = some (.slice eA en ec)) (first | with_reducible exact HS.out _ HC.out | with_reducible exact HS.out _ HC.out.drew | go_keep)
          (first
            | (go_at_call 28
               refine (rtrue_c eA xA en ec xn xc ee xs _ HVr.out.elen (HVr.out.esl.after (by first | with_reducible exact HC.out | with_reducible exact HC.out.drew)) HVr.out.emax Hyr.out.hd.len Hyr.out.hd.max (Hyr.out.hd.sl.after (by first | with_reducible exact HC.out | with_reducible exact HC.out.drew)) HVr.out.ez Hyr.out.n64 H64.out).mono ?_
               rintro en wx ⟨bb, rfl, hbb, hbx⟩
               replace HC : Hid (Below w1.heap.size w1 wx) := Lib.hid (by first | exact below_via HC.out hbx | exact below_via HC.out (below_via (Below.refl _ _).drew hbx))
               rw [HT.out] at hbb ⊢
               try simp only at hbb
               have HBB := Lib.hid hbb
               clear hbx hbb))
        all_goals
          have Hbx := Lib.hid (hb.out.trans (HC.out.mono hlw))
          have Hwx := Lib.hid (below_via Hw.out HC.out)
          have hlx : w.heap.size + 1 ≤ wx.heap.size := Nat.le_trans hlw HC.out.size
          have HOx := Lib.hid (HO.out.after HC.out)
          clear d0 q5
          by_cases hTe : Te = 0
          case neg =>
            have HW : Hid (WhereSaid w (trueR ee) cs none 0 [] Te wx) := Lib.hid (by
              have e1 : errW (trueR ee) (pl cs) = Te := by
                have h9 := Hed.out
                try simp only at h9
                rw [HE.out, h9, HT.out]
                exact if_neg hTe
              refine ⟨Hwx.out, bgIn_nil _, ?_, ?_⟩
              · rw [HM.out, e1]; rfl
              · rw [HM.out]
                unfold whereR
                rw [e1, if_neg hTe]
                rfl)
            have hne : (Te != 0) = true := by simp [hTe]
            clear hTe
            go_wp2_with fail
            go_ret2
            exact ⟨_, _, _, _, _, rfl, HW.out⟩
          case pos =>
            subst hTe
            have HE2 : Hid (errW (trueR ee) (pl cs) = errW (trueR ee) ((pl cs).drop (k + 1))) := Lib.hid (by
              have h9 := Hed.out
              try simp only at h9
              rw [HE.out, h9, HT.out]
              exact if_pos rfl)
            obtain rfl : bb = Tb := HBB.out rfl
            have htk := Htk.out
            try simp only at htk
            rw [HT.out] at htk
            try simp only at htk
            cases bb
            case false =>
              have HP2 : Hid (pl os = stayB (fun r => (trueR ee r).1) ((pl cs).take (k + 1))) := Lib.hid (by rw [htk, HP.out]; simp)
              clear htk
              go_wp2
              go_roundw
              case rel => exact ⟨k + 1, os, by omega, by go_num, Hbx, HOx, HI, Lib.hid (by have := HLn.out; omega), HP2, HE2, Lib.hid (.inl HM.out)⟩
              case measure => simp [intOf]; omega
            case true =>
              have HP2 : Hid (pl (os ++ [⟨⟨xA, xn, xc, xs⟩, N⟩]) = stayB (fun r => (trueR ee r).1) ((pl cs).take (k + 1))) := Lib.hid (by rw [htk, ← HP.out]; simp [pl])
              have HI2 : Hid (∀ y ∈ os ++ [(⟨⟨xA, xn, xc, xs⟩, N⟩ : Ct)], y ∈ cs) := Lib.hid fun y hy => by
                rcases List.mem_append.1 hy with hy | hy
                · exact HI.out y hy
                · rw [List.mem_singleton] at hy
                  subst hy
                  exact Hym.out
              have g0 := (Hwx.out.cell (p := ⟨b, off + k * 2, none⟩) HB1.out).trans HC0.out
              have g1 := (Hwx.out.cell (p := ⟨b, off + k * 2 + 1, none⟩) HB1.out).trans HC1.out
              try simp only at g0 g1
              clear htk
              go_wp2_with (at_builtin; go_must (
                refine wpList_appG cOk rfl (.tmp 36) (.tmp 41) rfl (w.heap.size + 1) _ os [⟨⟨xA, xn, xc, xs⟩, N⟩] (some ⟨wx.heap.size, 0, none⟩) 1 1 rfl (HOx.out.alloc _) rfl rfl (SlG.new cOk.len [⟨⟨xA, xn, xc, xs⟩, N⟩] rfl) (by have := HLn.out; simp [maxLen]; omega) (by have := HLn.out; simp; omega) (by simp; omega) ?_
                intro v5 w5 hv5 hg5
                have Hv5 := Lib.hid hv5
                have Hb5 := Lib.hid ((Hbx.out.alloc hlx _).grown hg5 (by simp; omega) (fun k hk => (HOx.out.lt k hk).1))
                clear hv5 hg5))
              go_roundw
              case rel => exact ⟨k + 1, _, by omega, by go_num, Hb5, Hv5, HI2, Lib.hid (by have := HLn.out; simp; omega), HP2, HE2, Lib.hid (.inl HM.out)⟩
              case measure => simp [intOf]; omega
    · obtain rfl : k = n := by omega
      have HM : Hid (mayBag (pl cs) = true) := Lib.hid (by
        rcases HK.out with h9 | h9
        · exact h9
        · have h8 := HA.out.len
          rw [h9] at h8
          rw [List.eq_nil_of_length_eq_zero h8]
          rfl)
      have e1 : errW (trueR ee) (pl cs) = 0 := by
        rw [HE.out, List.drop_eq_nil_of_le (by rw [pl_len, HA.out.len]; exact Nat.le_refl _)]
        rfl
      have HW : Hid (WhereSaid w (trueR ee) cs A' n' os 0 wr) := Lib.hid ⟨Hw.out, HBg.out, by rw [HM.out, e1]; rfl, by
        rw [HM.out]
        unfold whereR
        rw [e1, if_pos rfl, HP.out, List.take_of_length_le (by rw [pl_len, HA.out.len]; exact Nat.le_refl _)]
        rfl⟩
      clear e1
      go_wp2_with fail
      go_ret2
      exact ⟨_, _, _, _, _, rfl, HW.out⟩
end Go.Proofs.YtbpopkgpepmlcaaGreat
