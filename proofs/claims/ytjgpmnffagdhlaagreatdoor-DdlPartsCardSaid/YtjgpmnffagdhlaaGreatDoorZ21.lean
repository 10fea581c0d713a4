/-
  What is read tells by its kind which part there is: of all texts.
-/
import Derived.Test.YtjgpmnffagdhlaaGreatDoorZL
set_option linter.unusedVariables false
set_option linter.unusedSimpArgs false
namespace Go.Proofs.YtjgpmnffagdhlaaGreatDoor
open Go Go.RowKit
set_option maxRecDepth 100000

theorem len_cols {x : Dm} {w : World} (h : x.In w) : x.t.cols.n = x.df.t.cols.length := h.t.cols.len.symm
theorem len_pick {x : Dm} {w : World} (h : x.In w) : x.v.pick.n = x.df.v.pick.length := h.v.pick.len.symm
theorem len_aggs {x : Dm} {w : World} (h : x.In w) : x.v.aggs.n = x.df.v.aggs.length := h.v.aggs.len.symm
/-- Parts of a table, of a view, that may be. -/
theorem may_table {t : Tb} (h : mayTb t = true) : nameB t.name.data.toList = true ∧ 1 ≤ t.cols.length ∧ t.cols.length ≤ 40 := by
  unfold mayTb at h
  simp only [Bool.and_eq_true, decide_eq_true_eq, Bool.not_eq_true', List.isEmpty_eq_false_iff] at h
  exact ⟨h.1, List.length_pos_iff.2 h.2.1, h.2.2.1⟩
theorem may_view {v : Vw} (h : mayVw v = true) : nameB v.name.data.toList = true ∧ nameB v.frm.data.toList = true ∧ v.pick.length ≤ 40 ∧ (v.grp || v.aggs.isEmpty) = true := by
  unfold mayVw at h
  simp only [Bool.and_eq_true, decide_eq_true_eq] at h
  exact ⟨h.1, h.2.1, h.2.2.2.2.1, h.2.2.2.2.2.2.2.2⟩
theorem vm0_vw : vm0.vw = vw0 := rfl
theorem tm0_tb : tm0.tb = tb0 := rfl
set_option maxHeartbeats 8000000 in
theorem parts_w (l : List UInt8) (w : World) (hl : l.length ≤ maxLen) (hG : Gw w.heap.size w) :
    Calls Tryz.prog 6 #[.string (ba l)] w fun e w' => e = .returned (.bool true) ∧ Below w.heap.size w w' := by
  unfold maxLen at hl
  have HG := Lib.hid hG
  have HB0 := Lib.hid (Below.refl w.heap.size w)
  clear hG
  by_cases h1 : l.length ≤ 2000
  case neg =>
    go_enter Tryz.func6, Tryz.ntmps6
    go_wp2_with fail
    refine (fixed7_c w ((HG.out.below HB0.out).up HB0.out.size)).mono ?_
    rintro e w1 ⟨rfl, hb⟩
    have HB1 := Lib.hid (below_via HB0.out hb)
    clear hb
    have h3 : 2000 < l.length := by omega
    go_wp2_with fail
    refine (fixed7_c w1 ((HG.out.below HB1.out).up HB1.out.size)).mono ?_
    rintro e w2 ⟨rfl, hb⟩
    have HB2 := Lib.hid (below_via HB1.out hb)
    clear hb
    go_wp2
    go_ret
    exact ⟨rfl, HB2.out⟩
  have Hl := Lib.hid h1
  go_enter Tryz.func6, Tryz.ntmps6
  go_wp2_with fail
  refine (fixed7_c w ((HG.out.below HB0.out).up HB0.out.size)).mono ?_
  rintro e w1 ⟨rfl, hb⟩
  have HB1 := Lib.hid (below_via HB0.out hb)
  clear hb
  have Herr := Lib.hid (err_cases l)
  go_wp2_with fail
  refine (prs l w1 (by have := Hl.out; unfold maxLen; omega) (HG.out.below HB1.out).gl).mono ?_
  rintro e w2 ⟨x, rfl, hi, hd, hb⟩
  obtain ⟨w3, hw3⟩ : ∃ w3, w2.alloc (.cells #[.int .i64 x.k, .string x.t.name, .slice x.t.cols.A x.t.cols.n x.t.cols.c, .slice x.t.chks.A x.t.chks.n x.t.chks.c, .string x.v.name, .string x.v.frm, .string x.v.wth, .int .i64 x.v.on0, .int .i64 x.v.on1, .slice x.v.whr.A x.v.whr.n x.v.whr.c, .slice x.v.pick.A x.v.pick.n x.v.pick.c, .bool x.v.grp, .slice x.v.aggs.A x.v.aggs.n x.v.aggs.c] 34) = w3 := ⟨_, rfl⟩
  have hb2 : Below w1.heap.size w1 w3 := by rw [← hw3]; exact below_al hb _
  have HIx3 : Hid (x.In w3) := Lib.hid (by rw [← hw3]; exact hi.after (below_one _ _))
  have HKx3 : Hid (BkD w3 w2.heap.size x) := Lib.hid (by rw [← hw3]; exact Bk.new _ _ _)
  have HDx : Hid (x.df = defO l) := Lib.hid hd
  have HB3 := Lib.hid (below_via HB1.out hb2)
  clear hi hd hb hb2
  rcases Herr.out with h0 | h0 | h0
  · have hr := (err_zero h0).1
    rw [h0]
    clear h0 Herr hl h1
    obtain ⟨hm, -, -⟩ := read_may hr
    rw [← HDx.out] at hm
    clear hr
    rcases hm with ⟨hk, ht, hv⟩ | ⟨hk, ht, hv⟩
    · obtain ⟨m1, m2, m3⟩ := may_table ht
      have n1 := len_cols HIx3.out
      have Hk : Hid (x.k = 0) := Lib.hid hk
      clear hk
      have hq2 : 1 ≤ x.t.cols.n := by rw [n1]; exact m2
      have hq3 : x.t.cols.n ≤ 40 := by rw [n1]; exact m3
      have Hm1 : Hid (nameB x.t.name.data.toList = true) := Lib.hid m1
      have HV : Hid (x.v.vw = vw0) := Lib.hid hv
      clear ht hv m1 m2 m3 n1
      obtain ⟨xc0, xc1, xc2, xc3, xc4, xc5, xc6, xc7, xc8, xc9, xc10, xc11, xc12, xcl⟩ := HKx3.out.all
      rw [Hk.out] at xc0
      go_wp2_with fail
      refine (sameVw_c x.v vm0 w3 HIx3.out.v (vm0_in _)).mono ?_
      rintro e w4 ⟨rfl, hb⟩
      rw [decide_eq_true (HV.out.trans vm0_vw.symm)]
      have HB4 := Lib.hid (below_via HB3.out hb)
      have HIx4 : Hid (x.In w4) := Lib.hid (HIx3.out.after hb)
      have HKx4 : Hid (BkD w4 w2.heap.size x) := Lib.hid (Bk.after HKx3.out hb HKx3.out.lt)
      clear hb
      clear xc0 xc1 xc2 xc3 xc4 xc5 xc6 xc7 xc8 xc9 xc10 xc11 xc12 xcl
      obtain ⟨xc0, xc1, xc2, xc3, xc4, xc5, xc6, xc7, xc8, xc9, xc10, xc11, xc12, xcl⟩ := HKx4.out.all
      rw [Hk.out] at xc0
      obtain ⟨nm, hnm⟩ : ∃ nm : List UInt8, x.t.name = ba nm := ⟨x.t.name.data.toList, (ba_back _).symm⟩
      have Hm2 : Hid (nameB nm = true) := Lib.hid (by have := Hm1.out; rw [hnm] at this; exact this)
      rw [hnm] at xc1
      go_wp2_with fail
      refine (name_c nm w4 (by have := nm_len (b := ba nm) Hm2.out; have e : (ba nm).size = nm.length := rfl; unfold maxLen; omega)).mono ?_
      rintro e w5 ⟨rfl, hb⟩
      rw [Hm2.out]
      have HB5 := Lib.hid (below_via HB4.out hb)
      have HIx5 : Hid (x.In w5) := Lib.hid (HIx4.out.after hb)
      have HKx5 : Hid (BkD w5 w2.heap.size x) := Lib.hid (Bk.after HKx4.out hb HKx4.out.lt)
      clear hb
      clear xc0 xc1 xc2 xc3 xc4 xc5 xc6 xc7 xc8 xc9 xc10 xc11 xc12 xcl
      go_wp2
      go_ret
      exact ⟨rfl, HB5.out⟩
    · obtain ⟨m1, m2, m3, m4⟩ := may_view hv
      have n1 := len_pick HIx3.out
      have n2 := len_aggs HIx3.out
      have Hk : Hid (x.k = 1) := Lib.hid hk
      clear hk
      have hq3 : x.v.pick.n ≤ 40 := by rw [n1]; exact m3
      have Hm1 : Hid (nameB x.v.name.data.toList = true) := Lib.hid m1
      have Hm2 : Hid (nameB x.v.frm.data.toList = true) := Lib.hid m2
      have hga : x.v.grp = true ∨ x.v.aggs.n = 0 := by
        have m4 : (x.v.grp || x.df.v.aggs.isEmpty) = true := m4
        rcases Bool.or_eq_true_iff.1 m4 with h | h
        · exact .inl h
        · exact .inr (by rw [n2]; exact List.length_eq_zero_iff.2 (List.isEmpty_iff.1 h))
      have HV : Hid (x.t.tb = tb0) := Lib.hid ht
      clear ht hv m1 m2 m3 m4 n1 n2
      obtain ⟨xc0, xc1, xc2, xc3, xc4, xc5, xc6, xc7, xc8, xc9, xc10, xc11, xc12, xcl⟩ := HKx3.out.all
      rw [Hk.out] at xc0
      go_wp2_with fail
      refine (sameTb_c x.t tm0 w3 HIx3.out.t (tm0_in _)).mono ?_
      rintro e w4 ⟨rfl, hb⟩
      rw [decide_eq_true (HV.out.trans tm0_tb.symm)]
      have HB4 := Lib.hid (below_via HB3.out hb)
      have HIx4 : Hid (x.In w4) := Lib.hid (HIx3.out.after hb)
      have HKx4 : Hid (BkD w4 w2.heap.size x) := Lib.hid (Bk.after HKx3.out hb HKx3.out.lt)
      clear hb
      clear xc0 xc1 xc2 xc3 xc4 xc5 xc6 xc7 xc8 xc9 xc10 xc11 xc12 xcl
      obtain ⟨xc0, xc1, xc2, xc3, xc4, xc5, xc6, xc7, xc8, xc9, xc10, xc11, xc12, xcl⟩ := HKx4.out.all
      rw [Hk.out] at xc0
      obtain ⟨nm, hnm⟩ : ∃ nm : List UInt8, x.v.name = ba nm := ⟨x.v.name.data.toList, (ba_back _).symm⟩
      have Hm3 : Hid (nameB nm = true) := Lib.hid (by have := Hm1.out; rw [hnm] at this; exact this)
      rw [hnm] at xc4
      go_wp2_with fail
      refine (name_c nm w4 (by have := nm_len (b := ba nm) Hm3.out; have e : (ba nm).size = nm.length := rfl; unfold maxLen; omega)).mono ?_
      rintro e w5 ⟨rfl, hb⟩
      rw [Hm3.out]
      have HB5 := Lib.hid (below_via HB4.out hb)
      have HIx5 : Hid (x.In w5) := Lib.hid (HIx4.out.after hb)
      have HKx5 : Hid (BkD w5 w2.heap.size x) := Lib.hid (Bk.after HKx4.out hb HKx4.out.lt)
      clear hb
      clear xc0 xc1 xc2 xc3 xc4 xc5 xc6 xc7 xc8 xc9 xc10 xc11 xc12 xcl
      obtain ⟨xc0, xc1, xc2, xc3, xc4, xc5, xc6, xc7, xc8, xc9, xc10, xc11, xc12, xcl⟩ := HKx5.out.all
      rw [Hk.out] at xc0
      obtain ⟨nf, hnf⟩ : ∃ nf : List UInt8, x.v.frm = ba nf := ⟨x.v.frm.data.toList, (ba_back _).symm⟩
      have Hm4 : Hid (nameB nf = true) := Lib.hid (by have := Hm2.out; rw [hnf] at this; exact this)
      rw [hnf] at xc5
      go_wp2_with fail
      refine (name_c nf w5 (by have := nm_len (b := ba nf) Hm4.out; have e : (ba nf).size = nf.length := rfl; unfold maxLen; omega)).mono ?_
      rintro e w6 ⟨rfl, hb⟩
      rw [Hm4.out]
      have HB6 := Lib.hid (below_via HB5.out hb)
      have HIx6 : Hid (x.In w6) := Lib.hid (HIx5.out.after hb)
      have HKx6 : Hid (BkD w6 w2.heap.size x) := Lib.hid (Bk.after HKx5.out hb HKx5.out.lt)
      clear hb
      clear xc0 xc1 xc2 xc3 xc4 xc5 xc6 xc7 xc8 xc9 xc10 xc11 xc12 xcl
      obtain ⟨xc0, xc1, xc2, xc3, xc4, xc5, xc6, xc7, xc8, xc9, xc10, xc11, xc12, xcl⟩ := HKx6.out.all
      rw [Hk.out] at xc0
      cases hgv : x.v.grp
      · have hn : x.v.aggs.n = 0 := by rcases hga with h | h; · rw [hgv] at h; cases h
                                       · exact h
        rw [hgv] at xc11
        rw [hn] at xc12
        go_wp2
        go_ret
        exact ⟨rfl, HB6.out⟩
      · rw [hgv] at xc11
        go_wp2
        go_ret
        exact ⟨rfl, HB6.out⟩
  · clear hl h1
    rw [h0]
    clear h0 Herr HDx
    obtain ⟨xc0, xc1, xc2, xc3, xc4, xc5, xc6, xc7, xc8, xc9, xc10, xc11, xc12, xcl⟩ := HKx3.out.all
    go_wp2
    go_ret
    exact ⟨rfl, HB3.out⟩
  · clear hl h1
    rw [h0]
    clear h0 Herr HDx
    obtain ⟨xc0, xc1, xc2, xc3, xc4, xc5, xc6, xc7, xc8, xc9, xc10, xc11, xc12, xcl⟩ := HKx3.out.all
    go_wp2
    go_ret
    exact ⟨rfl, HB3.out⟩
end Go.Proofs.YtjgpmnffagdhlaaGreatDoor
