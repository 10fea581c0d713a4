/-
  What is printed is read as it was; what is read is printed, and read from that as the same: of all definitions and texts.
-/
import Derived.Test.YtjgpmnffagdhlaaGreatDoorZL
set_option linter.unusedVariables false
set_option linter.unusedSimpArgs false
namespace Go.Proofs.YtjgpmnffagdhlaaGreatDoor
open Go Go.RowKit
set_option maxRecDepth 100000

set_option maxHeartbeats 16000000 in
theorem back7_w (d : Dm) (l : List UInt8) (w : World) (hl : l.length ≤ maxLen) (hG : Gw w.heap.size w) (hd : d.In w) (hx : d.Tx) (hz : d.Z) :
    Calls Tryz.prog 4 #[d.w, .string (ba l)] w fun e w' => e = .returned (.bool true) ∧ Below w.heap.size w w' := by
  unfold maxLen at hl
  have HG := Lib.hid hG
  obtain ⟨w0, hw0⟩ : ∃ w0, w.alloc (.cells #[.int .i64 d.k, .string d.t.name, .slice d.t.cols.A d.t.cols.n d.t.cols.c, .slice d.t.chks.A d.t.chks.n d.t.chks.c, .string d.v.name, .string d.v.frm, .string d.v.wth, .int .i64 d.v.on0, .int .i64 d.v.on1, .slice d.v.whr.A d.v.whr.n d.v.whr.c, .slice d.v.pick.A d.v.pick.n d.v.pick.c, .bool d.v.grp, .slice d.v.aggs.A d.v.aggs.n d.v.aggs.c] 34) = w0 := ⟨_, rfl⟩
  have HB0 : Hid (Below w.heap.size w w0) := Lib.hid (by rw [← hw0]; exact below_one w _)
  have HId0 : Hid (d.In w0) := Lib.hid (hd.after HB0.out)
  have HKd0 : Hid (BkD w0 w.heap.size d) := Lib.hid (by rw [← hw0]; exact Bk.new w _ _)
  have HX := Lib.hid hx
  have HZ := Lib.hid hz
  clear hG hd hx hz
  go_enter Tryz.func4, Tryz.ntmps4
  go_wp2_with fail
  refine (fixed7_c w0 ((HG.out.below HB0.out).up HB0.out.size)).mono ?_
  rintro e w1 ⟨rfl, hb⟩
  have HB1 := Lib.hid (below_via HB0.out hb)
  have HId1 : Hid (d.In w1) := Lib.hid (HId0.out.after hb)
  have HKd1 : Hid (BkD w1 w.heap.size d) := Lib.hid (Bk.after HKd0.out hb HKd0.out.lt)
  clear hb
  obtain ⟨dc0, dc1, dc2, dc3, dc4, dc5, dc6, dc7, dc8, dc9, dc10, dc11, dc12, dcl⟩ := HKd1.out.all
  go_wp2_with fail
  refine (bigD_c d w1 HId1.out HX.out).mono ?_
  rintro e w2 ⟨⟨b, rfl, hsm⟩, hb⟩
  have Hsm := Lib.hid hsm
  clear hsm
  have HB2 := Lib.hid (below_via HB1.out hb)
  have HId2 : Hid (d.In w2) := Lib.hid (HId1.out.after hb)
  have HKd2 : Hid (BkD w2 w.heap.size d) := Lib.hid (Bk.after HKd1.out hb HKd1.out.lt)
  clear hb
  clear dc0 dc1 dc2 dc3 dc4 dc5 dc6 dc7 dc8 dc9 dc10 dc11 dc12 dcl
  cases b
  · have HO : Hid (DfOk d.df) := Lib.hid (sm_ok (Hsm.out rfl) HZ.out)
    clear Hsm
    by_cases h1 : l.length ≤ 2000
    case neg =>
      have h3 : 2000 < l.length := by omega
      go_wp2_with fail
      refine (fixed7_c w2 ((HG.out.below HB2.out).up HB2.out.size)).mono ?_
      rintro e w3 ⟨rfl, hb⟩
      have HB3 := Lib.hid (below_via HB2.out hb)
      have HId3 : Hid (d.In w3) := Lib.hid (HId2.out.after hb)
      have HKd3 : Hid (BkD w3 w.heap.size d) := Lib.hid (Bk.after HKd2.out hb HKd2.out.lt)
      clear hb
      go_wp2
      go_ret
      exact ⟨rfl, HB3.out⟩
    have Hl := Lib.hid h1
    obtain ⟨dc0, dc1, dc2, dc3, dc4, dc5, dc6, dc7, dc8, dc9, dc10, dc11, dc12, dcl⟩ := HKd2.out.all
    go_wp2_with fail
    refine (dprint_c d w2 ((HG.out.below HB2.out).up HB2.out.size) HId2.out HO.out).mono ?_
    rintro e w3 ⟨t, rfl, hp, ht, hb⟩
    have HP := Lib.hid hp
    have HL := Lib.hid ht
    clear hp ht
    have HB3 := Lib.hid (below_via HB2.out hb)
    have HId3 : Hid (d.In w3) := Lib.hid (HId2.out.after hb)
    have HKd3 : Hid (BkD w3 w.heap.size d) := Lib.hid (Bk.after HKd2.out hb HKd2.out.lt)
    clear hb
    clear dc0 dc1 dc2 dc3 dc4 dc5 dc6 dc7 dc8 dc9 dc10 dc11 dc12 dcl
    by_cases hte : t = []
    · subst hte
      clear HP HL
      have Herr := Lib.hid (err_cases l)
      go_wp2_with fail
      refine (prs l w3 (by have := Hl.out; unfold maxLen; omega) (HG.out.below HB3.out).gl).mono ?_
      rintro e w4 ⟨c, rfl, hi, hd, hb⟩
      obtain ⟨w5, hw5⟩ : ∃ w5, w4.alloc (.cells #[.int .i64 c.k, .string c.t.name, .slice c.t.cols.A c.t.cols.n c.t.cols.c, .slice c.t.chks.A c.t.chks.n c.t.chks.c, .string c.v.name, .string c.v.frm, .string c.v.wth, .int .i64 c.v.on0, .int .i64 c.v.on1, .slice c.v.whr.A c.v.whr.n c.v.whr.c, .slice c.v.pick.A c.v.pick.n c.v.pick.c, .bool c.v.grp, .slice c.v.aggs.A c.v.aggs.n c.v.aggs.c] 34) = w5 := ⟨_, rfl⟩
      have hb2 : Below w3.heap.size w3 w5 := by rw [← hw5]; exact below_al hb _
      have HIc5 : Hid (c.In w5) := Lib.hid (by rw [← hw5]; exact hi.after (below_one _ _))
      have HKc5 : Hid (BkD w5 w4.heap.size c) := Lib.hid (by rw [← hw5]; exact Bk.new _ _ _)
      have HDc : Hid (c.df = defO l) := Lib.hid hd
      have HB5 := Lib.hid (below_via HB3.out hb2)
      have HId5 : Hid (d.In w5) := Lib.hid (HId3.out.after hb2)
      have HKd5 : Hid (BkD w5 w.heap.size d) := Lib.hid (Bk.after HKd3.out hb2 HKd3.out.lt)
      clear hi hd hb hb2
      rcases Herr.out with h0 | h0
      · have Hr := Lib.hid (err_zero h0).1
        rw [h0]
        clear h0 Herr hl h1
        obtain ⟨cc0, cc1, cc2, cc3, cc4, cc5, cc6, cc7, cc8, cc9, cc10, cc11, cc12, ccl⟩ := HKc5.out.all
        go_wp2_with fail
        refine (dprint_c c w5 ((HG.out.below HB5.out).up HB5.out.size) HIc5.out (by rw [HDc.out]; exact def_ok _)).mono ?_
        rintro e w6 ⟨u, rfl, hp, ht, hb⟩
        have HPu := Lib.hid hp
        have HLu := Lib.hid ht
        clear hp ht
        have HB6 := Lib.hid (below_via HB5.out hb)
        have HId6 : Hid (d.In w6) := Lib.hid (HId5.out.after hb)
        have HKd6 : Hid (BkD w6 w.heap.size d) := Lib.hid (Bk.after HKd5.out hb HKd5.out.lt)
        have HIc6 : Hid (c.In w6) := Lib.hid (HIc5.out.after hb)
        have HKc6 : Hid (BkD w6 w4.heap.size c) := Lib.hid (Bk.after HKc5.out hb HKc5.out.lt)
        clear hb
        clear cc0 cc1 cc2 cc3 cc4 cc5 cc6 cc7 cc8 cc9 cc10 cc11 cc12 ccl
        have hu := prt_read Hr.out (by have := Hl.out; omega) (HDc.out ▸ HPu.out)
        have hub := prt_back (HDc.out ▸ HPu.out) (df_d64 l) hu.2.1
        have hue := err_of hub.2.1 hub.1
        have HUn := Lib.hid hu.2.1
        have HUe : Hid (errO u = 0) := Lib.hid hue.1
        have HUd : Hid (defO u = defO l) := Lib.hid hue.2
        clear hu hub hue
        go_wp2_with fail
        refine (prs u w6 (by have := HLu.out; unfold maxLen; omega) (HG.out.below HB6.out).gl).mono ?_
        rintro e w7 ⟨q, rfl, hi, hd, hb⟩
        rw [HUe.out]
        obtain ⟨w8, hw8⟩ : ∃ w8, w7.alloc (.cells #[.int .i64 q.k, .string q.t.name, .slice q.t.cols.A q.t.cols.n q.t.cols.c, .slice q.t.chks.A q.t.chks.n q.t.chks.c, .string q.v.name, .string q.v.frm, .string q.v.wth, .int .i64 q.v.on0, .int .i64 q.v.on1, .slice q.v.whr.A q.v.whr.n q.v.whr.c, .slice q.v.pick.A q.v.pick.n q.v.pick.c, .bool q.v.grp, .slice q.v.aggs.A q.v.aggs.n q.v.aggs.c] 34) = w8 := ⟨_, rfl⟩
        have hb2 : Below w6.heap.size w6 w8 := by rw [← hw8]; exact below_al hb _
        have HIq8 : Hid (q.In w8) := Lib.hid (by rw [← hw8]; exact hi.after (below_one _ _))
        have HKq8 : Hid (BkD w8 w7.heap.size q) := Lib.hid (by rw [← hw8]; exact Bk.new _ _ _)
        have HDq : Hid (q.df = defO u) := Lib.hid hd
        have HB8 := Lib.hid (below_via HB6.out hb2)
        have HId8 : Hid (d.In w8) := Lib.hid (HId6.out.after hb2)
        have HKd8 : Hid (BkD w8 w.heap.size d) := Lib.hid (Bk.after HKd6.out hb2 HKd6.out.lt)
        have HIc8 : Hid (c.In w8) := Lib.hid (HIc6.out.after hb2)
        have HKc8 : Hid (BkD w8 w4.heap.size c) := Lib.hid (Bk.after HKc6.out hb2 HKc6.out.lt)
        clear hi hd hb hb2
        obtain ⟨cc0, cc1, cc2, cc3, cc4, cc5, cc6, cc7, cc8, cc9, cc10, cc11, cc12, ccl⟩ := HKc8.out.all
        obtain ⟨qc0, qc1, qc2, qc3, qc4, qc5, qc6, qc7, qc8, qc9, qc10, qc11, qc12, qcl⟩ := HKq8.out.all
        go_wp2_with fail
        refine (dmay_c c w8 ((HG.out.below HB8.out).up HB8.out.size) HIc8.out (by rw [HDc.out]; exact def_ok _)).mono ?_
        rintro e w9 ⟨u2, rfl, hp, ht, hb⟩
        rw [decide_eq_true (show u2 ≠ [] by rw [hp.uniq HPu.out]; exact HUn.out)]
        have HB9 := Lib.hid (below_via HB8.out hb)
        have HId9 : Hid (d.In w9) := Lib.hid (HId8.out.after hb)
        have HKd9 : Hid (BkD w9 w.heap.size d) := Lib.hid (Bk.after HKd8.out hb HKd8.out.lt)
        have HIc9 : Hid (c.In w9) := Lib.hid (HIc8.out.after hb)
        have HKc9 : Hid (BkD w9 w4.heap.size c) := Lib.hid (Bk.after HKc8.out hb HKc8.out.lt)
        have HIq9 : Hid (q.In w9) := Lib.hid (HIq8.out.after hb)
        have HKq9 : Hid (BkD w9 w7.heap.size q) := Lib.hid (Bk.after HKq8.out hb HKq8.out.lt)
        clear hb hp ht
        clear cc0 cc1 cc2 cc3 cc4 cc5 cc6 cc7 cc8 cc9 cc10 cc11 cc12 ccl
        clear qc0 qc1 qc2 qc3 qc4 qc5 qc6 qc7 qc8 qc9 qc10 qc11 qc12 qcl
        obtain ⟨cc0, cc1, cc2, cc3, cc4, cc5, cc6, cc7, cc8, cc9, cc10, cc11, cc12, ccl⟩ := HKc9.out.all
        obtain ⟨qc0, qc1, qc2, qc3, qc4, qc5, qc6, qc7, qc8, qc9, qc10, qc11, qc12, qcl⟩ := HKq9.out.all
        go_wp2_with fail
        refine (sameD_c c q w9 HIc9.out HIq9.out).mono ?_
        rintro e w10 ⟨rfl, hb⟩
        rw [decide_eq_true (by rw [HDc.out, HDq.out, HUd.out])]
        have HB10 := Lib.hid (below_via HB9.out hb)
        have HId10 : Hid (d.In w10) := Lib.hid (HId9.out.after hb)
        have HKd10 : Hid (BkD w10 w.heap.size d) := Lib.hid (Bk.after HKd9.out hb HKd9.out.lt)
        have HIc10 : Hid (c.In w10) := Lib.hid (HIc9.out.after hb)
        have HKc10 : Hid (BkD w10 w4.heap.size c) := Lib.hid (Bk.after HKc9.out hb HKc9.out.lt)
        have HIq10 : Hid (q.In w10) := Lib.hid (HIq9.out.after hb)
        have HKq10 : Hid (BkD w10 w7.heap.size q) := Lib.hid (Bk.after HKq9.out hb HKq9.out.lt)
        clear hb
        clear cc0 cc1 cc2 cc3 cc4 cc5 cc6 cc7 cc8 cc9 cc10 cc11 cc12 ccl
        clear qc0 qc1 qc2 qc3 qc4 qc5 qc6 qc7 qc8 qc9 qc10 qc11 qc12 qcl
        go_wp2
        go_ret
        exact ⟨rfl, HB10.out⟩
      · have hne : errO l ≠ 0 := by rcases h0 with h0 | h0 <;> rw [h0] <;> decide
        have HN : Hid (c.df = df0) := Lib.hid (by rw [HDc.out]; exact err_ne hne)
        clear hne Herr
        obtain ⟨cc0, cc1, cc2, cc3, cc4, cc5, cc6, cc7, cc8, cc9, cc10, cc11, cc12, ccl⟩ := HKc5.out.all
        rcases h0 with h0 | h0
        · rw [h0]
          clear h0 hl h1
          go_wp2_with fail
          refine (sameD_c c dm0 w5 HIc5.out (dm0_in _)).mono ?_
          rintro e w6 ⟨rfl, hb⟩
          rw [decide_eq_true (HN.out.trans dm0_df.symm)]
          have HB6 := Lib.hid (below_via HB5.out hb)
          have HId6 : Hid (d.In w6) := Lib.hid (HId5.out.after hb)
          have HKd6 : Hid (BkD w6 w.heap.size d) := Lib.hid (Bk.after HKd5.out hb HKd5.out.lt)
          have HIc6 : Hid (c.In w6) := Lib.hid (HIc5.out.after hb)
          have HKc6 : Hid (BkD w6 w4.heap.size c) := Lib.hid (Bk.after HKc5.out hb HKc5.out.lt)
          clear hb
          clear cc0 cc1 cc2 cc3 cc4 cc5 cc6 cc7 cc8 cc9 cc10 cc11 cc12 ccl
          go_wp2
          go_ret
          exact ⟨rfl, HB6.out⟩
        · rw [h0]
          clear h0 hl h1
          go_wp2_with fail
          refine (sameD_c c dm0 w5 HIc5.out (dm0_in _)).mono ?_
          rintro e w6 ⟨rfl, hb⟩
          rw [decide_eq_true (HN.out.trans dm0_df.symm)]
          have HB6 := Lib.hid (below_via HB5.out hb)
          have HId6 : Hid (d.In w6) := Lib.hid (HId5.out.after hb)
          have HKd6 : Hid (BkD w6 w.heap.size d) := Lib.hid (Bk.after HKd5.out hb HKd5.out.lt)
          have HIc6 : Hid (c.In w6) := Lib.hid (HIc5.out.after hb)
          have HKc6 : Hid (BkD w6 w4.heap.size c) := Lib.hid (Bk.after HKc5.out hb HKc5.out.lt)
          clear hb
          clear cc0 cc1 cc2 cc3 cc4 cc5 cc6 cc7 cc8 cc9 cc10 cc11 cc12 ccl
          go_wp2
          go_ret
          exact ⟨rfl, HB6.out⟩
    · have htb := prt_back HP.out HO.out.d64 hte
      have hte2 := err_of htb.2.1 htb.1
      have HTe : Hid (errO t = 0) := Lib.hid hte2.1
      have HTd : Hid (defO t = d.df) := Lib.hid hte2.2
      obtain ⟨u0, hu0⟩ : ∃ u0, ba t = u0 := ⟨_, rfl⟩
      have hun : u0.toList.isEmpty = false := size_ne (by rw [← hu0]; show t.length ≠ 0; simpa using hte)
      have Hu0 := Lib.hid hu0
      rw [hu0]
      clear htb hte2 hte hu0
      go_wp2_with fail
      rw [← Hu0.out]
      clear hun
      refine (prs t w3 (by have := HL.out; unfold maxLen; omega) (HG.out.below HB3.out).gl).mono ?_
      rintro e w4 ⟨q0, rfl, hi, hd, hb⟩
      rw [HTe.out]
      obtain ⟨w5, hw5⟩ : ∃ w5, w4.alloc (.cells #[.int .i64 q0.k, .string q0.t.name, .slice q0.t.cols.A q0.t.cols.n q0.t.cols.c, .slice q0.t.chks.A q0.t.chks.n q0.t.chks.c, .string q0.v.name, .string q0.v.frm, .string q0.v.wth, .int .i64 q0.v.on0, .int .i64 q0.v.on1, .slice q0.v.whr.A q0.v.whr.n q0.v.whr.c, .slice q0.v.pick.A q0.v.pick.n q0.v.pick.c, .bool q0.v.grp, .slice q0.v.aggs.A q0.v.aggs.n q0.v.aggs.c] 34) = w5 := ⟨_, rfl⟩
      have hb2 : Below w3.heap.size w3 w5 := by rw [← hw5]; exact below_al hb _
      have HIq05 : Hid (q0.In w5) := Lib.hid (by rw [← hw5]; exact hi.after (below_one _ _))
      have HKq05 : Hid (BkD w5 w4.heap.size q0) := Lib.hid (by rw [← hw5]; exact Bk.new _ _ _)
      have HDq0 : Hid (q0.df = defO t) := Lib.hid hd
      have HB5 := Lib.hid (below_via HB3.out hb2)
      have HId5 : Hid (d.In w5) := Lib.hid (HId3.out.after hb2)
      have HKd5 : Hid (BkD w5 w.heap.size d) := Lib.hid (Bk.after HKd3.out hb2 HKd3.out.lt)
      clear hi hd hb hb2
      obtain ⟨dc0, dc1, dc2, dc3, dc4, dc5, dc6, dc7, dc8, dc9, dc10, dc11, dc12, dcl⟩ := HKd5.out.all
      obtain ⟨q0c0, q0c1, q0c2, q0c3, q0c4, q0c5, q0c6, q0c7, q0c8, q0c9, q0c10, q0c11, q0c12, q0cl⟩ := HKq05.out.all
      go_wp2_with fail
      refine (sameD_c d q0 w5 HId5.out HIq05.out).mono ?_
      rintro e w6 ⟨rfl, hb⟩
      rw [decide_eq_true (by rw [HDq0.out, HTd.out])]
      have HB6 := Lib.hid (below_via HB5.out hb)
      have HId6 : Hid (d.In w6) := Lib.hid (HId5.out.after hb)
      have HKd6 : Hid (BkD w6 w.heap.size d) := Lib.hid (Bk.after HKd5.out hb HKd5.out.lt)
      have HIq06 : Hid (q0.In w6) := Lib.hid (HIq05.out.after hb)
      have HKq06 : Hid (BkD w6 w4.heap.size q0) := Lib.hid (Bk.after HKq05.out hb HKq05.out.lt)
      clear hb
      clear dc0 dc1 dc2 dc3 dc4 dc5 dc6 dc7 dc8 dc9 dc10 dc11 dc12 dcl
      clear q0c0 q0c1 q0c2 q0c3 q0c4 q0c5 q0c6 q0c7 q0c8 q0c9 q0c10 q0c11 q0c12 q0cl
      have Herr := Lib.hid (err_cases l)
      go_wp2_with fail
      refine (prs l w6 (by have := Hl.out; unfold maxLen; omega) (HG.out.below HB6.out).gl).mono ?_
      rintro e w7 ⟨c, rfl, hi, hd, hb⟩
      obtain ⟨w8, hw8⟩ : ∃ w8, w7.alloc (.cells #[.int .i64 c.k, .string c.t.name, .slice c.t.cols.A c.t.cols.n c.t.cols.c, .slice c.t.chks.A c.t.chks.n c.t.chks.c, .string c.v.name, .string c.v.frm, .string c.v.wth, .int .i64 c.v.on0, .int .i64 c.v.on1, .slice c.v.whr.A c.v.whr.n c.v.whr.c, .slice c.v.pick.A c.v.pick.n c.v.pick.c, .bool c.v.grp, .slice c.v.aggs.A c.v.aggs.n c.v.aggs.c] 34) = w8 := ⟨_, rfl⟩
      have hb2 : Below w6.heap.size w6 w8 := by rw [← hw8]; exact below_al hb _
      have HIc8 : Hid (c.In w8) := Lib.hid (by rw [← hw8]; exact hi.after (below_one _ _))
      have HKc8 : Hid (BkD w8 w7.heap.size c) := Lib.hid (by rw [← hw8]; exact Bk.new _ _ _)
      have HDc : Hid (c.df = defO l) := Lib.hid hd
      have HB8 := Lib.hid (below_via HB6.out hb2)
      clear hi hd hb hb2
      rcases Herr.out with h0 | h0
      · have Hr := Lib.hid (err_zero h0).1
        rw [h0]
        clear h0 Herr hl h1
        obtain ⟨cc0, cc1, cc2, cc3, cc4, cc5, cc6, cc7, cc8, cc9, cc10, cc11, cc12, ccl⟩ := HKc8.out.all
        go_wp2_with fail
        refine (dprint_c c w8 ((HG.out.below HB8.out).up HB8.out.size) HIc8.out (by rw [HDc.out]; exact def_ok _)).mono ?_
        rintro e w9 ⟨u, rfl, hp, ht, hb⟩
        have HPu := Lib.hid hp
        have HLu := Lib.hid ht
        clear hp ht
        have HB9 := Lib.hid (below_via HB8.out hb)
        have HIc9 : Hid (c.In w9) := Lib.hid (HIc8.out.after hb)
        have HKc9 : Hid (BkD w9 w7.heap.size c) := Lib.hid (Bk.after HKc8.out hb HKc8.out.lt)
        clear hb
        clear cc0 cc1 cc2 cc3 cc4 cc5 cc6 cc7 cc8 cc9 cc10 cc11 cc12 ccl
        have hu := prt_read Hr.out (by have := Hl.out; omega) (HDc.out ▸ HPu.out)
        have hub := prt_back (HDc.out ▸ HPu.out) (df_d64 l) hu.2.1
        have hue := err_of hub.2.1 hub.1
        have HUn := Lib.hid hu.2.1
        have HUe : Hid (errO u = 0) := Lib.hid hue.1
        have HUd : Hid (defO u = defO l) := Lib.hid hue.2
        clear hu hub hue
        go_wp2_with fail
        refine (prs u w9 (by have := HLu.out; unfold maxLen; omega) (HG.out.below HB9.out).gl).mono ?_
        rintro e w10 ⟨q, rfl, hi, hd, hb⟩
        rw [HUe.out]
        obtain ⟨w11, hw11⟩ : ∃ w11, w10.alloc (.cells #[.int .i64 q.k, .string q.t.name, .slice q.t.cols.A q.t.cols.n q.t.cols.c, .slice q.t.chks.A q.t.chks.n q.t.chks.c, .string q.v.name, .string q.v.frm, .string q.v.wth, .int .i64 q.v.on0, .int .i64 q.v.on1, .slice q.v.whr.A q.v.whr.n q.v.whr.c, .slice q.v.pick.A q.v.pick.n q.v.pick.c, .bool q.v.grp, .slice q.v.aggs.A q.v.aggs.n q.v.aggs.c] 34) = w11 := ⟨_, rfl⟩
        have hb2 : Below w9.heap.size w9 w11 := by rw [← hw11]; exact below_al hb _
        have HIq11 : Hid (q.In w11) := Lib.hid (by rw [← hw11]; exact hi.after (below_one _ _))
        have HKq11 : Hid (BkD w11 w10.heap.size q) := Lib.hid (by rw [← hw11]; exact Bk.new _ _ _)
        have HDq : Hid (q.df = defO u) := Lib.hid hd
        have HB11 := Lib.hid (below_via HB9.out hb2)
        have HIc11 : Hid (c.In w11) := Lib.hid (HIc9.out.after hb2)
        have HKc11 : Hid (BkD w11 w7.heap.size c) := Lib.hid (Bk.after HKc9.out hb2 HKc9.out.lt)
        clear hi hd hb hb2
        obtain ⟨cc0, cc1, cc2, cc3, cc4, cc5, cc6, cc7, cc8, cc9, cc10, cc11, cc12, ccl⟩ := HKc11.out.all
        obtain ⟨qc0, qc1, qc2, qc3, qc4, qc5, qc6, qc7, qc8, qc9, qc10, qc11, qc12, qcl⟩ := HKq11.out.all
        go_wp2_with fail
        refine (dmay_c c w11 ((HG.out.below HB11.out).up HB11.out.size) HIc11.out (by rw [HDc.out]; exact def_ok _)).mono ?_
        rintro e w12 ⟨u2, rfl, hp, ht, hb⟩
        rw [decide_eq_true (show u2 ≠ [] by rw [hp.uniq HPu.out]; exact HUn.out)]
        have HB12 := Lib.hid (below_via HB11.out hb)
        have HIc12 : Hid (c.In w12) := Lib.hid (HIc11.out.after hb)
        have HKc12 : Hid (BkD w12 w7.heap.size c) := Lib.hid (Bk.after HKc11.out hb HKc11.out.lt)
        have HIq12 : Hid (q.In w12) := Lib.hid (HIq11.out.after hb)
        have HKq12 : Hid (BkD w12 w10.heap.size q) := Lib.hid (Bk.after HKq11.out hb HKq11.out.lt)
        clear hb hp ht
        clear cc0 cc1 cc2 cc3 cc4 cc5 cc6 cc7 cc8 cc9 cc10 cc11 cc12 ccl
        clear qc0 qc1 qc2 qc3 qc4 qc5 qc6 qc7 qc8 qc9 qc10 qc11 qc12 qcl
        obtain ⟨cc0, cc1, cc2, cc3, cc4, cc5, cc6, cc7, cc8, cc9, cc10, cc11, cc12, ccl⟩ := HKc12.out.all
        obtain ⟨qc0, qc1, qc2, qc3, qc4, qc5, qc6, qc7, qc8, qc9, qc10, qc11, qc12, qcl⟩ := HKq12.out.all
        go_wp2_with fail
        refine (sameD_c c q w12 HIc12.out HIq12.out).mono ?_
        rintro e w13 ⟨rfl, hb⟩
        rw [decide_eq_true (by rw [HDc.out, HDq.out, HUd.out])]
        have HB13 := Lib.hid (below_via HB12.out hb)
        have HIc13 : Hid (c.In w13) := Lib.hid (HIc12.out.after hb)
        have HKc13 : Hid (BkD w13 w7.heap.size c) := Lib.hid (Bk.after HKc12.out hb HKc12.out.lt)
        have HIq13 : Hid (q.In w13) := Lib.hid (HIq12.out.after hb)
        have HKq13 : Hid (BkD w13 w10.heap.size q) := Lib.hid (Bk.after HKq12.out hb HKq12.out.lt)
        clear hb
        clear cc0 cc1 cc2 cc3 cc4 cc5 cc6 cc7 cc8 cc9 cc10 cc11 cc12 ccl
        clear qc0 qc1 qc2 qc3 qc4 qc5 qc6 qc7 qc8 qc9 qc10 qc11 qc12 qcl
        go_wp2
        go_ret
        exact ⟨rfl, HB13.out⟩
      · have hne : errO l ≠ 0 := by rcases h0 with h0 | h0 <;> rw [h0] <;> decide
        have HN : Hid (c.df = df0) := Lib.hid (by rw [HDc.out]; exact err_ne hne)
        clear hne Herr
        obtain ⟨cc0, cc1, cc2, cc3, cc4, cc5, cc6, cc7, cc8, cc9, cc10, cc11, cc12, ccl⟩ := HKc8.out.all
        rcases h0 with h0 | h0
        · rw [h0]
          clear h0 hl h1
          go_wp2_with fail
          refine (sameD_c c dm0 w8 HIc8.out (dm0_in _)).mono ?_
          rintro e w9 ⟨rfl, hb⟩
          rw [decide_eq_true (HN.out.trans dm0_df.symm)]
          have HB9 := Lib.hid (below_via HB8.out hb)
          have HIc9 : Hid (c.In w9) := Lib.hid (HIc8.out.after hb)
          have HKc9 : Hid (BkD w9 w7.heap.size c) := Lib.hid (Bk.after HKc8.out hb HKc8.out.lt)
          clear hb
          clear cc0 cc1 cc2 cc3 cc4 cc5 cc6 cc7 cc8 cc9 cc10 cc11 cc12 ccl
          go_wp2
          go_ret
          exact ⟨rfl, HB9.out⟩
        · rw [h0]
          clear h0 hl h1
          go_wp2_with fail
          refine (sameD_c c dm0 w8 HIc8.out (dm0_in _)).mono ?_
          rintro e w9 ⟨rfl, hb⟩
          rw [decide_eq_true (HN.out.trans dm0_df.symm)]
          have HB9 := Lib.hid (below_via HB8.out hb)
          have HIc9 : Hid (c.In w9) := Lib.hid (HIc8.out.after hb)
          have HKc9 : Hid (BkD w9 w7.heap.size c) := Lib.hid (Bk.after HKc8.out hb HKc8.out.lt)
          clear hb
          clear cc0 cc1 cc2 cc3 cc4 cc5 cc6 cc7 cc8 cc9 cc10 cc11 cc12 ccl
          go_wp2
          go_ret
          exact ⟨rfl, HB9.out⟩
  · go_wp2_with fail
    refine (fixed7_c w2 ((HG.out.below HB2.out).up HB2.out.size)).mono ?_
    rintro e w3 ⟨rfl, hb⟩
    have HB3 := Lib.hid (below_via HB2.out hb)
    have HId3 : Hid (d.In w3) := Lib.hid (HId2.out.after hb)
    have HKd3 : Hid (BkD w3 w.heap.size d) := Lib.hid (Bk.after HKd2.out hb HKd2.out.lt)
    clear hb
    go_wp2
    go_ret
    exact ⟨rfl, HB3.out⟩
end Go.Proofs.YtjgpmnffagdhlaaGreatDoor
