/-
  Unlike definitions that may be have unlike prints: of all of them.
-/
import Derived.Test.YtjgpmnffagdhlaaGreatDoorZL
import Derived.Deep.RegionHeld2
set_option linter.unusedVariables false
set_option linter.unusedSimpArgs false
namespace Go.Proofs.YtjgpmnffagdhlaaGreatDoor
open Go Go.RowKit
set_option maxRecDepth 100000

set_option maxHeartbeats 16000000 in
theorem unlike7_w (x y : Dm) (w : World) (hG : Gw w.heap.size w) (hx : x.In w) (hy : y.In w) (tx : x.Tx) (ty : y.Tx) (zx : x.Z) (zy : y.Z) :
    Calls Tryz.prog 7 #[x.w, y.w] w fun e w' => e = .returned (.bool true) ∧ Below w.heap.size w w' := by
  have HG := Lib.hid hG
  obtain ⟨w0, hw0⟩ : ∃ w0, (w.alloc (.cells #[.int .i64 x.k, .string x.t.name, .slice x.t.cols.A x.t.cols.n x.t.cols.c, .slice x.t.chks.A x.t.chks.n x.t.chks.c, .string x.v.name, .string x.v.frm, .string x.v.wth, .int .i64 x.v.on0, .int .i64 x.v.on1, .slice x.v.whr.A x.v.whr.n x.v.whr.c, .slice x.v.pick.A x.v.pick.n x.v.pick.c, .bool x.v.grp, .slice x.v.aggs.A x.v.aggs.n x.v.aggs.c] 34)).alloc (.cells #[.int .i64 y.k, .string y.t.name, .slice y.t.cols.A y.t.cols.n y.t.cols.c, .slice y.t.chks.A y.t.chks.n y.t.chks.c, .string y.v.name, .string y.v.frm, .string y.v.wth, .int .i64 y.v.on0, .int .i64 y.v.on1, .slice y.v.whr.A y.v.whr.n y.v.whr.c, .slice y.v.pick.A y.v.pick.n y.v.pick.c, .bool y.v.grp, .slice y.v.aggs.A y.v.aggs.n y.v.aggs.c] 34) = w0 := ⟨_, rfl⟩
  have HB0 : Hid (Below w.heap.size w w0) := Lib.hid (by rw [← hw0]; exact (below_one w _).alloc (by simp) _)
  have HIx0 : Hid (x.In w0) := Lib.hid (hx.after HB0.out)
  have HIy0 : Hid (y.In w0) := Lib.hid (hy.after HB0.out)
  have HKx0 : Hid (BkD w0 w.heap.size x) := Lib.hid (by rw [← hw0]; exact (Bk.new w _ _).after (below_one _ _) (by simp))
  have HKy0 : Hid (BkD w0 (w.heap.size + 1) y) := Lib.hid (by
    rw [← hw0]
    have h := Bk.new (w.alloc (.cells #[.int .i64 x.k, .string x.t.name, .slice x.t.cols.A x.t.cols.n x.t.cols.c, .slice x.t.chks.A x.t.chks.n x.t.chks.c, .string x.v.name, .string x.v.frm, .string x.v.wth, .int .i64 x.v.on0, .int .i64 x.v.on1, .slice x.v.whr.A x.v.whr.n x.v.whr.c, .slice x.v.pick.A x.v.pick.n x.v.pick.c, .bool x.v.grp, .slice x.v.aggs.A x.v.aggs.n x.v.aggs.c] 34)) #[.int .i64 y.k, .string y.t.name, .slice y.t.cols.A y.t.cols.n y.t.cols.c, .slice y.t.chks.A y.t.chks.n y.t.chks.c, .string y.v.name, .string y.v.frm, .string y.v.wth, .int .i64 y.v.on0, .int .i64 y.v.on1, .slice y.v.whr.A y.v.whr.n y.v.whr.c, .slice y.v.pick.A y.v.pick.n y.v.pick.c, .bool y.v.grp, .slice y.v.aggs.A y.v.aggs.n y.v.aggs.c] 34
    have e : (w.alloc (.cells #[.int .i64 x.k, .string x.t.name, .slice x.t.cols.A x.t.cols.n x.t.cols.c, .slice x.t.chks.A x.t.chks.n x.t.chks.c, .string x.v.name, .string x.v.frm, .string x.v.wth, .int .i64 x.v.on0, .int .i64 x.v.on1, .slice x.v.whr.A x.v.whr.n x.v.whr.c, .slice x.v.pick.A x.v.pick.n x.v.pick.c, .bool x.v.grp, .slice x.v.aggs.A x.v.aggs.n x.v.aggs.c] 34)).heap.size = w.heap.size + 1 := by simp
    rw [e] at h
    exact h)
  have HX := Lib.hid (And.intro tx ty)
  have HZ := Lib.hid (And.intro zx zy)
  clear hG hx hy tx ty zx zy
  go_enter Tryz.func7, Tryz.ntmps7
  go_wp2_with fail
  refine (fixed7_c w0 ((HG.out.below HB0.out).up HB0.out.size)).mono ?_
  rintro e w1 ⟨rfl, hb⟩
  have HB1 := Lib.hid (below_via HB0.out hb)
  have HIx1 : Hid (x.In w1) := Lib.hid (HIx0.out.after hb)
  have HKx1 : Hid (BkD w1 w.heap.size x) := Lib.hid (Bk.after HKx0.out hb HKx0.out.lt)
  have HIy1 : Hid (y.In w1) := Lib.hid (HIy0.out.after hb)
  have HKy1 : Hid (BkD w1 (w.heap.size + 1) y) := Lib.hid (Bk.after HKy0.out hb HKy0.out.lt)
  clear hb
  obtain ⟨xc0, xc1, xc2, xc3, xc4, xc5, xc6, xc7, xc8, xc9, xc10, xc11, xc12, xcl⟩ := HKx1.out.all
  obtain ⟨yc0, yc1, yc2, yc3, yc4, yc5, yc6, yc7, yc8, yc9, yc10, yc11, yc12, ycl⟩ := HKy1.out.all
  go_wp2_with fail
  refine (bigD_c x w1 HIx1.out HX.out.1).mono ?_
  rintro e w2 ⟨⟨b, rfl, hsm⟩, hb⟩
  have Hsx := Lib.hid hsm
  clear hsm
  have HB2 := Lib.hid (below_via HB1.out hb)
  have HIx2 : Hid (x.In w2) := Lib.hid (HIx1.out.after hb)
  have HKx2 : Hid (BkD w2 w.heap.size x) := Lib.hid (Bk.after HKx1.out hb HKx1.out.lt)
  have HIy2 : Hid (y.In w2) := Lib.hid (HIy1.out.after hb)
  have HKy2 : Hid (BkD w2 (w.heap.size + 1) y) := Lib.hid (Bk.after HKy1.out hb HKy1.out.lt)
  clear hb
  clear xc0 xc1 xc2 xc3 xc4 xc5 xc6 xc7 xc8 xc9 xc10 xc11 xc12 xcl
  clear yc0 yc1 yc2 yc3 yc4 yc5 yc6 yc7 yc8 yc9 yc10 yc11 yc12 ycl
  cases b
  · have HOx : Hid (DfOk x.df) := Lib.hid (sm_ok (Hsx.out rfl) HZ.out.1)
    clear Hsx
    obtain ⟨xc0, xc1, xc2, xc3, xc4, xc5, xc6, xc7, xc8, xc9, xc10, xc11, xc12, xcl⟩ := HKx2.out.all
    obtain ⟨yc0, yc1, yc2, yc3, yc4, yc5, yc6, yc7, yc8, yc9, yc10, yc11, yc12, ycl⟩ := HKy2.out.all
    go_wp2_with fail
    refine (bigD_c y w2 HIy2.out HX.out.2).mono ?_
    rintro e w3 ⟨⟨b, rfl, hsm⟩, hb⟩
    have Hsy := Lib.hid hsm
    clear hsm
    have HB3 := Lib.hid (below_via HB2.out hb)
    have HIx3 : Hid (x.In w3) := Lib.hid (HIx2.out.after hb)
    have HKx3 : Hid (BkD w3 w.heap.size x) := Lib.hid (Bk.after HKx2.out hb HKx2.out.lt)
    have HIy3 : Hid (y.In w3) := Lib.hid (HIy2.out.after hb)
    have HKy3 : Hid (BkD w3 (w.heap.size + 1) y) := Lib.hid (Bk.after HKy2.out hb HKy2.out.lt)
    clear hb
    clear xc0 xc1 xc2 xc3 xc4 xc5 xc6 xc7 xc8 xc9 xc10 xc11 xc12 xcl
    clear yc0 yc1 yc2 yc3 yc4 yc5 yc6 yc7 yc8 yc9 yc10 yc11 yc12 ycl
    cases b
    · have HOy : Hid (DfOk y.df) := Lib.hid (sm_ok (Hsy.out rfl) HZ.out.2)
      clear Hsy
      have HSt : Hid (∀ w', Below w3.heap.size w3 w' → (w'.cell? ⟨w.heap.size, 0, none⟩ = some (.int .i64 x.k) ∧ w'.cell? ⟨w.heap.size, 1, none⟩ = some (.string x.t.name) ∧ w'.cell? ⟨w.heap.size, 2, none⟩ = some (.slice x.t.cols.A x.t.cols.n x.t.cols.c) ∧ w'.cell? ⟨w.heap.size, 3, none⟩ = some (.slice x.t.chks.A x.t.chks.n x.t.chks.c) ∧ w'.cell? ⟨w.heap.size, 4, none⟩ = some (.string x.v.name) ∧ w'.cell? ⟨w.heap.size, 5, none⟩ = some (.string x.v.frm) ∧ w'.cell? ⟨w.heap.size, 6, none⟩ = some (.string x.v.wth) ∧ w'.cell? ⟨w.heap.size, 7, none⟩ = some (.int .i64 x.v.on0) ∧ w'.cell? ⟨w.heap.size, 8, none⟩ = some (.int .i64 x.v.on1) ∧ w'.cell? ⟨w.heap.size, 9, none⟩ = some (.slice x.v.whr.A x.v.whr.n x.v.whr.c) ∧ w'.cell? ⟨w.heap.size, 10, none⟩ = some (.slice x.v.pick.A x.v.pick.n x.v.pick.c) ∧ w'.cell? ⟨w.heap.size, 11, none⟩ = some (.bool x.v.grp) ∧ w'.cell? ⟨w.heap.size, 12, none⟩ = some (.slice x.v.aggs.A x.v.aggs.n x.v.aggs.c) ∧ w'.cell? ⟨w.heap.size + 1, 0, none⟩ = some (.int .i64 y.k) ∧ w'.cell? ⟨w.heap.size + 1, 1, none⟩ = some (.string y.t.name) ∧ w'.cell? ⟨w.heap.size + 1, 2, none⟩ = some (.slice y.t.cols.A y.t.cols.n y.t.cols.c) ∧ w'.cell? ⟨w.heap.size + 1, 3, none⟩ = some (.slice y.t.chks.A y.t.chks.n y.t.chks.c) ∧ w'.cell? ⟨w.heap.size + 1, 4, none⟩ = some (.string y.v.name) ∧ w'.cell? ⟨w.heap.size + 1, 5, none⟩ = some (.string y.v.frm) ∧ w'.cell? ⟨w.heap.size + 1, 6, none⟩ = some (.string y.v.wth) ∧ w'.cell? ⟨w.heap.size + 1, 7, none⟩ = some (.int .i64 y.v.on0) ∧ w'.cell? ⟨w.heap.size + 1, 8, none⟩ = some (.int .i64 y.v.on1) ∧ w'.cell? ⟨w.heap.size + 1, 9, none⟩ = some (.slice y.v.whr.A y.v.whr.n y.v.whr.c) ∧ w'.cell? ⟨w.heap.size + 1, 10, none⟩ = some (.slice y.v.pick.A y.v.pick.n y.v.pick.c) ∧ w'.cell? ⟨w.heap.size + 1, 11, none⟩ = some (.bool y.v.grp) ∧ w'.cell? ⟨w.heap.size + 1, 12, none⟩ = some (.slice y.v.aggs.A y.v.aggs.n y.v.aggs.c))) := Lib.hid fun w' hb => by
        have hk : BkD w' w.heap.size x := Bk.after HKx3.out hb HKx3.out.lt
        have hq : BkD w' (w.heap.size + 1) y := Bk.after HKy3.out hb HKy3.out.lt
        exact ⟨hk.cell 0, hk.cell 1, hk.cell 2, hk.cell 3, hk.cell 4, hk.cell 5, hk.cell 6, hk.cell 7, hk.cell 8, hk.cell 9, hk.cell 10, hk.cell 11, hk.cell 12, hq.cell 0, hq.cell 1, hq.cell 2, hq.cell 3, hq.cell 4, hq.cell 5, hq.cell 6, hq.cell 7, hq.cell 8, hq.cell 9, hq.cell 10, hq.cell 11, hq.cell 12⟩
      have HPx := Lib.hid (dprint_c x w3.drew ((HG.out.below HB3.out.drew).up HB3.out.size) (HIx3.out.after (Below.refl _ _).drew) HOx.out)
      obtain ⟨xc0, xc1, xc2, xc3, xc4, xc5, xc6, xc7, xc8, xc9, xc10, xc11, xc12, xcl⟩ := HKx3.out.all
      obtain ⟨yc0, yc1, yc2, yc3, yc4, yc5, yc6, yc7, yc8, yc9, yc10, yc11, yc12, ycl⟩ := HKy3.out.all
      go_wp2_with fail
      go_region_held2 (fun w' => w'.cell? ⟨w.heap.size, 0, none⟩ = some (.int .i64 x.k) ∧ w'.cell? ⟨w.heap.size, 1, none⟩ = some (.string x.t.name) ∧ w'.cell? ⟨w.heap.size, 2, none⟩ = some (.slice x.t.cols.A x.t.cols.n x.t.cols.c) ∧ w'.cell? ⟨w.heap.size, 3, none⟩ = some (.slice x.t.chks.A x.t.chks.n x.t.chks.c) ∧ w'.cell? ⟨w.heap.size, 4, none⟩ = some (.string x.v.name) ∧ w'.cell? ⟨w.heap.size, 5, none⟩ = some (.string x.v.frm) ∧ w'.cell? ⟨w.heap.size, 6, none⟩ = some (.string x.v.wth) ∧ w'.cell? ⟨w.heap.size, 7, none⟩ = some (.int .i64 x.v.on0) ∧ w'.cell? ⟨w.heap.size, 8, none⟩ = some (.int .i64 x.v.on1) ∧ w'.cell? ⟨w.heap.size, 9, none⟩ = some (.slice x.v.whr.A x.v.whr.n x.v.whr.c) ∧ w'.cell? ⟨w.heap.size, 10, none⟩ = some (.slice x.v.pick.A x.v.pick.n x.v.pick.c) ∧ w'.cell? ⟨w.heap.size, 11, none⟩ = some (.bool x.v.grp) ∧ w'.cell? ⟨w.heap.size, 12, none⟩ = some (.slice x.v.aggs.A x.v.aggs.n x.v.aggs.c) ∧ w'.cell? ⟨w.heap.size + 1, 0, none⟩ = some (.int .i64 y.k) ∧ w'.cell? ⟨w.heap.size + 1, 1, none⟩ = some (.string y.t.name) ∧ w'.cell? ⟨w.heap.size + 1, 2, none⟩ = some (.slice y.t.cols.A y.t.cols.n y.t.cols.c) ∧ w'.cell? ⟨w.heap.size + 1, 3, none⟩ = some (.slice y.t.chks.A y.t.chks.n y.t.chks.c) ∧ w'.cell? ⟨w.heap.size + 1, 4, none⟩ = some (.string y.v.name) ∧ w'.cell? ⟨w.heap.size + 1, 5, none⟩ = some (.string y.v.frm) ∧ w'.cell? ⟨w.heap.size + 1, 6, none⟩ = some (.string y.v.wth) ∧ w'.cell? ⟨w.heap.size + 1, 7, none⟩ = some (.int .i64 y.v.on0) ∧ w'.cell? ⟨w.heap.size + 1, 8, none⟩ = some (.int .i64 y.v.on1) ∧ w'.cell? ⟨w.heap.size + 1, 9, none⟩ = some (.slice y.v.whr.A y.v.whr.n y.v.whr.c) ∧ w'.cell? ⟨w.heap.size + 1, 10, none⟩ = some (.slice y.v.pick.A y.v.pick.n y.v.pick.c) ∧ w'.cell? ⟨w.heap.size + 1, 11, none⟩ = some (.bool y.v.grp) ∧ w'.cell? ⟨w.heap.size + 1, 12, none⟩ = some (.slice y.v.aggs.A y.v.aggs.n y.v.aggs.c))
        (first
          | exact HSt.out _ HbS.out
          | go_keep)
        (first
          | (go_at_call 14
             with_reducible refine HPx.out.mono ?_
             rintro e w20 ⟨s, rfl, hp, hl, hb⟩
             have HbS : Hid (Below w3.heap.size w3 w20) := Lib.hid (below_via (Below.refl w3.heap.size w3).drew hb)
             have Hp1 := Lib.hid hp
             have HPy := Lib.hid (dprint_c y w20 ((HG.out.below (below_via HB3.out HbS.out)).up (below_via HB3.out HbS.out).size) (HIy3.out.after HbS.out) HOy.out)
             clear hp hl hb HPx)
          | (go_at_call 14
             with_reducible refine HPy.out.mono ?_
             rintro e w21 ⟨t, rfl, hp, hl, hb⟩
             have HbT : Hid (Below w3.heap.size w3 w21) := Lib.hid (below_via HbS.out hb)
             have Hp2 := Lib.hid hp
             clear HbS HPy hp hl hb
             have HbS := HbT
             clear HbT))
      all_goals
        have HB21 : Hid (Below w.heap.size w w21) := Lib.hid (below_via HB3.out HbS.out)
        have HIx21 : Hid (x.In w21) := Lib.hid (HIx3.out.after HbS.out)
        have HIy21 : Hid (y.In w21) := Lib.hid (HIy3.out.after HbS.out)
        have HKx21 : Hid (BkD w21 w.heap.size x) := Lib.hid (Bk.after HKx3.out HbS.out HKx3.out.lt)
        have HKy21 : Hid (BkD w21 (w.heap.size + 1) y) := Lib.hid (Bk.after HKy3.out HbS.out HKy3.out.lt)
        clear xc0 xc1 xc2 xc3 xc4 xc5 xc6 xc7 xc8 xc9 xc10 xc11 xc12 xcl yc0 yc1 yc2 yc3 yc4 yc5 yc6 yc7 yc8 yc9 yc10 yc11 yc12 ycl HSt HbS
        obtain ⟨xc0, xc1, xc2, xc3, xc4, xc5, xc6, xc7, xc8, xc9, xc10, xc11, xc12, xcl⟩ := HKx21.out.all
        obtain ⟨yc0, yc1, yc2, yc3, yc4, yc5, yc6, yc7, yc8, yc9, yc10, yc11, yc12, ycl⟩ := HKy21.out.all
        by_cases hs : s = []
        · subst hs
          go_wp2
          go_ret
          exact ⟨rfl, HB21.out⟩
        · obtain ⟨u0, hu0⟩ : ∃ u0, ba s = u0 := ⟨_, rfl⟩
          have hun : u0.toList.isEmpty = false := size_ne (by rw [← hu0]; show s.length ≠ 0; simpa using hs)
          have Hu0 := Lib.hid hu0
          rw [hu0]
          clear hu0
          by_cases ht : t = []
          · subst ht
            go_wp2
            go_ret
            exact ⟨rfl, HB21.out⟩
          · have HQ := Lib.hid (prt_unlike Hp1.out Hp2.out HOx.out.d64 HOy.out.d64 hs ht)
            obtain ⟨v0, hv0⟩ : ∃ v0, ba t = v0 := ⟨_, rfl⟩
            have hvn : v0.toList.isEmpty = false := size_ne (by rw [← hv0]; show t.length ≠ 0; simpa using ht)
            have Hv0 := Lib.hid hv0
            rw [hv0]
            clear hv0 hs ht
            have HSm := Lib.hid (sameD_c x y w21 HIx21.out HIy21.out)
            rw [← HQ.out] at HSm
            by_cases hst : s = t
            · have huv : u0 = v0 := by rw [← Hu0.out, ← Hv0.out, hst]
              rw [decide_eq_true hst] at HSm
              clear hst
              subst huv
              go_wp2_with fail
              refine (HSm.out).mono ?_
              rintro e w22 ⟨rfl, hb⟩
              have HB22 := Lib.hid (below_via HB21.out hb)
              have HIx22 : Hid (x.In w22) := Lib.hid (HIx21.out.after hb)
              have HKx22 : Hid (BkD w22 w.heap.size x) := Lib.hid (Bk.after HKx21.out hb HKx21.out.lt)
              have HIy22 : Hid (y.In w22) := Lib.hid (HIy21.out.after hb)
              have HKy22 : Hid (BkD w22 (w.heap.size + 1) y) := Lib.hid (Bk.after HKy21.out hb HKy21.out.lt)
              clear hb
              go_wp2
              go_ret
              exact ⟨rfl, HB22.out⟩
            · have huv : ¬ u0.toList = v0.toList := fun e => hst (ba_inj (by rw [Hu0.out, Hv0.out]; exact toList_inj e))
              have hbq : (u0.toList == v0.toList) = false := by simpa using huv
              rw [decide_eq_false hst] at HSm
              clear hst
              go_wp2_with fail
              refine (HSm.out).mono ?_
              rintro e w22 ⟨rfl, hb⟩
              have HB22 := Lib.hid (below_via HB21.out hb)
              have HIx22 : Hid (x.In w22) := Lib.hid (HIx21.out.after hb)
              have HKx22 : Hid (BkD w22 w.heap.size x) := Lib.hid (Bk.after HKx21.out hb HKx21.out.lt)
              have HIy22 : Hid (y.In w22) := Lib.hid (HIy21.out.after hb)
              have HKy22 : Hid (BkD w22 (w.heap.size + 1) y) := Lib.hid (Bk.after HKy21.out hb HKy21.out.lt)
              clear hb
              go_wp2
              go_ret
              exact ⟨rfl, HB22.out⟩
    · go_wp2_with fail
      refine (fixed7_c w3 ((HG.out.below HB3.out).up HB3.out.size)).mono ?_
      rintro e w4 ⟨rfl, hb⟩
      have HB4 := Lib.hid (below_via HB3.out hb)
      have HIx4 : Hid (x.In w4) := Lib.hid (HIx3.out.after hb)
      have HKx4 : Hid (BkD w4 w.heap.size x) := Lib.hid (Bk.after HKx3.out hb HKx3.out.lt)
      have HIy4 : Hid (y.In w4) := Lib.hid (HIy3.out.after hb)
      have HKy4 : Hid (BkD w4 (w.heap.size + 1) y) := Lib.hid (Bk.after HKy3.out hb HKy3.out.lt)
      clear hb
      go_wp2
      go_ret
      exact ⟨rfl, HB4.out⟩
  · go_wp2_with fail
    refine (fixed7_c w2 ((HG.out.below HB2.out).up HB2.out.size)).mono ?_
    rintro e w3 ⟨rfl, hb⟩
    have HB3 := Lib.hid (below_via HB2.out hb)
    have HIx3 : Hid (x.In w3) := Lib.hid (HIx2.out.after hb)
    have HKx3 : Hid (BkD w3 w.heap.size x) := Lib.hid (Bk.after HKx2.out hb HKx2.out.lt)
    have HIy3 : Hid (y.In w3) := Lib.hid (HIy2.out.after hb)
    have HKy3 : Hid (BkD w3 (w.heap.size + 1) y) := Lib.hid (Bk.after HKy2.out hb HKy2.out.lt)
    clear hb
    go_wp2
    go_ret
    exact ⟨rfl, HB3.out⟩
end Go.Proofs.YtjgpmnffagdhlaaGreatDoor
