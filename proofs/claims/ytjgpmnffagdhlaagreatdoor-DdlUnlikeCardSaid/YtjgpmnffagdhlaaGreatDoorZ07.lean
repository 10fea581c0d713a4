/-
  Part 7 of 7 of what the proof leans on: each part below says what it proves, and of what; no condition besides.
-/
import Derived.Test.YtjgpmnffagdhlaaGreatDoorZ06
import Derived.Test.YtjgpmnffagdhlaaGreatDoorCards
import Derived.Test.YtjgpmnffagdhlaaGreatDoorTie
import Derived.Stop.LaidErr
set_option linter.unusedVariables false
set_option linter.unusedSimpArgs false
/-
  The calls whose answers the document fixes, of layer 7.
-/
namespace Go.Proofs.YtjgpmnffagdhlaaGreatDoor
open Go Go.RowKit
set_option maxRecDepth 100000

def fx1 : List UInt8 := [116, 97, 98, 108, 101, 32, 116, 40, 107, 32, 105, 110, 116, 44, 32, 97, 32, 116, 101, 120, 116, 32, 110, 117, 108, 108, 32, 114, 101, 102, 32, 117, 32, 99, 97, 115, 99, 97, 100, 101, 41, 32, 99, 104, 101, 99, 107, 32, 91, 99, 48, 32, 48, 32, 60, 93]
def fx2 : List UInt8 := [118, 105, 101, 119, 32, 118, 32, 102, 114, 111, 109, 32, 116, 32, 119, 104, 101, 114, 101, 32, 91, 99, 48, 32, 110, 117, 108, 108, 32, 63, 93, 32, 112, 105, 99, 107, 32, 49, 32, 103, 114, 111, 117, 112, 32, 99, 111, 117, 110, 116, 44, 32, 115, 117, 109, 32, 48]
def fx3 : List UInt8 := [116, 97, 98, 108, 101, 32, 116, 40, 41]
def fx4 : List UInt8 := [116, 97, 98, 108, 101, 32, 116, 97, 98, 108, 101, 40, 107, 32, 105, 110, 116, 41]
def fp2 : List UInt8 := [118, 105, 101, 119, 32, 118, 32, 102, 114, 111, 109, 32, 116, 32, 119, 104, 101, 114, 101, 32, 91, 32, 99, 48, 32, 110, 117, 108, 108, 32, 63, 32, 93, 32, 112, 105, 99, 107, 32, 49, 32, 103, 114, 111, 117, 112, 32, 99, 111, 117, 110, 116, 32, 44, 32, 115, 117, 109, 32, 48]
theorem fx_e1 : errO fx1 = 0 := by kernel_rfl
theorem fx_e2 : errO fx2 = 0 := by kernel_rfl
theorem fx_e3 : errO fx3 = 70 := by kernel_rfl
theorem fx_e4 : errO fx4 = 70 := by kernel_rfl
theorem fx_c1 : (defO fx1).t.cols.length = 2 := by kernel_rfl
theorem fx_c2 : (defO fx1).t.cols[1]? = some ⟨ba [97], 3, true, false, ba [117], 1⟩ := by kernel_rfl
theorem fx_g : (defO fx2).v.grp = true := by kernel_rfl
theorem fx_a : (defO fx2).v.aggs.length = 2 := by kernel_rfl
theorem fx_w : (defO fx2).v.whr.length = 2 := by kernel_rfl
theorem fx_o : ((defO fx2).v.whr[1]?).map (·.op) = some 10 := by kernel_rfl
theorem fx_p : printL (toksD (defO fx2)) = fp2 := by kernel_rfl
theorem fx_l1 : fx1.length ≤ 2000 := by decide
theorem fx_l2 : fx2.length ≤ 2000 := by decide
theorem fx_l3 : fx3.length ≤ 2000 := by decide
theorem fx_l4 : fx4.length ≤ 2000 := by decide
section
attribute [local go_sem ↓] run_eqC
set_option maxHeartbeats 8000000 in
theorem fixed7_c (w : World) (hG : Gw w.heap.size w) : Calls Tryz.prog 13 #[] w fun e w' => e = .returned (.bool true) ∧ Below w.heap.size w w' := by
  have HG := Lib.hid hG
  have HQ1 := Lib.hid (prs fx1 w (by decide) hG.gl)
  have HQ2 := Lib.hid (fun u (h : Below w.heap.size w u) => prs fx2 u (by decide) (hG.below h).gl)
  have HQ3 := Lib.hid (fun u (h : Below w.heap.size w u) => prs fx3 u (by decide) (hG.below h).gl)
  have HQ4 := Lib.hid (fun u (h : Below w.heap.size w u) => prs fx4 u (by decide) (hG.below h).gl)
  rw [fx_e1] at HQ1
  rw [fx_e2] at HQ2
  rw [fx_e3] at HQ3
  rw [fx_e4] at HQ4
  clear hG
  go_enter Tryz.func13, Tryz.ntmps13
  go_wp2_with fail
  refine HQ1.out.mono ?_
  rintro e w1 ⟨x, rfl, hi, hd, hb⟩
  obtain ⟨W1, hW1⟩ : ∃ W1, w1.alloc (.cells #[.int .i64 x.k, .string x.t.name, .slice x.t.cols.A x.t.cols.n x.t.cols.c, .slice x.t.chks.A x.t.chks.n x.t.chks.c, .string x.v.name, .string x.v.frm, .string x.v.wth, .int .i64 x.v.on0, .int .i64 x.v.on1, .slice x.v.whr.A x.v.whr.n x.v.whr.c, .slice x.v.pick.A x.v.pick.n x.v.pick.c, .bool x.v.grp, .slice x.v.aggs.A x.v.aggs.n x.v.aggs.c] 34) = W1 := ⟨_, rfl⟩
  have Hx : Hid (x.In W1) := Lib.hid (by rw [← hW1]; exact hi.after (below_one _ _))
  have Hxd := Lib.hid hd
  have HB1 : Hid (Below w.heap.size w W1) := Lib.hid (by rw [← hW1]; exact below_al hb _)
  have Hk1 : Hid (BkD W1 w1.heap.size x) := Lib.hid (by rw [← hW1]; exact Bk.new _ _ _)
  have hs1 : w.heap.size ≤ w1.heap.size := hb.size
  have HE1 := Lib.hid hW1
  clear hi hd hb hW1 HQ1
  go_wp2_with fail
  rw [HE1.out]
  refine (HQ2.out W1 HB1.out).mono ?_
  rintro e w2 ⟨y, rfl, hi, hd, hb⟩
  obtain ⟨W2, hW2⟩ : ∃ W2, w2.alloc (.cells #[.int .i64 y.k, .string y.t.name, .slice y.t.cols.A y.t.cols.n y.t.cols.c, .slice y.t.chks.A y.t.chks.n y.t.chks.c, .string y.v.name, .string y.v.frm, .string y.v.wth, .int .i64 y.v.on0, .int .i64 y.v.on1, .slice y.v.whr.A y.v.whr.n y.v.whr.c, .slice y.v.pick.A y.v.pick.n y.v.pick.c, .bool y.v.grp, .slice y.v.aggs.A y.v.aggs.n y.v.aggs.c] 34) = W2 := ⟨_, rfl⟩
  have hb12 : Below W1.heap.size W1 W2 := by rw [← hW2]; exact below_al hb _
  have Hy : Hid (y.In W2) := Lib.hid (by rw [← hW2]; exact hi.after (below_one _ _))
  have Hyd := Lib.hid hd
  have HB2 : Hid (Below w.heap.size w W2) := Lib.hid (below_via HB1.out hb12)
  have Hk2 : Hid (BkD W2 w2.heap.size y) := Lib.hid (by rw [← hW2]; exact Bk.new _ _ _)
  have Hb12 := Lib.hid hb12
  have HE2 := Lib.hid hW2
  clear hi hd hb hW2 hb12 HE1 HQ2
  go_wp2_with fail
  rw [HE2.out]
  refine (HQ3.out W2 HB2.out).mono ?_
  rintro e w3 ⟨z, rfl, hi, hd, hb⟩
  obtain ⟨W3, hW3⟩ : ∃ W3, w3.alloc (.cells #[.int .i64 z.k, .string z.t.name, .slice z.t.cols.A z.t.cols.n z.t.cols.c, .slice z.t.chks.A z.t.chks.n z.t.chks.c, .string z.v.name, .string z.v.frm, .string z.v.wth, .int .i64 z.v.on0, .int .i64 z.v.on1, .slice z.v.whr.A z.v.whr.n z.v.whr.c, .slice z.v.pick.A z.v.pick.n z.v.pick.c, .bool z.v.grp, .slice z.v.aggs.A z.v.aggs.n z.v.aggs.c] 34) = W3 := ⟨_, rfl⟩
  have hb23 : Below W2.heap.size W2 W3 := by rw [← hW3]; exact below_al hb _
  have HB3 : Hid (Below w.heap.size w W3) := Lib.hid (below_via HB2.out hb23)
  have Hb23 := Lib.hid hb23
  have HE3 := Lib.hid hW3
  clear hi hd hb hW3 hb23 HE2 HQ3
  go_wp2_with fail
  rw [HE3.out]
  refine (HQ4.out W3 HB3.out).mono ?_
  rintro e w4 ⟨u, rfl, hi, hd, hb⟩
  obtain ⟨W4, hW4⟩ : ∃ W4, w4.alloc (.cells #[.int .i64 u.k, .string u.t.name, .slice u.t.cols.A u.t.cols.n u.t.cols.c, .slice u.t.chks.A u.t.chks.n u.t.chks.c, .string u.v.name, .string u.v.frm, .string u.v.wth, .int .i64 u.v.on0, .int .i64 u.v.on1, .slice u.v.whr.A u.v.whr.n u.v.whr.c, .slice u.v.pick.A u.v.pick.n u.v.pick.c, .bool u.v.grp, .slice u.v.aggs.A u.v.aggs.n u.v.aggs.c] 34) = W4 := ⟨_, rfl⟩
  have hb34 : Below W3.heap.size W3 W4 := by rw [← hW4]; exact below_al hb _
  have HB4 : Hid (Below w.heap.size w W4) := Lib.hid (below_via HB3.out hb34)
  have HX : Hid (x.In W4) := Lib.hid (Hx.out.after (below_via (below_via Hb12.out Hb23.out) hb34))
  have HY : Hid (y.In W4) := Lib.hid (Hy.out.after (below_via Hb23.out hb34))
  have HKx : Hid (BkD W4 w1.heap.size x) := Lib.hid (Bk.after Hk1.out (below_via (below_via Hb12.out Hb23.out) hb34) Hk1.out.lt)
  have HKy : Hid (BkD W4 w2.heap.size y) := Lib.hid (Bk.after Hk2.out (below_via Hb23.out hb34) Hk2.out.lt)
  obtain ⟨x0, x1, x2, x3, x4, x5, x6, x7, x8, x9, x10, x11, x12, xl⟩ := HKx.out.all
  obtain ⟨y0, y1, y2, y3, y4, y5, y6, y7, y8, y9, y10, y11, y12, yl⟩ := HKy.out.all
  have hxc : x.t.cols.xs = (defO fx1).t.cols := congrArg (fun d : Df => d.t.cols) Hxd.out
  have hyg : y.v.grp = true := (congrArg (fun d : Df => d.v.grp) Hyd.out).trans fx_g
  have hya : y.v.aggs.xs = (defO fx2).v.aggs := congrArg (fun d : Df => d.v.aggs) Hyd.out
  have hyw : y.v.whr.xs = (defO fx2).v.whr := congrArg (fun d : Df => d.v.whr) Hyd.out
  have n1 : x.t.cols.n = 2 := by rw [← HX.out.t.cols.len, hxc, fx_c1]
  have n2 : y.v.aggs.n = 2 := by rw [← HY.out.v.aggs.len, hya, fx_a]
  have n3 : y.v.whr.n = 2 := by rw [← HY.out.v.whr.len, hyw, fx_w]
  obtain ⟨g1, o1, c1, hA1, hg1, hc1, hcell1⟩ := HX.out.t.cols.sl.atS (k := 1) (by rw [hxc, fx_c1]; decide)
  have ec1 : c1 = ⟨ba [97], 3, true, false, ba [117], 1⟩ := by
    rw [hxc, fx_c2] at hc1
    exact (Option.some.inj hc1).symm
  subst ec1
  have k0 := hcell1 0 _ rfl
  have k1 := hcell1 1 _ rfl
  have k2 := hcell1 2 _ rfl
  have k3 := hcell1 3 _ rfl
  have k4 := hcell1 4 _ rfl
  have k5 := hcell1 5 _ rfl
  obtain ⟨g2, o2, c2, hA2, hg2, hc2, hcell2⟩ := HY.out.v.whr.sl.atS (k := 1) (by rw [hyw, fx_w]; decide)
  have eo2 : c2.op = 10 := by
    have := fx_o
    rw [← hyw, hc2] at this
    exact Option.some.inj this
  have m0 := hcell2 0 _ rfl
  rw [eo2] at m0
  rw [n1, hA1] at x2
  rw [hyg] at y11
  rw [n2] at y12
  rw [n3, hA2] at y9
  have hEq : Cl.eqB ⟨ba [97], 3, true, false, ba [117], 1⟩ ⟨⟨#[97]⟩, 3, true, false, ⟨#[117]⟩, 1⟩ = true := by kernel_rfl
  have HP := Lib.hid (dprint_c y W4 ((HG.out.below HB4.out).up HB4.out.size) HY.out (by rw [Hyd.out]; exact def_ok _))
  have hvy : y.w = .agg #[.int .i64 y.k, .string y.t.name, .slice y.t.cols.A y.t.cols.n y.t.cols.c, .slice y.t.chks.A y.t.chks.n y.t.chks.c, .string y.v.name, .string y.v.frm, .string y.v.wth, .int .i64 y.v.on0, .int .i64 y.v.on1, .slice (some ⟨g2, o2, none⟩) 2 y.v.whr.c, .slice y.v.pick.A y.v.pick.n y.v.pick.c, .bool true, .slice y.v.aggs.A 2 y.v.aggs.c] := by rw [← hyg, ← hA2]; simp only [Dm.w, n2, n3]
  rw [hvy] at HP
  clear hi hd hb hb34 HE3 HQ4 Hx Hy Hk1 Hk2 Hb12 Hb23 hxc hya hyw hc1 hcell1 hc2 hcell2 hA1 hA2 n1 n2 n3 eo2 hyg hvy hs1
  go_wp2_with fail
  refine HP.out.mono ?_
  rintro e w5 ⟨t, rfl, hp, hl, hb⟩
  obtain ⟨et, -, -⟩ := prt_read (err_zero fx_e2).1 (Nat.le_trans fx_l2 (by decide)) (Hyd.out ▸ hp)
  rw [fx_p] at et
  subst et
  have HB5 : Hid (Below w.heap.size w w5) := Lib.hid (below_via HB4.out hb)
  have HX5 : Hid (x.In w5) := Lib.hid (HX.out.after hb)
  have HKx5 : Hid (BkD w5 w1.heap.size x) := Lib.hid (Bk.after HKx.out hb xl)
  have HM := Lib.hid (dmay_c x w5 ((HG.out.below HB5.out).up HB5.out.size) HX5.out (by rw [Hxd.out]; exact def_ok _))
  clear hp hl hb x0 x1 x2 x3 x4 x5 x6 x7 x8 x9 x10 x11 x12 y0 y1 y2 y3 y4 y5 y6 y7 y8 y9 y10 y11 y12 k0 k1 k2 k3 k4 k5 m0 HP HX HY HKx HKy hW4 xl yl hg1 hg2 HB1 HB2 HB3
  obtain ⟨x0, x1, x2, x3, x4, x5, x6, x7, x8, x9, x10, x11, x12, xl⟩ := HKx5.out.all
  rw [show ba fp2 = (⟨#[118, 105, 101, 119, 32, 118, 32, 102, 114, 111, 109, 32, 116, 32, 119, 104, 101, 114, 101, 32, 91, 32, 99, 48, 32, 110, 117, 108, 108, 32, 63, 32, 93, 32, 112, 105, 99, 107, 32, 49, 32, 103, 114, 111, 117, 112, 32, 99, 111, 117, 110, 116, 32, 44, 32, 115, 117, 109, 32, 48]⟩ : ByteArray) from rfl]
  go_wp2_with fail
  refine HM.out.mono ?_
  rintro e w6 ⟨t, rfl, hp, hl, hb⟩
  have ht := (prt_read (err_zero fx_e1).1 (Nat.le_trans fx_l1 (by decide)) (Hxd.out ▸ hp)).2.1
  rw [decide_eq_true ht]
  have HB6 := Lib.hid (below_via HB5.out hb)
  clear hp hl hb ht x0 x1 x2 x3 x4 x5 x6 x7 x8 x9 x10 x11 x12 xl HM
  go_wp2
  go_ret
  exact ⟨rfl, HB6.out⟩
end
end Go.Proofs.YtjgpmnffagdhlaaGreatDoor
/-
  The document's own 'Big' over expressions.
-/
namespace Go.Proofs.YtjgpmnffagdhlaaGreatDoor
open Go Go.RowKit
set_option maxRecDepth 100000
/-- Whether a text is too long, in these steps. -/
def longN : List Nd → Bool
  | [] => false
  | x :: r => decide ((1000 : Int) < x.v.s.size) || longN r
theorem longN_drop (e : List Nd) (k : Nat) (x : Nd) (h : e[k]? = some x) : longN (e.drop k) = (decide ((1000 : Int) < x.v.s.size) || longN (e.drop (k + 1))) := by
  have hlt : k < e.length := (List.getElem?_eq_some_iff.1 h).1
  have hv : e[k] = x := (List.getElem?_eq_some_iff.1 h).2
  rw [List.drop_eq_getElem_cons hlt, hv, longN]
theorem longN_all : ∀ (e : List Nd), longN e = false → ∀ x ∈ e, x.v.s.size ≤ 1000
  | [], _, x, hx => by cases hx
  | y :: r, h, x, hx => by
    simp only [longN, Bool.or_eq_false_iff, decide_eq_false_iff_not] at h
    rcases List.mem_cons.1 hx with rfl | hx
    · omega
    · exact longN_all r h.2 x hx
def bigN (e : List Nd) : Bool := longN e || decide ((120 : Int) < e.length)
theorem bigN_all {e : List Nd} (h : bigN e = false) : e.length ≤ 120 ∧ ∀ x ∈ e, x.v.s.size ≤ 1000 := by
  unfold bigN at h
  simp only [Bool.or_eq_false_iff, decide_eq_false_iff_not] at h
  exact ⟨by omega, longN_all e h.1⟩
set_option maxHeartbeats 4000000 in
theorem bigN_c (A : Option Addr) (n c : Nat) (e : List Nd) (w : World) (hn : e.length = n) (hmax : n ≤ maxLen) (hs : SlG w A 5 rdN e) (hz : ∀ x ∈ e, x.v.s.size ≤ maxLen) :
    Calls Tryz.prog 29 #[.slice A n c] w fun en w' => en = .returned (.bool (bigN e)) ∧ w' = w := by
  have hm' : n ≤ 9223372036854775807 := hmax
  have Hn := Lib.hid hn
  have Hs := Lib.hid hs
  have Hz := Lib.hid hz
  obtain ⟨R, hR⟩ : ∃ R, bigN e = R := ⟨_, rfl⟩
  rw [hR]
  have HR := Lib.hid hR
  clear hn hs hR hz hmax
  go_enter Tryz.func29, Tryz.ntmps29
  go_wp2_with fail
  go_loopw [3] (fun i wr => ∃ k : Nat, k ≤ n ∧ i = .int .i64 k ∧ wr = w ∧ Hid (longN (e.drop k) = longN e)) (fun i _ => n - (intOf i).toNat)
  case atStart => exact ⟨0, Nat.zero_le _, rfl, rfl, rfl⟩
  case round =>
    obtain ⟨k, hk, rfl, rfl, hinv⟩ := hrel
    by_cases hlt' : k < n
    · obtain ⟨b, off, x, rfl, hlt, hx, hc⟩ := Hs.out.atS (by rw [Hn.out]; exact hlt')
      have c4 := hc 4 _ rfl
      have hsz := Hz.out x (List.mem_of_getElem? hx)
      have hsz' : x.v.s.size ≤ 9223372036854775807 := hsz
      have hstep := longN_drop e k x hx
      rw [hinv.out] at hstep
      clear hc hx hinv hsz
      cases hd : decide ((1000 : Int) < x.v.s.size)
      · rw [hd] at hstep
        have Hst := Lib.hid hstep
        clear hstep
        go_wp2
        go_roundw
        case rel => exact ⟨k + 1, by omega, by go_num, trivial, Lib.hid (by have := Hst.out; simpa using this.symm)⟩
        case measure => simp [intOf]; omega
      · rw [hd] at hstep
        have hRt : R = true := by rw [← HR.out]; unfold bigN; rw [hstep]; rfl
        subst hRt
        clear hstep
        go_wp2
        go_ret
        exact ⟨rfl, rfl⟩
    · have hkn : k = n := by omega
      have hstep := hinv.out
      rw [List.drop_eq_nil_of_le (by rw [Hn.out]; omega)] at hstep
      have hRt : R = decide ((120 : Int) < n) := by rw [← HR.out]; unfold bigN; rw [← hstep, Hn.out]; rfl
      subst hRt
      clear hstep hinv
      go_wp2
      go_ret
      exact ⟨rfl, rfl⟩
end Go.Proofs.YtjgpmnffagdhlaaGreatDoor
/-
  The document's own 'Big' over definitions: what it tells of one that it calls not big.
-/
namespace Go.Proofs.YtjgpmnffagdhlaaGreatDoor
open Go Go.RowKit
set_option maxRecDepth 100000
attribute [local go_sem ↓] Go.wp_at_zero Go.wp_at_succ
/-- Its texts are texts. -/
structure Dm.Tx (x : Dm) : Prop where
  cols : ∀ c ∈ x.t.cols.xs, c.name.size ≤ maxLen ∧ c.ref.size ≤ maxLen
  chks : ∀ e ∈ x.t.chks.xs, ∀ y ∈ e.xs, y.v.s.size ≤ maxLen
  whr : ∀ y ∈ x.v.whr.xs, y.v.s.size ≤ maxLen
  n1 : x.t.name.size ≤ maxLen
  n2 : x.v.name.size ≤ maxLen
  n3 : x.v.frm.size ≤ maxLen
  n4 : x.v.wth.size ≤ maxLen
/-- How many parts there are, as a program's int: the sum may wrap. -/
def Dm.z0 (x : Dm) : Int := wrap64 (wrap64 (wrap64 (wrap64 (x.t.cols.n + x.t.chks.n) + x.v.pick.n) + x.v.aggs.n) + x.v.whr.n)
def stepZ (z : Int) (e : Sx Nd) : Int := wrap64 (z + e.n)
def Dm.parts (x : Dm) : Int := x.t.chks.xs.foldl stepZ x.z0
theorem fold_take {xs : List (Sx Nd)} {k : Nat} {e : Sx Nd} (z : Int) (h : xs[k]? = some e) : (xs.take (k + 1)).foldl stepZ z = stepZ ((xs.take k).foldl stepZ z) e := by
  rw [List.take_add_one, h, List.foldl_append]
  rfl
/-- What is known of a definition that is not big. -/
structure Dm.Sm (x : Dm) : Prop where
  cols : ∀ c ∈ x.t.cols.xs, c.name.size ≤ 100 ∧ c.ref.size ≤ 100
  chks : ∀ e ∈ x.t.chks.xs, bigN e.xs = false
  whr : bigN x.v.whr.xs = false
  n1 : x.t.name.size ≤ 100
  n2 : x.v.name.size ≤ 100
  n3 : x.v.frm.size ≤ 100
  n4 : x.v.wth.size ≤ 100
  parts : x.parts ≤ 400
def BigSaid (x : Dm) (e : Ending) : Prop := ∃ b, e = .returned (.bool b) ∧ (b = false → x.Sm)
theorem take_all {α : Type} {p : α → Prop} {xs : List α} {k : Nat} {x : α} (h : ∀ y ∈ xs.take k, p y) (hx : xs[k]? = some x) (hp : p x) : ∀ y ∈ xs.take (k + 1), p y := by
  rw [List.take_add_one, hx]
  intro y hy
  rcases List.mem_append.1 hy with hy | hy
  · exact h y hy
  · simp at hy; rw [hy]; exact hp
set_option maxHeartbeats 4000000 in
theorem bigD_c (x : Dm) (w : World) (hx : x.In w) (hz : x.Tx) :
    Calls Tryz.prog 12 #[x.w] w fun e w' => BigSaid x e ∧ Below w.heap.size w w' := by
  have Hbx : Hid (Bd (w.alloc (.cells x.cells 34)) w.heap.size x) := alloc_at w _ _
  have Hb0 : Hid (Below w.heap.size w (w.alloc (.cells x.cells 34))) := Lib.hid (below_one w _)
  have hW2 : w.heap.size < (w.alloc (.cells x.cells 34)).heap.size := by simp
  have Hx := Lib.hid hx
  have Hz := Lib.hid hz
  obtain ⟨P, hP⟩ : ∃ P, BigSaid x = P := ⟨_, rfl⟩
  rw [hP]
  have HP := Lib.hid hP
  have hl1 := hx.t.cols.max
  have hl2 := hx.t.chks.max
  have hl3 := hx.v.whr.max
  have hl4 := hx.v.pick.max
  have hl5 := hx.v.aggs.max
  unfold maxLen at hl1 hl2 hl3 hl4 hl5
  clear hP hx hz
  obtain ⟨W, hW⟩ : ∃ W, (w.alloc (.cells x.cells 34)) = W := ⟨_, rfl⟩
  have HWe : Hid ((w.alloc (.cells #[.int .i64 x.k, .string x.t.name, .slice x.t.cols.A x.t.cols.n x.t.cols.c, .slice x.t.chks.A x.t.chks.n x.t.chks.c, .string x.v.name, .string x.v.frm, .string x.v.wth, .int .i64 x.v.on0, .int .i64 x.v.on1, .slice x.v.whr.A x.v.whr.n x.v.whr.c, .slice x.v.pick.A x.v.pick.n x.v.pick.c, .bool x.v.grp, .slice x.v.aggs.A x.v.aggs.n x.v.aggs.c] 34)) = W) := hW
  rw [hW] at Hbx Hb0 hW2
  clear hW
  have HX := Lib.hid (fun w' (hb : Below W.heap.size W w') => Bd.after Hbx.out hW2 hb)
  clear Hbx
  go_enter Tryz.func12, Tryz.ntmps12
  go_wp2_with fail
  rw [HWe.out]
  go_loopw [3, 4] (fun q i wr => ∃ (k : Nat) (z : Int), k ≤ x.t.chks.n ∧ q = .int .i64 z ∧ i = .int .i64 k ∧ Hid (Below W.heap.size W wr) ∧ Hid (∀ e ∈ x.t.chks.xs.take k, bigN e.xs = false) ∧ Hid (z = (x.t.chks.xs.take k).foldl stepZ x.z0)) (fun _ i _ => x.t.chks.n - (intOf i).toNat)
  case atStart => exact ⟨0, _, Nat.zero_le _, rfl, rfl, Below.refl _ _, by intro e he; simp at he, Lib.hid (by rw [List.take_zero, List.foldl_nil, Dm.z0])⟩
  case round =>
    obtain ⟨k, z, hk, rfl, rfl, hb, hinv, hpt⟩ := hrel
    obtain ⟨hvx, hlx⟩ := HX.out _ hb.out
    obtain ⟨x0, x1, x2, x3, x4, x5, x6, x7, x8, x9, x10, x11, x12⟩ := hvx.all
    have Hbw := Lib.hid (below_via Hb0.out hb.out)
    by_cases hlt : k < x.t.chks.n
    · obtain ⟨b, off, e, hA, hblt, he, hc⟩ := Hx.out.t.chks.sl.atS (by rw [Hx.out.t.chks.len]; exact hlt)
      have d0 := (Hbw.out.cell (p := ⟨b, off + k, none⟩) hblt).trans (by have := hc 0 _ rfl; simpa using this)
      have l1 : b < wr.heap.size := Nat.lt_of_lt_of_le hblt Hbw.out.size
      rw [hA] at x3
      have Hein := Lib.hid ((Hx.out.t.each e (List.mem_of_getElem? he)).after Hbw.out)
      have Hez := Lib.hid (Hz.out.chks e (List.mem_of_getElem? he))
      have Hst := Lib.hid (fun h : bigN e.xs = false => take_all (p := fun e : Sx Nd => bigN e.xs = false) hinv.out he h)
      have hel : e.n ≤ 2 ^ 63 - 1 := Hein.out.max
      have Hpt : Hid (wrap64 (z + e.n) = (x.t.chks.xs.take (k + 1)).foldl stepZ x.z0) := Lib.hid (by rw [fold_take _ he, ← hpt.out, stepZ])
      clear hpt
      have HBC := Lib.hid (bigN_c e.A e.n e.c e.xs wr Hein.out.len Hein.out.max Hein.out.sl Hez.out)
      obtain ⟨Z, hZ⟩ : ∃ Z, bigN e.xs = Z := ⟨_, rfl⟩
      rw [hZ] at HBC Hst
      clear hinv hc he hblt hA hZ Hein Hez hvx x0 x1 x2 x4 x5 x6 x7 x8 x9 x10 x11 x12
      go_wp2_with fail
      refine HBC.out.mono ?_
      rintro e' w1 ⟨rfl, rfl⟩
      clear HBC x3 d0
      cases Z
      · have Hs2 := Lib.hid (Hst.out rfl)
        clear Hst
        go_wp2
        go_roundw
        case rel => exact ⟨k + 1, _, by omega, rfl, by go_num, hb, Hs2, Hpt⟩
        case measure => simp [intOf]; omega
      · clear Hst
        go_wp2
        go_ret
        exact ⟨by rw [← HP.out]; exact ⟨true, rfl, by simp⟩, Hbw.out⟩
    · obtain rfl : k = x.t.chks.n := by omega
      have Hck : Hid (∀ e ∈ x.t.chks.xs, bigN e.xs = false) := Lib.hid (by have := hinv.out; rwa [List.take_of_length_le (by rw [Hx.out.t.chks.len]; exact Nat.le_refl _)] at this)
      have Hpt : Hid (z = x.parts) := Lib.hid (by have := hpt.out; rwa [List.take_of_length_le (by rw [Hx.out.t.chks.len]; exact Nat.le_refl _)] at this)
      clear hpt hinv hvx x0 x1 x2 x4 x5 x6 x7 x8 x9 x10 x11 x12
      have HbW := hb
      obtain ⟨W1, hW1⟩ : ∃ W1, W1 = wr := ⟨_, rfl⟩
      go_wp2_with fail
      go_loopw [5] (fun i wr => ∃ k : Nat, k ≤ x.t.cols.n ∧ i = .int .i64 k ∧ Hid (Below W.heap.size W wr) ∧ Hid (∀ c ∈ x.t.cols.xs.take k, c.name.size ≤ 100 ∧ c.ref.size ≤ 100)) (fun i _ => x.t.cols.n - (intOf i).toNat)
      case atStart => exact ⟨0, Nat.zero_le _, rfl, HbW, by intro e he; simp at he⟩
      case round =>
        clear hW1 Hbw HbW hb x3 hlx
        obtain ⟨q, hq, rfl, hb, hinv⟩ := hrel
        obtain ⟨hvx, hlx⟩ := HX.out _ hb.out
        obtain ⟨x0, x1, x2, x3, x4, x5, x6, x7, x8, x9, x10, x11, x12⟩ := hvx.all
        have Hbw := Lib.hid (below_via Hb0.out hb.out)
        by_cases hlt2 : q < x.t.cols.n
        · obtain ⟨b, off, c, hA, hblt, he, hc⟩ := Hx.out.t.cols.sl.atS (by rw [Hx.out.t.cols.len]; exact hlt2)
          have d0 := (Hbw.out.cell (p := ⟨b, off + q * 6, none⟩) hblt).trans (by have := hc 0 _ rfl; simpa using this)
          have d4 := (Hbw.out.cell (p := ⟨b, off + q * 6 + 4, none⟩) hblt).trans (hc 4 _ rfl)
          have l1 : b < wr.heap.size := Nat.lt_of_lt_of_le hblt Hbw.out.size
          rw [hA] at x2
          have hz1 : c.name.size ≤ 9223372036854775807 := (Hz.out.cols c (List.mem_of_getElem? he)).1
          have hz2 : c.ref.size ≤ 9223372036854775807 := (Hz.out.cols c (List.mem_of_getElem? he)).2
          have Hst := Lib.hid (fun h : c.name.size ≤ 100 ∧ c.ref.size ≤ 100 => take_all (p := fun c : Cl => c.name.size ≤ 100 ∧ c.ref.size ≤ 100) hinv.out he h)
          have Hb2 := Lib.hid hb.out
          have Hbw2 := Lib.hid Hbw.out
          clear hinv hc he hblt hA hvx x0 x1 x3 x4 x5 x6 x7 x8 x9 x10 x11 x12
          cases h1 : decide ((100 : Int) < c.name.size)
          · cases h2 : decide ((100 : Int) < c.ref.size)
            · have Hs2 := Lib.hid (Hst.out ⟨by simp at h1; omega, by simp at h2; omega⟩)
              clear Hst
              go_wp2
              go_roundw
              case rel => exact ⟨q + 1, by omega, by go_num, Hb2, Hs2⟩
              case measure => simp [intOf]; omega
            · clear Hst
              go_wp2
              go_ret
              exact ⟨by rw [← HP.out]; exact ⟨true, rfl, by simp⟩, Hbw2.out⟩
          · clear Hst
            go_wp2
            go_ret
            exact ⟨by rw [← HP.out]; exact ⟨true, rfl, by simp⟩, Hbw2.out⟩
        · obtain rfl : q = x.t.cols.n := by omega
          have Hcc : Hid (∀ c ∈ x.t.cols.xs, c.name.size ≤ 100 ∧ c.ref.size ≤ 100) := Lib.hid (by have := hinv.out; rwa [List.take_of_length_le (by rw [Hx.out.t.cols.len]; exact Nat.le_refl _)] at this)
          have z1 : x.t.name.size ≤ 9223372036854775807 := Hz.out.n1
          have z2 : x.v.name.size ≤ 9223372036854775807 := Hz.out.n2
          have z3 : x.v.frm.size ≤ 9223372036854775807 := Hz.out.n3
          have z4 : x.v.wth.size ≤ 9223372036854775807 := Hz.out.n4
          have HBW := Lib.hid (fun w' (h : Below w.heap.size w w') => bigN_c x.v.whr.A x.v.whr.n x.v.whr.c x.v.whr.xs w' Hx.out.v.whr.len Hx.out.v.whr.max (Hx.out.v.whr.sl.after h) Hz.out.whr)
          have Hbw2 := Lib.hid Hbw.out
          clear hinv hvx
          by_cases hz0 : (400 : Int) < z
          · clear HBW
            go_wp2
            go_ret
            exact ⟨by rw [← HP.out]; exact ⟨true, rfl, by simp⟩, Hbw2.out⟩
          have HBX := Lib.hid (HBW.out wr Hbw.out)
          clear HBW
          obtain ⟨Z, hZ⟩ : ∃ Z, bigN x.v.whr.xs = Z := ⟨_, rfl⟩
          have HZ := Lib.hid hZ
          rw [hZ] at HBX
          clear hZ
          go_wp2_with fail
          refine HBX.out.mono ?_
          rintro e' w1 ⟨rfl, rfl⟩
          clear HBX
          cases Z
          case true =>
            clear HZ
            go_wp2
            go_ret
            exact ⟨by rw [← HP.out]; exact ⟨true, rfl, by simp⟩, Hbw2.out⟩
          by_cases m1 : (100 : Int) < x.t.name.size
          case pos =>
            clear HZ
            go_wp2
            go_ret
            exact ⟨by rw [← HP.out]; exact ⟨true, rfl, by simp⟩, Hbw2.out⟩
          by_cases m2 : (100 : Int) < x.v.name.size
          case pos =>
            clear HZ
            go_wp2
            go_ret
            exact ⟨by rw [← HP.out]; exact ⟨true, rfl, by simp⟩, Hbw2.out⟩
          by_cases m3 : (100 : Int) < x.v.frm.size
          case pos =>
            clear HZ
            go_wp2
            go_ret
            exact ⟨by rw [← HP.out]; exact ⟨true, rfl, by simp⟩, Hbw2.out⟩
          by_cases m4 : (100 : Int) < x.v.wth.size
          case pos =>
            clear HZ
            go_wp2
            go_ret
            exact ⟨by rw [← HP.out]; exact ⟨true, rfl, by simp⟩, Hbw2.out⟩
          go_wp2
          go_ret
          exact ⟨by rw [← HP.out]; exact ⟨_, rfl, fun _ => ⟨Hcc.out, Hck.out, HZ.out, by omega, by omega, by omega, by omega, by rw [← Hpt.out]; omega⟩⟩, Hbw2.out⟩
end Go.Proofs.YtjgpmnffagdhlaaGreatDoor
/-
  Definitions that came in, and are not big: their texts are not long; unlike ones have unlike prints.
-/
namespace Go.Proofs.YtjgpmnffagdhlaaGreatDoor
open Go Go.RowKit
set_option maxRecDepth 100000

/-- Numbers of 64 bits, all of them. -/
def Nd.Z (x : Nd) : Prop := I64 x.n ∧ I64 x.v.n
structure Dm.Z (x : Dm) : Prop where
  chks : ∀ e ∈ x.t.chks.xs, ∀ y ∈ e.xs, y.Z
  whr : ∀ y ∈ x.v.whr.xs, y.Z
  on0 : I64 x.v.on0
  on1 : I64 x.v.on1
  pick : ∀ n ∈ x.v.pick.xs, I64 n
  aggs : ∀ a ∈ x.v.aggs.xs, I64 a.col
theorem sm_ok {x : Dm} (h : x.Sm) (z : x.Z) : DfOk x.df := by
  refine ⟨⟨?_, fun c hc => ?_, fun e he y hy => ?_⟩, ⟨?_, ?_, ?_, z.on0, z.on1, fun y hy => ?_, z.pick, z.aggs⟩⟩
  · have := h.n1; show x.t.name.size ≤ _; omega
  · have := h.cols c hc; omega
  · obtain ⟨s, hs, rfl⟩ := List.mem_map.1 (show e ∈ x.t.chks.xs.map (·.xs) from he)
    have := (bigN_all (h.chks s hs)).2 y hy
    exact ⟨(z.chks s hs y hy).1, (z.chks s hs y hy).2, by omega⟩
  · have := h.n2; show x.v.name.size ≤ _; omega
  · have := h.n3; show x.v.frm.size ≤ _; omega
  · have := h.n4; show x.v.wth.size ≤ _; omega
  · have := (bigN_all h.whr).2 y hy
    exact ⟨(z.whr y hy).1, (z.whr y hy).2, by omega⟩
/-- What is printed is read as it was. -/
theorem prt_back {d : Df} {t : List UInt8} (h : PrT d t) (h6 : D64 d) (hn : t ≠ []) : readD t = some d ∧ t.length ≤ 20000 ∧ MayD d := by
  rcases id h with ⟨h1, h2, rfl⟩ | ⟨_, h1⟩
  · exact ⟨print_read h1 h6, h2, h1⟩
  · exact absurd h1 hn
/-- Unlike ones have unlike prints. -/
theorem prt_unlike {d e : Df} {s t : List UInt8} (hs : PrT d s) (ht : PrT e t) (hd : D64 d) (he : D64 e) (ns : s ≠ []) (nt : t ≠ []) : decide (s = t) = decide (d = e) := by
  rw [Bool.eq_iff_iff, decide_eq_true_eq, decide_eq_true_eq]
  constructor
  · rintro rfl
    have h1 := (prt_back hs hd ns).1
    rw [(prt_back ht he nt).1] at h1
    exact (Option.some.inj h1).symm
  · rintro rfl
    exact hs.uniq ht
theorem df_d64 (l : List UInt8) : D64 (defO l) := (def_ok l).d64
end Go.Proofs.YtjgpmnffagdhlaaGreatDoor
/-
  From a walk to a statement, of layers 7 and 8: how definitions and texts that came in read; the tables of Go's library and of the project.
-/
namespace Go.Proofs.YtjgpmnffagdhlaaGreatDoor
open Go Go.RowKit Go.ChangeShapes Go.WideShapes Go.ChangeAt Go.Joins Go.Deep Go.Shelf

set_option maxRecDepth 100000
/-- The length that the library's search names: some number. -/
theorem maxlen_of {W : World} (h : W.ShapedOpen Tryz.prog) : ∃ m : Int, W.cell? ⟨1, 0, none⟩ = some (.int .i64 m) := Tryz.laysM155.s1_3 W h
theorem star : "*" ++ "errors.errorString" = "*errors.errorString" := by decide
/-- The one row of that name. -/
theorem row_err (u : TypeId) (h : Tryz.prog.typeName? 3 u = some "*errors.errorString") : u = 233 :=
  typeName_ptr_named (nm := "errors.errorString") (by rw [star]; kernel_rfl) (by kernel_rfl) (by decide) u (by rw [star]; exact h)
theorem glt_of {W : World} (hT : Lib.TabIs Tryz.prog W "internal/strconv.uint64pow10" .u64 Lib.pow10Tab) : 2 < W.heap.size := by
  unfold Lib.TabIs World.var? at hT
  have hn : Tryz.prog.globalNamed "internal/strconv.uint64pow10" = some 2 := by kernel_rfl
  rw [hn] at hT
  rcases Nat.lt_or_ge 2 W.heap.size with hlt | hge
  · exact hlt
  · simp only [Option.bind_some, Array.getElem?_eq_none hge] at hT
    cases hT
/-- The tables, as a row lists them. -/
theorem pow_of {W : World} (h : laidMet Tryz.prog Rows.ddlBackRow.laid W) : Lib.TabIs Tryz.prog W "internal/strconv.uint64pow10" .u64 Lib.pow10Tab := by
  have hmem : ("internal/strconv.uint64pow10", Rows.laid_internal_strconv_uint64pow10) ∈ Rows.ddlBackRow.laid := .tail _ (.tail _ (.head _))
  obtain ⟨g, t, cs, fuel, p, hg, ht, hvar, hd⟩ := Lib.laidMet.reads h hmem
  obtain rfl := Option.some.inj ((show Tryz.prog.globalNamed "internal/strconv.uint64pow10" = some 2 by kernel_rfl).symm.trans hg)
  obtain rfl := Option.some.inj ((show (Tryz.prog.globals[2]?).map (·.type) = some 213 by kernel_rfl).symm.trans ht)
  unfold Lib.TabIs
  rw [hvar, ← Lib.cells_of_tab (zs := Lib.pow10Tab) Tryz.underlying213 Tryz.underlying89 (by kernel_rfl) (by kernel_rfl) hd]
theorem gl_of {W : World} (hL : laidMetH Tryz.prog Rows.ddlBackRow.laid W) (hsh : W.ShapedOpen Tryz.prog) : GL W := by
  rw [MakeChecks.laidMetH_plain _ _ _ (by kernel_rfl)] at hL
  have hT := pow_of hL
  have hm := maxlen_of hsh
  have gS : Tryz.prog.globalNamed "strconv.ErrSyntax" = some 5 := by kernel_rfl
  have gR : Tryz.prog.globalNamed "strconv.ErrRange" = some 6 := by kernel_rfl
  have tS : (Tryz.prog.globals[5]?).map (·.type) = some 120 := by kernel_rfl
  have tR : (Tryz.prog.globals[6]?).map (·.type) = some 120 := by kernel_rfl
  obtain ⟨a0, s0, hv0, -, -, -⟩ := laid_sentinel hL.tail.tail.tail.tail gR tR Tryz.underlying120 row_err Tryz.underlying233 Tryz.underlying235 rfl rfl Tryz.underlying9 (by kernel_rfl) (by kernel_rfl)
  obtain ⟨a1, s1, hv1, -, -, -⟩ := laid_sentinel hL.tail.tail.tail.tail.tail gS tS Tryz.underlying120 row_err Tryz.underlying233 Tryz.underlying235 rfl rfl Tryz.underlying9 (by kernel_rfl) (by kernel_rfl)
  have hc0 := World.var?_cell gR hv0 0
  have hc1 := World.var?_cell gS hv1 0
  obtain ⟨m, hm'⟩ := hm
  exact ⟨⟨⟨m, hm'⟩, hT, glt_of hT⟩, ⟨_, _, hv1⟩, ⟨_, _, hv0⟩, ⟨World.block_lt_of_cell? _ _ hm', glt_of hT, World.block_lt_of_cell? _ _ (by simpa using hc1), World.block_lt_of_cell? _ _ (by simpa using hc0)⟩⟩
/-- The table of words. -/
theorem words_of {W : World} (h : laidMetH Tryz.prog Rows.ddlBackRow.laid W) : OpT W := by
  rw [MakeChecks.laidMetH_plain _ _ _ (by kernel_rfl)] at h
  have hmem : ("levee/expr.words", Rows.laid_levee_expr_words) ∈ Rows.ddlBackRow.laid := .tail _ (.tail _ (.tail _ (.tail _ (.tail _ (.tail _ (.head _))))))
  obtain ⟨g, t, cs, fuel, p, hg, ht, hvar, hd⟩ := Lib.laidMet.reads h hmem
  obtain rfl := Option.some.inj ((show Tryz.prog.globalNamed "levee/expr.words" = some 7 by kernel_rfl).symm.trans hg)
  obtain rfl := Option.some.inj ((show (Tryz.prog.globals[7]?).map (·.type) = some 228 by kernel_rfl).symm.trans ht)
  obtain ⟨xs, m, _, hx, hcl, hxl, hel⟩ := DataW.trod_array Tryz.underlying228 hd
  have c9 : Tryz.prog.cellsOf 9 = 1 := by kernel_rfl
  have c11 : Tryz.prog.cellsOf 228 = 11 := by kernel_rfl
  rw [c9] at hel
  rw [c11] at hcl
  have hxs : xs.map (·.1) = opL.map fun bs => .lit (.string bs) := by
    have := congrArg Prod.fst hx
    simp only [Rows.laid_levee_expr_words] at this
    injection this with this
    exact this.symm
  intro i bs hb0
  have hi : i < 11 := (List.getElem?_eq_some_iff.1 hb0).1
  have hb : (xs.map (·.1))[i]? = some (.lit (.string bs)) := by rw [hxs, List.getElem?_map, hb0]; rfl
  have h1 := hel i hi
  rw [List.getElem?_map] at hb
  cases hxi : xs[i]? with
  | none => rw [hxi] at hb; cases hb
  | some z =>
    rw [hxi] at hb h1
    obtain ⟨s, e, ez, _⟩ := DataW.trod_string Tryz.underlying9 h1
    have hcell : cs.toList[i]? = some (.string s) := by
      rw [Nat.mul_one] at e
      have hl : i < cs.toList.length := by omega
      rw [List.drop_eq_getElem_cons hl] at e
      simp at e
      rw [List.getElem?_eq_getElem hl]
      simpa using e
    have hs : s = ba bs := by
      rw [ez] at hb
      simp at hb
      obtain ⟨⟨l⟩⟩ := s
      simp at hb
      rw [hb]
    subst hs
    have := World.var?_cell hg hvar i
    rw [this]
    simpa using hcell
theorem gw_of {W : World} (hL : laidMetH Tryz.prog Rows.ddlBackRow.laid W) (hsh : W.ShapedOpen Tryz.prog) : Gw W.heap.size W :=
  ⟨gl_of hL hsh, words_of hL, (gl_of hL hsh).lt, (words_of hL).lt⟩
theorem pow_of8 {W : World} (h : laidMet Tryz.prog Rows.stmtBackRow.laid W) : Lib.TabIs Tryz.prog W "internal/strconv.uint64pow10" .u64 Lib.pow10Tab := by
  have hmem : ("internal/strconv.uint64pow10", Rows.laid_internal_strconv_uint64pow10) ∈ Rows.stmtBackRow.laid := .tail _ (.tail _ (.head _))
  obtain ⟨g, t, cs, fuel, p, hg, ht, hvar, hd⟩ := Lib.laidMet.reads h hmem
  obtain rfl := Option.some.inj ((show Tryz.prog.globalNamed "internal/strconv.uint64pow10" = some 2 by kernel_rfl).symm.trans hg)
  obtain rfl := Option.some.inj ((show (Tryz.prog.globals[2]?).map (·.type) = some 213 by kernel_rfl).symm.trans ht)
  unfold Lib.TabIs
  rw [hvar, ← Lib.cells_of_tab (zs := Lib.pow10Tab) Tryz.underlying213 Tryz.underlying89 (by kernel_rfl) (by kernel_rfl) hd]
theorem gl_of8 {W : World} (hL : laidMetH Tryz.prog Rows.stmtBackRow.laid W) (hsh : W.ShapedOpen Tryz.prog) : GL W := by
  rw [MakeChecks.laidMetH_plain _ _ _ (by kernel_rfl)] at hL
  have hT := pow_of8 hL
  have hm := maxlen_of hsh
  have gS : Tryz.prog.globalNamed "strconv.ErrSyntax" = some 5 := by kernel_rfl
  have gR : Tryz.prog.globalNamed "strconv.ErrRange" = some 6 := by kernel_rfl
  have tS : (Tryz.prog.globals[5]?).map (·.type) = some 120 := by kernel_rfl
  have tR : (Tryz.prog.globals[6]?).map (·.type) = some 120 := by kernel_rfl
  obtain ⟨a0, s0, hv0, -, -, -⟩ := laid_sentinel hL.tail.tail.tail.tail gR tR Tryz.underlying120 row_err Tryz.underlying233 Tryz.underlying235 rfl rfl Tryz.underlying9 (by kernel_rfl) (by kernel_rfl)
  obtain ⟨a1, s1, hv1, -, -, -⟩ := laid_sentinel hL.tail.tail.tail.tail.tail gS tS Tryz.underlying120 row_err Tryz.underlying233 Tryz.underlying235 rfl rfl Tryz.underlying9 (by kernel_rfl) (by kernel_rfl)
  have hc0 := World.var?_cell gR hv0 0
  have hc1 := World.var?_cell gS hv1 0
  obtain ⟨m, hm'⟩ := hm
  exact ⟨⟨⟨m, hm'⟩, hT, glt_of hT⟩, ⟨_, _, hv1⟩, ⟨_, _, hv0⟩, ⟨World.block_lt_of_cell? _ _ hm', glt_of hT, World.block_lt_of_cell? _ _ (by simpa using hc1), World.block_lt_of_cell? _ _ (by simpa using hc0)⟩⟩
/-- The table of words. -/
theorem words_of8 {W : World} (h : laidMetH Tryz.prog Rows.stmtBackRow.laid W) : OpT W := by
  rw [MakeChecks.laidMetH_plain _ _ _ (by kernel_rfl)] at h
  have hmem : ("levee/expr.words", Rows.laid_levee_expr_words) ∈ Rows.stmtBackRow.laid := .tail _ (.tail _ (.tail _ (.tail _ (.tail _ (.tail _ (.head _))))))
  obtain ⟨g, t, cs, fuel, p, hg, ht, hvar, hd⟩ := Lib.laidMet.reads h hmem
  obtain rfl := Option.some.inj ((show Tryz.prog.globalNamed "levee/expr.words" = some 7 by kernel_rfl).symm.trans hg)
  obtain rfl := Option.some.inj ((show (Tryz.prog.globals[7]?).map (·.type) = some 228 by kernel_rfl).symm.trans ht)
  obtain ⟨xs, m, _, hx, hcl, hxl, hel⟩ := DataW.trod_array Tryz.underlying228 hd
  have c9 : Tryz.prog.cellsOf 9 = 1 := by kernel_rfl
  have c11 : Tryz.prog.cellsOf 228 = 11 := by kernel_rfl
  rw [c9] at hel
  rw [c11] at hcl
  have hxs : xs.map (·.1) = opL.map fun bs => .lit (.string bs) := by
    have := congrArg Prod.fst hx
    simp only [Rows.laid_levee_expr_words] at this
    injection this with this
    exact this.symm
  intro i bs hb0
  have hi : i < 11 := (List.getElem?_eq_some_iff.1 hb0).1
  have hb : (xs.map (·.1))[i]? = some (.lit (.string bs)) := by rw [hxs, List.getElem?_map, hb0]; rfl
  have h1 := hel i hi
  rw [List.getElem?_map] at hb
  cases hxi : xs[i]? with
  | none => rw [hxi] at hb; cases hb
  | some z =>
    rw [hxi] at hb h1
    obtain ⟨s, e, ez, _⟩ := DataW.trod_string Tryz.underlying9 h1
    have hcell : cs.toList[i]? = some (.string s) := by
      rw [Nat.mul_one] at e
      have hl : i < cs.toList.length := by omega
      rw [List.drop_eq_getElem_cons hl] at e
      simp at e
      rw [List.getElem?_eq_getElem hl]
      simpa using e
    have hs : s = ba bs := by
      rw [ez] at hb
      simp at hb
      obtain ⟨⟨l⟩⟩ := s
      simp at hb
      rw [hb]
    subst hs
    have := World.var?_cell hg hvar i
    rw [this]
    simpa using hcell
theorem gw_of8 {W : World} (hL : laidMetH Tryz.prog Rows.stmtBackRow.laid W) (hsh : W.ShapedOpen Tryz.prog) : Gw W.heap.size W :=
  ⟨gl_of8 hL hsh, words_of8 hL, (gl_of8 hL hsh).lt, (words_of8 hL).lt⟩
section
variable {H : Type} {enc : TypeId × Value → H}
theorem wf_i64 {n : Int} (w : (Lit.int IntKind.i64 n).wf = true) : I64 n := by
  unfold I64
  simpa [Lit.wf, IntKind.min, IntKind.max, IntKind.signed, IntKind.bits] using w
/-- Three cells that read as a value. -/
theorem cells_val {W : World} {m : Nat} {cs : List Value} {z : DataW H × List MemPlace} (h : DataW.trod enc Tryz.prog W 0 (fun _ => true) true m 59 cs = some z) :
    ∃ x : Val, cs = [.int .i64 x.k, .int .i64 x.n, .string x.s] ∧ x.s.size ≤ maxLen ∧ I64 x.n := by
  obtain ⟨ys, n, _, _, hcl, hlen, hf⟩ := DataW.trod_struct Tryz.underlying59 h
  have hN : Tryz.prog.cellsOf 59 = 3 := by kernel_rfl
  rw [hN] at hcl
  match cs, hcl with
  | [a0, a1, a2], _ =>
    have get : ∀ (j : Nat) (hj : j < 3), ys[j]? = some (ys[j]'(by rw [hlen]; exact hj)) := fun j hj => List.getElem?_eq_getElem _
    have c3 : Tryz.prog.cellsOf 3 = 1 := by kernel_rfl
    have c9 : Tryz.prog.cellsOf 9 = 1 := by kernel_rfl
    have c4 : Tryz.prog.cellsOf 4 = 1 := by kernel_rfl
    have h0 := (hf 0 _ rfl).trans (get 0 (by omega))
    obtain ⟨k, e0, _, w0⟩ := DataW.trod_int Tryz.underlying3 h0
    have h1 := (hf 1 _ rfl).trans (get 1 (by omega))
    obtain ⟨x, e1, _, w1⟩ := DataW.trod_int Tryz.underlying3 h1
    have h2 := (hf 2 _ rfl).trans (get 2 (by omega))
    obtain ⟨s, e2, _, w2⟩ := DataW.trod_string Tryz.underlying9 h2
    simp [c3, c9, c4, rdX, rdN, rdI, rdCl, rdAg, rdV] at e0 e1 e2
    subst e0 e1 e2
    exact ⟨⟨k, x, s⟩, rfl, w2, wf_i64 w1⟩
/-- Five cells that read as a step. -/
theorem cells_nd {W : World} {m : Nat} {cs : List Value} {z : DataW H × List MemPlace} (h : DataW.trod enc Tryz.prog W 0 (fun _ => true) true m 66 cs = some z) :
    ∃ x : Nd, cs = rdN x ∧ x.Z ∧ x.v.s.size ≤ maxLen := by
  obtain ⟨ys, n, _, _, hcl, hlen, hf⟩ := DataW.trod_struct Tryz.underlying66 h
  have hN : Tryz.prog.cellsOf 66 = 5 := by kernel_rfl
  rw [hN] at hcl
  match cs, hcl with
  | [a0, a1, a2, a3, a4], _ =>
    have get : ∀ (j : Nat) (hj : j < 3), ys[j]? = some (ys[j]'(by rw [hlen]; exact hj)) := fun j hj => List.getElem?_eq_getElem _
    have c3 : Tryz.prog.cellsOf 3 = 1 := by kernel_rfl
    have c9 : Tryz.prog.cellsOf 9 = 1 := by kernel_rfl
    have c4 : Tryz.prog.cellsOf 4 = 1 := by kernel_rfl
    have d0 : Tryz.prog.cellsOf 59 = 3 := by kernel_rfl
    have h0 := (hf 0 _ rfl).trans (get 0 (by omega))
    obtain ⟨o, e0, _, w0⟩ := DataW.trod_int Tryz.underlying3 h0
    have h1 := (hf 1 _ rfl).trans (get 1 (by omega))
    obtain ⟨x, e1, _, w1⟩ := DataW.trod_int Tryz.underlying3 h1
    have h2 := (hf 2 _ rfl).trans (get 2 (by omega))
    obtain ⟨v, e2, hs, hz⟩ := cells_val h2
    simp [c3, c9, c4, d0, rdX, rdN, rdI, rdCl, rdAg, rdV] at e0 e1 e2
    obtain ⟨rfl, rfl, rfl⟩ := e2
    subst e0 e1
    exact ⟨⟨o, x, v⟩, rfl, ⟨wf_i64 w1, hz⟩, hs⟩
instance : Nonempty Nd := ⟨⟨0, 0, nl⟩⟩
instance : Nonempty (Sx Nd) := ⟨⟨none, 0, 0, []⟩⟩
instance : Nonempty Cl := ⟨⟨emp, 0, false, false, emp, 0⟩⟩
instance : Nonempty Ag := ⟨⟨0, 0⟩⟩
/-- A cell that reads as an expression. -/
theorem cells_ex {W : World} {m : Nat} {cs : List Value} {z : DataW H × List MemPlace} (h : DataW.trod enc Tryz.prog W 0 (fun _ => true) true m 28 cs = some z) :
    ∃ x : Sx Nd, cs = rdX x ∧ x.In W 5 rdN ∧ ∀ y ∈ x.xs, y.Z ∧ y.v.s.size ≤ maxLen := by
  obtain ⟨A, n, c, xs, h1, h2, h3, h4, h5, h6⟩ := slice_cells (α := Nd) Tryz.underlying28 (S := 5) (by kernel_rfl) (by decide) rdN (fun _ => rfl) (fun x => x.Z ∧ x.v.s.size ≤ maxLen) (fun cs n z hz => cells_nd hz) h
  exact ⟨⟨A, n, c, xs⟩, h1, ⟨h2, h3, h5⟩, h6⟩
/-- Six cells that read as a column. -/
theorem cells_cl {W : World} {m : Nat} {cs : List Value} {z : DataW H × List MemPlace} (h : DataW.trod enc Tryz.prog W 0 (fun _ => true) true m 64 cs = some z) :
    ∃ x : Cl, cs = rdCl x ∧ x.name.size ≤ maxLen ∧ x.ref.size ≤ maxLen := by
  obtain ⟨ys, n, _, _, hcl, hlen, hf⟩ := DataW.trod_struct Tryz.underlying64 h
  have hN : Tryz.prog.cellsOf 64 = 6 := by kernel_rfl
  rw [hN] at hcl
  match cs, hcl with
  | [a0, a1, a2, a3, a4, a5], _ =>
    have get : ∀ (j : Nat) (hj : j < 6), ys[j]? = some (ys[j]'(by rw [hlen]; exact hj)) := fun j hj => List.getElem?_eq_getElem _
    have c3 : Tryz.prog.cellsOf 3 = 1 := by kernel_rfl
    have c9 : Tryz.prog.cellsOf 9 = 1 := by kernel_rfl
    have c4 : Tryz.prog.cellsOf 4 = 1 := by kernel_rfl
    have h0 := (hf 0 _ rfl).trans (get 0 (by omega))
    obtain ⟨nm, e0, _, w0⟩ := DataW.trod_string Tryz.underlying9 h0
    have h1 := (hf 1 _ rfl).trans (get 1 (by omega))
    obtain ⟨k, e1, _, w1⟩ := DataW.trod_int Tryz.underlying3 h1
    have h2 := (hf 2 _ rfl).trans (get 2 (by omega))
    obtain ⟨nu, e2, _⟩ := DataW.trod_bool Tryz.underlying4 h2
    have h3 := (hf 3 _ rfl).trans (get 3 (by omega))
    obtain ⟨un, e3, _⟩ := DataW.trod_bool Tryz.underlying4 h3
    have h4 := (hf 4 _ rfl).trans (get 4 (by omega))
    obtain ⟨rf, e4, _, w4⟩ := DataW.trod_string Tryz.underlying9 h4
    have h5 := (hf 5 _ rfl).trans (get 5 (by omega))
    obtain ⟨ac, e5, _, w5⟩ := DataW.trod_int Tryz.underlying3 h5
    simp [c3, c9, c4, rdX, rdN, rdI, rdCl, rdAg, rdV] at e0 e1 e2 e3 e4 e5
    subst e0 e1 e2 e3 e4 e5
    exact ⟨⟨nm, k, nu, un, rf, ac⟩, rfl, w0, w4⟩
/-- Two cells that read as an aggregate. -/
theorem cells_ag {W : World} {m : Nat} {cs : List Value} {z : DataW H × List MemPlace} (h : DataW.trod enc Tryz.prog W 0 (fun _ => true) true m 74 cs = some z) :
    ∃ x : Ag, cs = rdAg x ∧ I64 x.col := by
  obtain ⟨ys, n, _, _, hcl, hlen, hf⟩ := DataW.trod_struct Tryz.underlying74 h
  have hN : Tryz.prog.cellsOf 74 = 2 := by kernel_rfl
  rw [hN] at hcl
  match cs, hcl with
  | [a0, a1], _ =>
    have get : ∀ (j : Nat) (hj : j < 2), ys[j]? = some (ys[j]'(by rw [hlen]; exact hj)) := fun j hj => List.getElem?_eq_getElem _
    have c3 : Tryz.prog.cellsOf 3 = 1 := by kernel_rfl
    have c9 : Tryz.prog.cellsOf 9 = 1 := by kernel_rfl
    have c4 : Tryz.prog.cellsOf 4 = 1 := by kernel_rfl
    have h0 := (hf 0 _ rfl).trans (get 0 (by omega))
    obtain ⟨f, e0, _, w0⟩ := DataW.trod_int Tryz.underlying3 h0
    have h1 := (hf 1 _ rfl).trans (get 1 (by omega))
    obtain ⟨c, e1, _, w1⟩ := DataW.trod_int Tryz.underlying3 h1
    simp [c3, c9, c4, rdX, rdN, rdI, rdCl, rdAg, rdV] at e0 e1
    subst e0 e1
    exact ⟨⟨f, c⟩, rfl, wf_i64 w1⟩
/-- A cell that reads as a number. -/
theorem cells_int {W : World} {m : Nat} {cs : List Value} {z : DataW H × List MemPlace} (h : DataW.trod enc Tryz.prog W 0 (fun _ => true) true m 3 cs = some z) : ∃ x : Int, cs = rdI x ∧ I64 x := by
  obtain ⟨k, e, _, w⟩ := DataW.trod_int Tryz.underlying3 h
  exact ⟨k, e, wf_i64 w⟩
/-- Two cells that read as a pair of numbers. -/
theorem cells_on {W : World} {m : Nat} {cs : List Value} {z : DataW H × List MemPlace} (h : DataW.trod enc Tryz.prog W 0 (fun _ => true) true m 26 cs = some z) : ∃ x y : Int, cs = [.int .i64 x, .int .i64 y] ∧ I64 x ∧ I64 y := by
  obtain ⟨ys, n, _, _, hcl, hlen, hf⟩ := DataW.trod_array Tryz.underlying26 h
  have c3 : Tryz.prog.cellsOf 3 = 1 := by kernel_rfl
  have hN : Tryz.prog.cellsOf 26 = 2 := by kernel_rfl
  rw [hN] at hcl
  match cs, hcl with
  | [a0, a1], _ =>
    have h0 := (hf 0 (by omega)).trans (List.getElem?_eq_getElem (by omega))
    have h1 := (hf 1 (by omega)).trans (List.getElem?_eq_getElem (by omega))
    obtain ⟨x, e0, _, w0⟩ := DataW.trod_int Tryz.underlying3 h0
    obtain ⟨y, e1, _, w1⟩ := DataW.trod_int Tryz.underlying3 h1
    simp [c3] at e0 e1
    subst e0 e1
    exact ⟨x, y, rfl, wf_i64 w0, wf_i64 w1⟩
theorem cells_cols {W : World} {m : Nat} {cs : List Value} {z : DataW H × List MemPlace} (h : DataW.trod enc Tryz.prog W 0 (fun _ => true) true m 22 cs = some z) :
    ∃ x : Sx Cl, cs = [.slice x.A x.n x.c] ∧ x.In W 6 rdCl ∧ ∀ y ∈ x.xs, y.name.size ≤ maxLen ∧ y.ref.size ≤ maxLen := by
  obtain ⟨A, n, c, xs, h1, h2, h3, h4, h5, h6⟩ := slice_cells (α := Cl) Tryz.underlying22 (S := 6) (by kernel_rfl) (by decide) rdCl (fun _ => rfl) (fun x => x.name.size ≤ maxLen ∧ x.ref.size ≤ maxLen) (fun cs n z hz => cells_cl hz) h
  exact ⟨⟨A, n, c, xs⟩, h1, ⟨h2, h3, h5⟩, h6⟩
theorem cells_chks {W : World} {m : Nat} {cs : List Value} {z : DataW H × List MemPlace} (h : DataW.trod enc Tryz.prog W 0 (fun _ => true) true m 23 cs = some z) :
    ∃ x : Sx (Sx Nd), cs = [.slice x.A x.n x.c] ∧ x.In W 1 rdX ∧ ∀ e ∈ x.xs, e.In W 5 rdN ∧ ∀ y ∈ e.xs, y.Z ∧ y.v.s.size ≤ maxLen := by
  obtain ⟨A, n, c, xs, h1, h2, h3, h4, h5, h6⟩ := slice_cells (α := Sx Nd) Tryz.underlying23 (S := 1) (by kernel_rfl) (by decide) rdX (fun _ => rfl) (fun e => e.In W 5 rdN ∧ ∀ y ∈ e.xs, y.Z ∧ y.v.s.size ≤ maxLen) (fun cs n z hz => cells_ex hz) h
  exact ⟨⟨A, n, c, xs⟩, h1, ⟨h2, h3, h5⟩, h6⟩
theorem cells_pick {W : World} {m : Nat} {cs : List Value} {z : DataW H × List MemPlace} (h : DataW.trod enc Tryz.prog W 0 (fun _ => true) true m 29 cs = some z) :
    ∃ x : Sx Int, cs = [.slice x.A x.n x.c] ∧ x.In W 1 rdI ∧ ∀ y ∈ x.xs, I64 y := by
  obtain ⟨A, n, c, xs, h1, h2, h3, h4, h5, h6⟩ := slice_cells (α := Int) Tryz.underlying29 (S := 1) (by kernel_rfl) (by decide) rdI (fun _ => rfl) (fun x => I64 x) (fun cs n z hz => cells_int hz) h
  exact ⟨⟨A, n, c, xs⟩, h1, ⟨h2, h3, h5⟩, h6⟩
theorem cells_aggs {W : World} {m : Nat} {cs : List Value} {z : DataW H × List MemPlace} (h : DataW.trod enc Tryz.prog W 0 (fun _ => true) true m 30 cs = some z) :
    ∃ x : Sx Ag, cs = [.slice x.A x.n x.c] ∧ x.In W 2 rdAg ∧ ∀ y ∈ x.xs, I64 y.col := by
  obtain ⟨A, n, c, xs, h1, h2, h3, h4, h5, h6⟩ := slice_cells (α := Ag) Tryz.underlying30 (S := 2) (by kernel_rfl) (by decide) rdAg (fun _ => rfl) (fun x => I64 x.col) (fun cs n z hz => cells_ag hz) h
  exact ⟨⟨A, n, c, xs⟩, h1, ⟨h2, h3, h5⟩, h6⟩
/-- Three cells that read as a table. -/
theorem cells_tb {W : World} {m : Nat} {cs : List Value} {z : DataW H × List MemPlace} (h : DataW.trod enc Tryz.prog W 0 (fun _ => true) true m 25 cs = some z) :
    ∃ x : Tm, cs = [.string x.name, .slice x.cols.A x.cols.n x.cols.c, .slice x.chks.A x.chks.n x.chks.c] ∧ x.In W ∧ x.name.size ≤ maxLen ∧ (∀ y ∈ x.cols.xs, y.name.size ≤ maxLen ∧ y.ref.size ≤ maxLen) ∧ ∀ e ∈ x.chks.xs, ∀ y ∈ e.xs, y.Z ∧ y.v.s.size ≤ maxLen := by
  obtain ⟨ys, n, _, _, hcl, hlen, hf⟩ := DataW.trod_struct Tryz.underlying25 h
  have hN : Tryz.prog.cellsOf 25 = 3 := by kernel_rfl
  rw [hN] at hcl
  match cs, hcl with
  | [a0, a1, a2], _ =>
    have get : ∀ (j : Nat) (hj : j < 3), ys[j]? = some (ys[j]'(by rw [hlen]; exact hj)) := fun j hj => List.getElem?_eq_getElem _
    have c3 : Tryz.prog.cellsOf 3 = 1 := by kernel_rfl
    have c9 : Tryz.prog.cellsOf 9 = 1 := by kernel_rfl
    have c4 : Tryz.prog.cellsOf 4 = 1 := by kernel_rfl
    have d0 : Tryz.prog.cellsOf 22 = 1 := by kernel_rfl
    have d1 : Tryz.prog.cellsOf 23 = 1 := by kernel_rfl
    have h0 := (hf 0 _ rfl).trans (get 0 (by omega))
    obtain ⟨nm, e0, _, w0⟩ := DataW.trod_string Tryz.underlying9 h0
    have h1 := (hf 1 _ rfl).trans (get 1 (by omega))
    obtain ⟨x1, e1, i1, q1⟩ := cells_cols h1
    have h2 := (hf 2 _ rfl).trans (get 2 (by omega))
    obtain ⟨x2, e2, i2, q2⟩ := cells_chks h2
    simp [c3, c9, c4, d0, d1, rdX, rdN, rdI, rdCl, rdAg, rdV] at e0 e1 e2
    subst e0 e1 e2
    exact ⟨⟨nm, x1, x2⟩, rfl, ⟨i1, i2, fun e he => (q2 e he).1⟩, w0, q1, fun e he => (q2 e he).2⟩
/-- Nine cells that read as a view. -/
theorem cells_vw {W : World} {m : Nat} {cs : List Value} {z : DataW H × List MemPlace} (h : DataW.trod enc Tryz.prog W 0 (fun _ => true) true m 32 cs = some z) :
    ∃ x : Vm, cs = [.string x.name, .string x.frm, .string x.wth, .int .i64 x.on0, .int .i64 x.on1, .slice x.whr.A x.whr.n x.whr.c, .slice x.pick.A x.pick.n x.pick.c, .bool x.grp, .slice x.aggs.A x.aggs.n x.aggs.c] ∧ x.In W ∧ x.name.size ≤ maxLen ∧ x.frm.size ≤ maxLen ∧ x.wth.size ≤ maxLen ∧ I64 x.on0 ∧ I64 x.on1 ∧ (∀ y ∈ x.whr.xs, y.Z ∧ y.v.s.size ≤ maxLen) ∧ (∀ y ∈ x.pick.xs, I64 y) ∧ ∀ y ∈ x.aggs.xs, I64 y.col := by
  obtain ⟨ys, n, _, _, hcl, hlen, hf⟩ := DataW.trod_struct Tryz.underlying32 h
  have hN : Tryz.prog.cellsOf 32 = 9 := by kernel_rfl
  rw [hN] at hcl
  match cs, hcl with
  | [a0, a1, a2, a3, a4, a5, a6, a7, a8], _ =>
    have get : ∀ (j : Nat) (hj : j < 8), ys[j]? = some (ys[j]'(by rw [hlen]; exact hj)) := fun j hj => List.getElem?_eq_getElem _
    have c3 : Tryz.prog.cellsOf 3 = 1 := by kernel_rfl
    have c9 : Tryz.prog.cellsOf 9 = 1 := by kernel_rfl
    have c4 : Tryz.prog.cellsOf 4 = 1 := by kernel_rfl
    have d0 : Tryz.prog.cellsOf 26 = 2 := by kernel_rfl
    have d1 : Tryz.prog.cellsOf 28 = 1 := by kernel_rfl
    have d2 : Tryz.prog.cellsOf 29 = 1 := by kernel_rfl
    have d3 : Tryz.prog.cellsOf 30 = 1 := by kernel_rfl
    have h0 := (hf 0 _ rfl).trans (get 0 (by omega))
    obtain ⟨nm, e0, _, w0⟩ := DataW.trod_string Tryz.underlying9 h0
    have h1 := (hf 1 _ rfl).trans (get 1 (by omega))
    obtain ⟨fr, e1, _, w1⟩ := DataW.trod_string Tryz.underlying9 h1
    have h2 := (hf 2 _ rfl).trans (get 2 (by omega))
    obtain ⟨wt, e2, _, w2⟩ := DataW.trod_string Tryz.underlying9 h2
    have h3 := (hf 3 _ rfl).trans (get 3 (by omega))
    obtain ⟨on0, on1, e3, z0, z1⟩ := cells_on h3
    have h4 := (hf 4 _ rfl).trans (get 4 (by omega))
    obtain ⟨x4, e4, i4, q4⟩ := cells_ex h4
    have h5 := (hf 5 _ rfl).trans (get 5 (by omega))
    obtain ⟨x5, e5, i5, q5⟩ := cells_pick h5
    have h6 := (hf 6 _ rfl).trans (get 6 (by omega))
    obtain ⟨gr, e6, _⟩ := DataW.trod_bool Tryz.underlying4 h6
    have h7 := (hf 7 _ rfl).trans (get 7 (by omega))
    obtain ⟨x7, e7, i7, q7⟩ := cells_aggs h7
    simp [c3, c9, c4, d0, d1, d2, d3, rdX, rdN, rdI, rdCl, rdAg, rdV] at e0 e1 e2 e3 e4 e5 e6 e7
    obtain ⟨rfl, rfl⟩ := e3
    subst e0 e1 e2 e4 e5 e6 e7
    exact ⟨⟨nm, fr, wt, on0, on1, x4, x5, gr, x7⟩, rfl, ⟨i4, i5, i7⟩, w0, w1, w2, z0, z1, q4, q5, q7⟩
/-- The cells that read as a definition. -/
theorem cells_df {W : World} {m : Nat} {cs : List Value} {z : DataW H × List MemPlace} (h : DataW.trod enc Tryz.prog W 0 (fun _ => true) true m 34 cs = some z) :
    ∃ x : Dm, cs = rdD x ∧ x.In W ∧ x.Tx ∧ x.Z := by
  obtain ⟨ys, n, _, _, hcl, hlen, hf⟩ := DataW.trod_struct Tryz.underlying34 h
  have hN : Tryz.prog.cellsOf 34 = 13 := by kernel_rfl
  rw [hN] at hcl
  match cs, hcl with
  | [a0, a1, a2, a3, a4, a5, a6, a7, a8, a9, a10, a11, a12], _ =>
    have get : ∀ (j : Nat) (hj : j < 3), ys[j]? = some (ys[j]'(by rw [hlen]; exact hj)) := fun j hj => List.getElem?_eq_getElem _
    have c3 : Tryz.prog.cellsOf 3 = 1 := by kernel_rfl
    have c9 : Tryz.prog.cellsOf 9 = 1 := by kernel_rfl
    have c4 : Tryz.prog.cellsOf 4 = 1 := by kernel_rfl
    have d0 : Tryz.prog.cellsOf 25 = 3 := by kernel_rfl
    have d1 : Tryz.prog.cellsOf 32 = 9 := by kernel_rfl
    have h0 := (hf 0 _ rfl).trans (get 0 (by omega))
    obtain ⟨k, e0, _, w0⟩ := DataW.trod_int Tryz.underlying3 h0
    have h1 := (hf 1 _ rfl).trans (get 1 (by omega))
    obtain ⟨t, e1, it, t1, t2, t3⟩ := cells_tb h1
    have h2 := (hf 2 _ rfl).trans (get 2 (by omega))
    obtain ⟨v, e2, iv, v1, v2, v3, v4, v5, v6, v7, v8⟩ := cells_vw h2
    simp [c3, c9, c4, d0, d1, rdX, rdN, rdI, rdCl, rdAg, rdV] at e0 e1 e2
    obtain ⟨rfl, rfl, rfl⟩ := e1
    obtain ⟨rfl, rfl, rfl, rfl, rfl, rfl, rfl, rfl, rfl⟩ := e2
    subst e0
    exact ⟨⟨k, t, v⟩, rfl, ⟨it, iv⟩, ⟨t2, fun e he y hy => (t3 e he y hy).2, fun y hy => (v6 y hy).2, t1, v1, v2, v3⟩, ⟨fun e he y hy => (t3 e he y hy).1, fun y hy => (v6 y hy).1, v4, v5, v7, v8⟩⟩
/-- A definition that came in. -/
theorem def_of {W : World} {base : Nat} {v : Value} {d : DataW H} {p : List MemPlace} (hv : Value.okWide Tryz.prog W .any base 34 v) (h : DataW.Trod enc Tryz.prog W 0 (fun _ => true) true 34 v d p) :
    ∃ x : Dm, v = x.w ∧ x.In W ∧ x.Tx ∧ x.Z := by
  obtain ⟨cs, rfl, _⟩ := okWide_struct Tryz.underlying34 hv
  obtain ⟨fuel, hf⟩ := h
  obtain ⟨x, hx, h1, h2, h3⟩ := cells_df hf
  refine ⟨x, ?_, h1, h2, h3⟩
  have e : cs = (rdD x).toArray := by
    have : cs.toList = rdD x := hx
    rw [← this]
  rw [e]
  rfl
/-- A text that came in. -/
theorem text_of {W : World} {base : Nat} {v : Value} {d : DataW H} {p : List MemPlace} (hv : Value.okWide Tryz.prog W .any base 9 v) (h : DataW.Trod enc Tryz.prog W 0 (fun _ => true) true 9 v d p) :
    ∃ l : List UInt8, v = .string (ba l) ∧ l.length ≤ maxLen := by
  obtain ⟨s, rfl, _, _, hs⟩ := Go.ChangeMaps.open_string Tryz.underlying9 hv h
  refine ⟨s.data.toList, by rw [ba_of], hs⟩
end
end Go.Proofs.YtjgpmnffagdhlaaGreatDoor
/-
  The document's own 'Keyword' and 'Name'.
-/
namespace Go.Proofs.YtjgpmnffagdhlaaGreatDoor
open Go Go.RowKit
set_option maxRecDepth 100000
/-- Block b holds the words that are no names. -/
def KwIn (w : World) (b : Nat) : Prop := b < w.heap.size ∧ ∀ k l, kws[k]? = some l → w.cell? ⟨b, k, none⟩ = some (.string (ba l))
theorem KwIn.after {w0 w : World} {b : Nat} (h : KwIn w0 b) (hb : Below w0.heap.size w0 w) : KwIn w b := ⟨Nat.lt_of_lt_of_le h.1 hb.size, fun k l hl => (hb.cell (p := ⟨b, k, none⟩) h.1).trans (h.2 k l hl)⟩
theorem kw_cells : (#[.string ⟨#[116, 97, 98, 108, 101]⟩, .string ⟨#[99, 104, 101, 99, 107]⟩, .string ⟨#[118, 105, 101, 119]⟩, .string ⟨#[102, 114, 111, 109]⟩, .string ⟨#[106, 111, 105, 110]⟩, .string ⟨#[111, 110]⟩, .string ⟨#[119, 104, 101, 114, 101]⟩, .string ⟨#[112, 105, 99, 107]⟩, .string ⟨#[103, 114, 111, 117, 112]⟩, .string ⟨#[98, 111, 111, 108]⟩, .string ⟨#[105, 110, 116]⟩, .string ⟨#[116, 101, 120, 116]⟩, .string ⟨#[110, 117, 108, 108]⟩, .string ⟨#[117, 110, 105, 113, 117, 101]⟩, .string ⟨#[114, 101, 102]⟩, .string ⟨#[114, 101, 115, 116, 114, 105, 99, 116]⟩, .string ⟨#[99, 97, 115, 99, 97, 100, 101]⟩, .string ⟨#[115, 101, 116, 110, 117, 108, 108]⟩, .string ⟨#[99, 111, 117, 110, 116]⟩, .string ⟨#[115, 117, 109]⟩, .string ⟨#[109, 105, 110]⟩, .string ⟨#[109, 97, 120]⟩, .string ⟨#[116, 114, 117, 101]⟩, .string ⟨#[102, 97, 108, 115, 101]⟩, .string ⟨#[97, 110, 100]⟩, .string ⟨#[111, 114]⟩, .string ⟨#[110, 111, 116]⟩] : Array Value) = (kws.map (fun l => Value.string (ba l))).toArray := by kernel_rfl
theorem kw_in (w : World) : KwIn (w.alloc (.cells #[.string ⟨#[116, 97, 98, 108, 101]⟩, .string ⟨#[99, 104, 101, 99, 107]⟩, .string ⟨#[118, 105, 101, 119]⟩, .string ⟨#[102, 114, 111, 109]⟩, .string ⟨#[106, 111, 105, 110]⟩, .string ⟨#[111, 110]⟩, .string ⟨#[119, 104, 101, 114, 101]⟩, .string ⟨#[112, 105, 99, 107]⟩, .string ⟨#[103, 114, 111, 117, 112]⟩, .string ⟨#[98, 111, 111, 108]⟩, .string ⟨#[105, 110, 116]⟩, .string ⟨#[116, 101, 120, 116]⟩, .string ⟨#[110, 117, 108, 108]⟩, .string ⟨#[117, 110, 105, 113, 117, 101]⟩, .string ⟨#[114, 101, 102]⟩, .string ⟨#[114, 101, 115, 116, 114, 105, 99, 116]⟩, .string ⟨#[99, 97, 115, 99, 97, 100, 101]⟩, .string ⟨#[115, 101, 116, 110, 117, 108, 108]⟩, .string ⟨#[99, 111, 117, 110, 116]⟩, .string ⟨#[115, 117, 109]⟩, .string ⟨#[109, 105, 110]⟩, .string ⟨#[109, 97, 120]⟩, .string ⟨#[116, 114, 117, 101]⟩, .string ⟨#[102, 97, 108, 115, 101]⟩, .string ⟨#[97, 110, 100]⟩, .string ⟨#[111, 114]⟩, .string ⟨#[110, 111, 116]⟩] 9)) w.heap.size := by
  refine ⟨by simp, fun k l hl => ?_⟩
  rw [kw_cells]
  have e : (w.alloc (.cells (kws.map (fun l => Value.string (ba l))).toArray 9)).heap[w.heap.size]? = some (.cells (kws.map (fun l => Value.string (ba l))).toArray 9 (0, 0)) := by
    show (w.heap.push _)[w.heap.size]? = _
    simp
  generalize w.alloc _ = W at e
  simp [World.cell?, e, hl]
theorem has_drop {k : Nat} {x : List UInt8} (h : kws[k]? = some x) (l : List UInt8) : (kws.drop k).contains l = (decide (x = l) || (kws.drop (k + 1)).contains l) := by
  have hlt : k < kws.length := (List.getElem?_eq_some_iff.1 h).1
  have hv : kws[k] = x := (List.getElem?_eq_some_iff.1 h).2
  rw [List.drop_eq_getElem_cons hlt, hv, List.contains_cons, Bool.eq_iff_iff]
  simp only [Bool.or_eq_true, beq_iff_eq, decide_eq_true_eq]
  exact ⟨fun h => h.imp Eq.symm id, fun h => h.imp Eq.symm id⟩
set_option maxHeartbeats 2000000 in
theorem kw_c (l : List UInt8) (w : World) :
    Calls Tryz.prog 41 #[.string (ba l)] w fun e w' => e = .returned (.bool (kws.contains l)) ∧ Below w.heap.size w w' := by
  obtain ⟨R, hR⟩ : ∃ R, kws.contains l = R := ⟨_, rfl⟩
  rw [hR]
  have HR := Lib.hid hR
  have Hk := Lib.hid (kw_in w)
  have HB := Lib.hid (below_one w (.cells #[.string ⟨#[116, 97, 98, 108, 101]⟩, .string ⟨#[99, 104, 101, 99, 107]⟩, .string ⟨#[118, 105, 101, 119]⟩, .string ⟨#[102, 114, 111, 109]⟩, .string ⟨#[106, 111, 105, 110]⟩, .string ⟨#[111, 110]⟩, .string ⟨#[119, 104, 101, 114, 101]⟩, .string ⟨#[112, 105, 99, 107]⟩, .string ⟨#[103, 114, 111, 117, 112]⟩, .string ⟨#[98, 111, 111, 108]⟩, .string ⟨#[105, 110, 116]⟩, .string ⟨#[116, 101, 120, 116]⟩, .string ⟨#[110, 117, 108, 108]⟩, .string ⟨#[117, 110, 105, 113, 117, 101]⟩, .string ⟨#[114, 101, 102]⟩, .string ⟨#[114, 101, 115, 116, 114, 105, 99, 116]⟩, .string ⟨#[99, 97, 115, 99, 97, 100, 101]⟩, .string ⟨#[115, 101, 116, 110, 117, 108, 108]⟩, .string ⟨#[99, 111, 117, 110, 116]⟩, .string ⟨#[115, 117, 109]⟩, .string ⟨#[109, 105, 110]⟩, .string ⟨#[109, 97, 120]⟩, .string ⟨#[116, 114, 117, 101]⟩, .string ⟨#[102, 97, 108, 115, 101]⟩, .string ⟨#[97, 110, 100]⟩, .string ⟨#[111, 114]⟩, .string ⟨#[110, 111, 116]⟩] 9))
  clear hR
  have hn : kws.length = 27 := by kernel_rfl
  have Hn := Lib.hid hn
  clear hn
  go_enter Tryz.func41, Tryz.ntmps41
  go_wp2_with fail
  obtain ⟨W, hW⟩ : ∃ W, w.alloc (.cells #[.string ⟨#[116, 97, 98, 108, 101]⟩, .string ⟨#[99, 104, 101, 99, 107]⟩, .string ⟨#[118, 105, 101, 119]⟩, .string ⟨#[102, 114, 111, 109]⟩, .string ⟨#[106, 111, 105, 110]⟩, .string ⟨#[111, 110]⟩, .string ⟨#[119, 104, 101, 114, 101]⟩, .string ⟨#[112, 105, 99, 107]⟩, .string ⟨#[103, 114, 111, 117, 112]⟩, .string ⟨#[98, 111, 111, 108]⟩, .string ⟨#[105, 110, 116]⟩, .string ⟨#[116, 101, 120, 116]⟩, .string ⟨#[110, 117, 108, 108]⟩, .string ⟨#[117, 110, 105, 113, 117, 101]⟩, .string ⟨#[114, 101, 102]⟩, .string ⟨#[114, 101, 115, 116, 114, 105, 99, 116]⟩, .string ⟨#[99, 97, 115, 99, 97, 100, 101]⟩, .string ⟨#[115, 101, 116, 110, 117, 108, 108]⟩, .string ⟨#[99, 111, 117, 110, 116]⟩, .string ⟨#[115, 117, 109]⟩, .string ⟨#[109, 105, 110]⟩, .string ⟨#[109, 97, 120]⟩, .string ⟨#[116, 114, 117, 101]⟩, .string ⟨#[102, 97, 108, 115, 101]⟩, .string ⟨#[97, 110, 100]⟩, .string ⟨#[111, 114]⟩, .string ⟨#[110, 111, 116]⟩] 9) = W := ⟨_, rfl⟩
  rw [hW] at Hk HB ⊢
  clear hW
  go_loopw [4] (fun i wr => ∃ k : Nat, k ≤ 27 ∧ i = .int .i64 k ∧ Hid (Below W.heap.size W wr) ∧ Hid ((kws.drop k).contains l = R)) (fun i _ => 27 - (intOf i).toNat)
  case atStart => exact ⟨0, Nat.zero_le _, rfl, Below.refl _ _, HR⟩
  case round =>
    obtain ⟨k, hk, rfl, hb, hinv⟩ := hrel
    clear HR
    by_cases hlt : k < 27
    · have hx : kws[k]? = some (kws[k]'(by rw [Hn.out]; exact hlt)) := List.getElem?_eq_getElem _
      obtain ⟨x, hx⟩ : ∃ x, kws[k]? = some x := ⟨_, hx⟩
      have c0 := (Hk.out.after hb.out).2 k x hx
      have l0 := (Hk.out.after hb.out).1
      have hst := has_drop hx l
      rw [hinv.out] at hst
      clear hinv hx
      by_cases hq : x = l
      · subst hq
        have hRt : R = true := by rw [hst]; simp
        subst hRt
        clear hst
        go_wp2
        go_ret
        exact ⟨rfl, below_via HB.out hb.out⟩
      · have hst2 : (kws.drop (k + 1)).contains l = R := by rw [hst]; simp [hq]
        have Hst := Lib.hid hst2
        have Hb2 := Lib.hid hb.out
        have hq2 : (x == l) = false := by simpa using hq
        clear hst hst2
        go_wp2
        go_roundw
        case rel => exact ⟨k + 1, by omega, by go_num, Hb2, Hst⟩
        case measure => simp [intOf]; omega
    · obtain rfl : k = 27 := by omega
      have hRf : R = false := by rw [← hinv.out, List.drop_eq_nil_of_le (by rw [Hn.out]; omega)]; rfl
      subst hRf
      clear hinv
      go_wp2
      go_ret
      exact ⟨rfl, below_via HB.out hb.out⟩
set_option maxHeartbeats 2000000 in
theorem name_c (l : List UInt8) (w : World) (hl : l.length ≤ maxLen) :
    Calls Tryz.prog 20 #[.string (ba l)] w fun e w' => e = .returned (.bool (nameB l)) ∧ Below w.heap.size w w' := by
  obtain ⟨R, hR⟩ : ∃ R, nameB l = R := ⟨_, rfl⟩
  rw [hR]
  have hw : wordB l = wordB l := rfl
  obtain ⟨Z1, hZ1⟩ : ∃ Z, wordB l = Z := ⟨_, rfl⟩
  obtain ⟨Z2, hZ2⟩ : ∃ Z, kws.contains l = Z := ⟨_, rfl⟩
  have HR : Hid (R = (Z1 && !Z2)) := Lib.hid (by rw [← hR, ← hZ1, ← hZ2]; rfl)
  have HW := Lib.hid (rword_c l w hl)
  have HK := Lib.hid (kw_c l w)
  rw [hZ1] at HW
  rw [hZ2] at HK
  clear hw hR hZ1 hZ2
  go_enter Tryz.func20, Tryz.ntmps20
  go_wp2_with fail
  refine HW.out.mono ?_
  rintro e w1 ⟨rfl, rfl⟩
  cases Z1
  · obtain rfl : R = false := HR.out
    clear HW HK
    go_wp2
    go_ret
    exact ⟨rfl, Below.refl _ _⟩
  obtain rfl : R = !Z2 := by rw [HR.out]; rfl
  clear HW HR
  go_wp2_with fail
  refine HK.out.mono ?_
  rintro e w2 ⟨rfl, hb⟩
  clear HK
  have Hb := Lib.hid hb
  clear hb
  go_wp2
  go_ret
  exact ⟨rfl, Hb.out⟩
end Go.Proofs.YtjgpmnffagdhlaaGreatDoor
