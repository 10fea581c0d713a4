/-
  Part 6 of 6 of what the proof leans on: each part below says what it proves, and of what; no condition besides.
-/
import Derived.Test.YtbpopkgpepmlcaaR05
import Derived.Deep.RegionHeld3
import Derived.Deep.DeepCutAuto
import Derived.Test.YtbpopkgpepmlcaaRows
import Derived.ProofKit
import Derived.OpenShut
import Derived.Deep.DeepHandedRow
import Derived.Lib.LaidTab
import Derived.Lib.LaidU8
import Derived.Lib.SmallJoins
import Derived.Deep.Slices
import Derived.Deep.Fields
import Derived.ChangeSame
import Derived.ChangeMaps5
import Derived.Lay
import Derived.Below
set_option linter.unusedVariables false
set_option linter.unusedSimpArgs false
namespace Go.Proofs.Ytbpopkgpepmlcaa
open Go Go.RowKit
set_option maxRecDepth 100000
attribute [local go_sem ↓] Go.wp_at_zero Go.wp_at_succ
set_option maxHeartbeats 16000000 in
theorem linear_w (x : Vq) (TA TB TC : Option Addr) (na nb nc ca cb cc : Nat) (ta tb tc : List Ct) (w : World) (hx : Vq.In w x) (hA : BgIn w TA na ta) (hB : BgIn w TB nb tb) (hC : BgIn w TC nc tc) :
 Calls Try.prog 3 #[x.w, .agg #[.slice TA na ca, .slice TB nb cb, .slice TC nc cc]] w fun e w' => e = .returned (.bool true) ∧ Below w.heap.size w w' := by
 have HA := Lib.hid hA
 have HB := Lib.hid hB
 have HCc := Lib.hid hC
 clear hA hB hC
 have h2b := box2 x (.slice TA na ca) (.slice TB nb cb) (.slice TC nc cc) w
 obtain ⟨hb0, hq0, ht0, hl0⟩ := h2b
 have HX := Lib.hid hx
 clear hx
 obtain ⟨nm, fr, wt, o0, o1, eA, en, ec, ee, pA, pn, pc, ps, gr, aA, an, ac⟩ := x
 have Hb0 : Hid (Below w.heap.size w ((w.alloc (.cells #[.string nm, .string fr, .string wt, .int .i64 o0, .int .i64 o1, .slice eA en ec, .slice pA pn pc, .bool gr, .slice aA an ac] 28)).alloc (.cells #[.slice TA na ca, .slice TB nb cb, .slice TC nc cc] 32))) := Lib.hid hb0
 have HT0 : Hid (Two ((w.alloc (.cells #[.string nm, .string fr, .string wt, .int .i64 o0, .int .i64 o1, .slice eA en ec, .slice pA pn pc, .bool gr, .slice aA an ac] 28)).alloc (.cells #[.slice TA na ca, .slice TB nb cb, .slice TC nc cc] 32)) w.heap.size (⟨nm, fr, wt, o0, o1, eA, en, ec, ee, pA, pn, pc, ps, gr, aA, an, ac⟩ : Vq) (.slice TA na ca) (.slice TB nb cb) (.slice TC nc cc)) := Lib.hid ⟨hq0, ht0, hl0⟩
 clear hb0 hq0 ht0 hl0
 dsimp only [Vq.w]
 go_enter Try.func3, Try.ntmps3
 go_wp2_with fail
 obtain ⟨W, hW⟩ : ∃ W : World, (w.alloc (.cells #[.string nm, .string fr, .string wt, .int .i64 o0, .int .i64 o1, .slice eA en ec, .slice pA pn pc, .bool gr, .slice aA an ac] 28)).alloc (.cells #[.slice TA na ca, .slice TB nb cb, .slice TC nc cc] 32) = W := ⟨_, rfl⟩
 rw [hW] at Hb0 HT0 ⊢
 clear hW
 have HX := Lib.hid (HX.out.after Hb0.out)
 have HA := Lib.hid (HA.out.after Hb0.out)
 have HB := Lib.hid (HB.out.after Hb0.out)
 have HCc := Lib.hid (HCc.out.after Hb0.out)
 have HC : Hid (Below W.heap.size W W) := Lib.hid (Below.refl _ _)
 have HT := HT0
 refine (qfixed_c _).mono ?_
 rintro e w1 ⟨rfl, hb⟩
 replace HT := Lib.hid (HT.out.below hb)
 replace HC := Lib.hid (below_via HC.out hb)
 clear hb
 obtain ⟨q0, q1, q2, q3, q4, q5, q6, q7, q8⟩ := HT.out.view.all
 try simp only at q0 q1 q2 q3 q4 q5 q6 q7 q8
 obtain ⟨t0, t1, t2⟩ := HT.out.t
 have lq : w.heap.size < w1.heap.size := by have := HT.out.lt; omega
 have lt : w.heap.size + 1 < w1.heap.size := HT.out.lt
 go_wp2_with fail
 refine (rlow_c TA na ca ta _ (HA.out.after HC.out)).mono ?_
 rintro e w2 ⟨rfl, hb⟩
 clear q0 q1 q2 q3 q4 q5 q6 q7 q8 t0 t1 t2 lq lt
 replace HT := Lib.hid (HT.out.below hb)
 replace HC := Lib.hid (below_via HC.out hb)
 clear hb
 cases hsA : lowQ (pl ta)
 case false =>
  clear hsA
  obtain ⟨q0, q1, q2, q3, q4, q5, q6, q7, q8⟩ := HT.out.view.all
  try simp only at q0 q1 q2 q3 q4 q5 q6 q7 q8
  obtain ⟨t0, t1, t2⟩ := HT.out.t
  have lq : w.heap.size < w2.heap.size := by have := HT.out.lt; omega
  have lt : w.heap.size + 1 < w2.heap.size := HT.out.lt
  go_wp2_with fail
  refine (qfixed_c _).mono ?_
  rintro e w3 ⟨rfl, hb⟩
  have HF := Lib.hid (Hb0.out.trans ((below_via HC.out hb).mono Hb0.out.size))
  clear hb
  clear q0 q1 q2 q3 q4 q5 q6 q7 q8 t0 t1 t2 lq lt
  go_wp2
  go_ret
  exact ⟨rfl, HF.out⟩
 case true =>
  have HhsA := Lib.hid hsA
  clear hsA
  obtain ⟨q0, q1, q2, q3, q4, q5, q6, q7, q8⟩ := HT.out.view.all
  try simp only at q0 q1 q2 q3 q4 q5 q6 q7 q8
  obtain ⟨t0, t1, t2⟩ := HT.out.t
  have lq : w.heap.size < w2.heap.size := by have := HT.out.lt; omega
  have lt : w.heap.size + 1 < w2.heap.size := HT.out.lt
  go_wp2_with fail
  refine (rlow_c TB nb cb tb _ (HB.out.after HC.out)).mono ?_
  rintro e w4 ⟨rfl, hb⟩
  clear q0 q1 q2 q3 q4 q5 q6 q7 q8 t0 t1 t2 lq lt
  replace HT := Lib.hid (HT.out.below hb)
  replace HC := Lib.hid (below_via HC.out hb)
  clear hb
  cases hsB : lowQ (pl tb)
  case false =>
   clear hsB
   obtain ⟨q0, q1, q2, q3, q4, q5, q6, q7, q8⟩ := HT.out.view.all
   try simp only at q0 q1 q2 q3 q4 q5 q6 q7 q8
   obtain ⟨t0, t1, t2⟩ := HT.out.t
   have lq : w.heap.size < w4.heap.size := by have := HT.out.lt; omega
   have lt : w.heap.size + 1 < w4.heap.size := HT.out.lt
   go_wp2_with fail
   refine (qfixed_c _).mono ?_
   rintro e w5 ⟨rfl, hb⟩
   have HF := Lib.hid (Hb0.out.trans ((below_via HC.out hb).mono Hb0.out.size))
   clear hb
   clear q0 q1 q2 q3 q4 q5 q6 q7 q8 t0 t1 t2 lq lt
   go_wp2
   go_ret
   exact ⟨rfl, HF.out⟩
  case true =>
   have HhsB := Lib.hid hsB
   clear hsB
   obtain ⟨q0, q1, q2, q3, q4, q5, q6, q7, q8⟩ := HT.out.view.all
   try simp only at q0 q1 q2 q3 q4 q5 q6 q7 q8
   obtain ⟨t0, t1, t2⟩ := HT.out.t
   have lq : w.heap.size < w4.heap.size := by have := HT.out.lt; omega
   have lt : w.heap.size + 1 < w4.heap.size := HT.out.lt
   go_wp2_with fail
   refine (rlow_c TC nc cc tc _ (HCc.out.after HC.out)).mono ?_
   rintro e w6 ⟨rfl, hb⟩
   clear q0 q1 q2 q3 q4 q5 q6 q7 q8 t0 t1 t2 lq lt
   replace HT := Lib.hid (HT.out.below hb)
   replace HC := Lib.hid (below_via HC.out hb)
   clear hb
   cases hsC : lowQ (pl tc)
   case false =>
    clear hsC
    obtain ⟨q0, q1, q2, q3, q4, q5, q6, q7, q8⟩ := HT.out.view.all
    try simp only at q0 q1 q2 q3 q4 q5 q6 q7 q8
    obtain ⟨t0, t1, t2⟩ := HT.out.t
    have lq : w.heap.size < w6.heap.size := by have := HT.out.lt; omega
    have lt : w.heap.size + 1 < w6.heap.size := HT.out.lt
    go_wp2_with fail
    refine (qfixed_c _).mono ?_
    rintro e w7 ⟨rfl, hb⟩
    have HF := Lib.hid (Hb0.out.trans ((below_via HC.out hb).mono Hb0.out.size))
    clear hb
    clear q0 q1 q2 q3 q4 q5 q6 q7 q8 t0 t1 t2 lq lt
    go_wp2
    go_ret
    exact ⟨rfl, HF.out⟩
   case true =>
    have HhsC := Lib.hid hsC
    clear hsC
    obtain ⟨q0, q1, q2, q3, q4, q5, q6, q7, q8⟩ := HT.out.view.all
    try simp only at q0 q1 q2 q3 q4 q5 q6 q7 q8
    obtain ⟨t0, t1, t2⟩ := HT.out.t
    have lq : w.heap.size < w6.heap.size := by have := HT.out.lt; omega
    have lt : w.heap.size + 1 < w6.heap.size := HT.out.lt
    go_wp2_with fail
    refine (rmayBag_c TA na ca ta _ (HA.out.after HC.out)).mono ?_
    rintro e w8 ⟨rfl, hb⟩
    clear q0 q1 q2 q3 q4 q5 q6 q7 q8 t0 t1 t2 lq lt
    replace HT := Lib.hid (HT.out.below hb)
    replace HC := Lib.hid (below_via HC.out hb)
    clear hb
    cases hmA : mayBag (pl ta)
    case false =>
     clear hmA
     obtain ⟨q0, q1, q2, q3, q4, q5, q6, q7, q8⟩ := HT.out.view.all
     try simp only at q0 q1 q2 q3 q4 q5 q6 q7 q8
     obtain ⟨t0, t1, t2⟩ := HT.out.t
     have lq : w.heap.size < w8.heap.size := by have := HT.out.lt; omega
     have lt : w.heap.size + 1 < w8.heap.size := HT.out.lt
     go_wp2_with fail
     refine (qfixed_c _).mono ?_
     rintro e w9 ⟨rfl, hb⟩
     have HF := Lib.hid (Hb0.out.trans ((below_via HC.out hb).mono Hb0.out.size))
     clear hb
     clear q0 q1 q2 q3 q4 q5 q6 q7 q8 t0 t1 t2 lq lt
     go_wp2
     go_ret
     exact ⟨rfl, HF.out⟩
    case true =>
     have HhmA := Lib.hid hmA
     clear hmA
     obtain ⟨q0, q1, q2, q3, q4, q5, q6, q7, q8⟩ := HT.out.view.all
     try simp only at q0 q1 q2 q3 q4 q5 q6 q7 q8
     obtain ⟨t0, t1, t2⟩ := HT.out.t
     have lq : w.heap.size < w8.heap.size := by have := HT.out.lt; omega
     have lt : w.heap.size + 1 < w8.heap.size := HT.out.lt
     go_wp2_with fail
     refine (rmayBag_c TB nb cb tb _ (HB.out.after HC.out)).mono ?_
     rintro e w10 ⟨rfl, hb⟩
     clear q0 q1 q2 q3 q4 q5 q6 q7 q8 t0 t1 t2 lq lt
     replace HT := Lib.hid (HT.out.below hb)
     replace HC := Lib.hid (below_via HC.out hb)
     clear hb
     cases hmB : mayBag (pl tb)
     case false =>
      clear hmB
      obtain ⟨q0, q1, q2, q3, q4, q5, q6, q7, q8⟩ := HT.out.view.all
      try simp only at q0 q1 q2 q3 q4 q5 q6 q7 q8
      obtain ⟨t0, t1, t2⟩ := HT.out.t
      have lq : w.heap.size < w10.heap.size := by have := HT.out.lt; omega
      have lt : w.heap.size + 1 < w10.heap.size := HT.out.lt
      go_wp2_with fail
      refine (qfixed_c _).mono ?_
      rintro e w11 ⟨rfl, hb⟩
      have HF := Lib.hid (Hb0.out.trans ((below_via HC.out hb).mono Hb0.out.size))
      clear hb
      clear q0 q1 q2 q3 q4 q5 q6 q7 q8 t0 t1 t2 lq lt
      go_wp2
      go_ret
      exact ⟨rfl, HF.out⟩
     case true =>
      have HhmB := Lib.hid hmB
      clear hmB
      obtain ⟨q0, q1, q2, q3, q4, q5, q6, q7, q8⟩ := HT.out.view.all
      try simp only at q0 q1 q2 q3 q4 q5 q6 q7 q8
      obtain ⟨t0, t1, t2⟩ := HT.out.t
      have lq : w.heap.size < w10.heap.size := by have := HT.out.lt; omega
      have lt : w.heap.size + 1 < w10.heap.size := HT.out.lt
      go_wp2_with fail
      refine (rmayBag_c TC nc cc tc _ (HCc.out.after HC.out)).mono ?_
      rintro e w12 ⟨rfl, hb⟩
      clear q0 q1 q2 q3 q4 q5 q6 q7 q8 t0 t1 t2 lq lt
      replace HT := Lib.hid (HT.out.below hb)
      replace HC := Lib.hid (below_via HC.out hb)
      clear hb
      cases hmC : mayBag (pl tc)
      case false =>
       clear hmC
       obtain ⟨q0, q1, q2, q3, q4, q5, q6, q7, q8⟩ := HT.out.view.all
       try simp only at q0 q1 q2 q3 q4 q5 q6 q7 q8
       obtain ⟨t0, t1, t2⟩ := HT.out.t
       have lq : w.heap.size < w12.heap.size := by have := HT.out.lt; omega
       have lt : w.heap.size + 1 < w12.heap.size := HT.out.lt
       go_wp2_with fail
       refine (qfixed_c _).mono ?_
       rintro e w13 ⟨rfl, hb⟩
       have HF := Lib.hid (Hb0.out.trans ((below_via HC.out hb).mono Hb0.out.size))
       clear hb
       clear q0 q1 q2 q3 q4 q5 q6 q7 q8 t0 t1 t2 lq lt
       go_wp2
       go_ret
       exact ⟨rfl, HF.out⟩
      case true =>
       have HhmC := Lib.hid hmC
       clear hmC
       obtain ⟨q0, q1, q2, q3, q4, q5, q6, q7, q8⟩ := HT.out.view.all
       try simp only at q0 q1 q2 q3 q4 q5 q6 q7 q8
       obtain ⟨t0, t1, t2⟩ := HT.out.t
       have lq : w.heap.size < w12.heap.size := by have := HT.out.lt; omega
       have lt : w.heap.size + 1 < w12.heap.size := HT.out.lt
       by_cases h120 : (120 : Int) < en
       case pos =>
        clear q0 q1 q2 q3 q4 q5 q6 q7 q8 t0 t1 t2 lq lt
        obtain ⟨q0, q1, q2, q3, q4, q5, q6, q7, q8⟩ := HT.out.view.all
        try simp only at q0 q1 q2 q3 q4 q5 q6 q7 q8
        obtain ⟨t0, t1, t2⟩ := HT.out.t
        have lq : w.heap.size < w12.heap.size := by have := HT.out.lt; omega
        have lt : w.heap.size + 1 < w12.heap.size := HT.out.lt
        go_wp2_with fail
        refine (qfixed_c _).mono ?_
        rintro e w14 ⟨rfl, hb⟩
        have HF := Lib.hid (Hb0.out.trans ((below_via HC.out hb).mono Hb0.out.size))
        clear hb
        clear q0 q1 q2 q3 q4 q5 q6 q7 q8 t0 t1 t2 lq lt
        go_wp2
        go_ret
        exact ⟨rfl, HF.out⟩
       case neg =>
        by_cases h60 : (60 : Int) < pn
        case pos =>
         clear q0 q1 q2 q3 q4 q5 q6 q7 q8 t0 t1 t2 lq lt
         obtain ⟨q0, q1, q2, q3, q4, q5, q6, q7, q8⟩ := HT.out.view.all
         try simp only at q0 q1 q2 q3 q4 q5 q6 q7 q8
         obtain ⟨t0, t1, t2⟩ := HT.out.t
         have lq : w.heap.size < w12.heap.size := by have := HT.out.lt; omega
         have lt : w.heap.size + 1 < w12.heap.size := HT.out.lt
         go_wp2_with fail
         refine (qfixed_c _).mono ?_
         rintro e w15 ⟨rfl, hb⟩
         have HF := Lib.hid (Hb0.out.trans ((below_via HC.out hb).mono Hb0.out.size))
         clear hb
         clear q0 q1 q2 q3 q4 q5 q6 q7 q8 t0 t1 t2 lq lt
         go_wp2
         go_ret
         exact ⟨rfl, HF.out⟩
        case neg =>
         have hna : na ≤ 60 := by have := (lowG_bd HhsA.out).2; rw [pl_len, HA.out.len] at this; exact this
         have hnb : nb ≤ 60 := by have := (lowG_bd HhsB.out).2; rw [pl_len, HB.out.len] at this; exact this
         have hnc : nc ≤ 60 := by have := (lowG_bd HhsC.out).2; rw [pl_len, HCc.out.len] at this; exact this
         have HdA := Lib.hid (lowG_bd HhsA.out).1
         have HdB := Lib.hid (lowG_bd HhsB.out).1
         have HdC := Lib.hid (lowG_bd HhsC.out).1
         have Hmb := Lib.hid (both_may HhmA.out HhmB.out HdA.out HdB.out)
         go_wp2_with fail
         refine (rboth_c TA TB na nb ca cb ta tb 1000 _ (HA.out.after HC.out) (HB.out.after HC.out) (may_asc HhmA.out) (by omega) (by decide) HdA.out (bd_up HdB.out (by decide)) (by omega)).mono ?_
         rintro e W0 ⟨A0, n0, c0, bs, rfl, hb, hB0, hp0, -, hn0⟩
         clear q0 q1 q2 q3 q4 q5 q6 q7 q8 t0 t1 t2 lq lt
         have hn0x : n0 ≤ 120 := by omega
         have Hp0 := Lib.hid hp0
         have B0 := Lib.hid hB0
         replace HT := Lib.hid (HT.out.below hb)
         replace HC := Lib.hid (below_via HC.out hb)
         clear hb hB0 hp0 hn0 h120 h60
         obtain ⟨q0, q1, q2, q3, q4, q5, q6, q7, q8⟩ := HT.out.view.all
         try simp only at q0 q1 q2 q3 q4 q5 q6 q7 q8
         obtain ⟨t0, t1, t2⟩ := HT.out.t
         have lq : w.heap.size < W0.heap.size := by have := HT.out.lt; omega
         have lt : w.heap.size + 1 < W0.heap.size := HT.out.lt
         go_wp2_with fail
         refine (product_c (⟨nm, fr, wt, o0, o1, eA, en, ec, ee, pA, pn, pc, ps, gr, aA, an, ac⟩ : Vq) A0 TC n0 nc c0 cc bs tc _ (B0.out) (HCc.out.after HC.out) (by omega) (by omega)).mono ?_
         rintro e W1 ⟨A1, n1, c1, p1, e1, rfl, hE⟩
         clear q0 q1 q2 q3 q4 q5 q6 q7 q8 t0 t1 t2 lq lt
         have P1 := Lib.hid hE.ok
         rw [Hp0.out] at P1
         replace B0 := Lib.hid (B0.out.after hE.below)
         replace HT := Lib.hid (HT.out.below hE.below)
         replace HC := Lib.hid (below_via HC.out hE.below)
         have B1 := Lib.hid hE.bag
         clear hE
         obtain ⟨q0, q1, q2, q3, q4, q5, q6, q7, q8⟩ := HT.out.view.all
         try simp only at q0 q1 q2 q3 q4 q5 q6 q7 q8
         obtain ⟨t0, t1, t2⟩ := HT.out.t
         have lq : w.heap.size < W1.heap.size := by have := HT.out.lt; omega
         have lt : w.heap.size + 1 < W1.heap.size := HT.out.lt
         go_wp2_with fail
         refine (product_c (⟨nm, fr, wt, o0, o1, eA, en, ec, ee, pA, pn, pc, ps, gr, aA, an, ac⟩ : Vq) TA TC na nc ca cc ta tc _ (HA.out.after HC.out) (HCc.out.after HC.out) (by omega) (by omega)).mono ?_
         rintro e W2 ⟨A2, n2, c2, p2, e2, rfl, hE⟩
         clear q0 q1 q2 q3 q4 q5 q6 q7 q8 t0 t1 t2 lq lt
         have P2 := Lib.hid hE.ok
         replace B0 := Lib.hid (B0.out.after hE.below)
         replace B1 := Lib.hid (B1.out.after hE.below)
         replace HT := Lib.hid (HT.out.below hE.below)
         replace HC := Lib.hid (below_via HC.out hE.below)
         have B2 := Lib.hid hE.bag
         clear hE
         obtain ⟨q0, q1, q2, q3, q4, q5, q6, q7, q8⟩ := HT.out.view.all
         try simp only at q0 q1 q2 q3 q4 q5 q6 q7 q8
         obtain ⟨t0, t1, t2⟩ := HT.out.t
         have lq : w.heap.size < W2.heap.size := by have := HT.out.lt; omega
         have lt : w.heap.size + 1 < W2.heap.size := HT.out.lt
         go_wp2_with fail
         refine (product_c (⟨nm, fr, wt, o0, o1, eA, en, ec, ee, pA, pn, pc, ps, gr, aA, an, ac⟩ : Vq) TB TC nb nc cb cc tb tc _ (HB.out.after HC.out) (HCc.out.after HC.out) (by omega) (by omega)).mono ?_
         rintro e W3 ⟨A3, n3, c3, p3, e3, rfl, hE⟩
         clear q0 q1 q2 q3 q4 q5 q6 q7 q8 t0 t1 t2 lq lt
         have P3 := Lib.hid hE.ok
         replace B0 := Lib.hid (B0.out.after hE.below)
         replace B1 := Lib.hid (B1.out.after hE.below)
         replace B2 := Lib.hid (B2.out.after hE.below)
         replace HT := Lib.hid (HT.out.below hE.below)
         replace HC := Lib.hid (below_via HC.out hE.below)
         have B3 := Lib.hid hE.bag
         clear hE
         obtain ⟨q0, q1, q2, q3, q4, q5, q6, q7, q8⟩ := HT.out.view.all
         try simp only at q0 q1 q2 q3 q4 q5 q6 q7 q8
         obtain ⟨t0, t1, t2⟩ := HT.out.t
         have lq : w.heap.size < W3.heap.size := by have := HT.out.lt; omega
         have lt : w.heap.size + 1 < W3.heap.size := HT.out.lt
         go_upto_region 7 with fail
         go_cut [123] (fun s wx => s = .bool false ∧ Hid (Below W3.heap.size W3 wx))
         case first =>
          as_aux_lemma =>
           cases h0 : (e1 == 0)
           case false =>
            go_wp2
            go_meet
            exact ⟨rfl, Lib.hid (Below.refl _ _)⟩
           case true =>
            cases h1 : (e2 == 0)
            case false =>
             go_wp2
             go_meet
             exact ⟨rfl, Lib.hid (Below.refl _ _)⟩
            case true =>
             cases h2 : (e3 == 0)
             case false =>
              go_wp2
              go_meet
              exact ⟨rfl, Lib.hid (Below.refl _ _)⟩
             case true =>
              have g1 := P1.out (by simpa using h0)
              have g2 := P2.out (by simpa using h1)
              have g3 := P3.out (by simpa using h2)
              have Heq := Lib.hid (product_left HhmA.out HhmB.out Hmb.out HhmC.out g1 g2 g3)
              have Has := Lib.hid (may_asc (product_may g2))
              have Hbd1 := Lib.hid (bd_may (product_may g2))
              have Hbd2 := Lib.hid (bd_may (product_may g3))
              have l2 := product_len g2
              have l3 := product_len g3
              simp only [pl_len, B2.out.len, B3.out.len, HA.out.len, HB.out.len, HCc.out.len] at l2 l3
              have m1 : na * nc ≤ 60 * 60 := Nat.mul_le_mul hna hnc
              have m2 : nb * nc ≤ 60 * 60 := Nat.mul_le_mul hnb hnc
              have m3 : nc * na ≤ 60 * 60 := Nat.mul_le_mul hnc hna
              have m4 : nc * nb ≤ 60 * 60 := Nat.mul_le_mul hnc hnb
              have hl : n2 + n3 ≤ 7500 := by omega
              have hl2 : n3 ≤ 7500 := by omega
              clear g1 g2 g3 l2 l3 m1 m2 m3 m4
              go_wp2_with fail
              refine (rboth_c A2 A3 n2 n3 c2 c3 p2 p3 1000000000 _ B2.out B3.out Has.out (by omega) (by decide) Hbd1.out Hbd2.out (by omega)).mono ?_
              rintro e wa ⟨Ax, nx, cx, px, rfl, hb, hBx, hpx, -, -⟩
              have hs := sameB_c A1 Ax n1 nx c1 cx p1 px wa (B1.out.after hb) hBx
              rw [hpx, ← Heq.out, sameB_self] at hs
              have Hs := Lib.hid hs
              have Hba := Lib.hid hb
              clear hs hb hBx hpx
              go_wp2_with fail
              refine Hs.out.mono ?_
              rintro e wb ⟨rfl, hb⟩
              have Hbb := Lib.hid (below_via Hba.out hb)
              clear hb Hs
              go_wp2
              go_meet
              exact ⟨rfl, Hbb⟩
         case rest =>
          as_aux_lemma =>
           obtain ⟨rfl, hbc⟩ := hcut
           clear q0 q1 q2 q3 q4 q5 q6 q7 q8 t0 t1 t2 lq lt
           replace B0 := Lib.hid (B0.out.after hbc.out)
           replace HT := Lib.hid (HT.out.below hbc.out)
           replace HC := Lib.hid (below_via HC.out hbc.out)
           clear hbc B1 B2 B3
           obtain ⟨W91, hWc⟩ : ∃ W91 : World, wc = W91 := ⟨_, rfl⟩
           subst hWc
           obtain ⟨q0, q1, q2, q3, q4, q5, q6, q7, q8⟩ := HT.out.view.all
           try simp only at q0 q1 q2 q3 q4 q5 q6 q7 q8
           obtain ⟨t0, t1, t2⟩ := HT.out.t
           have lq : w.heap.size < wc.heap.size := by have := HT.out.lt; omega
           have lt : w.heap.size + 1 < wc.heap.size := HT.out.lt
           go_wp2_with fail
           refine (product_c (⟨nm, fr, wt, o0, o1, eA, en, ec, ee, pA, pn, pc, ps, gr, aA, an, ac⟩ : Vq) TC A0 nc n0 cc c0 tc bs _ (HCc.out.after HC.out) (B0.out) (by omega) (by omega)).mono ?_
           rintro e W4 ⟨A4, n4, c4, p4, e4, rfl, hE⟩
           clear q0 q1 q2 q3 q4 q5 q6 q7 q8 t0 t1 t2 lq lt
           have P4 := Lib.hid hE.ok
           rw [Hp0.out] at P4
           replace B0 := Lib.hid (B0.out.after hE.below)
           replace HT := Lib.hid (HT.out.below hE.below)
           replace HC := Lib.hid (below_via HC.out hE.below)
           have B4 := Lib.hid hE.bag
           clear hE
           obtain ⟨q0, q1, q2, q3, q4, q5, q6, q7, q8⟩ := HT.out.view.all
           try simp only at q0 q1 q2 q3 q4 q5 q6 q7 q8
           obtain ⟨t0, t1, t2⟩ := HT.out.t
           have lq : w.heap.size < W4.heap.size := by have := HT.out.lt; omega
           have lt : w.heap.size + 1 < W4.heap.size := HT.out.lt
           go_wp2_with fail
           refine (product_c (⟨nm, fr, wt, o0, o1, eA, en, ec, ee, pA, pn, pc, ps, gr, aA, an, ac⟩ : Vq) TC TA nc na cc ca tc ta _ (HCc.out.after HC.out) (HA.out.after HC.out) (by omega) (by omega)).mono ?_
           rintro e W5 ⟨A5, n5, c5, p5, e5, rfl, hE⟩
           clear q0 q1 q2 q3 q4 q5 q6 q7 q8 t0 t1 t2 lq lt
           have P5 := Lib.hid hE.ok
           replace B0 := Lib.hid (B0.out.after hE.below)
           replace B4 := Lib.hid (B4.out.after hE.below)
           replace HT := Lib.hid (HT.out.below hE.below)
           replace HC := Lib.hid (below_via HC.out hE.below)
           have B5 := Lib.hid hE.bag
           clear hE
           obtain ⟨q0, q1, q2, q3, q4, q5, q6, q7, q8⟩ := HT.out.view.all
           try simp only at q0 q1 q2 q3 q4 q5 q6 q7 q8
           obtain ⟨t0, t1, t2⟩ := HT.out.t
           have lq : w.heap.size < W5.heap.size := by have := HT.out.lt; omega
           have lt : w.heap.size + 1 < W5.heap.size := HT.out.lt
           go_wp2_with fail
           refine (product_c (⟨nm, fr, wt, o0, o1, eA, en, ec, ee, pA, pn, pc, ps, gr, aA, an, ac⟩ : Vq) TC TB nc nb cc cb tc tb _ (HCc.out.after HC.out) (HB.out.after HC.out) (by omega) (by omega)).mono ?_
           rintro e W6 ⟨A6, n6, c6, p6, e6, rfl, hE⟩
           clear q0 q1 q2 q3 q4 q5 q6 q7 q8 t0 t1 t2 lq lt
           have P6 := Lib.hid hE.ok
           replace B0 := Lib.hid (B0.out.after hE.below)
           replace B4 := Lib.hid (B4.out.after hE.below)
           replace B5 := Lib.hid (B5.out.after hE.below)
           replace HT := Lib.hid (HT.out.below hE.below)
           replace HC := Lib.hid (below_via HC.out hE.below)
           have B6 := Lib.hid hE.bag
           clear hE
           obtain ⟨q0, q1, q2, q3, q4, q5, q6, q7, q8⟩ := HT.out.view.all
           try simp only at q0 q1 q2 q3 q4 q5 q6 q7 q8
           obtain ⟨t0, t1, t2⟩ := HT.out.t
           have lq : w.heap.size < W6.heap.size := by have := HT.out.lt; omega
           have lt : w.heap.size + 1 < W6.heap.size := HT.out.lt
           go_upto_region 12 with fail
           go_cut [172] (fun s wx => s = .bool false ∧ Hid (Below W6.heap.size W6 wx))
           case first =>
            as_aux_lemma =>
             cases he : wt.toList.isEmpty
             case true =>
              go_wp2
              go_meet
              exact ⟨rfl, Lib.hid (Below.refl _ _)⟩
             case false =>
              cases h0 : (e4 == 0)
              case false =>
               go_wp2
               go_meet
               exact ⟨rfl, Lib.hid (Below.refl _ _)⟩
              case true =>
               cases h1 : (e5 == 0)
               case false =>
                go_wp2
                go_meet
                exact ⟨rfl, Lib.hid (Below.refl _ _)⟩
               case true =>
                cases h2 : (e6 == 0)
                case false =>
                 go_wp2
                 go_meet
                 exact ⟨rfl, Lib.hid (Below.refl _ _)⟩
                case true =>
                 have g1 := P4.out (by simpa using h0)
                 have g2 := P5.out (by simpa using h1)
                 have g3 := P6.out (by simpa using h2)
                 rw [he] at g1 g2 g3
                 have Heq := Lib.hid (product_right HhmA.out HhmB.out Hmb.out HhmC.out g1 g2 g3)
                 have Has := Lib.hid (may_asc (product_may g2))
                 have Hbd1 := Lib.hid (bd_may (product_may g2))
                 have Hbd2 := Lib.hid (bd_may (product_may g3))
                 have l2 := product_len g2
                 have l3 := product_len g3
                 simp only [pl_len, B5.out.len, B6.out.len, HA.out.len, HB.out.len, HCc.out.len] at l2 l3
                 have m1 : na * nc ≤ 60 * 60 := Nat.mul_le_mul hna hnc
                 have m2 : nb * nc ≤ 60 * 60 := Nat.mul_le_mul hnb hnc
                 have m3 : nc * na ≤ 60 * 60 := Nat.mul_le_mul hnc hna
                 have m4 : nc * nb ≤ 60 * 60 := Nat.mul_le_mul hnc hnb
                 have hl : n5 + n6 ≤ 7500 := by omega
                 have hl2 : n6 ≤ 7500 := by omega
                 clear g1 g2 g3 l2 l3 m1 m2 m3 m4
                 go_wp2_with fail
                 refine (rboth_c A5 A6 n5 n6 c5 c6 p5 p6 1000000000 _ B5.out B6.out Has.out (by omega) (by decide) Hbd1.out Hbd2.out (by omega)).mono ?_
                 rintro e wa ⟨Ax, nx, cx, px, rfl, hb, hBx, hpx, -, -⟩
                 have hs := sameB_c A4 Ax n4 nx c4 cx p4 px wa (B4.out.after hb) hBx
                 rw [hpx, ← Heq.out, sameB_self] at hs
                 have Hs := Lib.hid hs
                 have Hba := Lib.hid hb
                 clear hs hb hBx hpx
                 go_wp2_with fail
                 refine Hs.out.mono ?_
                 rintro e wb ⟨rfl, hb⟩
                 have Hbb := Lib.hid (below_via Hba.out hb)
                 clear hb Hs
                 go_wp2
                 go_meet
                 exact ⟨rfl, Hbb⟩
           case rest =>
            as_aux_lemma =>
             obtain ⟨rfl, hbc⟩ := hcut
             clear q0 q1 q2 q3 q4 q5 q6 q7 q8 t0 t1 t2 lq lt
             replace B0 := Lib.hid (B0.out.after hbc.out)
             replace HT := Lib.hid (HT.out.below hbc.out)
             replace HC := Lib.hid (below_via HC.out hbc.out)
             clear hbc B4 B5 B6
             obtain ⟨W94, hWc⟩ : ∃ W94 : World, wc = W94 := ⟨_, rfl⟩
             subst hWc
             obtain ⟨q0, q1, q2, q3, q4, q5, q6, q7, q8⟩ := HT.out.view.all
             try simp only at q0 q1 q2 q3 q4 q5 q6 q7 q8
             obtain ⟨t0, t1, t2⟩ := HT.out.t
             have lq : w.heap.size < wc.heap.size := by have := HT.out.lt; omega
             have lt : w.heap.size + 1 < wc.heap.size := HT.out.lt
             go_wp2_with fail
             refine (where_c (⟨nm, fr, wt, o0, o1, eA, en, ec, ee, pA, pn, pc, ps, gr, aA, an, ac⟩ : Vq) A0 n0 c0 bs _ (HX.out.after HC.out) (B0.out) (by omega)).mono ?_
             rintro e W7 ⟨A7, n7, c7, p7, e7, rfl, hE⟩
             clear q0 q1 q2 q3 q4 q5 q6 q7 q8 t0 t1 t2 lq lt
             have her := hE.er
             have hpo := hE.said
             rw [Hp0.out] at her hpo
             rw [Hmb.out, if_pos rfl] at her hpo
             try simp only at her hpo
             have E7 := Lib.hid her
             have P7 := Lib.hid hpo
             replace B0 := Lib.hid (B0.out.after hE.below)
             replace HT := Lib.hid (HT.out.below hE.below)
             replace HC := Lib.hid (below_via HC.out hE.below)
             have B7 := Lib.hid hE.bag
             clear hE her hpo
             obtain ⟨q0, q1, q2, q3, q4, q5, q6, q7, q8⟩ := HT.out.view.all
             try simp only at q0 q1 q2 q3 q4 q5 q6 q7 q8
             obtain ⟨t0, t1, t2⟩ := HT.out.t
             have lq : w.heap.size < W7.heap.size := by have := HT.out.lt; omega
             have lt : w.heap.size + 1 < W7.heap.size := HT.out.lt
             go_wp2_with fail
             refine (where_c (⟨nm, fr, wt, o0, o1, eA, en, ec, ee, pA, pn, pc, ps, gr, aA, an, ac⟩ : Vq) TA na ca ta _ (HX.out.after HC.out) (HA.out.after HC.out) (by omega)).mono ?_
             rintro e W8 ⟨A8, n8, c8, p8, e8, rfl, hE⟩
             clear q0 q1 q2 q3 q4 q5 q6 q7 q8 t0 t1 t2 lq lt
             have her := hE.er
             have hpo := hE.said
             rw [HhmA.out, if_pos rfl] at her hpo
             try simp only at her hpo
             have E8 := Lib.hid her
             have P8 := Lib.hid hpo
             replace B0 := Lib.hid (B0.out.after hE.below)
             replace B7 := Lib.hid (B7.out.after hE.below)
             replace HT := Lib.hid (HT.out.below hE.below)
             replace HC := Lib.hid (below_via HC.out hE.below)
             have B8 := Lib.hid hE.bag
             clear hE her hpo
             obtain ⟨q0, q1, q2, q3, q4, q5, q6, q7, q8⟩ := HT.out.view.all
             try simp only at q0 q1 q2 q3 q4 q5 q6 q7 q8
             obtain ⟨t0, t1, t2⟩ := HT.out.t
             have lq : w.heap.size < W8.heap.size := by have := HT.out.lt; omega
             have lt : w.heap.size + 1 < W8.heap.size := HT.out.lt
             go_wp2_with fail
             refine (where_c (⟨nm, fr, wt, o0, o1, eA, en, ec, ee, pA, pn, pc, ps, gr, aA, an, ac⟩ : Vq) TB nb cb tb _ (HX.out.after HC.out) (HB.out.after HC.out) (by omega)).mono ?_
             rintro e W9 ⟨A9, n9, c9, p9, e9, rfl, hE⟩
             clear q0 q1 q2 q3 q4 q5 q6 q7 q8 t0 t1 t2 lq lt
             have her := hE.er
             have hpo := hE.said
             rw [HhmB.out, if_pos rfl] at her hpo
             try simp only at her hpo
             have E9 := Lib.hid her
             have P9 := Lib.hid hpo
             replace B0 := Lib.hid (B0.out.after hE.below)
             replace B7 := Lib.hid (B7.out.after hE.below)
             replace B8 := Lib.hid (B8.out.after hE.below)
             replace HT := Lib.hid (HT.out.below hE.below)
             replace HC := Lib.hid (below_via HC.out hE.below)
             have B9 := Lib.hid hE.bag
             clear hE her hpo
             obtain ⟨q0, q1, q2, q3, q4, q5, q6, q7, q8⟩ := HT.out.view.all
             try simp only at q0 q1 q2 q3 q4 q5 q6 q7 q8
             obtain ⟨t0, t1, t2⟩ := HT.out.t
             have lq : w.heap.size < W9.heap.size := by have := HT.out.lt; omega
             have lt : w.heap.size + 1 < W9.heap.size := HT.out.lt
             go_upto_region 17 with fail
             go_cut [210] (fun s wx => s = .bool false ∧ Hid (Below W9.heap.size W9 wx))
             case first =>
              as_aux_lemma =>
               cases h0 : (e7 == 0)
               case false =>
                go_wp2
                go_meet
                exact ⟨rfl, Lib.hid (Below.refl _ _)⟩
               case true =>
                cases h1 : (e8 == 0)
                case false =>
                 go_wp2
                 go_meet
                 exact ⟨rfl, Lib.hid (Below.refl _ _)⟩
                case true =>
                 cases h2 : (e9 == 0)
                 case false =>
                  go_wp2
                  go_meet
                  exact ⟨rfl, Lib.hid (Below.refl _ _)⟩
                 case true =>
                  have g1 : e7 = 0 := by simpa using h0
                  have g2 : e8 = 0 := by simpa using h1
                  have g3 : e9 = 0 := by simpa using h2
                  have Heq : Hid (pl p7 = bothB (pl p8) (pl p9)) := Lib.hid (by
                   rw [P7.out, P8.out, P9.out]
                   exact where_both _ (may_asc HhmA.out) (may_asc HhmB.out) (may_nz HhmA.out) (E7.out.symm.trans g1) (E8.out.symm.trans g2) (E9.out.symm.trans g3))
                  have Hm8 : Hid (mayBag (pl p8) = true) := Lib.hid (by rw [P8.out]; exact where_may HhmA.out)
                  have Hm9 : Hid (mayBag (pl p9) = true) := Lib.hid (by rw [P9.out]; exact where_may HhmB.out)
                  have Has := Lib.hid (may_asc Hm8.out)
                  have Hbd1 := Lib.hid (bd_may Hm8.out)
                  have Hbd2 := Lib.hid (bd_may Hm9.out)
                  have hl : n8 + n9 ≤ 120 := by
                   have k1 := where_len (trueR ee) (pl ta)
                   have k2 := where_len (trueR ee) (pl tb)
                   rw [← P8.out, pl_len, pl_len, B8.out.len, HA.out.len] at k1
                   rw [← P9.out, pl_len, pl_len, B9.out.len, HB.out.len] at k2
                   omega
                  have hl2 : n9 ≤ 120 := by omega
                  clear g1 g2 g3
                  go_wp2_with fail
                  refine (rboth_c A8 A9 n8 n9 c8 c9 p8 p9 1000000000 _ B8.out B9.out Has.out (by omega) (by decide) Hbd1.out Hbd2.out (by omega)).mono ?_
                  rintro e wa ⟨Ax, nx, cx, px, rfl, hb, hBx, hpx, -, -⟩
                  have hs := sameB_c A7 Ax n7 nx c7 cx p7 px wa (B7.out.after hb) hBx
                  rw [hpx, ← Heq.out, sameB_self] at hs
                  have Hs := Lib.hid hs
                  have Hba := Lib.hid hb
                  clear hs hb hBx hpx
                  go_wp2_with fail
                  refine Hs.out.mono ?_
                  rintro e wb ⟨rfl, hb⟩
                  have Hbb := Lib.hid (below_via Hba.out hb)
                  clear hb Hs
                  go_wp2
                  go_meet
                  exact ⟨rfl, Hbb⟩
             case rest =>
              as_aux_lemma =>
               obtain ⟨rfl, hbc⟩ := hcut
               clear q0 q1 q2 q3 q4 q5 q6 q7 q8 t0 t1 t2 lq lt
               replace B0 := Lib.hid (B0.out.after hbc.out)
               replace HT := Lib.hid (HT.out.below hbc.out)
               replace HC := Lib.hid (below_via HC.out hbc.out)
               clear hbc B7 B8 B9
               obtain ⟨W97, hWc⟩ : ∃ W97 : World, wc = W97 := ⟨_, rfl⟩
               subst hWc
               obtain ⟨q0, q1, q2, q3, q4, q5, q6, q7, q8⟩ := HT.out.view.all
               try simp only at q0 q1 q2 q3 q4 q5 q6 q7 q8
               obtain ⟨t0, t1, t2⟩ := HT.out.t
               have lq : w.heap.size < wc.heap.size := by have := HT.out.lt; omega
               have lt : w.heap.size + 1 < wc.heap.size := HT.out.lt
               go_upto_region 19 with fail
               obtain ⟨Wz, hWz⟩ : ∃ Wz : World, wc = Wz := ⟨_, rfl⟩
               have HXz := Lib.hid (HX.out.after HC.out)
               have HAz := Lib.hid (HA.out.after HC.out)
               have HBz := Lib.hid (HB.out.after HC.out)
               have B0z := B0
               have HCz := HC
               have HTz := HT
               rw [hWz] at HXz HAz HBz B0z HCz HTz q0 q1 q2 q3 q4 q5 q6 q7 q8 t0 t1 t2 lq lt ⊢
               clear HX HA HB B0 HC HT hWz t2
               have HC9 : Hid (Below Wz.heap.size Wz Wz) := Lib.hid (Below.refl _ _)
               have HS : Hid (∀ w' : World, Below Wz.heap.size Wz w' → w'.cell? ⟨w.heap.size, 0, none⟩ = some (.string nm) ∧ w'.cell? ⟨w.heap.size, 1, none⟩ = some (.string fr) ∧ w'.cell? ⟨w.heap.size, 2, none⟩ = some (.string wt) ∧ w'.cell? ⟨w.heap.size, 3, none⟩ = some (.int .i64 o0) ∧ w'.cell? ⟨w.heap.size, 4, none⟩ = some (.int .i64 o1) ∧ w'.cell? ⟨w.heap.size, 5, none⟩ = some (.slice eA en ec) ∧ w'.cell? ⟨w.heap.size, 6, none⟩ = some (.slice pA pn pc) ∧ w'.cell? ⟨w.heap.size, 7, none⟩ = some (.bool gr) ∧ w'.cell? ⟨w.heap.size, 8, none⟩ = some (.slice aA an ac) ∧ w'.cell? ⟨w.heap.size + 1, 0, none⟩ = some (.slice TA na ca) ∧ w'.cell? ⟨w.heap.size + 1, 1, none⟩ = some (.slice TB nb cb)) := Lib.hid fun w' h => ⟨(h.cell lq).trans q0, (h.cell lq).trans q1, (h.cell lq).trans q2, (h.cell lq).trans q3, (h.cell lq).trans q4, (h.cell lq).trans q5, (h.cell lq).trans q6, (h.cell lq).trans q7, (h.cell lq).trans q8, (h.cell lt).trans t0, (h.cell lt).trans t1⟩
               have hpa : (pl ta).length ≤ 60 := by rw [pl_len, HAz.out.len]; exact hna
               have hpb : (pl tb).length ≤ 60 := by rw [pl_len, HBz.out.len]; exact hnb
               have Hpk := Lib.hid (pickP_both ps HhmA.out HhmB.out HdA.out HdB.out hpa hpb)
               have Hla := Lib.hid (picks_len (ps := ps) hpa)
               have Hlb := Lib.hid (picks_len (ps := ps) hpb)
               clear hpa hpb
               go_region_held3 (fun w' => w'.cell? ⟨w.heap.size, 0, none⟩ = some (.string nm) ∧ w'.cell? ⟨w.heap.size, 1, none⟩ = some (.string fr) ∧ w'.cell? ⟨w.heap.size, 2, none⟩ = some (.string wt) ∧ w'.cell? ⟨w.heap.size, 3, none⟩ = some (.int .i64 o0) ∧ w'.cell? ⟨w.heap.size, 4, none⟩ = some (.int .i64 o1) ∧ w'.cell? ⟨w.heap.size, 5, none⟩ = some (.slice eA en ec) ∧ w'.cell? ⟨w.heap.size, 6, none⟩ = some (.slice pA pn pc) ∧ w'.cell? ⟨w.heap.size, 7, none⟩ = some (.bool gr) ∧ w'.cell? ⟨w.heap.size, 8, none⟩ = some (.slice aA an ac) ∧ w'.cell? ⟨w.heap.size + 1, 0, none⟩ = some (.slice TA na ca) ∧ w'.cell? ⟨w.heap.size + 1, 1, none⟩ = some (.slice TB nb cb)) (first | exact HS.out _ HC9.out | go_keep)
                (first
                  | (go_at_call 15
                     with_reducible refine (qpick_c (⟨nm, fr, wt, o0, o1, eA, en, ec, ee, pA, pn, pc, ps, gr, aA, an, ac⟩ : Vq) A0 n0 c0 bs _ (HXz.out.after (by first | exact HC9.out | exact below_via HC9.out (Below.refl _ _).drew)) (B0z.out.after (by first | exact HC9.out | exact below_via HC9.out (Below.refl _ _).drew)) (by omega)).mono ?_
                     rintro en wx ⟨Y1, y1, d1, r1, rfl, hbx, hBx, hpx⟩
                     replace HC9 : Hid (Below Wz.heap.size Wz wx) := Lib.hid (by first | exact below_via HC9.out hbx | exact below_via HC9.out (below_via (Below.refl _ _).drew hbx))
                     have BP1 := Lib.hid hBx
                     have HP1 := Lib.hid hpx
                     clear hbx hBx hpx)
                  | (go_at_call 15
                     with_reducible refine (qpick_c (⟨nm, fr, wt, o0, o1, eA, en, ec, ee, pA, pn, pc, ps, gr, aA, an, ac⟩ : Vq) TA na ca ta _ (HXz.out.after (by first | exact HC9.out | exact below_via HC9.out (Below.refl _ _).drew)) (HAz.out.after (by first | exact HC9.out | exact below_via HC9.out (Below.refl _ _).drew)) (by omega)).mono ?_
                     rintro en wx ⟨Y2, y2, d2, r2, rfl, hbx, hBx, hpx⟩
                     replace HC9 : Hid (Below Wz.heap.size Wz wx) := Lib.hid (by first | exact below_via HC9.out hbx | exact below_via HC9.out (below_via (Below.refl _ _).drew hbx))
                     replace BP1 := Lib.hid (BP1.out.after (by first | exact hbx | exact below_via (Below.refl _ _).drew hbx))
                     have BP2 := Lib.hid hBx
                     have HP2 := Lib.hid hpx
                     clear hbx hBx hpx)
                  | (go_at_call 15
                     with_reducible refine (qpick_c (⟨nm, fr, wt, o0, o1, eA, en, ec, ee, pA, pn, pc, ps, gr, aA, an, ac⟩ : Vq) TB nb cb tb _ (HXz.out.after (by first | exact HC9.out | exact below_via HC9.out (Below.refl _ _).drew)) (HBz.out.after (by first | exact HC9.out | exact below_via HC9.out (Below.refl _ _).drew)) (by omega)).mono ?_
                     rintro en wx ⟨Y3, y3, d3, r3, rfl, hbx, hBx, hpx⟩
                     replace HC9 : Hid (Below Wz.heap.size Wz wx) := Lib.hid (by first | exact below_via HC9.out hbx | exact below_via HC9.out (below_via (Below.refl _ _).drew hbx))
                     replace BP1 := Lib.hid (BP1.out.after (by first | exact hbx | exact below_via (Below.refl _ _).drew hbx))
                     replace BP2 := Lib.hid (BP2.out.after (by first | exact hbx | exact below_via (Below.refl _ _).drew hbx))
                     have BP3 := Lib.hid hBx
                     have HP3 := Lib.hid hpx
                     clear hbx hBx hpx)
                  | (go_at_call 11
                     have hy2 : y2 ≤ 60 := by have h9 := Hla.out; rw [← HP2.out, pl_len, BP2.out.len] at h9; exact h9
                     have hy3 : y3 ≤ 60 := by have h9 := Hlb.out; rw [← HP3.out, pl_len, BP3.out.len] at h9; exact h9
                     with_reducible refine (rboth_c Y2 Y3 y2 y3 d2 d3 r2 r3 1000000000 _ (by first | exact BP2.out | exact BP2.out.after (Below.refl _ _).drew) (by first | exact BP3.out | exact BP3.out.after (Below.refl _ _).drew) (by rw [HP2.out]; exact pickP_asc _ _) (by omega) (by decide) (by rw [HP2.out]; exact pickP_bd) (by rw [HP3.out]; exact pickP_bd) (by omega)).mono ?_
                     rintro en wx ⟨Y4, y4, d4, r4, rfl, hbx, hBx, hpx, -, -⟩
                     replace HC9 : Hid (Below Wz.heap.size Wz wx) := Lib.hid (by first | exact below_via HC9.out hbx | exact below_via HC9.out (below_via (Below.refl _ _).drew hbx))
                     replace BP1 := Lib.hid (BP1.out.after (by first | exact hbx | exact below_via (Below.refl _ _).drew hbx))
                     have BP4 := Lib.hid hBx
                     have HP4 : Hid (pl r4 = pl r1) := Lib.hid (by rw [hpx, HP1.out, HP2.out, HP3.out, Hp0.out]; exact Hpk.out.symm)
                     clear hbx hBx hpx hy2 hy3)
                  | (go_at_call 13
                     with_reducible refine (sameB_c Y1 Y4 y1 y4 d1 d4 r1 r4 _ (by first | exact BP1.out | exact BP1.out.after (Below.refl _ _).drew) (by first | exact BP4.out | exact BP4.out.after (Below.refl _ _).drew)).mono ?_
                     rintro en wx ⟨rfl, hbx⟩
                     replace HC9 : Hid (Below Wz.heap.size Wz wx) := Lib.hid (by first | exact below_via HC9.out hbx | exact below_via HC9.out (below_via (Below.refl _ _).drew hbx))
                     rw [HP4.out, sameB_self]
                     clear hbx))
               all_goals
                have HF := Lib.hid (Hb0.out.trans ((below_via HCz.out HC9.out).mono Hb0.out.size))
                clear q0 q1 q2 q3 q4 q5 q6 q7 q8 t0 t1 lq lt
                go_wp2
                go_ret
                exact ⟨rfl, HF.out⟩
end Go.Proofs.Ytbpopkgpepmlcaa
namespace Go.Proofs.Ytbpopkgpepmlcaa
open Go Go.RowKit Go.ChangeShapes Go.WideShapes Go.ChangeAt Go.Joins Go.Deep
set_option maxRecDepth 100000
theorem own : ownKnob Try.prog.godebug = none := by kernel_rfl
theorem laidOut : laidOutB Try.prog = true := by kernel_rfl
section
variable {H : Type} {enc : TypeId × Value → H}
theorem trodAll_below {P : Program} (hl : laidOutB P = true) {W W' : World} (hb : Below W.heap.size W W') (ts : List TypeId) : ∀ (vs : List Value) (ds : List (DataW H)) (ps : List MemPlace), (ts.all fun t => P.readableRec t && decide (t < P.types.size)) = true →
 DataW.TrodAll enc P W 0 (fun _ => true) true ts vs ds ps → (∀ x ∈ ps, x.block < W.heap.size) → DataW.TrodAll enc P W' 0 (fun b => decide (b < W.heap.size)) true ts vs ds ps := by
 induction ts with
 | nil =>
   intro vs ds ps _ h _
   cases vs <;> cases ds <;> first | exact h | exact h.elim
 | cons t ts ih =>
   intro vs ds ps ht h hlt
   cases vs with
   | nil => cases ds <;> exact h.elim
   | cons v vs =>
     cases ds with
     | nil => exact h.elim
     | cons d ds =>
       obtain ⟨p, q, h1, h2, rfl⟩ := h
       simp only [List.all_cons, Bool.and_eq_true, decide_eq_true_eq] at ht
       exact ⟨p, q, Below.trod hl ht.1.1 ht.1.2 h1 hb (fun x hx => hlt x (List.mem_append_left _ hx)), ih vs ds q ht.2 h2 (fun x hx => hlt x (List.mem_append_right _ hx)), rfl⟩
theorem law_post {f : Func} {s : ChangeSpec} {W W' : World} {args : Array Value} {ds gs : List (DataW H)} {before : List MemPlace}
 (hW : DataW.Whole enc Try.prog f.params.toList s.vars false W args.toList ds gs before) (hb : Below W.heap.size W W') (hvars : s.vars = []) (hp : (f.params.toList.all fun t => Try.prog.readableRec t && decide (t < Try.prog.types.size)) = true)
 (hr : f.resultTypes = #[4]) (hs : s.fn H (ds ++ gs) = { results := [.lit (.bool true)], args := ds }) : s.post enc Try.prog f false true false false W args (.bool true) W' := by
 have hlt : ∀ p ∈ before, p.block < W.heap.size := fun p hp => hW.lt p hp
 have hW0 := hW
 obtain ⟨p, q, hA, hV, rfl, _, _⟩ := hW
 rw [hvars] at hV
 obtain ⟨rfl, rfl⟩ := trodVars_none hV
 refine ⟨ds, [], _, [], p, [], hW0, ?_, ?_, ?_, ?_, fun h => by cases h⟩
 · rw [hs, hr]
   exact trodAll_mk1 (shut_bool Try.underlying4 _)
 · rw [hs]
   exact trodAll_below laidOut hb _ _ _ _ hp hA (fun x hx => hlt x (List.mem_append_left _ hx))
 · rw [hs, hvars]; rfl
 · exact hb.frame _
end
end Go.Proofs.Ytbpopkgpepmlcaa
namespace Go.Proofs.Ytbpopkgpepmlcaa
open Go Go.RowKit Go.ChangeShapes Go.WideShapes Go.ChangeAt Go.Joins Go.Deep
set_option maxRecDepth 100000
section
variable {H : Type} {enc : TypeId × Value → H}
theorem slice_cells {α : Type} [Nonempty α] {W : World} {T E : TypeId} {S : Nat} (hT : Try.prog.underlying T = some (.slice E)) (hS : Try.prog.cellsOf E = S) (hS0 : 0 < S) (rd : α → List Value) (hrd : ∀ x, (rd x).length = S) (Q : α → Prop)
 (each : ∀ (cs' : List Value) (n : Nat) (z : DataW H × List MemPlace), DataW.trod enc Try.prog W 0 (fun _ => true) true n E cs' = some z → ∃ x : α, cs' = rd x ∧ Q x)
 {fuel : Nat} {cs : List Value} {z : DataW H × List MemPlace} (hf : DataW.trod enc Try.prog W 0 (fun _ => true) true fuel T cs = some z) :
 ∃ (A : Option Addr) (n c : Nat) (xs : List α), cs = [.slice A n c] ∧ xs.length = n ∧ n ≤ maxLen ∧ n ≤ c ∧ SlG W A S rd xs ∧ ∀ x ∈ xs, Q x := by
 rcases open_slice hT hf with ⟨hcs, _⟩ | ⟨a, len, cap, m, n, D, Pl, hcs, _, hl, hm, hmm, _, hi⟩
 · subst hcs
   exact ⟨none, 0, 0, [], rfl, rfl, Nat.zero_le _, Nat.zero_le _, .inl rfl, (fun x h => by cases h)⟩
 · subst hcs
   have hm' : m = cap := by rw [hmm]; rfl
   have each' : ∀ i, i < len → ∃ x : α, (∀ j u, (rd x)[j]? = some u → W.cell? (a.add (i * S + j)) = some u) ∧ Q x := by
    intro i hil
    obtain ⟨cs', hc, ht'⟩ := hi i (by omega)
    obtain ⟨x, rfl, hx⟩ := each cs' n _ ht'
    rw [hS] at hc
    obtain ⟨_, hcl, hat⟩ := World.cells?_some hc
    refine ⟨x, fun j u hju => ?_, hx⟩
    have hj : j < S := by
     have := (List.getElem?_eq_some_iff.1 hju).1
     rw [hrd] at this
     exact this
    have := hat j hj
    rw [← Go.Deep.add_add]
    rw [this]
    exact hju
   rcases Nat.eq_zero_or_pos len with h0 | h0
   · subst h0
     exact ⟨some a, 0, cap, [], rfl, rfl, Nat.zero_le _, Nat.zero_le _, .inl rfl, (fun x h => by cases h)⟩
   · have first : ∃ x u, (rd x)[0]? = some u ∧ W.cell? (a.add (0 * S + 0)) = some u := by
      obtain ⟨x, hc, _⟩ := each' 0 h0
      have : (rd x)[0]? = some ((rd x)[0]'(by rw [hrd]; exact hS0)) := List.getElem?_eq_getElem _
      exact ⟨x, _, this, hc 0 _ this⟩
     have hspot : a.spot = none := by
      obtain ⟨x, u, _, hc⟩ := first
      simpa [Addr.add] using World.cell?_spot hc
     have ha : a = ⟨a.block, a.off, none⟩ := by cases a; simp at hspot; rw [hspot]
     have hadd : ∀ j, a.add j = ⟨a.block, a.off + j, none⟩ := fun j => by
      rw [ha]; unfold Addr.add; split
      · rename_i e; subst e; rfl
      · rfl
     refine ⟨some a, len, cap, (List.range len).map fun i => if h : i < len then Classical.choose (each' i h) else Classical.choice inferInstance, rfl, by simp, by omega, hl, .inr ⟨a.block, a.off, by rw [← ha], ?_, ?_⟩, ?_⟩
     · obtain ⟨x, u, _, hc⟩ := first
       rw [hadd] at hc
       exact World.block_lt_of_cell? W ⟨a.block, a.off + (0 * S + 0), none⟩ hc
     · intro i x hx j u hju
       have hil : i < len := by
        have := (List.getElem?_eq_some_iff.1 hx).1
        simpa using this
       have hx' : Classical.choose (each' i hil) = x := by
        rw [List.getElem?_map, List.getElem?_range hil] at hx
        simpa [hil] using hx
       have hc := (Classical.choose_spec (each' i hil)).1
       rw [hx'] at hc
       have := hc j u hju
       rw [hadd, ← Nat.add_assoc] at this
       exact this
     · intro x hx
       obtain ⟨i, hi, rfl⟩ := List.mem_map.1 hx
       have hil : i < len := List.mem_range.1 hi
       rw [dif_pos hil]
       exact (Classical.choose_spec (each' i hil)).2
end
end Go.Proofs.Ytbpopkgpepmlcaa
namespace Go.Proofs.Ytbpopkgpepmlcaa
open Go Go.RowKit Go.ChangeShapes Go.WideShapes Go.ChangeAt Go.Joins Go.Deep
set_option maxRecDepth 100000
section
variable {H : Type} {enc : TypeId × Value → H}
instance : Nonempty Val := ⟨nl⟩
instance : Nonempty Hd := ⟨⟨none, 0, 0, []⟩⟩
theorem cells_val {W : World} {m : Nat} {cs : List Value} {z : DataW H × List MemPlace} (h : DataW.trod enc Try.prog W 0 (fun _ => true) true m 48 cs = some z) :
 ∃ x : Val, cs = [.int .i64 x.k, .int .i64 x.n, .string x.s] ∧ x.s.size ≤ maxLen ∧ -9223372036854775808 ≤ x.n ∧ x.n ≤ 9223372036854775807 := by
 obtain ⟨ys, n, _, _, hcl, hlen, hf⟩ := DataW.trod_struct Try.underlying48 h
 have h3 : Try.prog.cellsOf 48 = 3 := by kernel_rfl
 rw [h3] at hcl
 match cs, hcl with
 | [a, b, c], _ =>
   have get : ∀ (j : Nat) (hj : j < 3), ys[j]? = some (ys[j]'(by rw [hlen]; exact hj)) := fun j hj => List.getElem?_eq_getElem _
   have h0 := (hf 0 _ rfl).trans (get 0 (by omega))
   have h1 := (hf 1 _ rfl).trans (get 1 (by omega))
   have h2 := (hf 2 _ rfl).trans (get 2 (by omega))
   obtain ⟨k, e0, _, _⟩ := DataW.trod_int Try.underlying3 h0
   obtain ⟨x, e1, _, wx⟩ := DataW.trod_int Try.underlying3 h1
   obtain ⟨s, e2, _, hs⟩ := DataW.trod_string Try.underlying9 h2
   have c3 : Try.prog.cellsOf 3 = 1 := by kernel_rfl
   have c9 : Try.prog.cellsOf 9 = 1 := by kernel_rfl
   simp [c3, c9] at e0 e1 e2
   subst e0 e1 e2
   have hx : -9223372036854775808 ≤ x ∧ x ≤ 9223372036854775807 := by simpa [Lit.wf, IntKind.min, IntKind.max, IntKind.signed, IntKind.bits] using wx
   exact ⟨⟨k, x, s⟩, rfl, hs, hx⟩
theorem cells_row {W : World} {m : Nat} {cs : List Value} {z : DataW H × List MemPlace} (h : DataW.trod enc Try.prog W 0 (fun _ => true) true m 44 cs = some z) : ∃ x : Hd, cs = rdH x ∧ ∀ N : Int, -9223372036854775808 ≤ N → N ≤ 9223372036854775807 → Ct.In W ⟨x, N⟩ := by
 obtain ⟨A, n, c, xs, h1, h2, h3, h4, h5, h6⟩ := slice_cells (α := Val) Try.underlying44 (S := 3) (by kernel_rfl) (by decide) rdV (fun _ => rfl) (fun x => x.s.size ≤ maxLen ∧ -9223372036854775808 ≤ x.n ∧ x.n ≤ 9223372036854775807) (fun cs n z hz => cells_val hz) h
 exact ⟨⟨A, n, c, xs⟩, h1, fun N hN0 hN1 => ⟨⟨h2, h3, h5.sl⟩, fun x hx => (h6 x hx).1, fun x hx => (h6 x hx).2, ⟨hN0, hN1⟩, h4⟩⟩
instance : Nonempty Ct := ⟨⟨⟨none, 0, 0, []⟩, 0⟩⟩
theorem cells_ct {W : World} {m : Nat} {cs : List Value} {z : DataW H × List MemPlace} (h : DataW.trod enc Try.prog W 0 (fun _ => true) true m 46 cs = some z) : ∃ x : Ct, cs = rdC x ∧ Ct.In W x := by
 obtain ⟨ys, n, _, _, hcl, hlen, hf⟩ := DataW.trod_struct Try.underlying46 h
 have h3 : Try.prog.cellsOf 46 = 2 := by kernel_rfl
 rw [h3] at hcl
 match cs, hcl with
 | [a, b], _ =>
   have get : ∀ (j : Nat) (hj : j < 2), ys[j]? = some (ys[j]'(by rw [hlen]; exact hj)) := fun j hj => List.getElem?_eq_getElem _
   have h0 := (hf 0 _ rfl).trans (get 0 (by omega))
   have h1 := (hf 1 _ rfl).trans (get 1 (by omega))
   obtain ⟨x, e0, hx⟩ := cells_row h0
   obtain ⟨N, e1, _, wx⟩ := DataW.trod_int Try.underlying3 h1
   have c3 : Try.prog.cellsOf 3 = 1 := by kernel_rfl
   have cR : Try.prog.cellsOf 44 = 1 := by kernel_rfl
   simp [c3, cR, rdH] at e0 e1
   subst e0 e1
   have hN : -9223372036854775808 ≤ N ∧ N ≤ 9223372036854775807 := by simpa [Lit.wf, IntKind.min, IntKind.max, IntKind.signed, IntKind.bits] using wx
   exact ⟨⟨x, N⟩, rfl, hx N hN.1 hN.2⟩
instance : Nonempty Nd := ⟨⟨0, 0, nl⟩⟩
theorem cells_nd {W : World} {m : Nat} {cs : List Value} {z : DataW H × List MemPlace} (h : DataW.trod enc Try.prog W 0 (fun _ => true) true m 54 cs = some z) :
 ∃ x : Nd, cs = x.cells.toList ∧ x.v.s.size ≤ maxLen := by
 obtain ⟨ys, n, _, _, hcl, hlen, hf⟩ := DataW.trod_struct Try.underlying54 h
 have hN : Try.prog.cellsOf 54 = 5 := by kernel_rfl
 rw [hN] at hcl
 match cs, hcl with
 | [a0, a1, a2, a3, a4], _ =>
   have get : ∀ (j : Nat) (hj : j < 3), ys[j]? = some (ys[j]'(by rw [hlen]; exact hj)) := fun j hj => List.getElem?_eq_getElem _
   have c3 : Try.prog.cellsOf 3 = 1 := by kernel_rfl
   have d0 : Try.prog.cellsOf 48 = 3 := by kernel_rfl
   have h0 := (hf 0 _ rfl).trans (get 0 (by omega))
   obtain ⟨o, e0, _, w0⟩ := DataW.trod_int Try.underlying3 h0
   have h1 := (hf 1 _ rfl).trans (get 1 (by omega))
   obtain ⟨x, e1, _, w1⟩ := DataW.trod_int Try.underlying3 h1
   have h2 := (hf 2 _ rfl).trans (get 2 (by omega))
   obtain ⟨v, e2, hs, hz⟩ := cells_val h2
   simp [c3, d0] at e0 e1 e2
   obtain ⟨rfl, rfl, rfl⟩ := e2
   subst e0 e1
   exact ⟨⟨o, x, v⟩, rfl, hs⟩
theorem cells_int {W : World} {m : Nat} {cs : List Value} {z : DataW H × List MemPlace} (h : DataW.trod enc Try.prog W 0 (fun _ => true) true m 3 cs = some z) : ∃ x : Int, cs = rdI x ∧ True := by
 obtain ⟨o, e0, _, w0⟩ := DataW.trod_int Try.underlying3 h
 exact ⟨o, e0, trivial⟩
theorem cells_on {W : World} {m : Nat} {cs : List Value} {z : DataW H × List MemPlace} (h : DataW.trod enc Try.prog W 0 (fun _ => true) true m 22 cs = some z) : ∃ x y : Int, cs = [.int .i64 x, .int .i64 y] := by
 obtain ⟨ys, n, _, _, hcl, hlen, hf⟩ := DataW.trod_array Try.underlying22 h
 have c3 : Try.prog.cellsOf 3 = 1 := by kernel_rfl
 have hN : Try.prog.cellsOf 22 = 2 := by kernel_rfl
 rw [hN] at hcl
 match cs, hcl with
 | [a0, a1], _ =>
   have h0 := (hf 0 (by omega)).trans (List.getElem?_eq_getElem (by omega))
   have h1 := (hf 1 (by omega)).trans (List.getElem?_eq_getElem (by omega))
   obtain ⟨x, e0, _, w0⟩ := DataW.trod_int Try.underlying3 h0
   obtain ⟨y, e1, _, w1⟩ := DataW.trod_int Try.underlying3 h1
   simp [c3] at e0 e1
   subst e0 e1
   exact ⟨x, y, rfl⟩
theorem cells_any {W : World} {m : Nat} {T E : TypeId} {cs : List Value} {z : DataW H × List MemPlace} (hT : Try.prog.underlying T = some (.slice E)) (h : DataW.trod enc Try.prog W 0 (fun _ => true) true m T cs = some z) : ∃ (A : Option Addr) (n c : Nat), cs = [.slice A n c] := by
 rcases DataW.trod_slice hT h with ⟨hc, _⟩ | ⟨a, len, cap, elems, rest, n', _, hc, _⟩
 · exact ⟨none, 0, 0, hc⟩
 · exact ⟨some a, len, cap, hc⟩
theorem cells_vw {W : World} {m : Nat} {cs : List Value} {z : DataW H × List MemPlace} (h : DataW.trod enc Try.prog W 0 (fun _ => true) true m 28 cs = some z) :
 ∃ x : Vq, cs = x.cells.toList ∧ Vq.In W x := by
 obtain ⟨ys, n, _, _, hcl, hlen, hf⟩ := DataW.trod_struct Try.underlying28 h
 have hN : Try.prog.cellsOf 28 = 9 := by kernel_rfl
 rw [hN] at hcl
 match cs, hcl with
 | [a0, a1, a2, a3, a4, a5, a6, a7, a8], _ =>
   have get : ∀ (j : Nat) (hj : j < 8), ys[j]? = some (ys[j]'(by rw [hlen]; exact hj)) := fun j hj => List.getElem?_eq_getElem _
   have c9 : Try.prog.cellsOf 9 = 1 := by kernel_rfl
   have c4 : Try.prog.cellsOf 4 = 1 := by kernel_rfl
   have d0 : Try.prog.cellsOf 22 = 2 := by kernel_rfl
   have d1 : Try.prog.cellsOf 24 = 1 := by kernel_rfl
   have d2 : Try.prog.cellsOf 25 = 1 := by kernel_rfl
   have d3 : Try.prog.cellsOf 26 = 1 := by kernel_rfl
   have h0 := (hf 0 _ rfl).trans (get 0 (by omega))
   obtain ⟨nm, e0, _, w0⟩ := DataW.trod_string Try.underlying9 h0
   have h1 := (hf 1 _ rfl).trans (get 1 (by omega))
   obtain ⟨fr, e1, _, w1⟩ := DataW.trod_string Try.underlying9 h1
   have h2 := (hf 2 _ rfl).trans (get 2 (by omega))
   obtain ⟨wt, e2, _, w2⟩ := DataW.trod_string Try.underlying9 h2
   have h3 := (hf 3 _ rfl).trans (get 3 (by omega))
   obtain ⟨on0, on1, e3⟩ := cells_on h3
   have h4 := (hf 4 _ rfl).trans (get 4 (by omega))
   obtain ⟨eA, en, ec, ee, e4, i4, i5, i6, i7, i8⟩ := slice_cells (α := Nd) Try.underlying24 (S := 5) (by kernel_rfl) (by decide) (fun x => x.cells.toList) (fun _ => rfl) (fun x => x.v.s.size ≤ maxLen) (fun cs n z hz => cells_nd hz) h4
   have h5 := (hf 5 _ rfl).trans (get 5 (by omega))
   obtain ⟨pA, pn, pc, ps, e5, j4, j5, j6, j7, j8⟩ := slice_cells (α := Int) Try.underlying25 (S := 1) (by kernel_rfl) (by decide) rdI (fun _ => rfl) (fun _ => True) (fun cs n z hz => cells_int hz) h5
   have h6 := (hf 6 _ rfl).trans (get 6 (by omega))
   obtain ⟨gr, e6, _⟩ := DataW.trod_bool Try.underlying4 h6
   have h7 := (hf 7 _ rfl).trans (get 7 (by omega))
   obtain ⟨aA, an, ac, e7⟩ := cells_any Try.underlying26 h7
   simp [c9, c4, d0, d1, d2, d3] at e0 e1 e2 e3 e4 e5 e6 e7
   obtain ⟨rfl, rfl⟩ := e3
   subst e0 e1 e2 e4 e5 e6 e7
   refine ⟨⟨nm, fr, wt, on0, on1, eA, en, ec, ee, pA, pn, pc, ps, gr, aA, an, ac⟩, rfl, ⟨i4, i5, ?_, i8, j4, j5, j7⟩⟩
   rcases i7 with h | ⟨b, off, hA, hlt, hc⟩
   · exact .inl h
   · exact .inr ⟨b, off, hA, hlt, fun i x hx => ⟨hc i x hx 0 _ rfl, hc i x hx 1 _ rfl, hc i x hx 2 _ rfl, hc i x hx 3 _ rfl, hc i x hx 4 _ rfl⟩⟩
theorem view_of {W : World} {base : Nat} {v : Value} {d : DataW H} {p : List MemPlace} (hv : Value.okWide Try.prog W .any base 28 v) (h : DataW.Trod enc Try.prog W 0 (fun _ => true) true 28 v d p) :
 ∃ x : Vq, v = x.w ∧ Vq.In W x := by
 obtain ⟨cs, rfl, _⟩ := okWide_struct Try.underlying28 hv
 obtain ⟨fuel, hf⟩ := h
 obtain ⟨x, hx, h1⟩ := cells_vw hf
 refine ⟨x, ?_, h1⟩
 have e : cs = x.cells := by
  have : cs.toList = x.cells.toList := hx
  exact Array.toList_inj.1 this
 rw [e]
 rfl
theorem cells_bag {W : World} {m : Nat} {cs : List Value} {z : DataW H × List MemPlace} (h : DataW.trod enc Try.prog W 0 (fun _ => true) true m 30 cs = some z) : ∃ (A : Option Addr) (n c : Nat) (xs : List Ct), cs = [.slice A n c] ∧ BgIn W A n xs := by
 obtain ⟨A, n, c, xs, h1, h2, h3, h4, h5, h6⟩ := slice_cells (α := Ct) Try.underlying30 (S := 2) (by kernel_rfl) (by decide) rdC (fun _ => rfl) (fun x => Ct.In W x) (fun cs n z hz => cells_ct hz) h
 exact ⟨A, n, c, xs, h1, ⟨h2, h3, h5, h6⟩⟩
theorem three_of {W : World} {base : Nat} {v : Value} {d : DataW H} {p : List MemPlace} (hv : Value.okWide Try.prog W .any base 32 v) (h : DataW.Trod enc Try.prog W 0 (fun _ => true) true 32 v d p) :
 ∃ (A B C : Option Addr) (n m k a b c : Nat) (xs ys zs : List Ct), v = .agg #[.slice A n a, .slice B m b, .slice C k c] ∧ BgIn W A n xs ∧ BgIn W B m ys ∧ BgIn W C k zs := by
 obtain ⟨cs, rfl, _⟩ := okWide_struct Try.underlying32 hv
 obtain ⟨fuel, hf⟩ := h
 obtain ⟨ys, n, _, _, hcl, hlen, hf⟩ := DataW.trod_struct Try.underlying32 hf
 have hN : Try.prog.cellsOf 32 = 3 := by kernel_rfl
 have d1 : Try.prog.cellsOf 30 = 1 := by kernel_rfl
 rw [hN] at hcl
 have hcl2 : cs.toList.length = 3 := hcl
 obtain ⟨l⟩ := cs
 match l, hcl2 with
 | [a0, a1, a2], _ =>
   have get : ∀ (j : Nat) (hj : j < 3), ys[j]? = some (ys[j]'(by rw [hlen]; exact hj)) := fun j hj => List.getElem?_eq_getElem _
   have h0 := (hf 0 _ rfl).trans (get 0 (by omega))
   obtain ⟨A, n0, c0, xs, e0, b0⟩ := cells_bag h0
   have h1 := (hf 1 _ rfl).trans (get 1 (by omega))
   obtain ⟨B, n1, c1, zs, e1, b1⟩ := cells_bag h1
   have h2 := (hf 2 _ rfl).trans (get 2 (by omega))
   obtain ⟨C, n2, c2, us, e2, b2⟩ := cells_bag h2
   simp [d1, Value.cells] at e0 e1 e2
   subst e0 e1 e2
   exact ⟨A, B, C, n0, n1, n2, c0, c1, c2, xs, zs, us, rfl, b0, b1, b2⟩
end
end Go.Proofs.Ytbpopkgpepmlcaa
