/-
  QueryTells, walked: what products, what stays, and what is picked are is as the document says. Of all views and bags.
-/
import Derived.Test.YtbpopkgpepmlcaaGreatR12
import Derived.Test.YtbpopkgpepmlcaaGreatR13
import Derived.Deep.RegionHeld3
set_option linter.unusedVariables false
set_option linter.unusedSimpArgs false
namespace Go.Proofs.YtbpopkgpepmlcaaGreat
open Go Go.RowKit
set_option maxRecDepth 100000
attribute [local go_sem ↓] Go.wp_at_zero Go.wp_at_succ

theorem small_len9 {b : Bg} (h : smallB b = true) : b.length ≤ 60 := by
  unfold smallB at h
  rw [Bool.and_eq_true, decide_eq_true_eq] at h
  exact h.2
theorem same_err {w w0 w1 w2 : World} {A A2 : Option Addr} {n n2 : Nat} {r : Option Bg} {os os2 : List Ct} {er er2 : Int} (h : ErrSaid w A n os er r w1) (h2 : ErrSaid w0 A2 n2 os2 er2 r w2) : er = er2 ∧ pl os = pl os2 := by
  have s1 := h.said
  have s2 := h2.said
  cases r with
  | none => exact ⟨s1.1.trans s2.1.symm, by rw [s1.2, s2.2]⟩
  | some p => exact ⟨s1.1.trans s2.1.symm, s1.2.trans s2.2.symm⟩
theorem mapB_pickL9 (ps : List Int) (hp : ps.length ≤ 40) : ∀ b o : Bg, mapB (pickF ps) b o = bothB o (pickL ps b)
  | [], _ => rfl
  | x :: b, o => by
    show mapB (pickF ps) b ((pickF ps x.1).foldl (fun o y => addB o y.1 (y.2 * x.2)) o) = _
    rw [mapB_pickL9 ps hp b]
    unfold pickL pickF
    rw [List.filterMap_cons]
    cases hq : pickR x.1 ps with
    | none => rfl
    | some q =>
      have hl : q.length ≤ 40 := by rw [pick_len ps x.1 q hq]; exact hp
      dsimp only [Option.map]
      rw [if_pos hl]
      show bothB (addB o q (1 * x.2)) _ = bothB (addB o q x.2) _
      rw [Int.one_mul]
theorem pick_same (ps : List Int) (b : Bg) : pickP ps b = rpickP ps b := by
  unfold pickP rpickP
  cases hm : mayBag b with
  | false => rfl
  | true =>
    by_cases hp : ps.length ≤ 40
    · have e : pickB ps b = bothB [] (pickL ps b) := mapB_pickL9 ps hp b []
      rw [decide_eq_true hp, e]
      unfold plusR
      rw [ones_plus, all_ones]
      have h5 : (pickL ps b).all okC = true := List.all_eq_true.2 fun y hy => by
        obtain ⟨x, hx, hq, e⟩ := pickL_mem hy
        obtain ⟨k1, k2, k3, k4⟩ := okC_parts (may_okC hm x hx)
        exact okC_of (by rw [e]; exact k1) (by rw [e]; exact k2) (by rw [e]; exact k3) (pick_mayR hq hp k4)
      rw [h5]
      rfl
    · have e : pickB ps b = [] := pick_none fun x _ => by
        unfold pickF
        cases hq : pickR x.1 ps with
        | none => rfl
        | some q =>
          dsimp only
          rw [if_neg (by rw [pick_len ps x.1 q hq]; exact hp)]
      rw [decide_eq_false hp, e]
      cases mayBag [] <;> rfl
set_option maxHeartbeats 16000000 in
theorem qtells_w (x : Vq) (A B : Option Addr) (n m c d : Nat) (cs ds : List Ct) (w : World) (hx : Vq.In w x) (h64 : ∀ y ∈ x.e, I6n y.v.n) (hA : BgIn w A n cs) (hB : BgIn w B m ds) :
    Calls Tryz.prog 3 #[x.w, .slice A n c, .slice B m d] w fun e w' => e = .returned (.bool true) ∧ Below w.heap.size w w' := by
  have HA := Lib.hid hA
  have HB := Lib.hid hB
  have H64 := Lib.hid h64
  clear hA hB h64
  have HQ0 : Hid (Bq (w.alloc (.cells x.cells 28)) w.heap.size x) := Lib.hid (Bq.new w x)
  have HX := Lib.hid hx
  clear hx
  obtain ⟨nm, fr, wt, o0, o1, eA, en, ec, ee, pA, pn, pc, ps, gr, aA, an, ac⟩ := x
  have Hb : Hid (Below w.heap.size w (w.alloc (.cells #[.string nm, .string fr, .string wt, .int .i64 o0, .int .i64 o1, .slice eA en ec, .slice pA pn pc, .bool gr, .slice aA an ac] 28))) := Lib.hid (below_one _ _)
  have Hl : Hid (w.heap.size < (w.alloc (.cells #[.string nm, .string fr, .string wt, .int .i64 o0, .int .i64 o1, .slice eA en ec, .slice pA pn pc, .bool gr, .slice aA an ac] 28)).heap.size) := Lib.hid (by simp)
  have HQ : Hid (Bq (w.alloc (.cells #[.string nm, .string fr, .string wt, .int .i64 o0, .int .i64 o1, .slice eA en ec, .slice pA pn pc, .bool gr, .slice aA an ac] 28)) w.heap.size (⟨nm, fr, wt, o0, o1, eA, en, ec, ee, pA, pn, pc, ps, gr, aA, an, ac⟩ : Vq)) := HQ0
  clear HQ0
  dsimp only [Vq.w]
  go_enter Tryz.func3, Tryz.ntmps3
  go_wp2_with fail
  refine (smallB_c A n c cs _ (HA.out.after Hb.out)).mono ?_
  rintro e w1 ⟨rfl, hb⟩
  replace HQ := Lib.hid (HQ.out.below hb Hl.out)
  replace Hl := Lib.hid (Nat.lt_of_lt_of_le Hl.out hb.size)
  replace Hb := Lib.hid (below_via Hb.out hb)
  clear hb
  cases hsa : smallB (pl cs)
  · clear hsa
    go_wp2_with fail
    refine (qfixed_c _).mono ?_
    rintro e w2 ⟨rfl, hb⟩
    have HF := Lib.hid (below_via Hb.out hb)
    clear hb Hb
    go_wp2
    go_ret
    exact ⟨rfl, HF.out⟩
  · have Hhsa := Lib.hid hsa
    clear hsa
    go_wp2_with fail
    refine (smallB_c B m d ds _ (HB.out.after Hb.out)).mono ?_
    rintro e w3 ⟨rfl, hb⟩
    replace HQ := Lib.hid (HQ.out.below hb Hl.out)
    replace Hl := Lib.hid (Nat.lt_of_lt_of_le Hl.out hb.size)
    replace Hb := Lib.hid (below_via Hb.out hb)
    clear hb
    cases hsb : smallB (pl ds)
    · clear hsb
      go_wp2_with fail
      refine (qfixed_c _).mono ?_
      rintro e w4 ⟨rfl, hb⟩
      have HF := Lib.hid (below_via Hb.out hb)
      clear hb Hb
      go_wp2
      go_ret
      exact ⟨rfl, HF.out⟩
    · have Hhsb := Lib.hid hsb
      clear hsb
      have hna : n ≤ 60 := by have := small_len9 Hhsa.out; rw [pl_len, HA.out.len] at this; exact this
      have hnb : m ≤ 60 := by have := small_len9 Hhsb.out; rw [pl_len, HB.out.len] at this; exact this
      have q5 := HQ.out.whr
      have q6 := HQ.out.pick
      try simp only at q5 q6
      have lq := Hl.out
      by_cases h120 : (120 : Int) < en
      case pos =>
        go_wp2_with fail
        refine (qfixed_c _).mono ?_
        rintro e w5 ⟨rfl, hb⟩
        have HF := Lib.hid (below_via Hb.out hb)
        clear hb Hb
        go_wp2
        go_ret
        exact ⟨rfl, HF.out⟩
      case neg =>
        by_cases h60 : (60 : Int) < pn
        case pos =>
          go_wp2_with fail
          refine (qfixed_c _).mono ?_
          rintro e w6 ⟨rfl, hb⟩
          have HF := Lib.hid (below_via Hb.out hb)
          clear hb Hb
          go_wp2
          go_ret
          exact ⟨rfl, HF.out⟩
        case neg =>
          clear q5 q6 lq
          obtain ⟨W, hW⟩ : ∃ W : World, w3 = W := ⟨_, rfl⟩
          rw [hW] at HQ Hl Hb ⊢
          clear hW
          obtain ⟨q0, q1, q2, q3, q4, q5, q6, q7, q8⟩ := HQ.out.all
          try simp only at q0 q1 q2 q3 q4 q5 q6 q7 q8
          have lq := Hl.out
          go_wp2_with fail
          refine (product_c (⟨nm, fr, wt, o0, o1, eA, en, ec, ee, pA, pn, pc, ps, gr, aA, an, ac⟩ : Vq) A B n m c d cs ds _ (HA.out.after Hb.out) (HB.out.after Hb.out) (by omega) (by omega)).mono ?_
          rintro e W1 ⟨A1, n1, c1, p1, e1, rfl, hE1⟩
          clear q0 q1 q2 q3 q4 q5 q6 q7 q8 lq
          have hb1 := hE1.below
          replace HQ := Lib.hid (HQ.out.below hb1 Hl.out)
          replace Hl := Lib.hid (Nat.lt_of_lt_of_le Hl.out hb1.size)
          replace Hb := Lib.hid (below_via Hb.out hb1)
          have B1 := Lib.hid hE1.bag
          have S1 := Lib.hid hE1
          clear hE1 hb1
          obtain ⟨q0, q1, q2, q3, q4, q5, q6, q7, q8⟩ := HQ.out.all
          try simp only at q0 q1 q2 q3 q4 q5 q6 q7 q8
          have lq := Hl.out
          go_wp2_with fail
          refine (rproduct10_c (⟨nm, fr, wt, o0, o1, eA, en, ec, ee, pA, pn, pc, ps, gr, aA, an, ac⟩ : Vq) A B n m c d cs ds _ (HA.out.after Hb.out) (HB.out.after Hb.out) hna hnb).mono ?_
          rintro e W2 ⟨A2, n2, c2, p2, e2, rfl, hE2⟩
          clear q0 q1 q2 q3 q4 q5 q6 q7 q8 lq
          have hb1 := hE2.below
          replace HQ := Lib.hid (HQ.out.below hb1 Hl.out)
          replace Hl := Lib.hid (Nat.lt_of_lt_of_le Hl.out hb1.size)
          replace Hb := Lib.hid (below_via Hb.out hb1)
          replace B1 := Lib.hid (B1.out.after hb1)
          have B2 := Lib.hid hE2.bag
          have hsame := same_err S1.out hE2
          clear hE2 hb1
          obtain ⟨he12, hp12⟩ := hsame
          subst he12
          have HP12 := Lib.hid hp12
          clear hp12 S1
          obtain ⟨q0, q1, q2, q3, q4, q5, q6, q7, q8⟩ := HQ.out.all
          try simp only at q0 q1 q2 q3 q4 q5 q6 q7 q8
          have lq := Hl.out
          go_wp2_with fail
          refine (where_c (⟨nm, fr, wt, o0, o1, eA, en, ec, ee, pA, pn, pc, ps, gr, aA, an, ac⟩ : Vq) A n c cs _ (HX.out.after Hb.out) (HA.out.after Hb.out) (by omega)).mono ?_
          rintro e W3 ⟨A3, n3, c3, p3, e3, rfl, hE3⟩
          clear q0 q1 q2 q3 q4 q5 q6 q7 q8 lq
          have hb1 := hE3.below
          replace HQ := Lib.hid (HQ.out.below hb1 Hl.out)
          replace Hl := Lib.hid (Nat.lt_of_lt_of_le Hl.out hb1.size)
          replace Hb := Lib.hid (below_via Hb.out hb1)
          replace B1 := Lib.hid (B1.out.after hb1)
          replace B2 := Lib.hid (B2.out.after hb1)
          have B3 := Lib.hid hE3.bag
          have E3 := Lib.hid hE3.er
          have S3 := Lib.hid hE3.said
          clear hE3 hb1
          obtain ⟨q0, q1, q2, q3, q4, q5, q6, q7, q8⟩ := HQ.out.all
          try simp only at q0 q1 q2 q3 q4 q5 q6 q7 q8
          have lq := Hl.out
          go_wp2_with fail
          refine (rwhere10_c (⟨nm, fr, wt, o0, o1, eA, en, ec, ee, pA, pn, pc, ps, gr, aA, an, ac⟩ : Vq) A n c cs _ (HX.out.after Hb.out) H64.out (HA.out.after Hb.out) (by omega)).mono ?_
          rintro e W4 ⟨A4, n4, c4, p4, e4, rfl, hE4⟩
          clear q0 q1 q2 q3 q4 q5 q6 q7 q8 lq
          have hb1 := hE4.below
          replace HQ := Lib.hid (HQ.out.below hb1 Hl.out)
          replace Hl := Lib.hid (Nat.lt_of_lt_of_le Hl.out hb1.size)
          replace Hb := Lib.hid (below_via Hb.out hb1)
          replace B1 := Lib.hid (B1.out.after hb1)
          replace B2 := Lib.hid (B2.out.after hb1)
          replace B3 := Lib.hid (B3.out.after hb1)
          have B4 := Lib.hid hE4.bag
          have he34 : e3 = e4 := E3.out.trans hE4.er.symm
          have HP34 : Hid (pl p3 = pl p4) := Lib.hid (S3.out.trans hE4.said.symm)
          clear hE4 hb1 E3 S3
          subst he34
          have HXz := Lib.hid (HX.out.after Hb.out)
          have HAz := Lib.hid (HA.out.after Hb.out)
          have HbW := Hb
          obtain ⟨q0, q1, q2, q3, q4, q5, q6, q7, q8⟩ := HQ.out.all
          try simp only at q0 q1 q2 q3 q4 q5 q6 q7 q8
          have lq := Hl.out
          go_wp2_with fail
          obtain ⟨W, hW⟩ : ∃ W : World, W4 = W := ⟨_, rfl⟩
          rw [hW] at HXz HAz HbW B1 B2 B3 B4 q0 q1 q2 q3 q4 q5 q6 q7 q8 lq ⊢
          clear HX HA HB Hb HQ Hl hW
          have HC9 : Hid (Below W.heap.size W W) := Lib.hid (Below.refl _ _)
          have HS : Hid (∀ w' : World, Below W.heap.size W w' → w'.cell? ⟨w.heap.size, 0, none⟩ = some (.string nm) ∧ w'.cell? ⟨w.heap.size, 1, none⟩ = some (.string fr) ∧ w'.cell? ⟨w.heap.size, 2, none⟩ = some (.string wt) ∧ w'.cell? ⟨w.heap.size, 3, none⟩ = some (.int .i64 o0) ∧ w'.cell? ⟨w.heap.size, 4, none⟩ = some (.int .i64 o1) ∧ w'.cell? ⟨w.heap.size, 5, none⟩ = some (.slice eA en ec) ∧ w'.cell? ⟨w.heap.size, 6, none⟩ = some (.slice pA pn pc) ∧ w'.cell? ⟨w.heap.size, 7, none⟩ = some (.bool gr) ∧ w'.cell? ⟨w.heap.size, 8, none⟩ = some (.slice aA an ac)) := Lib.hid fun w' h => ⟨(h.cell lq).trans q0, (h.cell lq).trans q1, (h.cell lq).trans q2, (h.cell lq).trans q3, (h.cell lq).trans q4, (h.cell lq).trans q5, (h.cell lq).trans q6, (h.cell lq).trans q7, (h.cell lq).trans q8⟩
          clear q0 q1 q2 q3 q4 q5 q6 q7 q8
          go_region_held3 (fun w' => w'.cell? ⟨w.heap.size, 0, none⟩ = some (.string nm) ∧ w'.cell? ⟨w.heap.size, 1, none⟩ = some (.string fr) ∧ w'.cell? ⟨w.heap.size, 2, none⟩ = some (.string wt) ∧ w'.cell? ⟨w.heap.size, 3, none⟩ = some (.int .i64 o0) ∧ w'.cell? ⟨w.heap.size, 4, none⟩ = some (.int .i64 o1) ∧ w'.cell? ⟨w.heap.size, 5, none⟩ = some (.slice eA en ec) ∧ w'.cell? ⟨w.heap.size, 6, none⟩ = some (.slice pA pn pc) ∧ w'.cell? ⟨w.heap.size, 7, none⟩ = some (.bool gr) ∧ w'.cell? ⟨w.heap.size, 8, none⟩ = some (.slice aA an ac)) (first | with_reducible exact HS.out _ HC9.out | with_reducible exact HS.out _ HC9.out.drew | go_keep)
                  (first
                    | (go_at_call 5
                       with_reducible refine (qfixed_c _).mono ?_
                       rintro en9 wx ⟨rfl, hbx⟩
                       replace HC9 : Hid (Below W.heap.size W wx) := Lib.hid (by first | exact below_via HC9.out hbx | exact below_via HC9.out (below_via (Below.refl _ _).drew hbx))
                       clear hbx)
                    | (go_at_call 10
                       with_reducible refine (sameB_c A1 A2 n1 n2 c1 c2 p1 p2 _ (B1.out.after (by first | with_reducible exact HC9.out | with_reducible exact HC9.out.drew)) (B2.out.after (by first | with_reducible exact HC9.out | with_reducible exact HC9.out.drew))).mono ?_
                       rintro en9 wx ⟨rfl, hbx⟩
                       replace HC9 : Hid (Below W.heap.size W wx) := Lib.hid (by first | exact below_via HC9.out hbx | exact below_via HC9.out (below_via (Below.refl _ _).drew hbx))
                       rw [HP12.out, sameB_self]
                       clear hbx)
                    | (go_at_call 10
                       with_reducible refine (sameB_c A3 A4 n3 n4 c3 c4 p3 p4 _ (B3.out.after (by first | with_reducible exact HC9.out | with_reducible exact HC9.out.drew)) (B4.out.after (by first | with_reducible exact HC9.out | with_reducible exact HC9.out.drew))).mono ?_
                       rintro en9 wx ⟨rfl, hbx⟩
                       replace HC9 : Hid (Below W.heap.size W wx) := Lib.hid (by first | exact below_via HC9.out hbx | exact below_via HC9.out (below_via (Below.refl _ _).drew hbx))
                       rw [HP34.out, sameB_self]
                       clear hbx)
                    | (go_at_call 11
                       with_reducible refine (qpick_c (⟨nm, fr, wt, o0, o1, eA, en, ec, ee, pA, pn, pc, ps, gr, aA, an, ac⟩ : Vq) A n c cs _ (HXz.out.after (by first | with_reducible exact HC9.out | with_reducible exact HC9.out.drew)) (HAz.out.after (by first | with_reducible exact HC9.out | with_reducible exact HC9.out.drew)) (by omega)).mono ?_
                       rintro en9 wx ⟨A5, n5, c5, p5, rfl, hbx, hB5, hp5⟩
                       replace HC9 : Hid (Below W.heap.size W wx) := Lib.hid (by first | exact below_via HC9.out hbx | exact below_via HC9.out (below_via (Below.refl _ _).drew hbx))
                       have B5 := Lib.hid hB5
                       have P5 := Lib.hid hp5
                       clear hB5 hp5
                       clear hbx)
                    | (go_at_call 12
                       with_reducible refine (rpick10_c (⟨nm, fr, wt, o0, o1, eA, en, ec, ee, pA, pn, pc, ps, gr, aA, an, ac⟩ : Vq) A n c cs _ (HXz.out.after (by first | with_reducible exact HC9.out | with_reducible exact HC9.out.drew)) (HAz.out.after (by first | with_reducible exact HC9.out | with_reducible exact HC9.out.drew)) (by omega) (by show pn ≤ 1000; omega)).mono ?_
                       rintro en9 wx ⟨A6, n6, c6, p6, rfl, hbx, hB6, hp6⟩
                       replace HC9 : Hid (Below W.heap.size W wx) := Lib.hid (by first | exact below_via HC9.out hbx | exact below_via HC9.out (below_via (Below.refl _ _).drew hbx))
                       replace B5 := Lib.hid (B5.out.after (by first | exact hbx | exact below_via (Below.refl _ _).drew hbx))
                       have B6 := Lib.hid hB6
                       have HP56 : Hid (pl p5 = pl p6) := Lib.hid (by rw [P5.out, hp6]; exact pick_same _ _)
                       clear hB6 hp6
                       clear hbx)
                    | (go_at_call 10
                       with_reducible refine (sameB_c A5 A6 n5 n6 c5 c6 p5 p6 _ (by first | exact B5.out | exact B5.out.after (Below.refl _ _).drew) (by first | exact B6.out | exact B6.out.after (Below.refl _ _).drew)).mono ?_
                       rintro en9 wx ⟨rfl, hbx⟩
                       replace HC9 : Hid (Below W.heap.size W wx) := Lib.hid (by first | exact below_via HC9.out hbx | exact below_via HC9.out (below_via (Below.refl _ _).drew hbx))
                       rw [HP56.out, sameB_self]
                       clear hbx))
          all_goals
            have HF := Lib.hid (below_via HbW.out HC9.out)
            clear lq
            go_wp2
            go_ret
            exact ⟨rfl, HF.out⟩
end Go.Proofs.YtbpopkgpepmlcaaGreat
