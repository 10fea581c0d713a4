/-
  GroupParts, walked. Of all bags and all columns.
-/
import Derived.Test.YtldaoepemofhlaaGreatDoorR05
import Derived.Test.YtldaoepemofhlaaGreatDoorR06
namespace Go.Proofs.YtldaoepemofhlaaGreatDoor
open Go Go.RowKit

/-- A row so many times more: its count, its share of a sum. -/
theorem cntB_add : ∀ (b : Bg) (r : List Val) (n : Int), cntB (addB b r n) = cntB b + n
  | [], r, n => by
    rw [addB]
    split
    · next h => rw [h]; rfl
    · show n + 0 = 0 + n; omega
  | x :: b, r, n => by
    rw [addB]
    split
    · rw [cntB, cntB_add b r n, cntB]; omega
    · split
      · split
        · next h => rw [cntB]; omega
        · rw [cntB, cntB]; show n + x.2 + cntB b = _; omega
      · split
        · next h => rw [h, Int.add_zero]
        · rw [cntB, cntB]; show n + (x.2 + cntB b) = _; omega
theorem sumF_cons (f : Int → Int) (i : Int) (x : List Val × Int) (b : Bg) : sumF f i (x :: b) = (if (atR x.1 i).k = 2 then f (atR x.1 i).n * x.2 else 0) + sumF f i b := rfl
theorem sumF_add (f : Int → Int) (i : Int) : ∀ (b : Bg) (r : List Val) (n : Int), sumF f i (addB b r n) = sumF f i b + (if (atR r i).k = 2 then f (atR r i).n * n else 0)
  | [], r, n => by
    rw [addB]
    split
    · next h => rw [h, Int.mul_zero]; simp [sumF]
    · rw [sumF_cons]; simp [sumF]
  | x :: b, r, n => by
    rw [addB]
    split
    · rw [sumF_cons, sumF_add f i b r n, sumF_cons]; omega
    · split
      · next h2 =>
        have e := cmpL_iff.1 h2
        split
        · next h =>
          rw [sumF_cons, e]
          split
          · have : f (atR r i).n * x.2 + f (atR r i).n * n = 0 := by rw [← Int.mul_add, show x.2 + n = 0 by omega, Int.mul_zero]
            omega
          · omega
        · rw [sumF_cons, sumF_cons, e]
          show (if (atR r i).k = 2 then f (atR r i).n * (n + x.2) else 0) + sumF f i b = _
          split
          · rw [Int.mul_add]; omega
          · omega
      · split
        · next h => rw [h, Int.mul_zero]; simp
        · rw [sumF_cons]
          show (if (atR r i).k = 2 then f (atR r i).n * n else 0) + sumF f i (x :: b) = _
          omega
theorem cntB_both : ∀ (b a : Bg), cntB (bothB a b) = cntB a + cntB b
  | [], a => by show cntB a = cntB a + 0; omega
  | x :: b, a => by
    show cntB (bothB (addB a x.1 x.2) b) = _
    rw [cntB_both b, cntB_add, cntB]; omega
theorem sumF_both (f : Int → Int) (i : Int) : ∀ (b a : Bg), sumF f i (bothB a b) = sumF f i a + sumF f i b
  | [], a => by show sumF f i a = sumF f i a + 0; omega
  | x :: b, a => by
    show sumF f i (bothB (addB a x.1 x.2) b) = _
    rw [sumF_both f i b, sumF_add, sumF_cons]; omega
/-- Is there a number in a column, of rows that are there? -/
theorem anyI_iff {i : Int} {b : Bg} : anyI i b = true ↔ ∃ x ∈ b, (atR x.1 i).k = 2 := by
  unfold anyI
  rw [List.any_eq_true]
  constructor
  · rintro ⟨x, hx, h⟩; exact ⟨x, hx, of_decide_eq_true h⟩
  · rintro ⟨x, hx, h⟩; exact ⟨x, hx, decide_eq_true h⟩
theorem row_look {b : Bg} (h1 : Asc b) (h2 : ∀ x ∈ b, 0 < x.2) (P : List Val → Prop) : (∃ x ∈ b, P x.1) ↔ ∃ r, 0 < lookB b r ∧ P r := by
  constructor
  · rintro ⟨x, hx, h⟩; exact ⟨x.1, by rw [look_mem b x h1 hx]; exact h2 x hx, h⟩
  · rintro ⟨r, hr, h⟩
    obtain ⟨x, hx, rfl⟩ := List.mem_map.1 ((mem_look h1 (fun x hx => by have := h2 x hx; omega) r).2 (by omega))
    exact ⟨x, hx, h⟩
theorem look_pos0 {b : Bg} (h1 : Asc b) (h2 : ∀ x ∈ b, 0 < x.2) (r : List Val) : 0 ≤ lookB b r := by
  by_cases h : r ∈ b.map (·.1)
  · obtain ⟨x, hx, rfl⟩ := List.mem_map.1 h
    rw [look_mem b x h1 hx]
    have := h2 x hx; omega
  · have : lookB b r = 0 := Classical.byContradiction fun e => h ((mem_look h1 (fun x hx => by have := h2 x hx; omega) r).2 e)
    omega
theorem anyI_both {i : Int} {a b : Bg} (ha : mayBag a = true) (hb : mayBag b = true) (pa : ∀ x ∈ a, 0 < x.2) (pb : ∀ x ∈ b, 0 < x.2) : anyI i (bothB a b) = (anyI i a || anyI i b) := by
  have hc : Asc (bothB a b) := asc_both _ _ (may_asc ha)
  have hl : ∀ r, lookB (bothB a b) r = lookB a r + lookB b r := fun r => by rw [look_both _ _ _ (may_asc ha), sum_look _ _ (may_asc hb)]
  have hn := nz_both b a (may_nz ha)
  have hp : ∀ x ∈ bothB a b, 0 < x.2 := fun x hx => by
    have h1 := look_mem _ x hc hx
    rw [hl] at h1
    have h2 := look_pos0 (may_asc ha) pa x.1
    have h3 := look_pos0 (may_asc hb) pb x.1
    have h4 := hn x hx
    omega
  rw [Bool.eq_iff_iff, Bool.or_eq_true, anyI_iff, anyI_iff, anyI_iff, row_look hc hp (fun r => (atR r i).k = 2), row_look (may_asc ha) pa (fun r => (atR r i).k = 2), row_look (may_asc hb) pb (fun r => (atR r i).k = 2)]
  constructor
  · rintro ⟨r, hr, h⟩
    rw [hl] at hr
    have h2 := look_pos0 (may_asc ha) pa r
    by_cases h3 : 0 < lookB a r
    · exact .inl ⟨r, h3, h⟩
    · exact .inr ⟨r, by omega, h⟩
  · rintro (⟨r, hr, h⟩ | ⟨r, hr, h⟩)
    · exact ⟨r, by rw [hl]; have := look_pos0 (may_asc hb) pb r; omega, h⟩
    · exact ⟨r, by rw [hl]; have := look_pos0 (may_asc ha) pa r; omega, h⟩
theorem pos_of {b : Bg} (hm : mayBag b = true) (hG : GOk b) : ∀ x ∈ b, 0 < x.2 := fun x hx => by
  have h1 := hG.1 x hx
  have h2 := may_nz hm x hx
  omega
/-- What a sum comes to. -/
theorem aggR_sum (i : Int) (b : Bg) : aggR 1 i b = if anyI i b then (if -9223372036854775808 ≤ sumF id i b ∧ sumF id i b ≤ 9223372036854775807 then (iv (sumF id i b), 0) else (nl, 110)) else (nl, 0) := by
  unfold aggR
  rw [if_neg (by decide), if_pos rfl]
  rfl
theorem sumF_none {f : Int → Int} {i : Int} : ∀ {b : Bg}, anyI i b = false → sumF f i b = 0
  | [], _ => rfl
  | x :: b, h => by
    unfold anyI at h
    rw [List.any_cons, Bool.or_eq_false_iff] at h
    rw [sumF_cons, if_neg (of_decide_eq_false h.1), sumF_none (b := b) h.2]
    rfl
/-- Sums of two bags and of both together, case by case. -/
theorem parts_said {i : Int} {a b : Bg} {S T U : Val} {e f g : Int} (ha : mayBag a = true) (hb : mayBag b = true) (pa : ∀ x ∈ a, 0 < x.2) (pb : ∀ x ∈ b, 0 < x.2) (hS : aggR 1 i (bothB a b) = (S, e)) (hT : aggR 1 i a = (T, f)) (hU : aggR 1 i b = (U, g)) (he : e = 0) (hf : f = 0) (hg : g = 0) :
    (T.k = 0 → U.k = 0 → S.k = 0) ∧ (T.k = 0 → U.k ≠ 0 → S = U) ∧ (T.k ≠ 0 → U.k = 0 → S = T) ∧
    (T.k ≠ 0 → U.k ≠ 0 → T = iv T.n ∧ U = iv U.n ∧ S = iv (T.n + U.n) ∧ (-9223372036854775808 ≤ T.n + U.n ∧ T.n + U.n ≤ 9223372036854775807) ∧ (-9223372036854775808 ≤ T.n ∧ T.n ≤ 9223372036854775807) ∧ (-9223372036854775808 ≤ U.n ∧ U.n ≤ 9223372036854775807)) := by
  subst he hf hg
  rw [aggR_sum, anyI_both ha hb pa pb, sumF_both] at hS
  rw [aggR_sum] at hT hU
  cases hA : anyI i a
  · have sa := sumF_none (f := id) hA
    rw [hA] at hT hS
    rw [if_neg Bool.false_ne_true] at hT
    obtain ⟨rfl, _⟩ := Prod.mk.inj hT
    cases hB : anyI i b
    · rw [hB] at hU hS
      rw [if_neg Bool.false_ne_true] at hU
      obtain ⟨rfl, _⟩ := Prod.mk.inj hU
      rw [Bool.or_false, if_neg Bool.false_ne_true] at hS
      obtain ⟨rfl, _⟩ := Prod.mk.inj hS
      exact ⟨fun _ _ => rfl, fun _ h => absurd rfl h, fun h => absurd rfl h, fun h => absurd rfl h⟩
    · rw [hB] at hU hS
      rw [if_pos rfl] at hU
      rw [Bool.or_true, if_pos rfl, sa, Int.zero_add, hU] at hS
      obtain ⟨rfl, _⟩ := Prod.mk.inj hS
      refine ⟨fun _ h => h, fun _ _ => rfl, fun h => absurd rfl h, fun h => absurd rfl h⟩
  · rw [hA] at hT hS
    rw [if_pos rfl] at hT
    rw [Bool.true_or, if_pos rfl] at hS
    split at hT
    · next hta =>
      obtain ⟨rfl, _⟩ := Prod.mk.inj hT
      cases hB : anyI i b
      · have sb := sumF_none (f := id) hB
        rw [hB, if_neg Bool.false_ne_true] at hU
        obtain ⟨rfl, _⟩ := Prod.mk.inj hU
        rw [sb, Int.add_zero, if_pos hta] at hS
        obtain ⟨rfl, _⟩ := Prod.mk.inj hS
        exact ⟨fun h => absurd h (by show (2 : Int) ≠ 0; decide), fun h => absurd h (by show (2 : Int) ≠ 0; decide), fun _ _ => rfl, fun _ h => absurd rfl h⟩
      · rw [hB, if_pos rfl] at hU
        split at hU
        · next htb =>
          obtain ⟨rfl, _⟩ := Prod.mk.inj hU
          split at hS
          · next hts =>
            obtain ⟨rfl, _⟩ := Prod.mk.inj hS
            exact ⟨fun h => absurd h (by show (2 : Int) ≠ 0; decide), fun h => absurd h (by show (2 : Int) ≠ 0; decide), fun _ h => absurd h (by show (2 : Int) ≠ 0; decide), fun _ _ => ⟨rfl, rfl, rfl, hts, hta, htb⟩⟩
          · obtain ⟨_, h⟩ := Prod.mk.inj hS
            cases h
        · obtain ⟨_, h⟩ := Prod.mk.inj hU
          cases h
    · obtain ⟨_, h⟩ := Prod.mk.inj hT
      cases h
end Go.Proofs.YtldaoepemofhlaaGreatDoor

namespace Go.Proofs.YtldaoepemofhlaaGreatDoor
open Go Go.RowKit
set_option maxRecDepth 100000
attribute [local go_sem ↓] Go.wp_at_zero Go.wp_at_succ run_eqV run_neV

theorem aggF_okT {fn col : Int} {b : Bg} (h : refR b = 0) : aggF fn col b = aggR fn col b := by unfold aggF; rw [if_pos h]
/-- A number in 64 bits plus another, where it fits. -/
theorem addR_iv {x y : Int} (h : I6n (x + y)) : addR (iv x) (iv y) = (iv (x + y), true) := by
  have h1 := (add_fit x y h).1
  have h2 : wrap64 (x + y) = x + y := by unfold I6n at h; unfold wrap64; omega
  unfold addR
  show comp (iv x) (iv y) (wrap64 (x + y)) (decide (x < wrap64 (x + y)) == decide (0 < y)) = _
  rw [h1, h2]
  rfl
theorem iv_eq {v : Val} (h : v = iv v.n) : v.k = 2 ∧ v.s = ⟨#[]⟩ := by
  rw [h]
  exact ⟨rfl, rfl⟩
set_option maxHeartbeats 16000000 in
theorem parts_w (A B : Option Addr) (n m c d : Nat) (cs ds : List Ct) (col : Int) (w : World) (hA : BgIn w A n cs) (hB : BgIn w B m ds) (hG : Gl w) :
    Calls Tryz.prog 7 #[.slice A n c, .slice B m d, .int .i64 col] w fun e w' => e = .returned (.bool true) ∧ Below w.heap.size w w' := by
  have HA := Lib.hid hA
  have HB := Lib.hid hB
  have HGl := Lib.hid hG
  clear hA hB hG
  go_enter Tryz.func7, Tryz.ntmps7
  go_wp2_with fail
  refine (gfixed_c w HGl.out).mono ?_
  rintro e w1 ⟨rfl, hb⟩
  have Hb := Lib.hid hb
  clear hb
  go_wp2_with fail
  refine (rlow_c A n c cs _ (HA.out.after Hb.out)).mono ?_
  rintro e w2 ⟨rfl, hb⟩
  replace Hb := Lib.hid (below_via Hb.out hb)
  clear hb
  cases hlA : lowQ (pl cs)
  · clear hlA
    go_wp2_with fail
    refine (gfixed_c _ (HGl.out.after Hb.out)).mono ?_
    rintro e wz ⟨rfl, hb⟩
    have HF := Lib.hid (below_via Hb.out hb)
    clear hb Hb
    go_wp2_with fail
    go_ret
    exact ⟨rfl, HF.out⟩
  · have HLA := Lib.hid (lowG_bd hlA)
    clear hlA
    go_wp2_with fail
    refine (rlow_c B m d ds _ (HB.out.after Hb.out)).mono ?_
    rintro e w2 ⟨rfl, hb⟩
    replace Hb := Lib.hid (below_via Hb.out hb)
    clear hb
    cases hlB : lowQ (pl ds)
    · clear hlB
      go_wp2_with fail
      refine (gfixed_c _ (HGl.out.after Hb.out)).mono ?_
      rintro e wz ⟨rfl, hb⟩
      have HF := Lib.hid (below_via Hb.out hb)
      clear hb Hb
      go_wp2_with fail
      go_ret
      exact ⟨rfl, HF.out⟩
    · have HLB := Lib.hid (lowG_bd hlB)
      clear hlB
      go_wp2_with fail
      have hnA : n ≤ 60 := by have h1 := HLA.out.2; rw [pl_len, HA.out.len] at h1; exact h1
      refine (rright_c A n c cs _ (HA.out.after Hb.out) (by omega)).mono ?_
      rintro e w2 ⟨rfl, hb⟩
      replace Hb := Lib.hid (below_via Hb.out hb)
      clear hb
      obtain ⟨rA, hr⟩ : ∃ r, refR (pl cs) = r := ⟨_, rfl⟩
      have HrA := Lib.hid hr
      rw [hr]
      clear hr
      by_cases h0 : rA = 0
      · have h1A : (rA != 0) = false := by simp [h0]
        have H0A : Hid (refR (pl cs) = 0) := Lib.hid (by rw [HrA.out]; exact h0)
        clear h0
        go_wp2_with fail
        have hnB : m ≤ 60 := by have h1 := HLB.out.2; rw [pl_len, HB.out.len] at h1; exact h1
        refine (rright_c B m d ds _ (HB.out.after Hb.out) (by omega)).mono ?_
        rintro e w2 ⟨rfl, hb⟩
        replace Hb := Lib.hid (below_via Hb.out hb)
        clear hb
        obtain ⟨rB, hr⟩ : ∃ r, refR (pl ds) = r := ⟨_, rfl⟩
        have HrB := Lib.hid hr
        rw [hr]
        clear hr
        by_cases h0 : rB = 0
        · have h1B : (rB != 0) = false := by simp [h0]
          have H0B : Hid (refR (pl ds) = 0) := Lib.hid (by rw [HrB.out]; exact h0)
          clear h0
          go_wp2_with fail
          refine (rboth_c A B n m c d cs ds 1000 _ (HA.out.after Hb.out) (HB.out.after Hb.out) (may_asc (refR_ok H0A.out).1) (by omega) (by decide) HLA.out.1 (fun x hx => by have := HLB.out.1 x hx; omega) (by omega)).mono ?_
          rintro e w5 ⟨C, q, cc, es, rfl, hb5, hC, hpC, _, hq⟩
          have HC := Lib.hid hC
          have HpC := Lib.hid hpC
          have Hb5 := Lib.hid (below_via Hb.out hb5)
          have hq2 : q ≤ 120 := by omega
          clear hb5 hC hpC Hb hq
          go_wp2_with fail
          have hag := agg_c C q cc es 0 0 _ HC.out (by omega)
          obtain ⟨⟨N, a0⟩, hP⟩ : ∃ R, aggF 0 0 (pl es) = R := ⟨_, rfl⟩
          rw [hP] at hag
          have HvN := Lib.hid hP
          have Hag := Lib.hid hag
          clear hP hag
          refine Hag.out.mono ?_
          rintro en u0 ⟨rfl, hb⟩
          have HBx : Hid (Below w5.heap.size w5 (u0.alloc (.cells #[.int .i64 N.k, .int .i64 N.n, .string N.s] 39))) := Lib.hid (below_via hb (below_one _ _))
          have QN0 : Hid (Bf (u0.alloc (.cells #[.int .i64 N.k, .int .i64 N.n, .string N.s] 39)) u0.heap.size #[.int .i64 N.k, .int .i64 N.n, .string N.s] 39) := Lib.hid (Bf.new _ _ _)
          have HC0 := Lib.hid (HC.out.after HBx.out)
          have Hn0 := Lib.hid (below_via Hb5.out HBx.out)
          obtain ⟨bN, hbN⟩ : ∃ b, u0.heap.size = b := ⟨_, rfl⟩
          rw [hbN] at QN0
          clear hb Hag HBx  HC Hb5
          go_wp2_with fail
          have hag := agg_c A n c cs 0 0 _ (HA.out.after Hn0.out) (by omega)
          obtain ⟨⟨X, a1⟩, hP⟩ : ∃ R, aggF 0 0 (pl cs) = R := ⟨_, rfl⟩
          rw [hP] at hag
          have HvX := Lib.hid hP
          have Hag := Lib.hid hag
          clear hP hag
          refine Hag.out.mono ?_
          rintro en u1 ⟨rfl, hb⟩
          have HBx : Hid (Below (u0.alloc (.cells #[.int .i64 N.k, .int .i64 N.n, .string N.s] 39)).heap.size (u0.alloc (.cells #[.int .i64 N.k, .int .i64 N.n, .string N.s] 39)) (u1.alloc (.cells #[.int .i64 X.k, .int .i64 X.n, .string X.s] 39))) := Lib.hid (below_via hb (below_one _ _))
          have QN1 := Lib.hid (QN0.out.after HBx.out QN0.out.lt)
          have QX1 : Hid (Bf (u1.alloc (.cells #[.int .i64 X.k, .int .i64 X.n, .string X.s] 39)) u1.heap.size #[.int .i64 X.k, .int .i64 X.n, .string X.s] 39) := Lib.hid (Bf.new _ _ _)
          have HC1 := Lib.hid (HC0.out.after HBx.out)
          have Hn1 := Lib.hid (below_via Hn0.out HBx.out)
          obtain ⟨bX, hbX⟩ : ∃ b, u1.heap.size = b := ⟨_, rfl⟩
          rw [hbX] at QX1
          clear hb Hag HBx QN0 HC0 Hn0
          go_wp2_with fail
          have hag := agg_c B m d ds 0 0 _ (HB.out.after Hn1.out) (by omega)
          obtain ⟨⟨Y, a2⟩, hP⟩ : ∃ R, aggF 0 0 (pl ds) = R := ⟨_, rfl⟩
          rw [hP] at hag
          have HvY := Lib.hid hP
          have Hag := Lib.hid hag
          clear hP hag
          refine Hag.out.mono ?_
          rintro en u2 ⟨rfl, hb⟩
          have HBx : Hid (Below (u1.alloc (.cells #[.int .i64 X.k, .int .i64 X.n, .string X.s] 39)).heap.size (u1.alloc (.cells #[.int .i64 X.k, .int .i64 X.n, .string X.s] 39)) (u2.alloc (.cells #[.int .i64 Y.k, .int .i64 Y.n, .string Y.s] 39))) := Lib.hid (below_via hb (below_one _ _))
          have QN2 := Lib.hid (QN1.out.after HBx.out QN1.out.lt)
          have QX2 := Lib.hid (QX1.out.after HBx.out QX1.out.lt)
          have QY2 : Hid (Bf (u2.alloc (.cells #[.int .i64 Y.k, .int .i64 Y.n, .string Y.s] 39)) u2.heap.size #[.int .i64 Y.k, .int .i64 Y.n, .string Y.s] 39) := Lib.hid (Bf.new _ _ _)
          have HC2 := Lib.hid (HC1.out.after HBx.out)
          have Hn2 := Lib.hid (below_via Hn1.out HBx.out)
          obtain ⟨bY, hbY⟩ : ∃ b, u2.heap.size = b := ⟨_, rfl⟩
          rw [hbY] at QY2
          clear hb Hag HBx QN1 QX1 HC1 Hn1
          go_wp2_with fail
          have hag := agg_c C q cc es 1 col _ HC2.out (by omega)
          obtain ⟨⟨S, e⟩, hP⟩ : ∃ R, aggF 1 col (pl es) = R := ⟨_, rfl⟩
          rw [hP] at hag
          have HvS := Lib.hid hP
          have Hag := Lib.hid hag
          clear hP hag
          refine Hag.out.mono ?_
          rintro en u3 ⟨rfl, hb⟩
          have HBx : Hid (Below (u2.alloc (.cells #[.int .i64 Y.k, .int .i64 Y.n, .string Y.s] 39)).heap.size (u2.alloc (.cells #[.int .i64 Y.k, .int .i64 Y.n, .string Y.s] 39)) (u3.alloc (.cells #[.int .i64 S.k, .int .i64 S.n, .string S.s] 39))) := Lib.hid (below_via hb (below_one _ _))
          have QN3 := Lib.hid (QN2.out.after HBx.out QN2.out.lt)
          have QX3 := Lib.hid (QX2.out.after HBx.out QX2.out.lt)
          have QY3 := Lib.hid (QY2.out.after HBx.out QY2.out.lt)
          have QS3 : Hid (Bf (u3.alloc (.cells #[.int .i64 S.k, .int .i64 S.n, .string S.s] 39)) u3.heap.size #[.int .i64 S.k, .int .i64 S.n, .string S.s] 39) := Lib.hid (Bf.new _ _ _)
          have HC3 := Lib.hid (HC2.out.after HBx.out)
          have Hn3 := Lib.hid (below_via Hn2.out HBx.out)
          obtain ⟨bS, hbS⟩ : ∃ b, u3.heap.size = b := ⟨_, rfl⟩
          rw [hbS] at QS3
          clear hb Hag HBx QN2 QX2 QY2 HC2 Hn2
          go_wp2_with fail
          have hag := agg_c A n c cs 1 col _ (HA.out.after Hn3.out) (by omega)
          obtain ⟨⟨T, f⟩, hP⟩ : ∃ R, aggF 1 col (pl cs) = R := ⟨_, rfl⟩
          rw [hP] at hag
          have HvT := Lib.hid hP
          have Hag := Lib.hid hag
          clear hP hag
          refine Hag.out.mono ?_
          rintro en u4 ⟨rfl, hb⟩
          have HBx : Hid (Below (u3.alloc (.cells #[.int .i64 S.k, .int .i64 S.n, .string S.s] 39)).heap.size (u3.alloc (.cells #[.int .i64 S.k, .int .i64 S.n, .string S.s] 39)) (u4.alloc (.cells #[.int .i64 T.k, .int .i64 T.n, .string T.s] 39))) := Lib.hid (below_via hb (below_one _ _))
          have QN4 := Lib.hid (QN3.out.after HBx.out QN3.out.lt)
          have QX4 := Lib.hid (QX3.out.after HBx.out QX3.out.lt)
          have QY4 := Lib.hid (QY3.out.after HBx.out QY3.out.lt)
          have QS4 := Lib.hid (QS3.out.after HBx.out QS3.out.lt)
          have QT4 : Hid (Bf (u4.alloc (.cells #[.int .i64 T.k, .int .i64 T.n, .string T.s] 39)) u4.heap.size #[.int .i64 T.k, .int .i64 T.n, .string T.s] 39) := Lib.hid (Bf.new _ _ _)
          have HC4 := Lib.hid (HC3.out.after HBx.out)
          have Hn4 := Lib.hid (below_via Hn3.out HBx.out)
          obtain ⟨bT, hbT⟩ : ∃ b, u4.heap.size = b := ⟨_, rfl⟩
          rw [hbT] at QT4
          clear hb Hag HBx QN3 QX3 QY3 QS3 HC3 Hn3
          go_wp2_with fail
          have hag := agg_c B m d ds 1 col _ (HB.out.after Hn4.out) (by omega)
          obtain ⟨⟨U, g⟩, hP⟩ : ∃ R, aggF 1 col (pl ds) = R := ⟨_, rfl⟩
          rw [hP] at hag
          have HvU := Lib.hid hP
          have Hag := Lib.hid hag
          clear hP hag
          refine Hag.out.mono ?_
          rintro en u5 ⟨rfl, hb⟩
          have HBx : Hid (Below (u4.alloc (.cells #[.int .i64 T.k, .int .i64 T.n, .string T.s] 39)).heap.size (u4.alloc (.cells #[.int .i64 T.k, .int .i64 T.n, .string T.s] 39)) (u5.alloc (.cells #[.int .i64 U.k, .int .i64 U.n, .string U.s] 39))) := Lib.hid (below_via hb (below_one _ _))
          have QN5 := Lib.hid (QN4.out.after HBx.out QN4.out.lt)
          have QX5 := Lib.hid (QX4.out.after HBx.out QX4.out.lt)
          have QY5 := Lib.hid (QY4.out.after HBx.out QY4.out.lt)
          have QS5 := Lib.hid (QS4.out.after HBx.out QS4.out.lt)
          have QT5 := Lib.hid (QT4.out.after HBx.out QT4.out.lt)
          have QU5 : Hid (Bf (u5.alloc (.cells #[.int .i64 U.k, .int .i64 U.n, .string U.s] 39)) u5.heap.size #[.int .i64 U.k, .int .i64 U.n, .string U.s] 39) := Lib.hid (Bf.new _ _ _)
          have HC5 := Lib.hid (HC4.out.after HBx.out)
          have Hn5 := Lib.hid (below_via Hn4.out HBx.out)
          obtain ⟨bU, hbU⟩ : ∃ b, u5.heap.size = b := ⟨_, rfl⟩
          rw [hbU] at QU5
          clear hb Hag HBx QN4 QX4 QY4 QS4 QT4 HC4 Hn4
          go_wp2_with fail
          refine (rright_c C q cc es _ HC5.out (by omega)).mono ?_
          rintro en v ⟨rfl, hb⟩
          have ZN := Lib.hid (QN5.out.after hb QN5.out.lt)
          have ZX := Lib.hid (QX5.out.after hb QX5.out.lt)
          have ZY := Lib.hid (QY5.out.after hb QY5.out.lt)
          have ZS := Lib.hid (QS5.out.after hb QS5.out.lt)
          have ZT := Lib.hid (QT5.out.after hb QT5.out.lt)
          have ZU := Lib.hid (QU5.out.after hb QU5.out.lt)
          have HCv := Lib.hid (HC5.out.after hb)
          have Hbv := Lib.hid (below_via Hn5.out hb)
          clear hb QN5 QX5 QY5 QS5 QT5 QU5 HC5 Hn5
          obtain ⟨rC, hr⟩ : ∃ r, refR (pl es) = r := ⟨_, rfl⟩
          have HrC := Lib.hid hr
          rw [hr]
          clear hr
          by_cases h0 : rC = 0
          · have h1C : (rC != 0) = false := by simp [h0]
            have H0C : Hid (refR (pl es) = 0) := Lib.hid (by rw [HrC.out]; exact h0)
            clear h0
            have hN := HvN.out
            have hX := HvX.out
            have hY := HvY.out
            rw [aggF_okT H0C.out, HpC.out] at hN
            rw [aggF_okT H0A.out] at hX
            rw [aggF_okT H0B.out] at hY
            have eN : N.n = cntB (pl cs) + cntB (pl ds) := by have h1 := congrArg (fun p => p.1.n) hN; rw [← cntB_both]; exact h1.symm
            have eX : X.n = cntB (pl cs) := (congrArg (fun p => p.1.n) hX).symm
            have eY : Y.n = cntB (pl ds) := (congrArg (fun p => p.1.n) hY).symm
            have g1 := (refR_ok H0A.out).2
            have g2 := (refR_ok H0B.out).2
            have g3 := cntB_nonneg g1.1
            have g4 := cntB_nonneg g2.1
            have g5 := g1.2
            have g6 := g2.2
            have hw : wrap64 (X.n + Y.n) = X.n + Y.n := by unfold wrap64; omega
            have hne : (N.n != X.n + Y.n) = false := by simp; omega
            clear hN hX hY eN eX eY g1 g2 g3 g4 g5 g6
            have cN0 := ZN.out.cell 0
            have cN1 := ZN.out.cell 1
            have cN2 := ZN.out.cell 2
            have lN := ZN.out.lt
            have cX0 := ZX.out.cell 0
            have cX1 := ZX.out.cell 1
            have cX2 := ZX.out.cell 2
            have lX := ZX.out.lt
            have cY0 := ZY.out.cell 0
            have cY1 := ZY.out.cell 1
            have cY2 := ZY.out.cell 2
            have lY := ZY.out.lt
            have cS0 := ZS.out.cell 0
            have cS1 := ZS.out.cell 1
            have cS2 := ZS.out.cell 2
            have lS := ZS.out.lt
            have cT0 := ZT.out.cell 0
            have cT1 := ZT.out.cell 1
            have cT2 := ZT.out.cell 2
            have lT := ZT.out.lt
            have cU0 := ZU.out.cell 0
            have cU1 := ZU.out.cell 1
            have cU2 := ZU.out.cell 2
            have lU := ZU.out.lt
            have hS := HvS.out
            have hT := HvT.out
            have hU := HvU.out
            rw [aggF_okT H0C.out, HpC.out] at hS
            rw [aggF_okT H0A.out] at hT
            rw [aggF_okT H0B.out] at hU
            have Hsaid := Lib.hid (parts_said (refR_ok H0A.out).1 (refR_ok H0B.out).1 (pos_of (refR_ok H0A.out).1 (refR_ok H0A.out).2) (pos_of (refR_ok H0B.out).1 (refR_ok H0B.out).2) hS hT hU)
            clear hS hT hU
            by_cases he : e = 0
            · have ze : (e != 0) = false := by simp [he]
              have He := Lib.hid he
              clear he
              by_cases hf : f = 0
              · have zf : (f != 0) = false := by simp [hf]
                have Hf := Lib.hid hf
                clear hf
                by_cases hg : g = 0
                · have zg : (g != 0) = false := by simp [hg]
                  have Hg := Lib.hid hg
                  clear hg
                  by_cases hT0 : T.k = 0
                  · by_cases hU0 : U.k = 0
                    · have hS0 : S.k = 0 := (Hsaid.out He.out Hf.out Hg.out).1 hT0 hU0
                      have t0 : (T.k == 0) = true := by simp [hT0]
                      have t1 : (T.k != 0) = false := by simp [hT0]
                      have u0 : (U.k == 0) = true := by simp [hU0]
                      have u1 : (U.k != 0) = false := by simp [hU0]
                      have s0 : (S.k == 0) = true := by simp [hS0]
                      clear hT0 hU0 hS0
                      go_wp2_with fail
                      go_ret
                      exact ⟨rfl, Hbv.out⟩
                    · have hSU : S = U := (Hsaid.out He.out Hf.out Hg.out).2.1 hT0 hU0
                      subst hSU
                      have t0 : (T.k == 0) = true := by simp [hT0]
                      have t1 : (T.k != 0) = false := by simp [hT0]
                      have u0 : (S.k == 0) = false := by simp [hU0]
                      have u1 : (S.k != 0) = true := by simp [hU0]
                      have ss : (⟨S.k, S.n, S.s⟩ : Val).eq ⟨S.k, S.n, S.s⟩ = true := Val.eq_self _
                      clear hT0 hU0
                      go_wp2_with fail
                      go_ret
                      exact ⟨rfl, Hbv.out⟩
                  · by_cases hU0 : U.k = 0
                    · have hST : S = T := (Hsaid.out He.out Hf.out Hg.out).2.2.1 hT0 hU0
                      subst hST
                      have t0 : (S.k == 0) = false := by simp [hT0]
                      have t1 : (S.k != 0) = true := by simp [hT0]
                      have u0 : (U.k == 0) = true := by simp [hU0]
                      have u1 : (U.k != 0) = false := by simp [hU0]
                      have ss : (⟨S.k, S.n, S.s⟩ : Val).eq ⟨S.k, S.n, S.s⟩ = true := Val.eq_self _
                      clear hT0 hU0
                      go_wp2_with fail
                      go_ret
                      exact ⟨rfl, Hbv.out⟩
                    · obtain ⟨eT, eU, eS, h6S, h6T, h6U⟩ := (Hsaid.out He.out Hf.out Hg.out).2.2.2 hT0 hU0
                      have t0 : (T.k == 0) = false := by simp [hT0]
                      have u0 : (U.k == 0) = false := by simp [hU0]
                      have H6T := Lib.hid h6T
                      have H6U := Lib.hid h6U
                      have H6S := Lib.hid h6S
                      have Had : Hid (addR T U = (S, true)) := Lib.hid (by rw [eT, eU, eS]; exact addR_iv h6S)
                      clear hT0 hU0 eT eU eS h6S h6T h6U
                      go_wp2_with fail
                      refine (r1add_c T U _ H6T.out H6U.out).mono ?_
                      rw [Had.out]
                      rintro en v2 ⟨rfl, hb2⟩
                      have Z2 := Lib.hid (ZS.out.after hb2 ZS.out.lt)
                      have Hb2 := Lib.hid (below_via Hbv.out hb2)
                      clear hb2 cN0 cN1 cN2 lN cX0 cX1 cX2 lX cY0 cY1 cY2 lY cS0 cS1 cS2 lS cT0 cT1 cT2 lT cU0 cU1 cU2 lU
                      have d0 := Z2.out.cell 0
                      have d1 := Z2.out.cell 1
                      have d2 := Z2.out.cell 2
                      have l2 := Z2.out.lt
                      have ss : (⟨S.k, S.n, S.s⟩ : Val).eq ⟨S.k, S.n, S.s⟩ = true := Val.eq_self _
                      go_wp2_with fail
                      go_ret
                      exact ⟨rfl, below_via Hb2.out (below_one _ _)⟩
                · have zg : (g != 0) = true := by simp [hg]
                  clear hg
                  go_wp2_with fail
                  go_ret
                  exact ⟨rfl, Hbv.out⟩
              · have zf : (f != 0) = true := by simp [hf]
                clear hf
                go_wp2_with fail
                go_ret
                exact ⟨rfl, Hbv.out⟩
            · have ze : (e != 0) = true := by simp [he]
              clear he
              go_wp2_with fail
              go_ret
              exact ⟨rfl, Hbv.out⟩
          · have h1C : (rC != 0) = true := by simp [h0]
            clear h0
            go_wp2_with fail
            refine (rright_c C q cc es _ HCv.out (by omega)).mono ?_
            rw [HrC.out]
            rintro en v2 ⟨rfl, hb2⟩
            have Hb2 := Lib.hid (below_via Hbv.out hb2)
            clear hb2
            go_wp2_with fail
            go_ret
            exact ⟨rfl, Hb2.out⟩
        · have h1B : (rB != 0) = true := by simp [h0]
          clear h0
          go_wp2_with fail
          refine (gfixed_c _ (HGl.out.after Hb.out)).mono ?_
          rintro e wz ⟨rfl, hb⟩
          have HF := Lib.hid (below_via Hb.out hb)
          clear hb Hb
          go_wp2_with fail
          go_ret
          exact ⟨rfl, HF.out⟩
      · have h1A : (rA != 0) = true := by simp [h0]
        clear h0
        go_wp2_with fail
        refine (gfixed_c _ (HGl.out.after Hb.out)).mono ?_
        rintro e wz ⟨rfl, hb⟩
        have HF := Lib.hid (below_via Hb.out hb)
        clear hb Hb
        go_wp2_with fail
        go_ret
        exact ⟨rfl, HF.out⟩
end Go.Proofs.YtldaoepemofhlaaGreatDoor
