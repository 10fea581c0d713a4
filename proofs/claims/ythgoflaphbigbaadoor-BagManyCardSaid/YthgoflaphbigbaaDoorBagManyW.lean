/-
  BagMany, walked: a row so many times is that often there, and comes back as many rows. Of all numbers.
-/
import Derived.Test.YthgoflaphbigbaaDoorSameP5
namespace Go.Proofs.YthgoflaphbigbaaDoor
open Go Go.RowKit
set_option maxRecDepth 100000

theorem mayR_iv (n : Int) : mayR [iv n] = true := by
  unfold mayR
  simp [mayB, iv, emp]
theorem len_both5 : ∀ (b a : Bg), (bothB a b).length ≤ a.length + b.length
  | [], a => Nat.le_refl _
  | x :: b, a => by
    have h1 := len_both5 b (addB a x.1 x.2)
    have h2 := len_add a x.1 x.2
    rw [both_cons, List.length_cons]
    omega
theorem of_many (r : List Val) (hr : mayR r = true) : ∀ k : Nat, 0 < k → ofR (List.replicate k r) = [(r, (k : Int))] := by
  intro k hk
  have hall : (List.replicate k r).all mayR = true := by
    rw [List.all_eq_true]
    intro x hx
    rw [(List.mem_replicate.1 hx).2]
    exact hr
  unfold ofR
  rw [if_pos hall]
  refine bag_ext _ _ (asc_of _) (List.pairwise_singleton _ _) (nz_of _) (fun x hx => by rw [List.mem_singleton] at hx; subst hx; show (k : Int) ≠ 0; omega) fun s => ?_
  rw [look_of, lookB, lookB]
  have : ∀ q : Nat, sumB ((List.replicate q r).map fun r => (r, 1)) s = if cmpL r s = 0 then (q : Int) else 0 := by
    intro q
    induction q with
    | zero => simp [sumB]
    | succ q ih =>
      rw [List.replicate_succ, List.map_cons, sumB, ih]
      split
      · push_cast; omega
      · rfl
  rw [this k]
theorem may_one (n : Int) (k : Nat) (h1 : 1 ≤ k) (h2 : k ≤ 100000) : mayBag [([iv n], (k : Int))] = true := by
  refine may_of (List.pairwise_singleton _ _) fun x hx => ?_
  rw [List.mem_singleton] at hx
  subst hx
  exact okC_of (by show (k : Int) ≠ 0; omega) (by show (-1000000000 : Int) ≤ k; omega) (by show (k : Int) ≤ 1000000000; omega) (mayR_iv n)
theorem rowsOk_one (n : Int) (k : Nat) (h1 : 1 ≤ k) (h2 : k ≤ 100000) : rowsOkB [([iv n], (k : Int))] = true := by
  unfold rowsOkB
  rw [may_one n k h1 h2]
  unfold okFrom totN totN
  simp only [List.all_cons, List.all_nil, Bool.and_true, Int.zero_add, Int.add_zero]
  rw [decide_eq_true (by omega), decide_eq_true (by omega)]
  rfl
theorem rows_one (n : Int) (k : Nat) : rowsB [([iv n], (k : Int))] = List.replicate k [iv n] := by
  unfold rowsB
  simp
theorem get3 (n : Int) (k : Nat) (h1 : 1 ≤ k) (h2 : k ≤ 100000) : getB (plusR [[([iv n], (k : Int))], [([iv n], (k : Int))], [([iv n], (k : Int))]]) [iv n] = 3 * (k : Int) := by
  have hm := may_one n k h1 h2
  have hs : ∀ s, sumL [[([iv n], (k : Int))], [([iv n], (k : Int))], [([iv n], (k : Int))]] s = if cmpL [iv n] s = 0 then 3 * (k : Int) else 0 := by
    intro s
    simp only [sumL, sumB]
    split <;> omega
  have hp : mayBag (plusL [[([iv n], (k : Int))], [([iv n], (k : Int))], [([iv n], (k : Int))]]) = true := by
    refine may_plus _ (fun b hb => ?_) fun s => ?_
    · simp only [List.mem_cons, List.not_mem_nil, or_false, or_self] at hb
      subst hb
      exact hm
    · rw [hs s]
      split <;> omega
  rw [plusR_of (fun b hb => by simp only [List.mem_cons, List.not_mem_nil, or_false, or_self] at hb; subst hb; exact hm) hp]
  unfold getB
  rw [if_pos hp, look_plus, hs, if_pos (cmpL_same _)]
theorem plus_len3 (n : Int) (k : Nat) : (plusR [[([iv n], (k : Int))], [([iv n], (k : Int))], [([iv n], (k : Int))]]).length ≤ 3 := by
  unfold plusR
  split
  · unfold plusL
    simp only [List.foldl_cons, List.foldl_nil]
    have h1 := len_both5 [([iv n], (k : Int))] []
    have h2 := len_both5 [([iv n], (k : Int))] (bothB [] [([iv n], (k : Int))])
    have h3 := len_both5 [([iv n], (k : Int))] (bothB (bothB [] [([iv n], (k : Int))]) [([iv n], (k : Int))])
    simp only [List.length_cons, List.length_nil] at h1 h2 h3
    omega
  · exact Nat.zero_le _
set_option maxHeartbeats 8000000 in
theorem bagMany_w (n many : Int) (w : World) (hn0 : -9223372036854775808 ≤ n) (hn1 : n ≤ 9223372036854775807) (hG : Gl w) :
    Calls Tryd.prog 7 #[.int .i64 n, .int .i64 many] w fun e w' => e = .returned (.bool true) ∧ Below w.heap.size w w' := by
  have HG := Lib.hid hG
  clear hG
  go_enter Tryd.func7, Tryd.ntmps7
  go_wp2_with fail
  refine (fixed_c w HG.out).mono ?_
  rintro e w1 ⟨rfl, hb⟩
  have Sw1 := Lib.hid (hb)
  clear hb
  by_cases hm1 : many < 1
  · go_wp2_with fail
    refine (fixed_c w1 (HG.out.after Sw1.out)).mono ?_
    rintro e w2 ⟨rfl, hb⟩
    have Sw2 := Lib.hid (hb)
    clear hb
    have HF := Lib.hid (below_via Sw1.out Sw2.out)
    clear Sw1 Sw2
    go_wp2
    go_ret
    exact ⟨rfl, HF.out⟩
  by_cases hm2 : 3000 < many
  · go_wp2_with fail
    refine (fixed_c w1 (HG.out.after Sw1.out)).mono ?_
    rintro e w2 ⟨rfl, hb⟩
    have Sw2 := Lib.hid (hb)
    clear hb
    have HF := Lib.hid (below_via Sw1.out Sw2.out)
    clear Sw1 Sw2
    go_wp2
    go_ret
    exact ⟨rfl, HF.out⟩
  obtain ⟨k, rfl⟩ : ∃ k : Nat, many = k := ⟨many.toNat, by omega⟩
  have hk1 : 1 ≤ k := by omega
  have hk2 : k ≤ 3000 := by omega
  have hd1 : decide ((k : Int) < 1) = false := decide_eq_false hm1
  have hd2 : decide (3000 < (k : Int)) = false := decide_eq_false hm2
  clear hm1 hm2
  go_wp2_with fail
  refine (one_c n _ hn0 hn1).mono ?_
  rintro e w2 ⟨Ar, cr, rfl, ⟨hb, hc⟩⟩
  have Sw2 := Lib.hid (hb)
  have C := Lib.hid (hc (k : Int) (by omega) (by omega))
  clear hb hc
  go_wp2_with fail
  have hB : BgIn (w2.alloc (.cells #[.slice Ar 1 cr, .int .i64 (k : Int)] 43)) (some ⟨w2.heap.size, 0, none⟩) 1 [⟨⟨Ar, 1, cr, [iv n]⟩, (k : Int)⟩] := ⟨rfl, by unfold maxLen; omega, SlG.new cOk.len [⟨⟨Ar, 1, cr, [iv n]⟩, (k : Int)⟩] rfl, fun c hc => by rw [List.mem_singleton] at hc; subst hc; exact C.out.after (below_one _ _)⟩
  have HB := Lib.hid hB
  have hcr := rows_c (some ⟨w2.heap.size, 0, none⟩) 1 1 [⟨⟨Ar, 1, cr, [iv n]⟩, (k : Int)⟩] _ hB (by omega)
  have epl : pl [(⟨⟨Ar, 1, cr, [iv n]⟩, (k : Int)⟩ : Ct)] = [([iv n], (k : Int))] := rfl
  have Epl := Lib.hid epl
  rw [epl, rowsOk_one n k hk1 (by omega)] at hcr
  have Hcr := Lib.hid hcr
  clear hcr hB epl
  refine (Hcr.out).mono ?_
  rintro e w3 ⟨v, rfl, ⟨hsaid, hb⟩⟩
  have Sw3 := Lib.hid ((below_via (below_one _ _) hb))
  obtain ⟨Al, nl, cl, hl, rfl, hll, _, hsl, hin, hlx⟩ := hsaid
  rw [if_pos rfl, Epl.out, rows_one] at hlx
  have e3 : nl = k := by
    have := congrArg List.length hlx
    rw [List.length_map, hll, List.length_replicate] at this
    exact this
  subst e3
  have HLl := Lib.hid hll
  have HLs := Lib.hid hsl
  have HLi := Lib.hid hin
  have HLx := Lib.hid hlx
  clear hll hsl hin hlx Hcr
  have hb3 : Hid (Below (w2.alloc (.cells #[.slice Ar 1 cr, .int .i64 (nl : Int)] 43)).heap.size (w2.alloc (.cells #[.slice Ar 1 cr, .int .i64 (nl : Int)] 43)) w3) := Lib.hid hb
  clear hb
  go_wp2_with fail
  refine (of_c Al nl cl hl w3 HLl.out (by omega) HLs.out HLi.out).mono ?_
  rintro e w4 ⟨A1, n1, c1, cs1, rfl, hb, hB1, hpl⟩
  have Sw4 := Lib.hid (hb)
  have B1 := Lib.hid hB1
  have P1 := Lib.hid (hpl.trans (by rw [HLx.out, of_many _ (mayR_iv n) nl (by omega)]))
  clear hb hB1 hpl
  have hcs := sameB_c A1 (some ⟨w2.heap.size, 0, none⟩) n1 1 c1 1 cs1 [⟨⟨Ar, 1, cr, [iv n]⟩, (nl : Int)⟩] w4 B1.out (HB.out.after (below_via hb3.out Sw4.out))
  rw [P1.out, Epl.out, sameB_self] at hcs
  have Hcs := Lib.hid hcs
  clear hcs
  go_wp2_with fail
  refine (Hcs.out).mono ?_
  rintro e w5 ⟨rfl, hb⟩
  have Sw5 := Lib.hid (hb)
  clear hb Hcs
  go_wp2_with fail
  have hcp := plus_c (some ⟨w5.heap.size, 0, none⟩) 3 3 [⟨some ⟨w2.heap.size, 0, none⟩, 1, 1, [⟨⟨Ar, 1, cr, [iv n]⟩, (nl : Int)⟩]⟩, ⟨some ⟨w2.heap.size, 0, none⟩, 1, 1, [⟨⟨Ar, 1, cr, [iv n]⟩, (nl : Int)⟩]⟩, ⟨some ⟨w2.heap.size, 0, none⟩, 1, 1, [⟨⟨Ar, 1, cr, [iv n]⟩, (nl : Int)⟩]⟩] (w5.alloc (.cells #[.slice (some ⟨w2.heap.size, 0, none⟩) 1 1, .slice (some ⟨w2.heap.size, 0, none⟩) 1 1, .slice (some ⟨w2.heap.size, 0, none⟩) 1 1] 27)) rfl (by omega) (SlG.new bOkL.len [⟨some ⟨w2.heap.size, 0, none⟩, 1, 1, [⟨⟨Ar, 1, cr, [iv n]⟩, (nl : Int)⟩]⟩, ⟨some ⟨w2.heap.size, 0, none⟩, 1, 1, [⟨⟨Ar, 1, cr, [iv n]⟩, (nl : Int)⟩]⟩, ⟨some ⟨w2.heap.size, 0, none⟩, 1, 1, [⟨⟨Ar, 1, cr, [iv n]⟩, (nl : Int)⟩]⟩] rfl) (fun h hh => by simp only [List.mem_cons, List.not_mem_nil, or_false, or_self] at hh; subst hh; exact HB.out.after (below_via hb3.out (below_via (below_via Sw4.out Sw5.out) (below_one _ _)))) (by show 1 + (1 + (1 + 0)) ≤ 100000; omega)
  simp only [List.map_cons, List.map_nil, Epl.out] at hcp
  have Hcp := Lib.hid hcp
  clear hcp
  refine (Hcp.out).mono ?_
  rintro e w6 ⟨Ap, np, cp, ps, rfl, hb, hBp, hpp⟩
  have Sw6 := Lib.hid ((below_via (below_one _ _) hb))
  have Bp := Lib.hid hBp
  have Pp := Lib.hid hpp
  clear hb hBp hpp Hcp
  go_wp2_with fail
  refine (one_c n _ hn0 hn1).mono ?_
  rintro e w7 ⟨As, cq, rfl, ⟨hb, hc⟩⟩
  have Sw7 := Lib.hid (hb)
  have C2 := Lib.hid (hc 1 (by decide) (by decide))
  clear hb hc
  have hcg := get_c Ap np cp ps ⟨As, 1, cq, [iv n]⟩ w7 (Bp.out.after Sw7.out) C2.out.hd (by have := Bp.out.max; have h5 := Bp.out.len; have h6 := congrArg List.length Pp.out; rw [pl_len, h5] at h6; have := plus_len3 n nl; omega)
  have hcg2 : getB (pl ps) (⟨As, 1, cq, [iv n]⟩ : Hd).xs = 3 * (nl : Int) := by rw [Pp.out]; exact get3 n nl hk1 (by omega)
  rw [hcg2] at hcg
  have Hcg := Lib.hid hcg
  clear hcg hcg2
  go_wp2_with fail
  refine (Hcg.out).mono ?_
  rintro e w8 ⟨rfl, hb⟩
  have Sw8 := Lib.hid (hb)
  clear hb Hcg
  have hw3 : IntKind.i64.wrap (3 * (nl : Int)) = 3 * (nl : Int) := by rw [IntKind.wrap_i64]; omega
  have HF := Lib.hid (below_via (below_via (below_via (below_via (below_via (below_via (below_via Sw1.out Sw2.out) Sw3.out) Sw4.out) Sw5.out) Sw6.out) Sw7.out) Sw8.out)
  clear Sw1 Sw2 Sw3 Sw4 Sw5 Sw6 Sw7 Sw8
  go_wp2
  go_ret
  exact ⟨rfl, HF.out⟩
end Go.Proofs.YthgoflaphbigbaaDoor
