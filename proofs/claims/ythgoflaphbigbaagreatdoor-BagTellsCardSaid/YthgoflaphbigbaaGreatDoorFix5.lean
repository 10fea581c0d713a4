/-
  The calls whose answers the document fixes, of layer 5: all of them answer so, in every world. Whether a bag is low.
-/
import Derived.Test.YthgoflaphbigbaaGreatDoorM52
import Derived.Test.YthgoflaphbigbaaGreatDoorTextP5
namespace Go.Proofs.YthgoflaphbigbaaGreatDoor
open Go Go.RowKit
set_option maxRecDepth 100000

theorem rint_c (n : Int) (w : World) : Calls Tryz.prog 45 #[.int .i64 n] w fun e w' => e = .returned (iv n).v ∧ Below w.heap.size w w' := by
  go_enter Tryz.func45, Tryz.ntmps45
  go_wp2
  exact bodyPost_ret (v := (iv n).v) (by simp [results, Tryz.results45, go_sem, iv]) rfl ⟨rfl, below_one _ _⟩
/-- The row of a number. -/
structure OneSaid (w : World) (n : Int) (A : Option Addr) (c : Nat) (w' : World) : Prop where
  below : Below w.heap.size w w'
  ct : ∀ N : Int, -9223372036854775808 ≤ N → N ≤ 9223372036854775807 → Ct.In w' ⟨⟨A, 1, c, [iv n]⟩, N⟩
theorem one_c (n : Int) (w : World) (h0 : -9223372036854775808 ≤ n) (h1 : n ≤ 9223372036854775807) : Calls Tryz.prog 24 #[.int .i64 n] w fun e w' => ∃ A c, e = .returned (.slice A 1 c) ∧ OneSaid w n A c w' := by
  go_enter Tryz.func24, Tryz.ntmps24
  go_wp2_with fail
  refine (rint_c n _).mono ?_
  rintro e w1 ⟨rfl, hb1⟩
  have HF : Hid (OneSaid w n (some ⟨w1.heap.size, 0, none⟩) 1 (w1.alloc (.cells #[.int .i64 2, .int .i64 n, .string emp] 63))) := Lib.hid ⟨below_via hb1 (below_one _ _), fun N hN0 hN1 => ⟨⟨rfl, by show 1 ≤ maxLen; unfold maxLen; omega, (SlG.new vOk.len [iv n] rfl).sl⟩, fun x hx => by rw [List.mem_singleton] at hx; subst hx; exact Nat.zero_le _, fun x hx => by rw [List.mem_singleton] at hx; subst hx; exact ⟨h0, h1⟩, ⟨hN0, hN1⟩⟩⟩
  clear hb1
  go_wp2
  go_ret
  exact ⟨_, _, rfl, HF.out⟩
theorem bOkL : ElOk Tryz.prog 32 23 1 24 (.slice none 0 0) rdBh where
  under := Tryz.underlying32
  info := by kernel_rfl
  zs := rfl
  pos := by decide
  len := fun _ => rfl
  one := fun x u hu => by
    simp [rdBh] at hu
    rcases hu with rfl; rfl
def bg1 : Bg := [([iv 1], 1), ([iv 2], 2)]
def bg2 : Bg := [([iv 1], -1), ([iv 2], -2)]
theorem of_a : ofR [[iv 2], [iv 1], [iv 2]] = bg1 := by kernel_rfl
theorem rowsOk_a : rowsOkB bg1 = true := by kernel_rfl
theorem rowsOk_b : rowsOkB bg2 = false := by kernel_rfl
theorem rows_a : (rowsB bg1).length = 3 := by kernel_rfl
theorem neg_a : negR bg1 = bg2 := by kernel_rfl
theorem text_a : bagTR bg1 = [40, 49, 41, 32, 40, 50, 41, 42, 50] := by kernel_rfl
theorem text_b : bagTR bg2 = [40, 49, 41, 42, 45, 49, 32, 40, 50, 41, 42, 45, 50] := by kernel_rfl
theorem get_a : getB bg1 [iv 2] = 2 := by kernel_rfl
theorem plus_a : plusR [bg1, bg2] = [] := by kernel_rfl
theorem plus_b : plusR (([] : List Bh).map fun b => pl b.cs) = [] := by kernel_rfl
theorem may_a : mayBag bg1 = true := by kernel_rfl
theorem may_b : mayBag [([], 0)] = false := by kernel_rfl
theorem len_of_pl {cs : List Ct} {b : Bg} {w : World} {A : Option Addr} {n : Nat} (h : BgIn w A n cs) (e : pl cs = b) : n = b.length := by rw [← e, pl_len, h.len]
theorem short_of_pl {cs : List Ct} {b : Bg} {w : World} {A : Option Addr} {n : Nat} (h : BgIn w A n cs) (e : pl cs = b) (hb : ∀ x ∈ b, x.1.length ≤ 200 ∧ ∀ v ∈ x.1, v.s.size ≤ 2000) : ∀ c ∈ cs, c.h.n ≤ 200 ∧ ∀ x ∈ c.h.xs, x.s.size ≤ 2000 := fun c hc => by
  have h1 := hb (c.h.xs, c.N) (by rw [← e]; exact pl_mem hc)
  exact ⟨by rw [← (h.each c hc).hd.len]; exact h1.1, h1.2⟩
theorem short_1 : ∀ x ∈ bg1, x.1.length ≤ 200 ∧ ∀ v ∈ x.1, v.s.size ≤ 2000 := by
  intro x hx
  simp [bg1] at hx
  rcases hx with rfl | rfl <;> exact ⟨by decide, fun v hv => by rw [List.mem_singleton] at hv; subst hv; exact Nat.zero_le _⟩
theorem short_2 : ∀ x ∈ bg2, x.1.length ≤ 200 ∧ ∀ v ∈ x.1, v.s.size ≤ 2000 := by
  intro x hx
  simp [bg2] at hx
  rcases hx with rfl | rfl <;> exact ⟨by decide, fun v hv => by rw [List.mem_singleton] at hv; subst hv; exact Nat.zero_le _⟩

set_option maxHeartbeats 8000000 in
theorem fixed_c (w : World) (hG : Gl w) : Calls Tryz.prog 6 #[] w fun e w' => e = .returned (.bool true) ∧ Below w.heap.size w w' := by
  have HG := Lib.hid hG
  clear hG
  go_enter Tryz.func6, Tryz.ntmps6
  go_wp2_with fail
  refine (one_c 2 _ (by decide) (by decide)).mono ?_
  rintro e w1 ⟨A1, c1, rfl, ⟨hb, hc⟩⟩
  have Sw1 := Lib.hid (hb)
  have C1 := Lib.hid (hc 1 (by decide) (by decide))
  clear hb hc
  go_wp2_with fail
  refine (one_c 1 _ (by decide) (by decide)).mono ?_
  rintro e w2 ⟨A2, c2, rfl, ⟨hb, hc⟩⟩
  have Sw2 := Lib.hid (hb)
  have C2 := Lib.hid (hc 1 (by decide) (by decide))
  clear hb hc
  go_wp2_with fail
  refine (one_c 2 _ (by decide) (by decide)).mono ?_
  rintro e w3 ⟨A3, c3, rfl, ⟨hb, hc⟩⟩
  have Sw3 := Lib.hid (hb)
  have C3 := Lib.hid (hc 1 (by decide) (by decide))
  clear hb hc
  go_wp2_with fail
  refine (of_c (some ⟨w3.heap.size, 0, none⟩) 3 3 [⟨A1, 1, c1, [iv 2]⟩, ⟨A2, 1, c2, [iv 1]⟩, ⟨A3, 1, c3, [iv 2]⟩] _ rfl (by omega) (SlG.new hOk.len [⟨A1, 1, c1, [iv 2]⟩, ⟨A2, 1, c2, [iv 1]⟩, ⟨A3, 1, c3, [iv 2]⟩] rfl) (fun h hh => by simp only [List.mem_cons, List.not_mem_nil, or_false] at hh; rcases hh with rfl | rfl | rfl; exact C1.out.after (below_via (below_via Sw2.out Sw3.out) (below_one _ _)); exact C2.out.after (below_via Sw3.out (below_one _ _)); exact C3.out.after (below_one _ _))).mono ?_
  rintro e w4 ⟨Ab, nb, cb, bs, rfl, hb, hB, hpl⟩
  have Sw4 := Lib.hid ((below_via (below_one _ _) hb))
  have Ep : pl bs = bg1 := hpl.trans of_a
  obtain rfl : nb = 2 := len_of_pl hB Ep
  have B := Lib.hid hB
  have E := Lib.hid Ep
  clear hb hB hpl Ep
  have hcr := rows_c Ab 2 cb bs w4 B.out (by omega)
  rw [E.out, rowsOk_a] at hcr
  have Hcr := Lib.hid hcr
  clear hcr
  go_wp2_with fail
  refine (Hcr.out).mono ?_
  rintro e w5 ⟨v, rfl, ⟨hsaid, hb⟩⟩
  have Sw5 := Lib.hid (hb)
  obtain ⟨Al, nl, cl, hl, rfl, hll, _, _, _, hlx⟩ := hsaid
  have e3 : nl = 3 := by
    rw [if_pos rfl, E.out] at hlx
    have := congrArg List.length hlx
    rw [List.length_map, hll, rows_a] at this
    exact this
  subst e3
  clear hb hll hlx Hcr
  have hcna := neg_c Ab 2 cb bs w5 (B.out.after Sw5.out) (by omega)
  rw [E.out, neg_a] at hcna
  have Hcna := Lib.hid hcna
  clear hcna
  go_wp2_with fail
  refine (Hcna.out).mono ?_
  rintro e w6 ⟨Ana, nna, cna, nsa, rfl, hb, hBna, hpna⟩
  have Sw6 := Lib.hid (hb)
  obtain rfl : nna = 2 := len_of_pl hBna hpna
  have Na := Lib.hid hBna
  have Ma := Lib.hid hpna
  clear hb hBna hpna Hcna
  have hcr := rows_c Ana 2 cna nsa w6 Na.out (by omega)
  rw [Ma.out, rowsOk_b] at hcr
  have Hcr := Lib.hid hcr
  clear hcr
  go_wp2_with fail
  refine (Hcr.out).mono ?_
  rintro e w7 ⟨v2, rfl, ⟨hsaid2, hb⟩⟩
  have Sw7 := Lib.hid (hb)
  obtain ⟨Al2, nl2, cl2, hl2, rfl, hr2⟩ := hsaid2
  clear hb hr2 Hcr
  have hcta := textB_c Ab 2 cb bs w7 (B.out.after (below_via (below_via Sw5.out Sw6.out) Sw7.out)) (by omega) (short_of_pl B.out E.out short_1) (HG.out.after (below_via (below_via (below_via (below_via (below_via (below_via Sw1.out Sw2.out) Sw3.out) Sw4.out) Sw5.out) Sw6.out) Sw7.out))
  rw [E.out, text_a] at hcta
  have Hcta := Lib.hid hcta
  clear hcta
  go_wp2_with fail
  refine (Hcta.out).mono ?_
  rintro e w8 ⟨rfl, hb⟩
  have Sw8 := Lib.hid (hb)
  clear hb Hcta
  go_wp2_with fail
  refine (one_c 2 _ (by decide) (by decide)).mono ?_
  rintro e w9 ⟨A5, c5, rfl, ⟨hb, hc⟩⟩
  have Sw9 := Lib.hid (hb)
  have C5 := Lib.hid (hc 1 (by decide) (by decide))
  clear hb hc
  have hcg := get_c Ab 2 cb bs ⟨A5, 1, c5, [iv 2]⟩ w9 (B.out.after (below_via (below_via (below_via (below_via Sw5.out Sw6.out) Sw7.out) Sw8.out) Sw9.out)) C5.out.hd (by omega)
  rw [E.out] at hcg
  have hcg2 : getB bg1 (⟨A5, 1, c5, [iv 2]⟩ : Hd).xs = 2 := get_a
  rw [hcg2] at hcg
  have Hcg := Lib.hid hcg
  clear hcg hcg2
  go_wp2_with fail
  refine (Hcg.out).mono ?_
  rintro e w10 ⟨rfl, hb⟩
  have Sw10 := Lib.hid (hb)
  clear hb Hcg
  have hcnb := neg_c Ab 2 cb bs w10 (B.out.after (below_via (below_via (below_via (below_via (below_via Sw5.out Sw6.out) Sw7.out) Sw8.out) Sw9.out) Sw10.out)) (by omega)
  rw [E.out, neg_a] at hcnb
  have Hcnb := Lib.hid hcnb
  clear hcnb
  go_wp2_with fail
  refine (Hcnb.out).mono ?_
  rintro e w11 ⟨Anb, nnb, cnb, nsb, rfl, hb, hBnb, hpnb⟩
  have Sw11 := Lib.hid (hb)
  obtain rfl : nnb = 2 := len_of_pl hBnb hpnb
  have Nb := Lib.hid hBnb
  have Mb := Lib.hid hpnb
  clear hb hBnb hpnb Hcnb
  go_wp2_with fail
  have hcp := plus_c (some ⟨w11.heap.size, 0, none⟩) 2 2 [⟨Ab, 2, cb, bs⟩, ⟨Anb, 2, cnb, nsb⟩] (w11.alloc (.cells #[.slice Ab 2 cb, .slice Anb 2 cnb] 23)) rfl (by omega) (SlG.new bOkL.len [⟨Ab, 2, cb, bs⟩, ⟨Anb, 2, cnb, nsb⟩] rfl) (fun h hh => by simp only [List.mem_cons, List.not_mem_nil, or_false] at hh; rcases hh with rfl | rfl; exact B.out.after (below_via (below_via (below_via (below_via (below_via (below_via (below_via Sw5.out Sw6.out) Sw7.out) Sw8.out) Sw9.out) Sw10.out) Sw11.out) (below_one _ _)); exact Nb.out.after (below_one _ _)) (by show 2 + (2 + 0) ≤ 100000; omega)
  simp only [List.map_cons, List.map_nil, E.out, Mb.out, plus_a] at hcp
  have Hcp := Lib.hid hcp
  clear hcp
  refine (Hcp.out).mono ?_
  rintro e w12 ⟨Ap, np, cp, ps, rfl, hb, hBp, hpp⟩
  have Sw12 := Lib.hid ((below_via (below_one _ _) hb))
  obtain rfl : np = 0 := len_of_pl hBp hpp
  clear hb hBp hpp Hcp
  have hcnc := neg_c Ab 2 cb bs w12 (B.out.after (below_via (below_via (below_via (below_via (below_via (below_via (below_via Sw5.out Sw6.out) Sw7.out) Sw8.out) Sw9.out) Sw10.out) Sw11.out) Sw12.out)) (by omega)
  rw [E.out, neg_a] at hcnc
  have Hcnc := Lib.hid hcnc
  clear hcnc
  go_wp2_with fail
  refine (Hcnc.out).mono ?_
  rintro e w13 ⟨Anc, nnc, cnc, nsc, rfl, hb, hBnc, hpnc⟩
  have Sw13 := Lib.hid (hb)
  obtain rfl : nnc = 2 := len_of_pl hBnc hpnc
  have Nc := Lib.hid hBnc
  have Mc := Lib.hid hpnc
  clear hb hBnc hpnc Hcnc
  have hctb := textB_c Anc 2 cnc nsc w13 (Nc.out.after (Below.refl _ _)) (by omega) (short_of_pl Nc.out Mc.out short_2) (HG.out.after (below_via (below_via (below_via (below_via (below_via (below_via (below_via (below_via (below_via (below_via (below_via (below_via Sw1.out Sw2.out) Sw3.out) Sw4.out) Sw5.out) Sw6.out) Sw7.out) Sw8.out) Sw9.out) Sw10.out) Sw11.out) Sw12.out) Sw13.out))
  rw [Mc.out, text_b] at hctb
  have Hctb := Lib.hid hctb
  clear hctb
  go_wp2_with fail
  refine (Hctb.out).mono ?_
  rintro e w14 ⟨rfl, hb⟩
  have Sw14 := Lib.hid (hb)
  clear hb Hctb
  have hcm := mayBag_c Ab 2 cb bs w14 (B.out.after (below_via (below_via (below_via (below_via (below_via (below_via (below_via (below_via (below_via Sw5.out Sw6.out) Sw7.out) Sw8.out) Sw9.out) Sw10.out) Sw11.out) Sw12.out) Sw13.out) Sw14.out))
  rw [E.out, may_a] at hcm
  have Hcm := Lib.hid hcm
  clear hcm
  go_wp2_with fail
  refine (Hcm.out).mono ?_
  rintro e w15 ⟨rfl, hb⟩
  have Sw15 := Lib.hid (hb)
  clear hb Hcm
  go_wp2_with fail
  have hcm := mayBag_c (some ⟨w15.heap.size, 0, none⟩) 1 1 [⟨⟨none, 0, 0, []⟩, 0⟩] (w15.alloc (.cells #[.slice none 0 0, .int .i64 0] 36)) ⟨rfl, by unfold maxLen; omega, SlG.new cOk.len [⟨⟨none, 0, 0, []⟩, 0⟩] rfl, fun c hc => by rw [List.mem_singleton] at hc; subst hc; exact ⟨⟨rfl, Nat.zero_le _, .inl rfl⟩, nofun, nofun, by decide⟩⟩
  have hcm2 : mayBag (pl [⟨⟨none, 0, 0, []⟩, 0⟩]) = false := may_b
  rw [hcm2] at hcm
  have Hcm := Lib.hid hcm
  clear hcm hcm2
  refine (Hcm.out).mono ?_
  rintro e w16 ⟨rfl, hb⟩
  have Sw16 := Lib.hid ((below_via (below_one _ _) hb))
  clear hb Hcm
  have hcp := plus_c none 0 0 [] w16 rfl (by omega) (.inl rfl) nofun (by decide)
  have Hcp := Lib.hid hcp
  clear hcp
  go_wp2_with fail
  refine (Hcp.out).mono ?_
  rintro e w17 ⟨Aq, nq, cq, qs, rfl, hb, hBq, hpq⟩
  have Sw17 := Lib.hid (hb)
  obtain rfl : nq = 0 := len_of_pl (b := []) hBq (hpq.trans plus_b)
  clear hb hBq hpq Hcp
  have HF := Lib.hid (below_via (below_via (below_via (below_via (below_via (below_via (below_via (below_via (below_via (below_via (below_via (below_via (below_via (below_via (below_via (below_via Sw1.out Sw2.out) Sw3.out) Sw4.out) Sw5.out) Sw6.out) Sw7.out) Sw8.out) Sw9.out) Sw10.out) Sw11.out) Sw12.out) Sw13.out) Sw14.out) Sw15.out) Sw16.out) Sw17.out)
  clear Sw1 Sw2 Sw3 Sw4 Sw5 Sw6 Sw7 Sw8 Sw9 Sw10 Sw11 Sw12 Sw13 Sw14 Sw15 Sw16 Sw17
  go_wp2
  go_ret
  exact ⟨rfl, HF.out⟩
end Go.Proofs.YthgoflaphbigbaaGreatDoor
