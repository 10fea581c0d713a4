/-
  GroupOne, walked. Of all bags of at most 9223372036854775807 rows and all aggregates.
-/
import Derived.Test.YtldaoepemofhlaaGreatDoorR05
import Derived.Test.YtldaoepemofhlaaGreatDoorR06
namespace Go.Proofs.YtldaoepemofhlaaGreatDoor
open Go Go.RowKit

theorem pick_nil (xs : List Val) : pickR xs [] = some [] := by rw [pickR]
theorem pickL_nil (b : Bg) : pickL [] b = b.map fun x => ([], x.2) := by
  unfold pickL
  induction b with
  | nil => rfl
  | cons x b ih => rw [List.filterMap_cons, pick_nil]; simp only [Option.map_some, List.map_cons]; rw [ih]
theorem inB_nil (b : Bg) : inB [] [] b = b := by
  unfold inB stayB
  rw [List.filter_eq_self.2 fun x _ => by show decide (pickR x.1 [] = some []) = true; rw [pick_nil]; exact decide_eq_true rfl]
theorem one_key : ∀ (b : Bg) (s : Int), 0 < s → (∀ x ∈ b, 0 ≤ x.2) → bothB [([], s)] (b.map fun x => (([] : List Val), x.2)) = [([], s + cntB b)]
  | [], s, _, _ => by show [([], s)] = [([], s + 0)]; rw [Int.add_zero]
  | x :: b, s, hs, h => by
    have hx := h x (by simp)
    have h1 : addB [([], s)] ([] : List Val) x.2 = [([], x.2 + s)] := by
      have e : cmpL ([] : List Val) [] = 0 := cmpL_iff.2 rfl
      rw [addB, if_neg (by rw [e]; decide), if_pos e, if_neg (by omega)]
    show bothB (addB [([], s)] ([] : List Val) x.2) (b.map fun x => (([] : List Val), x.2)) = _
    rw [h1, one_key b (x.2 + s) (by omega) fun y hy => h y (List.mem_cons_of_mem _ hy), cntB]
    rw [show x.2 + s + cntB b = s + (x.2 + cntB b) by omega]
theorem one_pick {b : Bg} (hm : mayBag b = true) (hG : GOk b) (hne : b ≠ []) : pickP [] b = [([], cntB b)] := by
  have h1 : bothB [] (pickL [] b) = [([], cntB b)] := by
    rw [pickL_nil]
    cases b with
    | nil => exact absurd rfl hne
    | cons x b =>
      have hx : 0 < x.2 := by
        have h1 := hG.1 x (by simp)
        have h2 := may_nz hm x (by simp)
        omega
      have h2 : addB [] ([] : List Val) x.2 = [([], x.2)] := by rw [addB, if_neg (by omega)]
      show bothB (addB [] ([] : List Val) x.2) (b.map fun x => (([] : List Val), x.2)) = _
      rw [h2, one_key b x.2 hx fun y hy => hG.1 y (List.mem_cons_of_mem _ hy)]
      rfl
  have hpos : 0 < cntB b := by
    cases b with
    | nil => exact absurd rfl hne
    | cons x b =>
      have h1 := hG.1 x (by simp)
      have h2 := may_nz hm x (by simp)
      have h3 := cntB_nonneg (b := b) fun y hy => hG.1 y (List.mem_cons_of_mem _ hy)
      rw [cntB]; omega
  have h2 : mayBag [(([] : List Val), cntB b)] = true := by
    rw [mayB_one]
    exact okC_of (by show cntB b ≠ 0; omega) (by show _ ≤ cntB b; omega) (by show cntB b ≤ _; have := hG.2; omega) rfl
  unfold pickP
  rw [hm, if_pos (show (true && decide (([] : List Int).length ≤ 40)) = true from rfl)]
  unfold plusR
  rw [ones_plus, h1, h2, List.all_eq_true.2 (fun l hl => ?_)]
  · rfl
  · unfold ones at hl
    obtain ⟨x, hx, rfl⟩ := List.mem_map.1 hl
    rw [pickL_nil] at hx
    obtain ⟨y, hy, rfl⟩ := List.mem_map.1 hx
    have h4 := hG.1 y hy
    have h5 := may_nz hm y hy
    obtain ⟨_, h6, h7, _⟩ := okC_parts (may_okC hm y hy)
    rw [mayB_one]
    exact okC_of h5 h6 h7 rfl
theorem one_empty (ags : List (Int × Int)) : rowsF [] true ags [] = ([], 0) := by
  have h : pickP [] [] = [] := by
    have := pickP_len [] []
    exact List.length_eq_zero_iff.1 (Nat.le_zero.1 this)
  unfold rowsF
  rw [if_pos (show refR [] = 0 from rfl), if_pos (.inr h), h]
/-- There is one group. -/
theorem one_rows {b : Bg} {ags : List (Int × Int)} (hr : refR b = 0) (hne : b ≠ []) (hl : ags.length ≤ 40) : rowsF [] true ags b = if aggsE b ags = 0 then ([(aggsV b ags, 1)], 0) else ([], aggsE b ags) := by
  obtain ⟨hm, hG⟩ := refR_ok hr
  have hp := one_pick hm hG hne
  have he : errG [] ags b [([], cntB b)] = aggsE b ags := by
    rw [errG, errG, inB_nil]
    split
    · next h => exact h.symm
    · rfl
  have hv : valG [] ags b [([], cntB b)] = [(aggsV b ags, 1)] := by
    show [(([] : List Val) ++ aggsV (inB [] [] b) ags, (1 : Int))] = _
    rw [inB_nil]
    rfl
  unfold rowsF
  rw [if_pos hr, hp, if_neg (by rintro (h | h) <;> cases h), if_neg (by simp only [List.length_nil]; omega), he, hv]
end Go.Proofs.YtldaoepemofhlaaGreatDoor

namespace Go.Proofs.YtldaoepemofhlaaGreatDoor
open Go Go.RowKit
set_option maxRecDepth 100000
attribute [local go_sem ↓] Go.wp_at_zero Go.wp_at_succ

theorem small_lenG {b : Bg} (h : smallB b = true) : b.length ≤ 60 := by
  unfold smallB at h
  rw [Bool.and_eq_true, decide_eq_true_eq] at h
  exact h.2
/-- Rows of a bag without picks. -/
theorem oneG_c {w : World} {g : Nat} {ags : List (Int × Int)} (h : SlG w (some ⟨g, 0, none⟩) 2 rdA ags) (h2 : ags.length = 2) (A : Option Addr) (n c : Nat) (cs : List Ct) (hB : BgIn w A n cs) (hn : n ≤ 10000) (hG : Gl w) :
    Calls Tryz.prog 10 #[.agg #[.string ⟨#[]⟩, .string ⟨#[]⟩, .string ⟨#[]⟩, .int .i64 0, .int .i64 0, .slice none 0 0, .slice none 0 0, .bool true, .slice (some ⟨g, 0, none⟩) 2 2], .slice A n c] w fun e w' => ∃ A' n' c' os er, e = .returned (.tuple #[.slice A' n' c', .int .i64 er]) ∧ GrpSaid w A' n' os er (rowsF [] true ags (pl cs)) w' :=
  rowsG_c (⟨emp, emp, emp, 0, 0, none, 0, 0, [], none, 0, 0, [], true, some ⟨g, 0, none⟩, 2, 2⟩ : Vq) ags A n c cs w ⟨rfl, Nat.zero_le _, trivial, nofun, rfl, Nat.zero_le _, .inl rfl⟩ h h2 (.inl (by show 2 ≤ _; omega)) hB hn hG
theorem aggF_ok {fn col : Int} {b : Bg} (h : refR b = 0) : aggF fn col b = aggR fn col b := by unfold aggF; rw [if_pos h]
/-- What the law says of one group, case by case. -/
theorem one_said {b : Bg} {fa ca fc cc f g : Int} {P Q : Val} (hr : refR b = 0) (ha : aggR fa ca b = (P, f)) (hc : aggR fc cc b = (Q, g)) :
    (b = [] → rowsF [] true [(fa, ca), (fc, cc)] b = ([], 0)) ∧ (b ≠ [] → f ≠ 0 → rowsF [] true [(fa, ca), (fc, cc)] b = ([], f)) ∧
    (b ≠ [] → f = 0 → g ≠ 0 → rowsF [] true [(fa, ca), (fc, cc)] b = ([], g)) ∧ (b ≠ [] → f = 0 → g = 0 → rowsF [] true [(fa, ca), (fc, cc)] b = ([([P, Q], 1)], 0)) := by
  have he : aggsE b [(fa, ca), (fc, cc)] = if f = 0 then (if g = 0 then 0 else g) else f := by
    rw [aggsE, aggsE, aggsE]
    simp only [ha, hc]
  have hv : aggsV b [(fa, ca), (fc, cc)] = [P, Q] := by
    unfold aggsV
    simp only [List.map_cons, List.map_nil, ha, hc]
  refine ⟨fun h => by rw [h]; exact one_empty _, fun hne hf => ?_, fun hne hf hg => ?_, fun hne hf hg => ?_⟩
  · rw [one_rows hr hne (by show 2 ≤ 40; omega), he, if_neg hf, if_neg hf]
  · rw [one_rows hr hne (by show 2 ≤ 40; omega), he, if_pos hf, if_neg hg, if_neg hg]
  · rw [one_rows hr hne (by show 2 ≤ 40; omega), he, if_pos hf, if_pos hg, if_pos rfl, hv]
set_option maxHeartbeats 8000000 in
theorem one_w (A : Option Addr) (n c : Nat) (cs : List Ct) (fa ca fc cc : Int) (w : World) (hA : BgIn w A n cs) (hG : Gl w) :
    Calls Tryz.prog 6 #[.slice A n c, .agg #[.int .i64 fa, .int .i64 ca], .agg #[.int .i64 fc, .int .i64 cc]] w fun e w' => e = .returned (.bool true) ∧ Below w.heap.size w w' := by
  have HA := Lib.hid hA
  have HGl := Lib.hid hG
  clear hA hG
  obtain ⟨V, hV⟩ : ∃ V, (w.alloc (.cells #[.int .i64 fa, .int .i64 ca] 32)).alloc (.cells #[.int .i64 fc, .int .i64 cc] 32) = V := ⟨_, rfl⟩
  have HV0 : Hid (Bf V w.heap.size #[.int .i64 fa, .int .i64 ca] 32) := Lib.hid (by rw [← hV]; exact (Bf.new w _ _).over _)
  have HV1 : Hid (Bf V (w.heap.size + 1) #[.int .i64 fc, .int .i64 cc] 32) := Lib.hid (by rw [← hV]; have := Bf.new (w.alloc (.cells #[.int .i64 fa, .int .i64 ca] 32)) #[.int .i64 fc, .int .i64 cc] 32; simpa using this)
  have HVb : Hid (Below w.heap.size w V) := Lib.hid (by rw [← hV]; exact below_two _ _ _)
  go_enter Tryz.func6, Tryz.ntmps6
  go_wp2_with fail
  clear hV
  refine (gfixed_c V (HGl.out.after HVb.out)).mono ?_
  rintro e w1 ⟨rfl, hb⟩
  have Hb := Lib.hid hb
  clear hb
  go_wp2_with fail
  refine (smallB_c A n c cs _ ((HA.out.after HVb.out).after Hb.out)).mono ?_
  rintro e w2 ⟨rfl, hb⟩
  replace Hb := Lib.hid (below_via Hb.out hb)
  clear hb
  cases hsa : smallB (pl cs)
  · clear hsa
    go_wp2_with fail
    refine (gfixed_c _ ((HGl.out.after HVb.out).after Hb.out)).mono ?_
    rintro e w3 ⟨rfl, hb⟩
    have HF := Lib.hid (below_via HVb.out (below_via Hb.out hb))
    clear hb Hb
    go_wp2_with fail
    go_ret
    exact ⟨rfl, HF.out⟩
  · have hn : n ≤ 60 := by have h1 := small_lenG hsa; rw [pl_len, HA.out.len] at h1; exact h1
    clear hsa
    go_wp2_with fail
    refine (rright_c A n c cs _ ((HA.out.after HVb.out).after Hb.out) (by omega)).mono ?_
    rintro e w3 ⟨rfl, hb⟩
    replace Hb := Lib.hid (below_via Hb.out hb)
    clear hb
    obtain ⟨r, hr⟩ : ∃ r, refR (pl cs) = r := ⟨_, rfl⟩
    have Hr := Lib.hid hr
    rw [hr]
    clear hr
    by_cases h0 : r = 0
    · have h1 : (r != 0) = false := by simp [h0]
      have H0 : Hid (refR (pl cs) = 0) := Lib.hid (by rw [Hr.out]; exact h0)
      clear h0
      have B0 := HV0.out.after Hb.out HV0.out.lt
      have B1 := HV1.out.after Hb.out HV1.out.lt
      have a0 := B0.cell 0
      have a1 := B0.cell 1
      have a2 := B1.cell 0
      have a3 := B1.cell 1
      have l0 := B0.lt
      have l1 := B1.lt
      have HB0 := Lib.hid B0
      have HB1 := Lib.hid B1
      have Hsl : Hid (SlG (w3.alloc (.cells #[.int .i64 fa, .int .i64 ca, .int .i64 fc, .int .i64 cc] 32)) (some ⟨w3.heap.size, 0, none⟩) 2 rdA [(fa, ca), (fc, cc)]) := Lib.hid (SlG.new (rd := rdA) (fun _ => rfl) [(fa, ca), (fc, cc)] rfl)
      have Hb4 : Hid (Below V.heap.size V (w3.alloc (.cells #[.int .i64 fa, .int .i64 ca, .int .i64 fc, .int .i64 cc] 32))) := Lib.hid (below_via Hb.out (below_one _ _))
      clear B0 B1
      go_wp2_with fail
      refine (oneG_c Hsl.out rfl A n c cs ((HA.out.after HVb.out).after Hb4.out) (by omega) ((HGl.out.after HVb.out).after Hb4.out)).mono ?_
      rintro e w5 ⟨A5, n5, c5, os, er, rfl, hS⟩
      have HS := Lib.hid hS
      have Hb5 := Lib.hid (below_via Hb4.out hS.below)
      have B0 := HV0.out.after Hb5.out HV0.out.lt
      clear hS a0 a1 a2 a3 l0 l1 HB0 HB1 Hsl Hb4 Hb h1
      have a0 := B0.cell 0
      have a1 := B0.cell 1
      have l0 := B0.lt
      clear B0
      go_wp2_with fail
      have hag := agg_c A n c cs fa ca w5 ((HA.out.after HVb.out).after Hb5.out) (by omega)
      rw [aggF_ok H0.out] at hag
      obtain ⟨⟨P, f⟩, hP⟩ : ∃ R, aggR fa ca (pl cs) = R := ⟨_, rfl⟩
      rw [hP] at hag
      have HP := Lib.hid hP
      have Hag := Lib.hid hag
      clear hP hag
      refine Hag.out.mono ?_
      rintro e w6 ⟨rfl, hb6⟩
      have Hb6 := Lib.hid (below_via Hb5.out hb6)
      have HS6 := Lib.hid (HS.out.bag.after hb6)
      have B1 := HV1.out.after Hb6.out HV1.out.lt
      clear hb6 a0 a1 l0 Hag
      have a2 := B1.cell 0
      have a3 := B1.cell 1
      have l1 := B1.lt
      clear B1
      have HpB : Hid (Bf (w6.alloc (.cells #[.int .i64 P.k, .int .i64 P.n, .string P.s] 39)) w6.heap.size #[.int .i64 P.k, .int .i64 P.n, .string P.s] 39) := Lib.hid (Bf.new _ _ _)
      have Hb7 : Hid (Below V.heap.size V (w6.alloc (.cells #[.int .i64 P.k, .int .i64 P.n, .string P.s] 39))) := Lib.hid (below_via Hb6.out (below_one _ _))
      have HS7 := Lib.hid (HS6.out.after (below_one w6 (.cells #[.int .i64 P.k, .int .i64 P.n, .string P.s] 39)))
      go_wp2_with fail
      have hag := agg_c A n c cs fc cc (w6.alloc (.cells #[.int .i64 P.k, .int .i64 P.n, .string P.s] 39)) ((HA.out.after HVb.out).after Hb7.out) (by omega)
      rw [aggF_ok H0.out] at hag
      obtain ⟨⟨Q, g⟩, hQ⟩ : ∃ R, aggR fc cc (pl cs) = R := ⟨_, rfl⟩
      rw [hQ] at hag
      have HQ := Lib.hid hQ
      have Hag := Lib.hid hag
      clear hQ hag
      refine Hag.out.mono ?_
      rintro e w8 ⟨rfl, hb8⟩
      have Hb8 := Lib.hid (below_via Hb7.out hb8)
      have HS8 := Lib.hid (HS7.out.after hb8)
      have Hp8 := Lib.hid (HpB.out.after hb8 HpB.out.lt)
      have HsaidO := Lib.hid (one_said H0.out HP.out HQ.out)
      have HokP : Hid (Okv P) := Lib.hid (by
        have := okv_agg (refR_ok H0.out).2 (fun x hx v hv => ?_) fa ca
        · rw [HP.out] at this; exact this
        · obtain ⟨z, hz, rfl⟩ := List.mem_map.1 hx
          exact ⟨(HA.out.each z hz).sz v hv, (HA.out.each z hz).n64 v hv⟩)
      have HokQ : Hid (Okv Q) := Lib.hid (by
        have := okv_agg (refR_ok H0.out).2 (fun x hx v hv => ?_) fc cc
        · rw [HQ.out] at this; exact this
        · obtain ⟨z, hz, rfl⟩ := List.mem_map.1 hx
          exact ⟨(HA.out.each z hz).sz v hv, (HA.out.each z hz).n64 v hv⟩)
      obtain ⟨pb, hpb⟩ : ∃ pb, w6.heap.size = pb := ⟨_, rfl⟩
      rw [hpb] at Hp8 ⊢
      clear hb8 a2 a3 l1 Hag Hb5 Hb6 Hb7 HS6 HS7 HpB hpb
      obtain ⟨U, hU⟩ : ∃ U, w8.alloc (.cells #[.int .i64 Q.k, .int .i64 Q.n, .string Q.s] 39) = U := ⟨_, rfl⟩
      have HqU : Hid (Bf U w8.heap.size #[.int .i64 Q.k, .int .i64 Q.n, .string Q.s] 39) := Lib.hid (by rw [← hU]; exact Bf.new _ _ _)
      have HpU : Hid (Bf U pb #[.int .i64 P.k, .int .i64 P.n, .string P.s] 39) := Lib.hid (by rw [← hU]; exact Hp8.out.over _)
      have HbU : Hid (Below V.heap.size V U) := Lib.hid (by rw [← hU]; exact below_via Hb8.out (below_one _ _))
      have HSU : Hid (BgIn U A5 n5 os) := Lib.hid (by rw [← hU]; exact HS8.out.after (below_one _ _))
      have Her : Hid (er = (rowsF [] true [(fa, ca), (fc, cc)] (pl cs)).2 ∧ pl os = (rowsF [] true [(fa, ca), (fc, cc)] (pl cs)).1) := Lib.hid ⟨HS.out.er2, HS.out.said⟩
      have HFU : Hid (Below w.heap.size w U) := Lib.hid (below_via HVb.out HbU.out)
      obtain ⟨qb, hqb⟩ : ∃ qb, w8.heap.size = qb := ⟨_, rfl⟩
      rw [hqb] at HqU
      clear HS HS8 Hp8 Hb8 HP HQ
      have hn5 : os.length = n5 := HSU.out.len
      by_cases hn0 : n = 0
      · subst hn0
        have hcs : pl cs = [] := by rw [List.length_eq_zero_iff.1 HA.out.len]; rfl
        have h6 := Her.out
        rw [HsaidO.out.1 hcs] at h6
        obtain ⟨rfl, h7⟩ := h6
        obtain rfl : n5 = 0 := by rw [← hn5, ← pl_len, h7]; rfl
        clear h7 hcs hn5
        go_wp2_with fail
        go_ret
        exact ⟨rfl, HFU.out⟩
      · have hcs : pl cs ≠ [] := fun h => hn0 (by rw [← HA.out.len, ← pl_len, h]; rfl)
        have hn1 : ((n : Int) == 0) = false := by simp; omega
        by_cases hf : f = 0
        · by_cases hg : g = 0
          · have h6 := Her.out
            rw [HsaidO.out.2.2.2 hcs hf hg] at h6
            obtain ⟨rfl, h7⟩ := h6
            have H7 := Lib.hid h7
            subst hf hg
            have p0 := HpU.out.cell 0
            have p1 := HpU.out.cell 1
            have p2 := HpU.out.cell 2
            have q0 := HqU.out.cell 0
            have q1 := HqU.out.cell 1
            have q2 := HqU.out.cell 2
            have lp := HpU.out.lt
            have lq := HqU.out.lt
            clear h7 hcs hn5 hn0
            have HX : Hid (BgIn ((U.alloc (.cells #[.int .i64 P.k, .int .i64 P.n, .string P.s, .int .i64 Q.k, .int .i64 Q.n, .string Q.s] 39)).alloc (.cells #[.slice (some ⟨U.heap.size, 0, none⟩) 2 2, .int .i64 1] 49)) (some ⟨U.heap.size + 1, 0, none⟩) 1 [⟨⟨some ⟨U.heap.size, 0, none⟩, 2, 2, [P, Q]⟩, 1⟩]) := Lib.hid (by
              refine ⟨rfl, by unfold maxLen; omega, SlG.newAt (by simp) cOk.len [⟨⟨some ⟨U.heap.size, 0, none⟩, 2, 2, [P, Q]⟩, 1⟩] rfl, fun z hz => ?_⟩
              rw [List.mem_singleton] at hz
              subst hz
              exact (ct2_in (row2_in U P Q) HokP.out HokQ.out).after (below_one _ _))
            have hsm := sameB_c A5 (some ⟨U.heap.size + 1, 0, none⟩) n5 1 c5 1 os [⟨⟨some ⟨U.heap.size, 0, none⟩, 2, 2, [P, Q]⟩, 1⟩] ((U.alloc (.cells #[.int .i64 P.k, .int .i64 P.n, .string P.s, .int .i64 Q.k, .int .i64 Q.n, .string Q.s] 39)).alloc (.cells #[.slice (some ⟨U.heap.size, 0, none⟩) 2 2, .int .i64 1] 49)) (HSU.out.after (below_two _ _ _)) HX.out
            rw [H7.out, show pl [(⟨⟨some ⟨U.heap.size, 0, none⟩, 2, 2, [P, Q]⟩, 1⟩ : Ct)] = [([P, Q], 1)] from rfl, sameB_self] at hsm
            have Hsm := Lib.hid hsm
            have HF2 : Hid (Below w.heap.size w ((U.alloc (.cells #[.int .i64 P.k, .int .i64 P.n, .string P.s, .int .i64 Q.k, .int .i64 Q.n, .string Q.s] 39)).alloc (.cells #[.slice (some ⟨U.heap.size, 0, none⟩) 2 2, .int .i64 1] 49))) := Lib.hid (below_via HFU.out (below_two _ _ _))
            clear hsm
            go_wp2_with fail
            refine Hsm.out.mono ?_
            rintro e w9 ⟨rfl, hb9⟩
            have HF3 := Lib.hid (below_via HF2.out hb9)
            clear hb9
            go_wp2_with fail
            go_ret
            exact ⟨rfl, HF3.out⟩
          · have h6 := Her.out
            rw [HsaidO.out.2.2.1 hcs hf hg] at h6
            obtain ⟨rfl, h7⟩ := h6
            obtain rfl : n5 = 0 := by rw [← hn5, ← pl_len, h7]; rfl
            have hg1 : (er != 0) = true := by simp [hg]
            subst hf
            clear h7 hcs hn5 hn0 hg
            go_wp2_with fail
            go_ret
            exact ⟨rfl, HFU.out⟩
        · have h6 := Her.out
          rw [HsaidO.out.2.1 hcs hf] at h6
          obtain ⟨rfl, h7⟩ := h6
          obtain rfl : n5 = 0 := by rw [← hn5, ← pl_len, h7]; rfl
          have hg1 : (er != 0) = true := by simp [hf]
          clear h7 hcs hn5 hn0 hf
          go_wp2_with fail
          go_ret
          exact ⟨rfl, HFU.out⟩
    · have h1 : (r != 0) = true := by simp [h0]
      clear h0
      go_wp2_with fail
      refine (gfixed_c _ ((HGl.out.after HVb.out).after Hb.out)).mono ?_
      rintro e w4 ⟨rfl, hb⟩
      have HF := Lib.hid (below_via HVb.out (below_via Hb.out hb))
      clear hb Hb
      go_wp2_with fail
      go_ret
      exact ⟨rfl, HF.out⟩
end Go.Proofs.YtldaoepemofhlaaGreatDoor
