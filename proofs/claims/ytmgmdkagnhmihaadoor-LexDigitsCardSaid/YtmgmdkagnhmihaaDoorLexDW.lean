/-
  The laws LexDigits and LexBlanks, walked: of any numbers, of any texts they answer true, and turn nothing that was there.
-/
import Derived.Test.YtmgmdkagnhmihaaDoorLexV
import Derived.Test.YtmgmdkagnhmihaaDoorOwnW
namespace Go.Proofs.YtmgmdkagnhmihaaDoor
open Go Go.RowKit
set_option maxRecDepth 100000

theorem lexO_le {l : List UInt8} (h : l.length ≤ 20000) : lexO l = lexL l := by unfold lexO; rw [if_pos h]
theorem may_intT (n : Int) : mayT (intT n) = true := by kernel_rfl
theorem two_nums (n m : Int) (hn : -9223372036854775808 ≤ n ∧ n ≤ 9223372036854775807) (hm : -9223372036854775808 ≤ m ∧ m ≤ 9223372036854775807) : lexO (Lib.itoa n ++ [32] ++ Lib.itoa m) = some [intT n, intT m] := by
  have h1 : lexL (Lib.itoa n) = some [intT n] := lex_txt (intT n) (may_intT n) hn
  have h2 : lexL (Lib.itoa m) = some [intT m] := lex_txt (intT m) (may_intT m) hm
  have l1 := itoa_len n hn
  have l2 := itoa_len m hm
  rw [lexO_le (by simp only [List.length_append, List.length_cons, List.length_nil]; omega), List.append_assoc]
  show lexL (Lib.itoa n ++ 32 :: Lib.itoa m) = _
  rw [lex_app _ _ _ _ (Nat.le_refl _) h1, h2]
  rfl
set_option maxHeartbeats 1000000 in
theorem digits_w (n m : Int) (w : World) (hn : -9223372036854775808 ≤ n ∧ n ≤ 9223372036854775807) (hm : -9223372036854775808 ≤ m ∧ m ≤ 9223372036854775807) (hG : GL w) :
    Calls Tryd.prog 6 #[.int .i64 n, .int .i64 m] w fun e w' => e = .returned (.bool true) ∧ Below w.heap.size w w' := by
  have HG := Lib.hid hG
  have H1 := Lib.hid (fun w => rsigned_c n w hn)
  have H2 := Lib.hid (fun w => rsigned_c m w hm)
  have H3 := Lib.hid (two_nums n m hn hm)
  have l1 := itoa_len n hn
  have l2 := itoa_len m hm
  have HL := Lib.hid (And.intro l1 l2)
  generalize hN : Lib.itoa n = N at H1 H3 HL
  generalize hM : Lib.itoa m = M at H2 H3 HL
  clear hG l1 l2 hn hm hN hM
  have ec1 : ∀ w, (Op.stringOp .add (ba N) ⟨#[32]⟩).run Tryd.prog w = .ok (.string (ba (N ++ [32]))) w := fun w => cat_run w N [32] (by have := HL.out; simp only [List.length_cons, List.length_nil]; omega)
  have ec2 : ∀ w, (Op.stringOp .add (ba (N ++ [32])) (ba M)).run Tryd.prog w = .ok (.string (ba (N ++ [32] ++ M))) w := fun w => cat_run w (N ++ [32]) M (by have := HL.out; simp only [List.length_append, List.length_cons, List.length_nil]; omega)
  have hXl : (N ++ [32] ++ M).length ≤ 20000 := by have := HL.out; simp only [List.length_append, List.length_cons, List.length_nil]; omega
  have HXl := Lib.hid hXl
  clear hXl
  generalize N ++ [32] ++ M = X at ec2 H3 HXl
  generalize N ++ [32] = Y at ec1 ec2
  go_enter Tryd.func6, Tryd.ntmps6
  go_wp2_with fail
  refine (H1.out w).mono ?_
  rintro e w1 ⟨rfl, hb1⟩
  have HB1 := Lib.hid hb1
  clear hb1
  go_wp2_with fail
  refine (H2.out w1).mono ?_
  rintro e w2 ⟨rfl, hb2⟩
  have HB2 := Lib.hid (below_via HB1.out hb2)
  clear hb2
  go_wp2_with fail
  refine (lex_c X w2 (by have := HXl.out; unfold maxLen; omega) (HG.out.after HB2.out)).mono ?_
  rintro e w3 ⟨v, k, rfl, hL, hb3⟩
  rw [H3.out] at hL
  obtain ⟨rfl, hown, _⟩ := hL
  obtain ⟨A, c, rfl, hc, hmx, hs⟩ := hown.sl tOk.len
  have e2 : [intT n, intT m].length = 2 := rfl
  rw [e2] at hc ⊢
  have HS3 := Lib.hid hs
  have HB3 := Lib.hid (below_via HB2.out hb3)
  clear hown hs hb3 e2 ec1 ec2
  go_wp2_with fail
  refine (fixed_c w3 (HG.out.after HB3.out)).mono ?_
  rintro e w4 ⟨rfl, hb4⟩
  have HS4 := Lib.hid (HS3.out.after hb4)
  have HB4 := Lib.hid (below_via HB3.out hb4)
  clear hb4 HS3
  go_wp2_with fail
  refine (rint_c n w4).mono ?_
  rintro e w5 ⟨rfl, hb5⟩
  have HS5 := Lib.hid (HS4.out.after hb5)
  have HB5 := Lib.hid (below_via HB4.out hb5)
  clear hb5 HS4
  go_wp2_with fail
  refine (rint_c m w5).mono ?_
  rintro e w6 ⟨rfl, hb6⟩
  have HS6 := Lib.hid (HS5.out.after hb6)
  have HB6 := Lib.hid (below_via HB5.out hb6)
  clear hb6 HS5
  go_wp2_with fail
  refine (tsame_c A (some ⟨w6.heap.size, 0, none⟩) 2 2 c 2 [intT n, intT m] [intT n, intT m] _ rfl rfl (by decide) (by decide) (HS6.out.alloc _) (SlG.new tOk.len [intT n, intT m] rfl)).mono ?_
  rintro e w7 ⟨rfl, hb7⟩
  rw [decide_eq_true (rfl : [intT n, intT m] = [intT n, intT m])]
  have HB7 := Lib.hid (below_via (below_al HB6.out _) hb7)
  clear hb7
  go_wp2
  go_ret
  exact ⟨rfl, HB7.out⟩
theorem blanks_two {s t : List UInt8} {a b : List Tk} (ha : lexL s = some a) (hb : lexL t = some b) : lexL ([32, 32] ++ s ++ [32] ++ t ++ [32]) = some (a ++ b) := by
  have e : [32, 32] ++ s ++ [32] ++ t ++ [32] = 32 :: 32 :: (s ++ 32 :: (t ++ 32 :: [])) := by simp
  rw [e, lex_blank (by decide), lex_blank (by decide), lex_app _ _ _ _ (Nat.le_refl _) ha, lex_app _ _ _ _ (Nat.le_refl _) hb, lex_nil]
  simp
set_option maxHeartbeats 1000000 in
theorem blanks_w (s t : List UInt8) (w : World) (hs : s.length ≤ maxLen) (ht : t.length ≤ maxLen) (hG : GL w) :
    Calls Tryd.prog 4 #[.string (ba s), .string (ba t)] w fun e w' => e = .returned (.bool true) ∧ Below w.heap.size w w' := by
  unfold maxLen at hs ht
  have HG := Lib.hid hG
  clear hG
  by_cases h1 : s.length ≤ 3000
  case neg =>
    go_enter Tryd.func4, Tryd.ntmps4
    go_wp2_with fail
    refine (fixed_c w HG.out).mono ?_
    rintro e w1 ⟨rfl, hb1⟩
    have HB1 := Lib.hid hb1
    clear hb1
    have h3 : 3000 < s.length := by omega
    go_wp2_with fail
    refine (fixed_c w1 (HG.out.after HB1.out)).mono ?_
    rintro e w2 ⟨rfl, hb2⟩
    have HB2 := Lib.hid (below_via HB1.out hb2)
    clear hb2
    go_wp2
    go_ret
    exact ⟨rfl, HB2.out⟩
  by_cases h2 : t.length ≤ 3000
  case neg =>
    go_enter Tryd.func4, Tryd.ntmps4
    go_wp2_with fail
    refine (fixed_c w HG.out).mono ?_
    rintro e w1 ⟨rfl, hb1⟩
    have HB1 := Lib.hid hb1
    clear hb1
    have h3 : 3000 < t.length := by omega
    go_wp2_with fail
    refine (fixed_c w1 (HG.out.after HB1.out)).mono ?_
    rintro e w2 ⟨rfl, hb2⟩
    have HB2 := Lib.hid (below_via HB1.out hb2)
    clear hb2
    go_wp2
    go_ret
    exact ⟨rfl, HB2.out⟩
  have ec1 : ∀ w, (Op.stringOp .add ⟨#[32, 32]⟩ (ba s)).run Tryd.prog w = .ok (.string (ba ([32, 32] ++ s))) w := fun w => cat_run w [32, 32] s (by simp only [List.length_cons, List.length_nil]; omega)
  have ec2 : ∀ w, (Op.stringOp .add (ba ([32, 32] ++ s)) ⟨#[32]⟩).run Tryd.prog w = .ok (.string (ba ([32, 32] ++ s ++ [32]))) w := fun w => cat_run w ([32, 32] ++ s) [32] (by simp only [List.length_append, List.length_cons, List.length_nil]; omega)
  have ec3 : ∀ w, (Op.stringOp .add (ba ([32, 32] ++ s ++ [32])) (ba t)).run Tryd.prog w = .ok (.string (ba ([32, 32] ++ s ++ [32] ++ t))) w := fun w => cat_run w ([32, 32] ++ s ++ [32]) t (by simp only [List.length_append, List.length_cons, List.length_nil]; omega)
  have ec4 : ∀ w, (Op.stringOp .add (ba ([32, 32] ++ s ++ [32] ++ t)) ⟨#[32]⟩).run Tryd.prog w = .ok (.string (ba ([32, 32] ++ s ++ [32] ++ t ++ [32]))) w := fun w => cat_run w ([32, 32] ++ s ++ [32] ++ t) [32] (by simp only [List.length_append, List.length_cons, List.length_nil]; omega)
  have Hl := Lib.hid (And.intro h1 h2)
  have hl5 : ([32, 32] ++ s ++ [32] ++ t ++ [32]).length ≤ 20000 := by simp only [List.length_append, List.length_cons, List.length_nil]; omega
  have Hl5 := Lib.hid hl5
  have Hbl := Lib.hid (fun a b => @blanks_two s t a b)
  clear hl5
  generalize [32, 32] ++ s ++ [32] ++ t ++ [32] = X at ec4 Hl5 Hbl
  generalize [32, 32] ++ s ++ [32] ++ t = X3 at ec3 ec4
  generalize [32, 32] ++ s ++ [32] = X2 at ec2 ec3
  generalize [32, 32] ++ s = X1 at ec1 ec2
  go_enter Tryd.func4, Tryd.ntmps4
  go_wp2_with fail
  refine (fixed_c w HG.out).mono ?_
  rintro e w1 ⟨rfl, hb1⟩
  have HB1 := Lib.hid hb1
  clear hb1
  go_wp2_with fail
  refine (lex_c s w1 (by unfold maxLen; omega) (HG.out.after HB1.out)).mono ?_
  rintro e w2 ⟨v, k, rfl, hL, hb2⟩
  rw [lexO_le (by have := Hl.out; omega)] at hL
  have HB2 := Lib.hid (below_via HB1.out hb2)
  have HLa := Lib.hid hL
  clear hL hb2
  go_wp2_with fail
  refine (lex_c t w2 (by unfold maxLen; omega) (HG.out.after HB2.out)).mono ?_
  rintro e w3 ⟨v2, k2, rfl, hL2, hb3⟩
  rw [lexO_le (by have := Hl.out; omega)] at hL2
  have HB3 := Lib.hid (below_via HB2.out hb3)
  have HLb := Lib.hid hL2
  have Hb3 := Lib.hid hb3
  clear hL2 hb3
  go_wp2_with fail
  clear ec1 ec2 ec3 ec4 h1 h2 hs ht
  refine (lex_c X w3 (by have := Hl5.out; unfold maxLen; omega) (HG.out.after HB3.out)).mono ?_
  rintro e w4 ⟨v3, k3, rfl, hL3, hb4⟩
  rw [lexO_le Hl5.out] at hL3
  have HB4 := Lib.hid (below_via HB3.out hb4)
  have HLc := Lib.hid hL3
  have Hb4 := Lib.hid hb4
  clear hL3 hb4
  cases ha : lexL s with
  | none =>
    have hLa := HLa.out
    rw [ha] at hLa
    obtain ⟨rfl, rfl⟩ := hLa
    clear HLa HLb HLc ha
    go_wp2
    go_ret
    exact ⟨rfl, HB4.out⟩
  | some a =>
    have hLa := HLa.out
    rw [ha] at hLa
    obtain ⟨rfl, hoa, _⟩ := hLa
    have Ha := Lib.hid ha
    have Hoa := Lib.hid hoa
    clear HLa ha hoa
    cases hb : lexL t with
    | none =>
      have hLb := HLb.out
      rw [hb] at hLb
      obtain ⟨rfl, rfl⟩ := hLb
      clear HLb HLc hb
      go_wp2
      go_ret
      exact ⟨rfl, HB4.out⟩
    | some b =>
      have hLb := HLb.out
      rw [hb] at hLb
      obtain ⟨rfl, hob, hbl⟩ := hLb
      have hLc := HLc.out
      rw [Hbl.out a b Ha.out hb] at hLc
      obtain ⟨rfl, hoc, hcl⟩ := hLc
      obtain ⟨A, ca, rfl, _, _, hsa⟩ := Hoa.out.sl tOk.len
      obtain ⟨B, cb, rfl, _, _, hsb⟩ := hob.sl tOk.len
      obtain ⟨C, cc, rfl, _, _, hsc⟩ := hoc.sl tOk.len
      have HSa := Lib.hid ((hsa.after Hb3.out).after Hb4.out)
      have HSb := Lib.hid (hsb.after Hb4.out)
      have HSc := Lib.hid hsc
      have Hcl := Lib.hid hcl
      rw [List.length_append] at hcl ⊢
      have hal : a.length ≤ 20000 := by omega
      have hbl2 : b.length ≤ 20000 := by omega
      have HE := Lib.hid (And.intro hal hbl2)
      obtain ⟨na, hna⟩ : ∃ n, a.length = n := ⟨_, rfl⟩
      obtain ⟨nb, hnb⟩ : ∃ n, b.length = n := ⟨_, rfl⟩
      rw [hna, hnb]
      have Hna := Lib.hid hna
      have Hnb := Lib.hid hnb
      have HO1 : Hid (OwnG (w4.alloc (.cells #[] 35)) w4.heap.size 35 5 rdT (.slice (some ⟨w4.heap.size, 0, none⟩) 0 0) []) := OwnG.made w4 w4.heap.size _ #[] 0 (Nat.le_refl _) (Nat.zero_le _) rfl
      clear HLb HLc hb hob hoc hsa hsb hsc hcl hal hbl hbl2 Hoa Ha hna hnb Hbl
      go_wp2_with (at_builtin; go_must (first
        | (refine wpList_appGW tOk (by kernel_rfl) (.tmp 54) (.tmp 55) rfl w4.heap.size _ ([] : List Tk) a A na ca rfl HO1.out rfl Hna.out (HSa.out.alloc _) (by rw [Hna.out]; have := HE.out.1; have := Hna.out; simp [maxLen]; omega) (by have := HE.out.1; simp; omega) (by simp) ?_
           intro x5 v5 hv5 hg5
           rw [List.nil_append] at hv5
           have Hb5 : Hid (Below w4.heap.size w4 v5) := Lib.hid ((below_one w4 (.cells #[] 35)).grown hg5 (by simp) (fun k hk => by cases hk; exact Nat.le_refl _))
           have HO5 := Lib.hid hv5
           have HSb5 := Lib.hid (HSb.out.after Hb5.out)
           clear hv5 hg5)
        | (refine wpList_appGW tOk (by kernel_rfl) (.tmp 56) (.tmp 57) rfl w4.heap.size _ a b B nb cb rfl HO5.out rfl Hnb.out HSb5.out (by have := HE.out; unfold maxLen; omega) (by have := HE.out; omega) Hb5.out.size ?_
           intro x6 v6 hv6 hg6
           have Hb6 : Hid (Below w4.heap.size w4 v6) := Lib.hid (Hb5.out.grown hg6 Hb5.out.size (fun k hk => (HO5.out.lt k hk).1))
           obtain ⟨A6, c6, rfl⟩ := hv6.isSlice
           have HO6 := Lib.hid hv6
           clear hv6 hg6)))
      obtain ⟨A7, c7, e7, _, _, hs6⟩ := HO6.out.sl tOk.len
      injection e7 with e7 e8 e9
      subst e7
      have H6s := Lib.hid hs6
      have HSc6 := Lib.hid (HSc.out.after Hb6.out)
      have HB6 := Lib.hid (below_via HB4.out Hb6.out)
      clear hs6 e8 e9
      refine (tsame_c C A6 (na + nb) (a.length + b.length) cc c6 (a ++ b) (a ++ b) _ (by rw [List.length_append, Hna.out, Hnb.out]) (by rw [List.length_append]) (by have := HE.out; rw [← Hna.out, ← Hnb.out]; unfold maxLen; omega) (by have := HE.out; unfold maxLen; omega) HSc6.out H6s.out).mono ?_
      rintro e w7 ⟨rfl, hb7⟩
      rw [decide_eq_true (rfl : a ++ b = a ++ b)]
      have HB7 := Lib.hid (below_via HB6.out hb7)
      clear hb7
      go_wp2
      go_ret
      exact ⟨rfl, HB7.out⟩
end Go.Proofs.YtmgmdkagnhmihaaDoor
