/-
  A token, as the program reads it: of texts of at most 100000 bytes.
-/
import Derived.Test.YtmgmdkagnhmihaaDoorLexD
namespace Go.Proofs.YtmgmdkagnhmihaaDoor
open Go Go.RowKit
set_option maxRecDepth 100000

theorem run1_cells (w : World) (x : Int) (E : TypeId) : ∀ j, j < [x].length → (w.alloc (.cells #[.int .i64 x] E)).cell? ⟨w.heap.size, 0 + j, none⟩ = some (.int .i64 ([x].getD j 0)) := by
  intro j hj
  rw [Nat.zero_add, cell_new]
  match j, hj with
  | 0, _ => rfl
  | j + 1, h => simp at h
theorem tok_2 {c : UInt8} {r : List UInt8} (h : cls c = 2) : tokL (c :: r) = some (wrdT ((c :: r).takeWhile inn), (c :: r).dropWhile inn) := by rw [tokL, if_pos h]
theorem tok_3 {c : UInt8} {r : List UInt8} (h : cls c = 3) : tokL (c :: r) = (numT ((c :: r).takeWhile dig)).map fun t => (t, (c :: r).dropWhile dig) := by rw [tokL, if_neg (by omega), if_pos h]
theorem tok_5 {c : UInt8} {r : List UInt8} (h : cls c = 5) : tokL (c :: r) = (quoF false r).map fun p => (strT p.1, p.2) := by rw [tokL, if_neg (by omega), if_neg (by omega), if_pos h]
theorem tok_6 {c : UInt8} {r : List UInt8} (h : cls c = 6) : tokL (c :: r) = if r.takeWhile dig = [] then some (sgnT [c], r) else (numT (c :: r.takeWhile dig)).map fun t => (t, r.dropWhile dig) := by rw [tokL, if_neg (by omega), if_neg (by omega), if_neg (by omega), if_pos h]
theorem tok_7 {c : UInt8} {r : List UInt8} (h : cls c = 7) : tokL (c :: r) = some (sgnT [c], r) := by rw [tokL, if_neg (by omega), if_neg (by omega), if_neg (by omega), if_neg (by omega), if_pos h]
theorem tok_0 {c : UInt8} {r : List UInt8} (h2 : cls c ≠ 2) (h3 : cls c ≠ 3) (h5 : cls c ≠ 5) (h6 : cls c ≠ 6) (h7 : cls c ≠ 7) : tokL (c :: r) = none := by rw [tokL, if_neg h2, if_neg h3, if_neg h5, if_neg h6, if_neg h7]
set_option maxHeartbeats 4000000 in
theorem token_c (b : Nat) (c : UInt8) (r : List UInt8) (w : World) (hR : Rd w b (c :: r)) (hl : r.length ≤ 50000) (hG : GL w) (hGb : GLt b) :
    Calls Tryd.prog 19 #[.pointer (some ⟨b, 0, none⟩)] w fun e w' => ∃ v q, e = .returned v ∧ OutT (tokL (c :: r)) v q ∧ Stp w w' b q := by
  obtain ⟨Out, hOut⟩ : ∃ Out : Value → List UInt8 → Prop, OutT (tokL (c :: r)) = Out := ⟨_, rfl⟩
  rw [hOut]
  have HO := Lib.hid hOut
  have hbw := hR.lt
  have HR := Lib.hid hR
  have HG := Lib.hid hG
  have Hg : Hid ((ba (c :: r))[0]'(by show 0 < (c :: r).toArray.size; simp) = c) := rfl
  have r0 := hR.cell
  clear hR hOut hG
  go_enter Tryd.func19, Tryd.ntmps19
  go_wp2_with fail
  refine (cls_c _ _).mono ?_
  rintro e w0 ⟨rfl, rfl⟩
  rw [Hg.out]
  have hS0 : Stp w (w.alloc tk0.obj) b (c :: r) := (Stp.refl HR.out).alloc _
  have HS0 := Lib.hid hS0
  have HB0 := Lib.hid (Bt.new w tk0)
  have HG0 := Lib.hid (HG.out.after (below_one w tk0.obj))
  clear hS0 Hg r0
  obtain ⟨W, hW⟩ : ∃ W, w.alloc (.cells #[.int .i64 0, .string ⟨#[]⟩, .int .i64 0, .int .i64 0, .string ⟨#[]⟩] 35) = W := ⟨_, rfl⟩
  have hWs : w.heap.size < W.heap.size := by rw [← hW]; simp
  have hW2 : w.alloc tk0.obj = W := hW
  rw [hW]
  rw [hW2] at HS0 HB0 HG0
  clear hW hW2
  by_cases h2 : cls c = 2
  · rw [h2]
    go_wp2_with fail
    refine (word_c b (c :: r) W HS0.out.rd (by simp; omega)).mono ?_
    rintro e w1 ⟨rfl, hS1⟩
    have HB1 := Lib.hid (hS1.bt HB0.out (by omega))
    have HS1 := Lib.hid (HS0.out.trans hS1)
    obtain ⟨c0, c1, c2, c3, c4, f0, f1, f2, f3, f4, hlt⟩ := HB1.out.all
    have Ht := Lib.hid (tok_2 (r := r) h2)
    clear hS1 h2
    obtain ⟨T, hT⟩ : ∃ T, (c :: r).takeWhile inn = T := ⟨_, rfl⟩
    rw [hT] at Ht ⊢
    clear hT
    go_wp2
    refine ret_tok (a := wrdT T) (z := .bool true) Tryd.results19 rfl rfl (HB1.out.put (wrdT T)) rfl ⟨_, _, rfl, ?_, HS1.out.put (Nat.le_refl _) (by omega) (wrdT T)⟩
    rw [← HO.out, Ht.out]
    exact ⟨rfl, rfl⟩
  by_cases h3 : cls c = 3
  · rw [h3]
    go_wp2_with fail
    refine (run_c b _ _ _ [3] (c :: r) _ (HS0.out.rd.alloc _) rfl (by decide) (run1_cells W 3 _) (by simp; omega)).mono ?_
    rintro e w1 ⟨rfl, hw1⟩
    have hS1 : Stp W w1 b ((c :: r).dropWhile dig) := by rw [hw1]; exact ((Stp.refl HS0.out.rd).alloc _).set _
    have HB1 := Lib.hid (hS1.bt HB0.out (by omega))
    have HS1 := Lib.hid (HS0.out.trans hS1)
    have HG1 := Lib.hid (HG0.out.stp hS1 HS0.out.rd hGb)
    have Ht := Lib.hid (tok_3 (r := r) h3)
    have hT5 : ((c :: r).takeWhile dig).length ≤ 1000000 := Nat.le_trans (tw_le dig (c :: r)) (by simp; omega)
    clear hS1 hw1 h2 h3
    obtain ⟨T, hT⟩ : ∃ T, (c :: r).takeWhile dig = T := ⟨_, rfl⟩
    have eT : (c :: r).takeWhile (isIn [3]) = T := hT
    rw [hT] at Ht hT5
    rw [eT]
    clear hT eT
    go_wp2_with fail
    refine (number_c T w1 hT5 HG1.out).mono ?_
    rintro e w2 ⟨rfl, hb2⟩
    have HB2 := Lib.hid (HB1.out.after hb2)
    have HS2 := Lib.hid (HS1.out.then hb2)
    obtain ⟨c0, c1, c2, c3, c4, f0, f1, f2, f3, f4, hlt⟩ := HB2.out.all
    clear hb2 HB1 HS1 HG1
    cases hN : numT T with
    | none =>
      have eN : numV T = .tuple #[tk0.val, .bool false] := by unfold numV; rw [hN]
      rw [eN]
      have HN := Lib.hid hN
      clear hN eN
      go_wp2
      refine ret_tok (a := tk0) (z := .bool false) Tryd.results19 rfl rfl (HB2.out.put tk0) rfl ⟨_, _, rfl, ?_, HS2.out.put (Nat.le_refl _) (by omega) tk0⟩
      rw [← HO.out, Ht.out, HN.out]
      rfl
    | some t =>
      have eN : numV T = .tuple #[t.val, .bool true] := by unfold numV; rw [hN]
      rw [eN]
      have HN := Lib.hid hN
      clear hN eN
      go_wp2
      refine ret_tok (a := t) (z := .bool true) Tryd.results19 rfl rfl (HB2.out.put t) rfl ⟨_, _, rfl, ?_, HS2.out.put (Nat.le_refl _) (by omega) t⟩
      rw [← HO.out, Ht.out, HN.out]
      exact ⟨rfl, rfl⟩
  by_cases h5 : cls c = 5
  · rw [h5]
    have hc39 : c = 39 := by have := byte_of (cls_5.1 h5); simpa using this
    have hrd : Rd W b (39 :: r) := by have := HS0.out.rd; rwa [hc39] at this
    have Hrd := Lib.hid hrd
    have Ht := Lib.hid (tok_5 (r := r) h5)
    clear h2 h3 h5 hrd hc39
    go_wp2_with fail
    refine (quo_c b r W Hrd.out (by omega)).mono ?_
    rintro e w1 ⟨v, q, rfl, hO, hS1⟩
    have HB1 := Lib.hid (hS1.bt HB0.out (by omega))
    have HS1 := Lib.hid (HS0.out.trans hS1)
    obtain ⟨c0, c1, c2, c3, c4, f0, f1, f2, f3, f4, hlt⟩ := HB1.out.all
    clear hS1
    rw [← Ht.out] at hO
    cases hN : tokL (c :: r) with
    | none =>
      rw [hN] at hO
      have hv : v = .tuple #[tk0.val, .bool false] := hO
      subst hv
      have HN := Lib.hid hN
      clear hN hO
      go_wp2
      refine ret_tok (a := tk0) (z := .bool false) Tryd.results19 rfl rfl (HB1.out.put tk0) rfl ⟨_, q, rfl, ?_, HS1.out.put (Nat.le_refl _) (by omega) tk0⟩
      rw [← HO.out, HN.out]
      rfl
    | some p =>
      rw [hN] at hO
      obtain ⟨hv, hq⟩ := hO
      subst hv hq
      have HN := Lib.hid hN
      obtain ⟨t, q⟩ := p
      clear hN
      go_wp2
      refine ret_tok (a := t) (z := .bool true) Tryd.results19 rfl rfl (HB1.out.put t) rfl ⟨_, q, rfl, ?_, HS1.out.put (Nat.le_refl _) (by omega) t⟩
      rw [← HO.out, HN.out]
      exact ⟨rfl, rfl⟩
  by_cases h6 : cls c = 6
  · rw [h6]
    have Ht := Lib.hid (tok_6 (r := r) h6)
    clear h2 h3 h5 h6
    go_wp2_with fail
    refine (take_c b 1 (c :: r) W HS0.out.rd (by simp) (by simp; omega)).mono ?_
    rintro e w1 ⟨rfl, hw1⟩
    have hS1 : Stp W w1 b r := by rw [hw1]; exact (Stp.refl HS0.out.rd).set r
    have HB1 := Lib.hid (hS1.bt HB0.out (by omega))
    have HS1 := Lib.hid (HS0.out.trans hS1)
    have HG1 := Lib.hid (HG0.out.stp hS1 HS0.out.rd hGb)
    have eT : (c :: r).take 1 = [c] := rfl
    rw [eT]
    clear hS1 hw1 HB0 HG0 eT
    go_wp2_with fail
    refine (run_c b _ _ _ [3] r _ (HS1.out.rd.alloc _) rfl (by decide) (run1_cells w1 3 _) (by omega)).mono ?_
    rintro e w2 ⟨rfl, hw2⟩
    have hS2 : Stp w1 w2 b (r.dropWhile dig) := by rw [hw2]; exact ((Stp.refl HS1.out.rd).alloc _).set _
    have HB2 := Lib.hid (hS2.bt HB1.out (by omega))
    have HS2 := Lib.hid (HS1.out.trans hS2)
    have HG2 := Lib.hid (HG1.out.stp hS2 HS1.out.rd hGb)
    have hT5 : (r.takeWhile dig).length ≤ 100000 := Nat.le_trans (tw_le dig r) (by omega)
    have hTD := List.takeWhile_append_dropWhile (p := dig) (l := r)
    clear hS2 hw2 HB1 HG1 HS1
    obtain ⟨T, hT⟩ : ∃ T, r.takeWhile dig = T := ⟨_, rfl⟩
    have eT : r.takeWhile (isIn [3]) = T := hT
    rw [hT] at Ht hT5 hTD
    rw [eT]
    clear hT eT
    have HTD := Lib.hid hTD
    clear hTD
    cases T with
    | nil =>
      have hD : r.dropWhile dig = r := HTD.out
      rw [hD] at HS2
      obtain ⟨c0, c1, c2, c3, c4, f0, f1, f2, f3, f4, hlt⟩ := HB2.out.all
      clear hD HTD
      go_wp2
      refine ret_tok (a := sgnT [c]) (z := .bool true) Tryd.results19 rfl rfl (HB2.out.put (sgnT [c])) rfl ⟨_, r, rfl, ?_, HS2.out.put (Nat.le_refl _) (by omega) (sgnT [c])⟩
      rw [← HO.out, Ht.out]
      first | rw [if_pos rfl] | rw [if_pos trivial]
      exact ⟨rfl, rfl⟩
    | cons d T =>
      have ecat : ∀ w, (Op.stringOp .add (ba [c]) (ba (d :: T))).run Tryd.prog w = .ok (.string (ba (c :: d :: T))) w := fun w => cat_run w [c] (d :: T) (by simp only [List.length_cons, List.length_nil] at hT5 ⊢; omega)
      have hl2 : (c :: d :: T).length ≤ 1000000 := by simp only [List.length_cons] at hT5 ⊢; omega
      clear HTD hT5
      have Hl2 := Lib.hid hl2
      clear hl2
      go_wp2_with fail
      refine (number_c (c :: d :: T) w2 Hl2.out HG2.out).mono ?_
      rintro e w3 ⟨rfl, hb3⟩
      have HB3 := Lib.hid (HB2.out.after hb3)
      have HS3 := Lib.hid (HS2.out.then hb3)
      obtain ⟨c0, c1, c2, c3, c4, f0, f1, f2, f3, f4, hlt⟩ := HB3.out.all
      clear hb3 HB2 HS2 HG2 ecat
      cases hN : numT (c :: d :: T) with
      | none =>
        have eN : numV (c :: d :: T) = .tuple #[tk0.val, .bool false] := by unfold numV; rw [hN]
        rw [eN]
        have HN := Lib.hid hN
        clear hN eN
        go_wp2
        refine ret_tok (a := tk0) (z := .bool false) Tryd.results19 rfl rfl (HB3.out.put tk0) rfl ⟨_, _, rfl, ?_, HS3.out.put (Nat.le_refl _) (by omega) tk0⟩
        rw [← HO.out, Ht.out, if_neg (by simp), HN.out]
        rfl
      | some t =>
        have eN : numV (c :: d :: T) = .tuple #[t.val, .bool true] := by unfold numV; rw [hN]
        rw [eN]
        have HN := Lib.hid hN
        clear hN eN
        go_wp2
        refine ret_tok (a := t) (z := .bool true) Tryd.results19 rfl rfl (HB3.out.put t) rfl ⟨_, _, rfl, ?_, HS3.out.put (Nat.le_refl _) (by omega) t⟩
        rw [← HO.out, Ht.out, if_neg (by simp), HN.out]
        exact ⟨rfl, rfl⟩
  by_cases h7 : cls c = 7
  · rw [h7]
    have Ht := Lib.hid (tok_7 (r := r) h7)
    clear h2 h3 h5 h6 h7
    go_wp2_with fail
    refine (take_c b 1 (c :: r) W HS0.out.rd (by simp) (by simp; omega)).mono ?_
    rintro e w1 ⟨rfl, hw1⟩
    have hS1 : Stp W w1 b r := by rw [hw1]; exact (Stp.refl HS0.out.rd).set r
    have HB1 := Lib.hid (hS1.bt HB0.out (by omega))
    have HS1 := Lib.hid (HS0.out.trans hS1)
    have eT : (c :: r).take 1 = [c] := rfl
    rw [eT]
    obtain ⟨c0, c1, c2, c3, c4, f0, f1, f2, f3, f4, hlt⟩ := HB1.out.all
    clear hS1 hw1 HB0 HG0 eT
    go_wp2
    refine ret_tok (a := sgnT [c]) (z := .bool true) Tryd.results19 rfl rfl (HB1.out.put (sgnT [c])) rfl ⟨_, r, rfl, ?_, HS1.out.put (Nat.le_refl _) (by omega) (sgnT [c])⟩
    rw [← HO.out, Ht.out]
    exact ⟨rfl, rfl⟩
  · have Ht := Lib.hid (tok_0 (r := r) h2 h3 h5 h6 h7)
    have e2 : (cls c == 2) = false := by simpa using h2
    have e3 : (cls c == 3) = false := by simpa using h3
    have e5 : (cls c == 5) = false := by simpa using h5
    have e6 : (cls c == 6) = false := by simpa using h6
    have e7 : (cls c == 7) = false := by simpa using h7
    clear h2 h3 h5 h6 h7
    obtain ⟨c0, c1, c2, c3, c4, f0, f1, f2, f3, f4, hlt⟩ := HB0.out.all
    generalize cls c = cx at e2 e3 e5 e6 e7 ⊢
    go_wp2
    refine ret_tok (a := tk0) (z := .bool false) Tryd.results19 rfl rfl (HB0.out.put tk0) rfl ⟨_, _, rfl, ?_, HS0.out.put (Nat.le_refl _) (by omega) tk0⟩
    rw [← HO.out, Ht.out]
    rfl
end Go.Proofs.YtmgmdkagnhmihaaDoor
