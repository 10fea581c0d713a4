/-
  Bytes rise just as the lists of values do: the law KeyRises, walked.
-/
import Derived.Test.YtkbgcgkblbbcbaaDoorKeyP
namespace Go.Proofs.YtkbgcgkblbbcbaaDoor
open Go Go.RowKit

theorem valid_size {x : Val} (h : Valid x) : x.s.size ≤ 1000 := by
  rcases h with ⟨_, _, h⟩ | ⟨_, _, h⟩ | ⟨_, h⟩ | ⟨_, _, h⟩
  · rw [h]; decide
  · rw [h]; decide
  · rw [h]; decide
  · exact h
theorem short_len {xs : List Val} (h : shortB xs = true) : xs.length ≤ 40 ∧ ∀ x ∈ xs, x.s.size ≤ 1000 := by
  unfold shortB at h
  simp only [Bool.and_eq_true, decide_eq_true_eq, List.all_eq_true] at h
  exact ⟨h.2, h.1⟩
theorem good_of {xs : List Val} (h : xs.all rmB = true) (hi : ∀ x ∈ xs, In64 x) : Good xs := fun x hx => ⟨valid_of x (List.all_eq_true.1 h x hx), hi x hx⟩
/-- What two texts and the order of their lists come to. -/
theorem rises_ways (xs ys : List Val) (hx : Good xs) (hy : Good ys) : ∃ (s t : ByteArray) (a b : Bool) (cc : Int), s = ⟨(encode xs).toArray⟩ ∧ t = ⟨(encode ys).toArray⟩ ∧ cmpL xs ys = cc ∧ cmpL ys xs = -cc ∧ Op.bytesLess s.toList t.toList = a ∧ (s.toList == t.toList) = b ∧
    ((cc = -1 ∧ a = true ∧ b = false) ∨ (cc = 0 ∧ a = false ∧ b = true) ∨ (cc = 1 ∧ a = false ∧ b = false)) := by
  have h := cb_encL xs ys hx hy
  refine ⟨_, _, _, _, _, rfl, rfl, rfl, cmpL_neg xs ys, rfl, rfl, ?_⟩
  rw [ByteArray.toList_eq, ByteArray.toList_eq, encode_good hx, encode_good hy]
  show _ ∨ _
  rw [cb_lt_iff, cb_eq_iff]
  show (cmpL xs ys = -1 ∧ decide (Lib.compareBytes (encL xs) (encL ys) < 0) = true ∧ decide (Lib.compareBytes (encL xs) (encL ys) = 0) = false) ∨ (cmpL xs ys = 0 ∧ decide (Lib.compareBytes (encL xs) (encL ys) < 0) = false ∧ decide (Lib.compareBytes (encL xs) (encL ys) = 0) = true) ∨ (cmpL xs ys = 1 ∧ decide (Lib.compareBytes (encL xs) (encL ys) < 0) = false ∧ decide (Lib.compareBytes (encL xs) (encL ys) = 0) = false)
  rw [h]
  rcases cmpL_range xs ys with h1 | h1 | h1 <;> rw [h1] <;> decide

set_option maxHeartbeats 4000000 in
theorem rises_c (A B : Option Addr) (n m' c d : Nat) (xs ys : List Val) (m : Int) (w : World) (hn : xs.length = n) (hm' : ys.length = m') (hn1 : n ≤ maxLen) (hm1 : m' ≤ maxLen) (hx : Sl w A xs) (hy : Sl w B ys) (zx : ∀ x ∈ xs, x.s.size ≤ maxLen) (zy : ∀ x ∈ ys, x.s.size ≤ maxLen) (ix : ∀ x ∈ xs, In64 x) (iy : ∀ x ∈ ys, In64 x) (hm : Mx w m) :
    Calls Tryd.prog 4 #[.slice A n c, .slice B m' d] w fun e w' => e = .returned (.bool true) ∧ Below w.heap.size w w' := by
  have Hn := Lib.hid hn
  have Hm' := Lib.hid hm'
  have Zx := Lib.hid zx
  have Zy := Lib.hid zy
  have Ix := Lib.hid ix
  have Iy := Lib.hid iy
  clear hn hm' zx zy ix iy
  have hb0 : Below w.heap.size w w := Below.refl _ _
  have Hx0 : Hid (Sl w A xs) := hx
  have Hy0 : Hid (Sl w B ys) := hy
  have Hm0 : Hid (Mx w m) := hm
  clear hx hy hm
  go_enter Tryd.func4, Tryd.ntmps4
  go_wp2_with fail
  refine (fixed_c m w Hm0.out).mono ?_
  rintro e w1 ⟨rfl, hc⟩
  have Hx1 : Hid (Sl w1 A xs) := Hx0.out.after hc
  have Hy1 : Hid (Sl w1 B ys) := Hy0.out.after hc
  have Hm1 : Hid (Mx w1 m) := Hm0.out.after hc
  have hb1 := hb0.trans (hc.mono hb0.size)
  clear hc hb0 Hx0 Hy0 Hm0
  cases g1 : shortB xs
  · go_wp2_with fail
    refine (short_c A n c xs w1 Hn.out hn1 Hx1.out Zx.out).mono ?_
    rintro e w2 ⟨rfl, hc⟩
    rw [g1]
    have Hx2 : Hid (Sl w2 A xs) := Hx1.out.after hc
    have Hy2 : Hid (Sl w2 B ys) := Hy1.out.after hc
    have Hm2 : Hid (Mx w2 m) := Hm1.out.after hc
    have hb2 := hb1.trans (hc.mono hb1.size)
    clear hc hb1 Hx1 Hy1 Hm1
    go_wp2_with fail
    refine (fixed_c m w2 Hm2.out).mono ?_
    rintro e w3 ⟨rfl, hc⟩
    have Hx3 : Hid (Sl w3 A xs) := Hx2.out.after hc
    have Hy3 : Hid (Sl w3 B ys) := Hy2.out.after hc
    have Hm3 : Hid (Mx w3 m) := Hm2.out.after hc
    have hb3 := hb2.trans (hc.mono hb2.size)
    clear hc hb2 Hx2 Hy2 Hm2
    go_wp2
    go_ret
    exact ⟨rfl, hb3⟩
  · go_wp2_with fail
    refine (short_c A n c xs w1 Hn.out hn1 Hx1.out Zx.out).mono ?_
    rintro e w2 ⟨rfl, hc⟩
    rw [g1]
    have Hx2 : Hid (Sl w2 A xs) := Hx1.out.after hc
    have Hy2 : Hid (Sl w2 B ys) := Hy1.out.after hc
    have Hm2 : Hid (Mx w2 m) := Hm1.out.after hc
    have hb2 := hb1.trans (hc.mono hb1.size)
    clear hc hb1 Hx1 Hy1 Hm1
    cases g2 : shortB ys
    · go_wp2_with fail
      refine (short_c B m' d ys w2 Hm'.out hm1 Hy2.out Zy.out).mono ?_
      rintro e w3 ⟨rfl, hc⟩
      rw [g2]
      have Hx3 : Hid (Sl w3 A xs) := Hx2.out.after hc
      have Hy3 : Hid (Sl w3 B ys) := Hy2.out.after hc
      have Hm3 : Hid (Mx w3 m) := Hm2.out.after hc
      have hb3 := hb2.trans (hc.mono hb2.size)
      clear hc hb2 Hx2 Hy2 Hm2
      go_wp2_with fail
      refine (fixed_c m w3 Hm3.out).mono ?_
      rintro e w4 ⟨rfl, hc⟩
      have Hx4 : Hid (Sl w4 A xs) := Hx3.out.after hc
      have Hy4 : Hid (Sl w4 B ys) := Hy3.out.after hc
      have Hm4 : Hid (Mx w4 m) := Hm3.out.after hc
      have hb4 := hb3.trans (hc.mono hb3.size)
      clear hc hb3 Hx3 Hy3 Hm3
      go_wp2
      go_ret
      exact ⟨rfl, hb4⟩
    · go_wp2_with fail
      refine (short_c B m' d ys w2 Hm'.out hm1 Hy2.out Zy.out).mono ?_
      rintro e w3 ⟨rfl, hc⟩
      rw [g2]
      have Hx3 : Hid (Sl w3 A xs) := Hx2.out.after hc
      have Hy3 : Hid (Sl w3 B ys) := Hy2.out.after hc
      have Hm3 : Hid (Mx w3 m) := Hm2.out.after hc
      have hb3 := hb2.trans (hc.mono hb2.size)
      clear hc hb2 Hx2 Hy2 Hm2
      cases g3 : xs.all rmB
      · go_wp2_with fail
        refine (rmayL_c A n c xs w3 Hn.out hn1 Hx3.out Zx.out).mono ?_
        rintro e w4 ⟨rfl, hc⟩
        rw [g3]
        have Hx4 : Hid (Sl w4 A xs) := Hx3.out.after hc
        have Hy4 : Hid (Sl w4 B ys) := Hy3.out.after hc
        have Hm4 : Hid (Mx w4 m) := Hm3.out.after hc
        have hb4 := hb3.trans (hc.mono hb3.size)
        clear hc hb3 Hx3 Hy3 Hm3
        go_wp2_with fail
        refine (fixed_c m w4 Hm4.out).mono ?_
        rintro e w5 ⟨rfl, hc⟩
        have Hx5 : Hid (Sl w5 A xs) := Hx4.out.after hc
        have Hy5 : Hid (Sl w5 B ys) := Hy4.out.after hc
        have Hm5 : Hid (Mx w5 m) := Hm4.out.after hc
        have hb5 := hb4.trans (hc.mono hb4.size)
        clear hc hb4 Hx4 Hy4 Hm4
        go_wp2
        go_ret
        exact ⟨rfl, hb5⟩
      · go_wp2_with fail
        refine (rmayL_c A n c xs w3 Hn.out hn1 Hx3.out Zx.out).mono ?_
        rintro e w4 ⟨rfl, hc⟩
        rw [g3]
        have Hx4 : Hid (Sl w4 A xs) := Hx3.out.after hc
        have Hy4 : Hid (Sl w4 B ys) := Hy3.out.after hc
        have Hm4 : Hid (Mx w4 m) := Hm3.out.after hc
        have hb4 := hb3.trans (hc.mono hb3.size)
        clear hc hb3 Hx3 Hy3 Hm3
        cases g4 : ys.all rmB
        · go_wp2_with fail
          refine (rmayL_c B m' d ys w4 Hm'.out hm1 Hy4.out Zy.out).mono ?_
          rintro e w5 ⟨rfl, hc⟩
          rw [g4]
          have Hx5 : Hid (Sl w5 A xs) := Hx4.out.after hc
          have Hy5 : Hid (Sl w5 B ys) := Hy4.out.after hc
          have Hm5 : Hid (Mx w5 m) := Hm4.out.after hc
          have hb5 := hb4.trans (hc.mono hb4.size)
          clear hc hb4 Hx4 Hy4 Hm4
          go_wp2_with fail
          refine (fixed_c m w5 Hm5.out).mono ?_
          rintro e w6 ⟨rfl, hc⟩
          have Hx6 : Hid (Sl w6 A xs) := Hx5.out.after hc
          have Hy6 : Hid (Sl w6 B ys) := Hy5.out.after hc
          have Hm6 : Hid (Mx w6 m) := Hm5.out.after hc
          have hb6 := hb5.trans (hc.mono hb5.size)
          clear hc hb5 Hx5 Hy5 Hm5
          go_wp2
          go_ret
          exact ⟨rfl, hb6⟩
        · go_wp2_with fail
          refine (rmayL_c B m' d ys w4 Hm'.out hm1 Hy4.out Zy.out).mono ?_
          rintro e w5 ⟨rfl, hc⟩
          rw [g4]
          have Hx5 : Hid (Sl w5 A xs) := Hx4.out.after hc
          have Hy5 : Hid (Sl w5 B ys) := Hy4.out.after hc
          have Hm5 : Hid (Mx w5 m) := Hm4.out.after hc
          have hb5 := hb4.trans (hc.mono hb4.size)
          clear hc hb4 Hx4 Hy4 Hm4
          obtain ⟨s, t, a, b, cc, hs, ht, hc1, hc2, ha, hbb, hw⟩ := rises_ways xs ys (good_of g3 Ix.out) (good_of g4 Iy.out)
          have Hs' := Lib.hid hs
          have Ht' := Lib.hid ht
          have Hc1 := Lib.hid hc1
          have Hc2 := Lib.hid hc2
          have L1 := Lib.hid (short_len g1)
          have L2 := Lib.hid (short_len g2)
          clear hs ht hc1 hc2 g1 g2 g3 g4
          go_wp2_with fail
          refine (encode_c A m n c xs w5 Hn.out (by have := L1.out.1; rw [Hn.out] at this; omega) Hx5.out L1.out.2 Ix.out Hm5.out).mono ?_
          rintro e w6 ⟨rfl, hc⟩
          rw [← Hs'.out]
          have Hx6 : Hid (Sl w6 A xs) := Hx5.out.after hc
          have Hy6 : Hid (Sl w6 B ys) := Hy5.out.after hc
          have Hm6 : Hid (Mx w6 m) := Hm5.out.after hc
          have hb6 := hb5.trans (hc.mono hb5.size)
          clear hc hb5 Hx5 Hy5 Hm5
          go_wp2_with fail
          refine (encode_c B m m' d ys w6 Hm'.out (by have := L2.out.1; rw [Hm'.out] at this; omega) Hy6.out L2.out.2 Iy.out Hm6.out).mono ?_
          rintro e w7 ⟨rfl, hc⟩
          rw [← Ht'.out]
          have Hx7 : Hid (Sl w7 A xs) := Hx6.out.after hc
          have Hy7 : Hid (Sl w7 B ys) := Hy6.out.after hc
          have Hm7 : Hid (Mx w7 m) := Hm6.out.after hc
          have hb7 := hb6.trans (hc.mono hb6.size)
          clear hc hb6 Hx6 Hy6 Hm6
          go_wp2_with fail
          refine (compareL_c A B n m' c d xs ys w7 Hn.out Hm'.out hn1 hm1 Hx7.out Hy7.out).mono ?_
          rintro e w8 ⟨rfl, hc⟩
          rw [Hc1.out]
          have Hx8 : Hid (Sl w8 A xs) := Hx7.out.after hc
          have Hy8 : Hid (Sl w8 B ys) := Hy7.out.after hc
          have Hm8 : Hid (Mx w8 m) := Hm7.out.after hc
          have hb8 := hb7.trans (hc.mono hb7.size)
          clear hc hb7 Hx7 Hy7 Hm7
          rcases hw with ⟨rfl, rfl, rfl⟩ | ⟨rfl, rfl, rfl⟩ | ⟨rfl, rfl, rfl⟩
          · go_wp2_with fail
            refine (compareL_c B A m' n d c ys xs w8 Hm'.out Hn.out hm1 hn1 Hy8.out Hx8.out).mono ?_
            rintro e w9 ⟨rfl, hc⟩
            rw [Hc2.out]
            have Hx9 : Hid (Sl w9 A xs) := Hx8.out.after hc
            have Hy9 : Hid (Sl w9 B ys) := Hy8.out.after hc
            have Hm9 : Hid (Mx w9 m) := Hm8.out.after hc
            have hb9 := hb8.trans (hc.mono hb8.size)
            clear hc hb8 Hx8 Hy8 Hm8
            go_wp2
            go_ret
            exact ⟨rfl, hb9⟩
          · go_wp2_with fail
            refine (compareL_c B A m' n d c ys xs w8 Hm'.out Hn.out hm1 hn1 Hy8.out Hx8.out).mono ?_
            rintro e w9 ⟨rfl, hc⟩
            rw [Hc2.out]
            have Hx9 : Hid (Sl w9 A xs) := Hx8.out.after hc
            have Hy9 : Hid (Sl w9 B ys) := Hy8.out.after hc
            have Hm9 : Hid (Mx w9 m) := Hm8.out.after hc
            have hb9 := hb8.trans (hc.mono hb8.size)
            clear hc hb8 Hx8 Hy8 Hm8
            go_wp2
            go_ret
            exact ⟨rfl, hb9⟩
          · go_wp2_with fail
            refine (compareL_c B A m' n d c ys xs w8 Hm'.out Hn.out hm1 hn1 Hy8.out Hx8.out).mono ?_
            rintro e w9 ⟨rfl, hc⟩
            rw [Hc2.out]
            have Hx9 : Hid (Sl w9 A xs) := Hx8.out.after hc
            have Hy9 : Hid (Sl w9 B ys) := Hy8.out.after hc
            have Hm9 : Hid (Mx w9 m) := Hm8.out.after hc
            have hb9 := hb8.trans (hc.mono hb8.size)
            clear hc hb8 Hx8 Hy8 Hm8
            go_wp2
            go_ret
            exact ⟨rfl, hb9⟩
end Go.Proofs.YtkbgcgkblbbcbaaDoor
