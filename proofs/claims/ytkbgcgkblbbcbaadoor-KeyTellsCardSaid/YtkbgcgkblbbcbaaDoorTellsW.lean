/-
  The bytes of any values, what any bytes are, and how two lists compare, is as the document says: the law KeyTells, walked.
-/
import Derived.Test.YtkbgcgkblbbcbaaDoorRDec
namespace Go.Proofs.YtkbgcgkblbbcbaaDoor
open Go Go.RowKit


set_option maxHeartbeats 8000000 in
theorem tells_c (A B : Option Addr) (n m' c d : Nat) (xs ys : List Val) (m : Int) (w : World) (hn : xs.length = n) (hm' : ys.length = m') (hn1 : n ≤ maxLen) (hm1 : m' ≤ maxLen) (hx : Sl w A xs) (hy : Sl w B ys) (zx : ∀ x ∈ xs, x.s.size ≤ maxLen) (zy : ∀ x ∈ ys, x.s.size ≤ maxLen) (ix : ∀ x ∈ xs, In64 x) (iy : ∀ x ∈ ys, In64 x) (hm : Mx w m) (s : ByteArray) (hs1 : s.size ≤ maxLen) :
    Calls Tryd.prog 3 #[.slice A n c, .slice B m' d, .string s] w fun e w' => e = .returned (.bool true) ∧ Below w.heap.size w w' := by
  have Hn := Lib.hid hn
  have Hm' := Lib.hid hm'
  have Zx := Lib.hid zx
  have Zy := Lib.hid zy
  have Ix := Lib.hid ix
  have Iy := Lib.hid iy
  clear hn hm' zx zy ix iy
  unfold maxLen at hs1
  have hb0 : Below w.heap.size w w := Below.refl _ _
  have Hx0 : Hid (Sl w A xs) := hx
  have Hy0 : Hid (Sl w B ys) := hy
  have Hm0 : Hid (Mx w m) := hm
  clear hx hy hm
  go_enter Tryd.func3, Tryd.ntmps3
  cases g1 : shortB xs
  · go_wp2_with fail
    refine (short_c A n c xs w Hn.out hn1 Hx0.out Zx.out).mono ?_
    rintro e w1 ⟨rfl, hc⟩
    rw [g1]
    have Hx1 : Hid (Sl w1 A xs) := Hx0.out.after hc
    have Hy1 : Hid (Sl w1 B ys) := Hy0.out.after hc
    have Hm1 : Hid (Mx w1 m) := Hm0.out.after hc
    have hb1 := hb0.trans (hc.mono hb0.size)
    clear hc hb0 Hx0 Hy0 Hm0
    go_wp2_with fail
    refine (fixed_c m w1 Hm1.out).mono ?_
    rintro e w2 ⟨rfl, hc⟩
    have Hx2 : Hid (Sl w2 A xs) := Hx1.out.after hc
    have Hy2 : Hid (Sl w2 B ys) := Hy1.out.after hc
    have Hm2 : Hid (Mx w2 m) := Hm1.out.after hc
    have hb2 := hb1.trans (hc.mono hb1.size)
    clear hc hb1 Hx1 Hy1 Hm1
    go_wp2
    go_ret
    exact ⟨rfl, hb2⟩
  · go_wp2_with fail
    refine (short_c A n c xs w Hn.out hn1 Hx0.out Zx.out).mono ?_
    rintro e w1 ⟨rfl, hc⟩
    rw [g1]
    have Hx1 : Hid (Sl w1 A xs) := Hx0.out.after hc
    have Hy1 : Hid (Sl w1 B ys) := Hy0.out.after hc
    have Hm1 : Hid (Mx w1 m) := Hm0.out.after hc
    have hb1 := hb0.trans (hc.mono hb0.size)
    clear hc hb0 Hx0 Hy0 Hm0
    cases g2 : shortB ys
    · go_wp2_with fail
      refine (short_c B m' d ys w1 Hm'.out hm1 Hy1.out Zy.out).mono ?_
      rintro e w2 ⟨rfl, hc⟩
      rw [g2]
      have Hx2 : Hid (Sl w2 A xs) := Hx1.out.after hc
      have Hy2 : Hid (Sl w2 B ys) := Hy1.out.after hc
      have Hm2 : Hid (Mx w2 m) := Hm1.out.after hc
      have hb2 := hb1.trans (hc.mono hb1.size)
      clear hc hb1 Hx1 Hy1 Hm1
      go_wp2_with fail
      refine (fixed_c m w2 Hm2.out).mono ?_
      rintro e w3 ⟨rfl, hc⟩
      have Hx3 : Hid (Sl w3 A xs) := Hx2.out.after hc
      have Hy3 : Hid (Sl w3 B ys) := Hy2.out.after hc
      have Hm3 : Hid (Mx w3 m) := Hm2.out.after hc
      have hb3 := hb2.trans (hc.mono hb2.size)
      clear hc hb2 Hx2 Hy2 Hm2
      go_wp2
      go_ret
      exact ⟨rfl, hb3⟩
    · go_wp2_with fail
      refine (short_c B m' d ys w1 Hm'.out hm1 Hy1.out Zy.out).mono ?_
      rintro e w2 ⟨rfl, hc⟩
      rw [g2]
      have Hx2 : Hid (Sl w2 A xs) := Hx1.out.after hc
      have Hy2 : Hid (Sl w2 B ys) := Hy1.out.after hc
      have Hm2 : Hid (Mx w2 m) := Hm1.out.after hc
      have hb2 := hb1.trans (hc.mono hb1.size)
      clear hc hb1 Hx1 Hy1 Hm1
      have L1 := Lib.hid (short_len g1)
      have L2 := Lib.hid (short_len g2)
      clear g1 g2
      by_cases hsz : s.size ≤ 2000
      · have hz2 : decide (2000 < (s.size : Int)) = false := decide_eq_false (by omega)
        obtain ⟨e1, he1⟩ : ∃ e1 : ByteArray, e1 = ⟨(encode xs).toArray⟩ := ⟨_, rfl⟩
        have E1 := Lib.hid he1
        clear he1
        obtain ⟨zs, hzs⟩ : ∃ zs, (decL s.data.toList).getD [] = zs := ⟨_, rfl⟩
        have Zs := Lib.hid hzs
        obtain ⟨ok, hok⟩ : ∃ ok, (decL s.data.toList).isSome = ok := ⟨_, rfl⟩
        have Ok := Lib.hid hok
        have E5 := Lib.hid (show s.data.toList.length = s.size from rfl)
        clear hzs hok
        go_wp2_with fail
        refine (decode_c s w2 (by omega)).mono ?_
        rintro e w3 ⟨hc, A3, n3, c3, rfl, hn3, hle3, hs3⟩
        rw [Zs.out] at hn3 hs3
        rw [Ok.out]
        have Hn3 : Hid (zs.length = n3) := hn3
        have M3 : Hid (n3 ≤ maxLen) := by rw [E5.out] at hle3; unfold maxLen; show _ ≤ _; omega
        have Hd3 : Hid (Sl w3 A3 zs) := hs3
        clear hn3 hs3 hle3
        have Hx3 : Hid (Sl w3 A xs) := Hx2.out.after hc
        have Hy3 : Hid (Sl w3 B ys) := Hy2.out.after hc
        have Hm3 : Hid (Mx w3 m) := Hm2.out.after hc
        have hb3 := hb2.trans (hc.mono hb2.size)
        clear hc hb2 Hx2 Hy2 Hm2
        go_wp2_with fail
        refine (rdecode_c s w3 (by omega)).mono ?_
        rintro e w4 ⟨hc, A4, n4, c4, rfl, hn4, hle4, hs4⟩
        rw [Zs.out] at hn4 hs4
        rw [Ok.out]
        have Hn4 : Hid (zs.length = n4) := hn4
        have M4 : Hid (n4 ≤ maxLen) := by rw [E5.out] at hle4; unfold maxLen; show _ ≤ _; omega
        have He4 : Hid (Sl w4 A4 zs) := hs4
        clear hn4 hs4 hle4
        have Hx4 : Hid (Sl w4 A xs) := Hx3.out.after hc
        have Hy4 : Hid (Sl w4 B ys) := Hy3.out.after hc
        have Hm4 : Hid (Mx w4 m) := Hm3.out.after hc
        have Hd4 : Hid (Sl w4 A3 zs) := Hd3.out.after hc
        have hb4 := hb3.trans (hc.mono hb3.size)
        clear hc hb3 Hx3 Hy3 Hm3 Hd3
        go_wp2_with fail
        refine (fixed_c m w4 Hm4.out).mono ?_
        rintro e w5 ⟨rfl, hc⟩
        have Hx5 : Hid (Sl w5 A xs) := Hx4.out.after hc
        have Hy5 : Hid (Sl w5 B ys) := Hy4.out.after hc
        have Hm5 : Hid (Mx w5 m) := Hm4.out.after hc
        have Hd5 : Hid (Sl w5 A3 zs) := Hd4.out.after hc
        have He5 : Hid (Sl w5 A4 zs) := He4.out.after hc
        have hb5 := hb4.trans (hc.mono hb4.size)
        clear hc hb4 Hx4 Hy4 Hm4 Hd4 He4
        go_wp2_with fail
        refine (encode_c A m n c xs w5 Hn.out (by have := L1.out.1; rw [Hn.out] at this; omega) Hx5.out L1.out.2 Ix.out Hm5.out).mono ?_
        rintro e w6 ⟨rfl, hc⟩
        rw [← E1.out]
        have Hx6 : Hid (Sl w6 A xs) := Hx5.out.after hc
        have Hy6 : Hid (Sl w6 B ys) := Hy5.out.after hc
        have Hm6 : Hid (Mx w6 m) := Hm5.out.after hc
        have Hd6 : Hid (Sl w6 A3 zs) := Hd5.out.after hc
        have He6 : Hid (Sl w6 A4 zs) := He5.out.after hc
        have hb6 := hb5.trans (hc.mono hb5.size)
        clear hc hb5 Hx5 Hy5 Hm5 Hd5 He5
        go_wp2_with fail
        refine (rencode_c A n c xs w6 Hn.out (by have := L1.out.1; rw [Hn.out] at this; omega) Hx6.out L1.out.2 Ix.out).mono ?_
        rintro e w7 ⟨rfl, hc⟩
        rw [← E1.out]
        have Hx7 : Hid (Sl w7 A xs) := Hx6.out.after hc
        have Hy7 : Hid (Sl w7 B ys) := Hy6.out.after hc
        have Hm7 : Hid (Mx w7 m) := Hm6.out.after hc
        have Hd7 : Hid (Sl w7 A3 zs) := Hd6.out.after hc
        have He7 : Hid (Sl w7 A4 zs) := He6.out.after hc
        have hb7 := hb6.trans (hc.mono hb6.size)
        clear hc hb6 Hx6 Hy6 Hm6 Hd6 He6
        go_wp2_with fail
        refine (compareL_c A B n m' c d xs ys w7 Hn.out Hm'.out hn1 hm1 Hx7.out Hy7.out).mono ?_
        rintro e w8 ⟨rfl, hc⟩
        have Hx8 : Hid (Sl w8 A xs) := Hx7.out.after hc
        have Hy8 : Hid (Sl w8 B ys) := Hy7.out.after hc
        have Hm8 : Hid (Mx w8 m) := Hm7.out.after hc
        have Hd8 : Hid (Sl w8 A3 zs) := Hd7.out.after hc
        have He8 : Hid (Sl w8 A4 zs) := He7.out.after hc
        have hb8 := hb7.trans (hc.mono hb7.size)
        clear hc hb7 Hx7 Hy7 Hm7 Hd7 He7
        go_wp2_with fail
        refine (rcompareL_c A B n m' c d xs ys w8 Hn.out Hm'.out hn1 hm1 Hx8.out Hy8.out).mono ?_
        rintro e w9 ⟨rfl, hc⟩
        have Hx9 : Hid (Sl w9 A xs) := Hx8.out.after hc
        have Hy9 : Hid (Sl w9 B ys) := Hy8.out.after hc
        have Hm9 : Hid (Mx w9 m) := Hm8.out.after hc
        have Hd9 : Hid (Sl w9 A3 zs) := Hd8.out.after hc
        have He9 : Hid (Sl w9 A4 zs) := He8.out.after hc
        have hb9 := hb8.trans (hc.mono hb8.size)
        clear hc hb8 Hx8 Hy8 Hm8 Hd8 He8
        go_wp2_with fail
        refine (same_c A3 A4 n3 n4 c3 c4 zs zs w9 Hn3.out Hn4.out M3.out M4.out Hd9.out He9.out).mono ?_
        rintro e w10 ⟨rfl, hc⟩
        rw [cmpL_same]
        have Hx10 : Hid (Sl w10 A xs) := Hx9.out.after hc
        have Hy10 : Hid (Sl w10 B ys) := Hy9.out.after hc
        have Hm10 : Hid (Mx w10 m) := Hm9.out.after hc
        have Hd10 : Hid (Sl w10 A3 zs) := Hd9.out.after hc
        have He10 : Hid (Sl w10 A4 zs) := He9.out.after hc
        have hb10 := hb9.trans (hc.mono hb9.size)
        clear hc hb9 Hx9 Hy9 Hm9 Hd9 He9
        go_wp2
        go_ret
        exact ⟨rfl, hb10⟩
      · have hz2 : decide (2000 < (s.size : Int)) = true := decide_eq_true (by omega)
        go_wp2_with fail
        refine (fixed_c m w2 Hm2.out).mono ?_
        rintro e w3 ⟨rfl, hc⟩
        have Hx3 : Hid (Sl w3 A xs) := Hx2.out.after hc
        have Hy3 : Hid (Sl w3 B ys) := Hy2.out.after hc
        have Hm3 : Hid (Mx w3 m) := Hm2.out.after hc
        have hb3 := hb2.trans (hc.mono hb2.size)
        clear hc hb2 Hx2 Hy2 Hm2
        go_wp2
        go_ret
        exact ⟨rfl, hb3⟩
end Go.Proofs.YtkbgcgkblbbcbaaDoor
