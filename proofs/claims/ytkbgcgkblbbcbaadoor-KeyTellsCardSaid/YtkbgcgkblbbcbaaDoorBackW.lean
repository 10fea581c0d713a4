/-
  What is encoded is decoded, what is decoded is encoded to just these bytes, and two lists, one behind the other, are encoded so: the law KeyBack, walked.
-/
import Derived.Test.YtkbgcgkblbbcbaaDoorRisesW
import Derived.Test.YtkbgcgkblbbcbaaDoorApp
import Derived.Laws.Concat
namespace Go.Proofs.YtkbgcgkblbbcbaaDoor
open Go Go.RowKit

theorem cat_run2 (x y : List UInt8) (h : x.length + y.length ≤ 1000000) (w : World) : (Op.stringOp .add ⟨x.toArray⟩ ⟨y.toArray⟩).run Tryd.prog w = .ok (.string ⟨(x ++ y).toArray⟩) w := by
  rw [run_string_add_sum w ⟨x.toArray⟩ ⟨y.toArray⟩ (by show x.toArray.size + y.toArray.size ≤ _; simp; omega)]
  congr 2
theorem back_ways (xs ys : List Val) (hx : Good xs) (hy : Good ys) (lx : xs.length ≤ 40) (ly : ys.length ≤ 40) (sx : ∀ x ∈ xs, x.s.size ≤ 1000) (sy : ∀ x ∈ ys, x.s.size ≤ 1000) : ∃ e1 e2 e3 : ByteArray, e1 = ⟨(encode xs).toArray⟩ ∧ e2 = ⟨(encode ys).toArray⟩ ∧ e3 = ⟨(encode (xs ++ ys)).toArray⟩ ∧ e1.size ≤ 500000 ∧ decL e1.data.toList = some xs ∧
    ∀ w, (Op.stringOp .add e1 e2).run Tryd.prog w = .ok (.string e3) w := by
  have hxy : Good (xs ++ ys) := fun z hz => by
    rcases List.mem_append.1 hz with h | h
    · exact hx z h
    · exact hy z h
  have l1 := encL_length xs sx
  have l2 := encL_length ys sy
  refine ⟨_, _, _, rfl, rfl, rfl, ?_, ?_, ?_⟩
  · rw [encode_good hx]
    have : (⟨(encL xs).toArray⟩ : ByteArray).size = (encL xs).length := by simp [ByteArray.size]
    rw [this]; omega
  · rw [encode_good hx]
    exact decL_enc xs hx
  · intro w
    rw [encode_good hx, encode_good hy, encode_good hxy, encL_append]
    exact cat_run2 _ _ (by omega) w

set_option maxHeartbeats 8000000 in
theorem back_c (A B : Option Addr) (n m' c d : Nat) (xs ys : List Val) (m : Int) (w : World) (hn : xs.length = n) (hm' : ys.length = m') (hn1 : n ≤ maxLen) (hm1 : m' ≤ maxLen) (hx : Sl w A xs) (hy : Sl w B ys) (zx : ∀ x ∈ xs, x.s.size ≤ maxLen) (zy : ∀ x ∈ ys, x.s.size ≤ maxLen) (ix : ∀ x ∈ xs, In64 x) (iy : ∀ x ∈ ys, In64 x) (hm : Mx w m) (s : ByteArray) (hs1 : s.size ≤ maxLen) :
    Calls Tryd.prog 5 #[.slice A n c, .slice B m' d, .string s] w fun e w' => e = .returned (.bool true) ∧ Below w.heap.size w w' := by
  have Hn := Lib.hid hn
  have Hm' := Lib.hid hm'
  have Zx := Lib.hid zx
  have Zy := Lib.hid zy
  have Ix := Lib.hid ix
  have Iy := Lib.hid iy
  clear hn hm' zx zy ix iy
  unfold maxLen at hs1
  have hb0 : Below w.heap.size w w := Below.refl _ _
  have Hx0 : Hid (Sl w A xs) := hx
  have Hy0 : Hid (Sl w B ys) := hy
  have Hm0 : Hid (Mx w m) := hm
  clear hx hy hm
  go_enter Tryd.func5, Tryd.ntmps5
  go_wp2_with fail
  refine (fixed_c m w Hm0.out).mono ?_
  rintro e w1 ⟨rfl, hc⟩
  have Hx1 : Hid (Sl w1 A xs) := Hx0.out.after hc
  have Hy1 : Hid (Sl w1 B ys) := Hy0.out.after hc
  have Hm1 : Hid (Mx w1 m) := Hm0.out.after hc
  have hb1 := hb0.trans (hc.mono hb0.size)
  clear hc hb0 Hx0 Hy0 Hm0
  cases g1 : shortB xs
  · go_wp2_with fail
    refine (short_c A n c xs w1 Hn.out hn1 Hx1.out Zx.out).mono ?_
    rintro e w2 ⟨rfl, hc⟩
    rw [g1]
    have Hx2 : Hid (Sl w2 A xs) := Hx1.out.after hc
    have Hy2 : Hid (Sl w2 B ys) := Hy1.out.after hc
    have Hm2 : Hid (Mx w2 m) := Hm1.out.after hc
    have hb2 := hb1.trans (hc.mono hb1.size)
    clear hc hb1 Hx1 Hy1 Hm1
    go_wp2_with fail
    refine (fixed_c m w2 Hm2.out).mono ?_
    rintro e w3 ⟨rfl, hc⟩
    have Hx3 : Hid (Sl w3 A xs) := Hx2.out.after hc
    have Hy3 : Hid (Sl w3 B ys) := Hy2.out.after hc
    have Hm3 : Hid (Mx w3 m) := Hm2.out.after hc
    have hb3 := hb2.trans (hc.mono hb2.size)
    clear hc hb2 Hx2 Hy2 Hm2
    go_wp2
    go_ret
    exact ⟨rfl, hb3⟩
  · go_wp2_with fail
    refine (short_c A n c xs w1 Hn.out hn1 Hx1.out Zx.out).mono ?_
    rintro e w2 ⟨rfl, hc⟩
    rw [g1]
    have Hx2 : Hid (Sl w2 A xs) := Hx1.out.after hc
    have Hy2 : Hid (Sl w2 B ys) := Hy1.out.after hc
    have Hm2 : Hid (Mx w2 m) := Hm1.out.after hc
    have hb2 := hb1.trans (hc.mono hb1.size)
    clear hc hb1 Hx1 Hy1 Hm1
    cases g2 : shortB ys
    · go_wp2_with fail
      refine (short_c B m' d ys w2 Hm'.out hm1 Hy2.out Zy.out).mono ?_
      rintro e w3 ⟨rfl, hc⟩
      rw [g2]
      have Hx3 : Hid (Sl w3 A xs) := Hx2.out.after hc
      have Hy3 : Hid (Sl w3 B ys) := Hy2.out.after hc
      have Hm3 : Hid (Mx w3 m) := Hm2.out.after hc
      have hb3 := hb2.trans (hc.mono hb2.size)
      clear hc hb2 Hx2 Hy2 Hm2
      go_wp2_with fail
      refine (fixed_c m w3 Hm3.out).mono ?_
      rintro e w4 ⟨rfl, hc⟩
      have Hx4 : Hid (Sl w4 A xs) := Hx3.out.after hc
      have Hy4 : Hid (Sl w4 B ys) := Hy3.out.after hc
      have Hm4 : Hid (Mx w4 m) := Hm3.out.after hc
      have hb4 := hb3.trans (hc.mono hb3.size)
      clear hc hb3 Hx3 Hy3 Hm3
      go_wp2
      go_ret
      exact ⟨rfl, hb4⟩
    · go_wp2_with fail
      refine (short_c B m' d ys w2 Hm'.out hm1 Hy2.out Zy.out).mono ?_
      rintro e w3 ⟨rfl, hc⟩
      rw [g2]
      have Hx3 : Hid (Sl w3 A xs) := Hx2.out.after hc
      have Hy3 : Hid (Sl w3 B ys) := Hy2.out.after hc
      have Hm3 : Hid (Mx w3 m) := Hm2.out.after hc
      have hb3 := hb2.trans (hc.mono hb2.size)
      clear hc hb2 Hx2 Hy2 Hm2
      have L1 := Lib.hid (short_len g1)
      have L2 := Lib.hid (short_len g2)
      clear g1 g2
      by_cases hsz : s.size ≤ 2000
      · have hz2 : decide (2000 < (s.size : Int)) = false := decide_eq_false (by omega)
        cases hd : decL s.data.toList with
        | none =>
          have Hd0 := Lib.hid hd
          clear hd
          go_wp2_with fail
          refine (decode_c s w3 (by omega)).mono ?_
          rintro e w4 ⟨hc, A3, n3, c3, rfl, hn3, _, hs3⟩
          rw [Hd0.out]
          clear hn3 hs3
          have Hx4 : Hid (Sl w4 A xs) := Hx3.out.after hc
          have Hy4 : Hid (Sl w4 B ys) := Hy3.out.after hc
          have Hm4 : Hid (Mx w4 m) := Hm3.out.after hc
          have hb4 := hb3.trans (hc.mono hb3.size)
          clear hc hb3 Hx3 Hy3 Hm3
          cases g3 : xs.all rmB
          · go_wp2_with fail
            refine (rmayL_c A n c xs w4 Hn.out hn1 Hx4.out Zx.out).mono ?_
            rintro e w5 ⟨rfl, hc⟩
            rw [g3]
            have Hx5 : Hid (Sl w5 A xs) := Hx4.out.after hc
            have Hy5 : Hid (Sl w5 B ys) := Hy4.out.after hc
            have Hm5 : Hid (Mx w5 m) := Hm4.out.after hc
            have hb5 := hb4.trans (hc.mono hb4.size)
            clear hc hb4 Hx4 Hy4 Hm4
            go_wp2
            go_ret
            exact ⟨rfl, hb5⟩
          · go_wp2_with fail
            refine (rmayL_c A n c xs w4 Hn.out hn1 Hx4.out Zx.out).mono ?_
            rintro e w5 ⟨rfl, hc⟩
            rw [g3]
            have Hx5 : Hid (Sl w5 A xs) := Hx4.out.after hc
            have Hy5 : Hid (Sl w5 B ys) := Hy4.out.after hc
            have Hm5 : Hid (Mx w5 m) := Hm4.out.after hc
            have hb5 := hb4.trans (hc.mono hb4.size)
            clear hc hb4 Hx4 Hy4 Hm4
            cases g4 : ys.all rmB
            · go_wp2_with fail
              refine (rmayL_c B m' d ys w5 Hm'.out hm1 Hy5.out Zy.out).mono ?_
              rintro e w6 ⟨rfl, hc⟩
              rw [g4]
              have Hx6 : Hid (Sl w6 A xs) := Hx5.out.after hc
              have Hy6 : Hid (Sl w6 B ys) := Hy5.out.after hc
              have Hm6 : Hid (Mx w6 m) := Hm5.out.after hc
              have hb6 := hb5.trans (hc.mono hb5.size)
              clear hc hb5 Hx5 Hy5 Hm5
              go_wp2
              go_ret
              exact ⟨rfl, hb6⟩
            · go_wp2_with fail
              refine (rmayL_c B m' d ys w5 Hm'.out hm1 Hy5.out Zy.out).mono ?_
              rintro e w6 ⟨rfl, hc⟩
              rw [g4]
              have Hx6 : Hid (Sl w6 A xs) := Hx5.out.after hc
              have Hy6 : Hid (Sl w6 B ys) := Hy5.out.after hc
              have Hm6 : Hid (Mx w6 m) := Hm5.out.after hc
              have hb6 := hb5.trans (hc.mono hb5.size)
              clear hc hb5 Hx5 Hy5 Hm5
              obtain ⟨e1, e2, e3, he1, he2, he3, hsz1, hd1, hcat⟩ := back_ways xs ys (good_of g3 Ix.out) (good_of g4 Iy.out) L1.out.1 L2.out.1 L1.out.2 L2.out.2
              have E1 := Lib.hid he1
              have E2 := Lib.hid he2
              have E3 := Lib.hid he3
              have D1 := Lib.hid hd1
              have Z1 := Lib.hid hsz1
              have LL := Lib.hid (show xs.length ≤ 40 ∧ ys.length ≤ 40 from ⟨L1.out.1, L2.out.1⟩)
              clear he1 he2 he3 hd1 hsz1 g3 g4
              go_wp2_with fail
              refine (encode_c A m n c xs w6 Hn.out (by have := L1.out.1; rw [Hn.out] at this; omega) Hx6.out L1.out.2 Ix.out Hm6.out).mono ?_
              rintro e w7 ⟨rfl, hc⟩
              rw [← E1.out]
              have Hx7 : Hid (Sl w7 A xs) := Hx6.out.after hc
              have Hy7 : Hid (Sl w7 B ys) := Hy6.out.after hc
              have Hm7 : Hid (Mx w7 m) := Hm6.out.after hc
              have hb7 := hb6.trans (hc.mono hb6.size)
              clear hc hb6 Hx6 Hy6 Hm6
              go_wp2_with fail
              refine (decode_c e1 w7 Z1.out).mono ?_
              rintro e w8 ⟨hc, A4, n4, c4, rfl, hn4, _, hs4⟩
              rw [D1.out] at hn4 hs4 ⊢
              have Hn4 : Hid (xs.length = n4) := hn4
              have Hd8 : Hid (Sl w8 A4 xs) := hs4
              clear hn4 hs4
              have Hx8 : Hid (Sl w8 A xs) := Hx7.out.after hc
              have Hy8 : Hid (Sl w8 B ys) := Hy7.out.after hc
              have Hm8 : Hid (Mx w8 m) := Hm7.out.after hc
              have hb8 := hb7.trans (hc.mono hb7.size)
              clear hc hb7 Hx7 Hy7 Hm7
              go_wp2_with (at_builtin; first
                | (refine wpList_appSl rfl (.tmp 56) (.tmp 57) rfl w8.heap.size _ [] xs A n c rfl (ownV_empty w8 _ (Nat.le_refl _)) rfl Hn.out (Hx8.out.after (below_one _ _)) (by have := LL.out; simp only [List.length_nil]; omega) (by simp) ?_
                   intro v1 u1a hv1 hg1
                   have k1a : Below w8.heap.size w8 u1a := (below_one w8 _).grown hg1 (by simp) (fun k hk => ((ownV_empty w8 _ (Nat.le_refl _)).lt k hk).1)
                   have Hv1a : Hid (OwnV u1a w8.heap.size v1 xs) := hv1
                   clear hv1 hg1)
                | (refine wpList_appSl rfl (.tmp 58) (.tmp 59) rfl w8.heap.size _ xs ys B m' d rfl Hv1a.out rfl Hm'.out (Hy8.out.after k1a) (by have := LL.out; omega) k1a.size ?_
                   intro v2 u1b hv2 hg2
                   have k1b : Below w8.heap.size w8 u1b := k1a.grown hg2 k1a.size (fun k hk => (Hv1a.out.lt k hk).1)
                   obtain ⟨A1, N1, c1, rfl, hN1, hs1⟩ := hv2.sl'
                   have HN1 : Hid ((xs ++ ys).length = N1) := hN1
                   have HS1 : Hid (Sl u1b A1 (xs ++ ys)) := hs1
                   clear hv2 hg2 hs1 hN1 Hv1a k1a))
              obtain ⟨w9, hw⟩ : ∃ q, q = u1b := ⟨_, rfl⟩
              subst hw
              have Hx9 : Hid (Sl w9 A xs) := Hx8.out.after k1b
              have Hy9 : Hid (Sl w9 B ys) := Hy8.out.after k1b
              have Hm9 : Hid (Mx w9 m) := Hm8.out.after k1b
              have Hd9 : Hid (Sl w9 A4 xs) := Hd8.out.after k1b
              have hb9 := hb8.trans (k1b.mono hb8.size)
              clear k1b hb8 Hx8 Hy8 Hm8 Hd8
              have HX9 := HS1
              clear HS1
              have M4 : Hid (n4 ≤ maxLen) := by have h1 := Hn4.out; have h2 := LL.out; unfold maxLen; show _ ≤ _; omega
              have M5 : Hid (N1 ≤ 90) := by have h1 := HN1.out; have h2 := LL.out; rw [List.length_append] at h1; show _ ≤ _; omega
              have Zxy : Hid (∀ x ∈ xs ++ ys, x.s.size ≤ 1000) := fun x hx => (List.mem_append.1 hx).elim (fun h => L1.out.2 x h) (fun h => L2.out.2 x h)
              have Ixy : Hid (∀ x ∈ xs ++ ys, In64 x) := fun x hx => (List.mem_append.1 hx).elim (fun h => Ix.out x h) (fun h => Iy.out x h)
              go_wp2_with fail
              refine (same_c A4 A n4 n c4 c xs xs w9 Hn4.out Hn.out M4.out hn1 Hd9.out Hx9.out).mono ?_
              rintro e w10 ⟨rfl, hc⟩
              rw [cmpL_same]
              have Hx10 : Hid (Sl w10 A xs) := Hx9.out.after hc
              have Hy10 : Hid (Sl w10 B ys) := Hy9.out.after hc
              have Hm10 : Hid (Mx w10 m) := Hm9.out.after hc
              have Hd10 : Hid (Sl w10 A4 xs) := Hd9.out.after hc
              have HX10 : Hid (Sl w10 A1 (xs ++ ys)) := HX9.out.after hc
              have hb10 := hb9.trans (hc.mono hb9.size)
              clear hc hb9 Hx9 Hy9 Hm9 Hd9 HX9
              go_wp2_with fail
              refine (encode_c A1 m N1 c1 (xs ++ ys) w10 HN1.out M5.out HX10.out Zxy.out Ixy.out Hm10.out).mono ?_
              rintro e w11 ⟨rfl, hc⟩
              rw [← E3.out]
              have Hx11 : Hid (Sl w11 A xs) := Hx10.out.after hc
              have Hy11 : Hid (Sl w11 B ys) := Hy10.out.after hc
              have Hm11 : Hid (Mx w11 m) := Hm10.out.after hc
              have Hd11 : Hid (Sl w11 A4 xs) := Hd10.out.after hc
              have HX11 : Hid (Sl w11 A1 (xs ++ ys)) := HX10.out.after hc
              have hb11 := hb10.trans (hc.mono hb10.size)
              clear hc hb10 Hx10 Hy10 Hm10 Hd10 HX10
              go_wp2_with fail
              refine (encode_c A m n c xs w11 Hn.out (by have := L1.out.1; rw [Hn.out] at this; omega) Hx11.out L1.out.2 Ix.out Hm11.out).mono ?_
              rintro e w12 ⟨rfl, hc⟩
              rw [← E1.out]
              have Hx12 : Hid (Sl w12 A xs) := Hx11.out.after hc
              have Hy12 : Hid (Sl w12 B ys) := Hy11.out.after hc
              have Hm12 : Hid (Mx w12 m) := Hm11.out.after hc
              have Hd12 : Hid (Sl w12 A4 xs) := Hd11.out.after hc
              have HX12 : Hid (Sl w12 A1 (xs ++ ys)) := HX11.out.after hc
              have hb12 := hb11.trans (hc.mono hb11.size)
              clear hc hb11 Hx11 Hy11 Hm11 Hd11 HX11
              go_wp2_with fail
              refine (encode_c B m m' d ys w12 Hm'.out (by have := L2.out.1; rw [Hm'.out] at this; omega) Hy12.out L2.out.2 Iy.out Hm12.out).mono ?_
              rintro e w13 ⟨rfl, hc⟩
              rw [← E2.out]
              have Hx13 : Hid (Sl w13 A xs) := Hx12.out.after hc
              have Hy13 : Hid (Sl w13 B ys) := Hy12.out.after hc
              have Hm13 : Hid (Mx w13 m) := Hm12.out.after hc
              have Hd13 : Hid (Sl w13 A4 xs) := Hd12.out.after hc
              have HX13 : Hid (Sl w13 A1 (xs ++ ys)) := HX12.out.after hc
              have hb13 := hb12.trans (hc.mono hb12.size)
              clear hc hb12 Hx12 Hy12 Hm12 Hd12 HX12
              go_wp2
              go_ret
              exact ⟨rfl, hb13⟩
        | some zs =>
          obtain ⟨hen, hgood⟩ := enc_decL s.data.toList.length s.data.toList zs (Nat.le_refl _) hd
          have Hback : Hid ((⟨(encode zs).toArray⟩ : ByteArray) = s) := by rw [encode_good hgood, ← hen]; exact rfl
          have Hzl : Hid ((encL zs).length ≤ 400000) := by
            have e5 : s.data.toList.length = s.size := rfl
            rw [← hen, e5]
            show _ ≤ _
            omega
          have Hgood := Lib.hid hgood
          have Hd0 := Lib.hid hd
          clear hd hen hgood
          go_wp2_with fail
          refine (decode_c s w3 (by omega)).mono ?_
          rintro e w4 ⟨hc, A3, n3, c3, rfl, hn3, hle3, hs3⟩
          rw [Hd0.out] at hn3 hs3 ⊢
          have Hn3 : Hid (zs.length = n3) := hn3
          have hle3' : n3 ≤ 1000000 := by have e5 : s.data.toList.length = s.size := rfl; omega
          have Hd4 : Hid (Sl w4 A3 zs) := hs3
          clear hn3 hs3 hle3
          have Hx4 : Hid (Sl w4 A xs) := Hx3.out.after hc
          have Hy4 : Hid (Sl w4 B ys) := Hy3.out.after hc
          have Hm4 : Hid (Mx w4 m) := Hm3.out.after hc
          have hb4 := hb3.trans (hc.mono hb3.size)
          clear hc hb3 Hx3 Hy3 Hm3
          go_wp2_with fail
          refine (encode_g A3 m n3 c3 zs w4 Hn3.out hle3' Hzl.out Hd4.out (fun x hx => valid_size (Hgood.out x hx).1) (fun x hx => (Hgood.out x hx).2) Hm4.out).mono ?_
          rintro e w5 ⟨rfl, hc⟩
          rw [Hback.out]
          have Hx5 : Hid (Sl w5 A xs) := Hx4.out.after hc
          have Hy5 : Hid (Sl w5 B ys) := Hy4.out.after hc
          have Hm5 : Hid (Mx w5 m) := Hm4.out.after hc
          have hb5 := hb4.trans (hc.mono hb4.size)
          clear hc hb4 Hx4 Hy4 Hm4 Hd4
          cases g3 : xs.all rmB
          · go_wp2_with fail
            refine (rmayL_c A n c xs w5 Hn.out hn1 Hx5.out Zx.out).mono ?_
            rintro e w6 ⟨rfl, hc⟩
            rw [g3]
            have Hx6 : Hid (Sl w6 A xs) := Hx5.out.after hc
            have Hy6 : Hid (Sl w6 B ys) := Hy5.out.after hc
            have Hm6 : Hid (Mx w6 m) := Hm5.out.after hc
            have hb6 := hb5.trans (hc.mono hb5.size)
            clear hc hb5 Hx5 Hy5 Hm5
            go_wp2
            go_ret
            exact ⟨rfl, hb6⟩
          · go_wp2_with fail
            refine (rmayL_c A n c xs w5 Hn.out hn1 Hx5.out Zx.out).mono ?_
            rintro e w6 ⟨rfl, hc⟩
            rw [g3]
            have Hx6 : Hid (Sl w6 A xs) := Hx5.out.after hc
            have Hy6 : Hid (Sl w6 B ys) := Hy5.out.after hc
            have Hm6 : Hid (Mx w6 m) := Hm5.out.after hc
            have hb6 := hb5.trans (hc.mono hb5.size)
            clear hc hb5 Hx5 Hy5 Hm5
            cases g4 : ys.all rmB
            · go_wp2_with fail
              refine (rmayL_c B m' d ys w6 Hm'.out hm1 Hy6.out Zy.out).mono ?_
              rintro e w7 ⟨rfl, hc⟩
              rw [g4]
              have Hx7 : Hid (Sl w7 A xs) := Hx6.out.after hc
              have Hy7 : Hid (Sl w7 B ys) := Hy6.out.after hc
              have Hm7 : Hid (Mx w7 m) := Hm6.out.after hc
              have hb7 := hb6.trans (hc.mono hb6.size)
              clear hc hb6 Hx6 Hy6 Hm6
              go_wp2
              go_ret
              exact ⟨rfl, hb7⟩
            · go_wp2_with fail
              refine (rmayL_c B m' d ys w6 Hm'.out hm1 Hy6.out Zy.out).mono ?_
              rintro e w7 ⟨rfl, hc⟩
              rw [g4]
              have Hx7 : Hid (Sl w7 A xs) := Hx6.out.after hc
              have Hy7 : Hid (Sl w7 B ys) := Hy6.out.after hc
              have Hm7 : Hid (Mx w7 m) := Hm6.out.after hc
              have hb7 := hb6.trans (hc.mono hb6.size)
              clear hc hb6 Hx6 Hy6 Hm6
              obtain ⟨e1, e2, e3, he1, he2, he3, hsz1, hd1, hcat⟩ := back_ways xs ys (good_of g3 Ix.out) (good_of g4 Iy.out) L1.out.1 L2.out.1 L1.out.2 L2.out.2
              have E1 := Lib.hid he1
              have E2 := Lib.hid he2
              have E3 := Lib.hid he3
              have D1 := Lib.hid hd1
              have Z1 := Lib.hid hsz1
              have LL := Lib.hid (show xs.length ≤ 40 ∧ ys.length ≤ 40 from ⟨L1.out.1, L2.out.1⟩)
              clear he1 he2 he3 hd1 hsz1 g3 g4
              go_wp2_with fail
              refine (encode_c A m n c xs w7 Hn.out (by have := L1.out.1; rw [Hn.out] at this; omega) Hx7.out L1.out.2 Ix.out Hm7.out).mono ?_
              rintro e w8 ⟨rfl, hc⟩
              rw [← E1.out]
              have Hx8 : Hid (Sl w8 A xs) := Hx7.out.after hc
              have Hy8 : Hid (Sl w8 B ys) := Hy7.out.after hc
              have Hm8 : Hid (Mx w8 m) := Hm7.out.after hc
              have hb8 := hb7.trans (hc.mono hb7.size)
              clear hc hb7 Hx7 Hy7 Hm7
              go_wp2_with fail
              refine (decode_c e1 w8 Z1.out).mono ?_
              rintro e w9 ⟨hc, A4, n4, c4, rfl, hn4, _, hs4⟩
              rw [D1.out] at hn4 hs4 ⊢
              have Hn4 : Hid (xs.length = n4) := hn4
              have Hd9 : Hid (Sl w9 A4 xs) := hs4
              clear hn4 hs4
              have Hx9 : Hid (Sl w9 A xs) := Hx8.out.after hc
              have Hy9 : Hid (Sl w9 B ys) := Hy8.out.after hc
              have Hm9 : Hid (Mx w9 m) := Hm8.out.after hc
              have hb9 := hb8.trans (hc.mono hb8.size)
              clear hc hb8 Hx8 Hy8 Hm8
              go_wp2_with (at_builtin; first
                | (refine wpList_appSl rfl (.tmp 56) (.tmp 57) rfl w9.heap.size _ [] xs A n c rfl (ownV_empty w9 _ (Nat.le_refl _)) rfl Hn.out (Hx9.out.after (below_one _ _)) (by have := LL.out; simp only [List.length_nil]; omega) (by simp) ?_
                   intro v1 u1a hv1 hg1
                   have k1a : Below w9.heap.size w9 u1a := (below_one w9 _).grown hg1 (by simp) (fun k hk => ((ownV_empty w9 _ (Nat.le_refl _)).lt k hk).1)
                   have Hv1a : Hid (OwnV u1a w9.heap.size v1 xs) := hv1
                   clear hv1 hg1)
                | (refine wpList_appSl rfl (.tmp 58) (.tmp 59) rfl w9.heap.size _ xs ys B m' d rfl Hv1a.out rfl Hm'.out (Hy9.out.after k1a) (by have := LL.out; omega) k1a.size ?_
                   intro v2 u1b hv2 hg2
                   have k1b : Below w9.heap.size w9 u1b := k1a.grown hg2 k1a.size (fun k hk => (Hv1a.out.lt k hk).1)
                   obtain ⟨A1, N1, c1, rfl, hN1, hs1⟩ := hv2.sl'
                   have HN1 : Hid ((xs ++ ys).length = N1) := hN1
                   have HS1 : Hid (Sl u1b A1 (xs ++ ys)) := hs1
                   clear hv2 hg2 hs1 hN1 Hv1a k1a))
              obtain ⟨w10, hw⟩ : ∃ q, q = u1b := ⟨_, rfl⟩
              subst hw
              have Hx10 : Hid (Sl w10 A xs) := Hx9.out.after k1b
              have Hy10 : Hid (Sl w10 B ys) := Hy9.out.after k1b
              have Hm10 : Hid (Mx w10 m) := Hm9.out.after k1b
              have Hd10 : Hid (Sl w10 A4 xs) := Hd9.out.after k1b
              have hb10 := hb9.trans (k1b.mono hb9.size)
              clear k1b hb9 Hx9 Hy9 Hm9 Hd9
              have HX10 := HS1
              clear HS1
              have M4 : Hid (n4 ≤ maxLen) := by have h1 := Hn4.out; have h2 := LL.out; unfold maxLen; show _ ≤ _; omega
              have M5 : Hid (N1 ≤ 90) := by have h1 := HN1.out; have h2 := LL.out; rw [List.length_append] at h1; show _ ≤ _; omega
              have Zxy : Hid (∀ x ∈ xs ++ ys, x.s.size ≤ 1000) := fun x hx => (List.mem_append.1 hx).elim (fun h => L1.out.2 x h) (fun h => L2.out.2 x h)
              have Ixy : Hid (∀ x ∈ xs ++ ys, In64 x) := fun x hx => (List.mem_append.1 hx).elim (fun h => Ix.out x h) (fun h => Iy.out x h)
              go_wp2_with fail
              refine (same_c A4 A n4 n c4 c xs xs w10 Hn4.out Hn.out M4.out hn1 Hd10.out Hx10.out).mono ?_
              rintro e w11 ⟨rfl, hc⟩
              rw [cmpL_same]
              have Hx11 : Hid (Sl w11 A xs) := Hx10.out.after hc
              have Hy11 : Hid (Sl w11 B ys) := Hy10.out.after hc
              have Hm11 : Hid (Mx w11 m) := Hm10.out.after hc
              have Hd11 : Hid (Sl w11 A4 xs) := Hd10.out.after hc
              have HX11 : Hid (Sl w11 A1 (xs ++ ys)) := HX10.out.after hc
              have hb11 := hb10.trans (hc.mono hb10.size)
              clear hc hb10 Hx10 Hy10 Hm10 Hd10 HX10
              go_wp2_with fail
              refine (encode_c A1 m N1 c1 (xs ++ ys) w11 HN1.out M5.out HX11.out Zxy.out Ixy.out Hm11.out).mono ?_
              rintro e w12 ⟨rfl, hc⟩
              rw [← E3.out]
              have Hx12 : Hid (Sl w12 A xs) := Hx11.out.after hc
              have Hy12 : Hid (Sl w12 B ys) := Hy11.out.after hc
              have Hm12 : Hid (Mx w12 m) := Hm11.out.after hc
              have Hd12 : Hid (Sl w12 A4 xs) := Hd11.out.after hc
              have HX12 : Hid (Sl w12 A1 (xs ++ ys)) := HX11.out.after hc
              have hb12 := hb11.trans (hc.mono hb11.size)
              clear hc hb11 Hx11 Hy11 Hm11 Hd11 HX11
              go_wp2_with fail
              refine (encode_c A m n c xs w12 Hn.out (by have := L1.out.1; rw [Hn.out] at this; omega) Hx12.out L1.out.2 Ix.out Hm12.out).mono ?_
              rintro e w13 ⟨rfl, hc⟩
              rw [← E1.out]
              have Hx13 : Hid (Sl w13 A xs) := Hx12.out.after hc
              have Hy13 : Hid (Sl w13 B ys) := Hy12.out.after hc
              have Hm13 : Hid (Mx w13 m) := Hm12.out.after hc
              have Hd13 : Hid (Sl w13 A4 xs) := Hd12.out.after hc
              have HX13 : Hid (Sl w13 A1 (xs ++ ys)) := HX12.out.after hc
              have hb13 := hb12.trans (hc.mono hb12.size)
              clear hc hb12 Hx12 Hy12 Hm12 Hd12 HX12
              go_wp2_with fail
              refine (encode_c B m m' d ys w13 Hm'.out (by have := L2.out.1; rw [Hm'.out] at this; omega) Hy13.out L2.out.2 Iy.out Hm13.out).mono ?_
              rintro e w14 ⟨rfl, hc⟩
              rw [← E2.out]
              have Hx14 : Hid (Sl w14 A xs) := Hx13.out.after hc
              have Hy14 : Hid (Sl w14 B ys) := Hy13.out.after hc
              have Hm14 : Hid (Mx w14 m) := Hm13.out.after hc
              have Hd14 : Hid (Sl w14 A4 xs) := Hd13.out.after hc
              have HX14 : Hid (Sl w14 A1 (xs ++ ys)) := HX13.out.after hc
              have hb14 := hb13.trans (hc.mono hb13.size)
              clear hc hb13 Hx13 Hy13 Hm13 Hd13 HX13
              go_wp2
              go_ret
              exact ⟨rfl, hb14⟩
      · have hz2 : decide (2000 < (s.size : Int)) = true := decide_eq_true (by omega)
        go_wp2_with fail
        refine (fixed_c m w3 Hm3.out).mono ?_
        rintro e w4 ⟨rfl, hc⟩
        have Hx4 : Hid (Sl w4 A xs) := Hx3.out.after hc
        have Hy4 : Hid (Sl w4 B ys) := Hy3.out.after hc
        have Hm4 : Hid (Mx w4 m) := Hm3.out.after hc
        have hb4 := hb3.trans (hc.mono hb3.size)
        clear hc hb3 Hx3 Hy3 Hm3
        go_wp2
        go_ret
        exact ⟨rfl, hb4⟩
end Go.Proofs.YtkbgcgkblbbcbaaDoor
