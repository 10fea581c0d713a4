/-
  Of lists that begin alike what is behind decides: the law KeySame, walked.
-/
import Derived.Test.YtkbgcgkblbbcbaaDoorRisesW
import Derived.Test.YtkbgcgkblbbcbaaDoorApp
namespace Go.Proofs.YtkbgcgkblbbcbaaDoor
open Go Go.RowKit


set_option maxHeartbeats 4000000 in
theorem same3_c (A B C : Option Addr) (n n' n'' c d e : Nat) (ls xs ys : List Val) (m : Int) (w : World) (hn : ls.length = n) (hn' : xs.length = n') (hn'' : ys.length = n'') (hn1 : n ≤ maxLen) (hn1' : n' ≤ maxLen) (hn1'' : n'' ≤ maxLen) (hl : Sl w A ls) (hx : Sl w B xs) (hy : Sl w C ys) (zl : ∀ x ∈ ls, x.s.size ≤ maxLen) (zx : ∀ x ∈ xs, x.s.size ≤ maxLen) (zy : ∀ x ∈ ys, x.s.size ≤ maxLen) (hm : Mx w m) :
    Calls Tryd.prog 7 #[.slice A n c, .slice B n' d, .slice C n'' e] w fun e w' => e = .returned (.bool true) ∧ Below w.heap.size w w' := by
  have Hn := Lib.hid hn
  have Hn' := Lib.hid hn'
  have Hn'' := Lib.hid hn''
  have Zl := Lib.hid zl
  have Zx := Lib.hid zx
  have Zy := Lib.hid zy
  clear hn hn' hn'' zl zx zy
  have hb0 : Below w.heap.size w w := Below.refl _ _
  have Hl0 : Hid (Sl w A ls) := hl
  have Hx0 : Hid (Sl w B xs) := hx
  have Hy0 : Hid (Sl w C ys) := hy
  have Hm0 : Hid (Mx w m) := hm
  clear hl hx hy hm
  go_enter Tryd.func7, Tryd.ntmps7
  go_wp2_with fail
  refine (fixed_c m w Hm0.out).mono ?_
  rintro e w1 ⟨rfl, hc⟩
  have Hl1 : Hid (Sl w1 A ls) := Hl0.out.after hc
  have Hx1 : Hid (Sl w1 B xs) := Hx0.out.after hc
  have Hy1 : Hid (Sl w1 C ys) := Hy0.out.after hc
  have Hm1 : Hid (Mx w1 m) := Hm0.out.after hc
  have hb1 := hb0.trans (hc.mono hb0.size)
  clear hc hb0 Hl0 Hx0 Hy0 Hm0
  cases g1 : shortB ls
  · go_wp2_with fail
    refine (short_c A n c ls w1 Hn.out hn1 Hl1.out Zl.out).mono ?_
    rintro e w2 ⟨rfl, hc⟩
    rw [g1]
    have Hl2 : Hid (Sl w2 A ls) := Hl1.out.after hc
    have Hx2 : Hid (Sl w2 B xs) := Hx1.out.after hc
    have Hy2 : Hid (Sl w2 C ys) := Hy1.out.after hc
    have Hm2 : Hid (Mx w2 m) := Hm1.out.after hc
    have hb2 := hb1.trans (hc.mono hb1.size)
    clear hc hb1 Hl1 Hx1 Hy1 Hm1
    go_wp2_with fail
    refine (fixed_c m w2 Hm2.out).mono ?_
    rintro e w3 ⟨rfl, hc⟩
    have Hl3 : Hid (Sl w3 A ls) := Hl2.out.after hc
    have Hx3 : Hid (Sl w3 B xs) := Hx2.out.after hc
    have Hy3 : Hid (Sl w3 C ys) := Hy2.out.after hc
    have Hm3 : Hid (Mx w3 m) := Hm2.out.after hc
    have hb3 := hb2.trans (hc.mono hb2.size)
    clear hc hb2 Hl2 Hx2 Hy2 Hm2
    go_wp2
    go_ret
    exact ⟨rfl, hb3⟩
  · go_wp2_with fail
    refine (short_c A n c ls w1 Hn.out hn1 Hl1.out Zl.out).mono ?_
    rintro e w2 ⟨rfl, hc⟩
    rw [g1]
    have Hl2 : Hid (Sl w2 A ls) := Hl1.out.after hc
    have Hx2 : Hid (Sl w2 B xs) := Hx1.out.after hc
    have Hy2 : Hid (Sl w2 C ys) := Hy1.out.after hc
    have Hm2 : Hid (Mx w2 m) := Hm1.out.after hc
    have hb2 := hb1.trans (hc.mono hb1.size)
    clear hc hb1 Hl1 Hx1 Hy1 Hm1
    cases g2 : shortB xs
    · go_wp2_with fail
      refine (short_c B n' d xs w2 Hn'.out hn1' Hx2.out Zx.out).mono ?_
      rintro e w3 ⟨rfl, hc⟩
      rw [g2]
      have Hl3 : Hid (Sl w3 A ls) := Hl2.out.after hc
      have Hx3 : Hid (Sl w3 B xs) := Hx2.out.after hc
      have Hy3 : Hid (Sl w3 C ys) := Hy2.out.after hc
      have Hm3 : Hid (Mx w3 m) := Hm2.out.after hc
      have hb3 := hb2.trans (hc.mono hb2.size)
      clear hc hb2 Hl2 Hx2 Hy2 Hm2
      go_wp2_with fail
      refine (fixed_c m w3 Hm3.out).mono ?_
      rintro e w4 ⟨rfl, hc⟩
      have Hl4 : Hid (Sl w4 A ls) := Hl3.out.after hc
      have Hx4 : Hid (Sl w4 B xs) := Hx3.out.after hc
      have Hy4 : Hid (Sl w4 C ys) := Hy3.out.after hc
      have Hm4 : Hid (Mx w4 m) := Hm3.out.after hc
      have hb4 := hb3.trans (hc.mono hb3.size)
      clear hc hb3 Hl3 Hx3 Hy3 Hm3
      go_wp2
      go_ret
      exact ⟨rfl, hb4⟩
    · go_wp2_with fail
      refine (short_c B n' d xs w2 Hn'.out hn1' Hx2.out Zx.out).mono ?_
      rintro e w3 ⟨rfl, hc⟩
      rw [g2]
      have Hl3 : Hid (Sl w3 A ls) := Hl2.out.after hc
      have Hx3 : Hid (Sl w3 B xs) := Hx2.out.after hc
      have Hy3 : Hid (Sl w3 C ys) := Hy2.out.after hc
      have Hm3 : Hid (Mx w3 m) := Hm2.out.after hc
      have hb3 := hb2.trans (hc.mono hb2.size)
      clear hc hb2 Hl2 Hx2 Hy2 Hm2
      cases g3 : shortB ys
      · go_wp2_with fail
        refine (short_c C n'' e ys w3 Hn''.out hn1'' Hy3.out Zy.out).mono ?_
        rintro e w4 ⟨rfl, hc⟩
        rw [g3]
        have Hl4 : Hid (Sl w4 A ls) := Hl3.out.after hc
        have Hx4 : Hid (Sl w4 B xs) := Hx3.out.after hc
        have Hy4 : Hid (Sl w4 C ys) := Hy3.out.after hc
        have Hm4 : Hid (Mx w4 m) := Hm3.out.after hc
        have hb4 := hb3.trans (hc.mono hb3.size)
        clear hc hb3 Hl3 Hx3 Hy3 Hm3
        go_wp2_with fail
        refine (fixed_c m w4 Hm4.out).mono ?_
        rintro e w5 ⟨rfl, hc⟩
        have Hl5 : Hid (Sl w5 A ls) := Hl4.out.after hc
        have Hx5 : Hid (Sl w5 B xs) := Hx4.out.after hc
        have Hy5 : Hid (Sl w5 C ys) := Hy4.out.after hc
        have Hm5 : Hid (Mx w5 m) := Hm4.out.after hc
        have hb5 := hb4.trans (hc.mono hb4.size)
        clear hc hb4 Hl4 Hx4 Hy4 Hm4
        go_wp2
        go_ret
        exact ⟨rfl, hb5⟩
      · go_wp2_with fail
        refine (short_c C n'' e ys w3 Hn''.out hn1'' Hy3.out Zy.out).mono ?_
        rintro e w4 ⟨rfl, hc⟩
        rw [g3]
        have Hl4 : Hid (Sl w4 A ls) := Hl3.out.after hc
        have Hx4 : Hid (Sl w4 B xs) := Hx3.out.after hc
        have Hy4 : Hid (Sl w4 C ys) := Hy3.out.after hc
        have Hm4 : Hid (Mx w4 m) := Hm3.out.after hc
        have hb4 := hb3.trans (hc.mono hb3.size)
        clear hc hb3 Hl3 Hx3 Hy3 Hm3
        have LL := Lib.hid (show ls.length ≤ 40 ∧ xs.length ≤ 40 ∧ ys.length ≤ 40 from ⟨(short_len g1).1, (short_len g2).1, (short_len g3).1⟩)
        clear g1 g2 g3
        go_wp2_with (at_builtin; first
          | (refine wpList_appSl rfl (.tmp 28) (.tmp 29) rfl w4.heap.size _ [] ls A n c rfl (ownV_empty w4 _ (Nat.le_refl _)) rfl Hn.out (Hl4.out.after (below_one _ _)) (by have := LL.out; simp only [List.length_nil]; omega) (by simp) ?_
             intro v1 u1a hv1 hg1
             have k1a : Below w4.heap.size w4 u1a := (below_one w4 _).grown hg1 (by simp) (fun k hk => ((ownV_empty w4 _ (Nat.le_refl _)).lt k hk).1)
             have Hv1a : Hid (OwnV u1a w4.heap.size v1 ls) := hv1
             clear hv1 hg1)
          | (refine wpList_appSl rfl (.tmp 30) (.tmp 31) rfl w4.heap.size _ ls xs B n' d rfl Hv1a.out rfl Hn'.out (Hx4.out.after k1a) (by have := LL.out; omega) k1a.size ?_
             intro v2 u1b hv2 hg2
             have k1b : Below w4.heap.size w4 u1b := k1a.grown hg2 k1a.size (fun k hk => (Hv1a.out.lt k hk).1)
             obtain ⟨A1, N1, c1, rfl, hN1, hs1⟩ := hv2.sl'
             have HN1 : Hid ((ls ++ xs).length = N1) := hN1
             have HS1 : Hid (Sl u1b A1 (ls ++ xs)) := hs1
             clear hv2 hg2 hs1 hN1 Hv1a k1a)
          | (refine wpList_appSl rfl (.tmp 33) (.tmp 34) rfl u1b.heap.size _ [] ls A n c rfl (ownV_empty u1b _ (Nat.le_refl _)) rfl Hn.out ((show Hid (Sl u1b A ls) from Hl4.out.after k1b).out.after (below_one _ _)) (by have := LL.out; simp only [List.length_nil]; omega) (by simp) ?_
             intro v1 u2a hv1 hg1
             have k2a : Below u1b.heap.size u1b u2a := (below_one u1b _).grown hg1 (by simp) (fun k hk => ((ownV_empty u1b _ (Nat.le_refl _)).lt k hk).1)
             have Hv2a : Hid (OwnV u2a u1b.heap.size v1 ls) := hv1
             clear hv1 hg1)
          | (refine wpList_appSl rfl (.tmp 35) (.tmp 36) rfl u1b.heap.size _ ls ys C n'' e rfl Hv2a.out rfl Hn''.out ((show Hid (Sl u1b C ys) from Hy4.out.after k1b).out.after k2a) (by have := LL.out; omega) k2a.size ?_
             intro v2 u2b hv2 hg2
             have k2b : Below u1b.heap.size u1b u2b := k2a.grown hg2 k2a.size (fun k hk => (Hv2a.out.lt k hk).1)
             obtain ⟨A2, N2, c2, rfl, hN2, hs2⟩ := hv2.sl'
             have HN2 : Hid ((ls ++ ys).length = N2) := hN2
             have HS2 : Hid (Sl u2b A2 (ls ++ ys)) := hs2
             clear hv2 hg2 hs2 hN2 Hv2a k2a))
        have kk : Below w4.heap.size w4 u2b := k1b.trans (k2b.mono k1b.size)
        have HS1' : Hid (Sl u2b A1 (ls ++ xs)) := HS1.out.after k2b
        clear HS1 k1b k2b
        obtain ⟨w5, hw⟩ : ∃ q, q = u2b := ⟨_, rfl⟩
        subst hw
        have Hl5 : Hid (Sl w5 A ls) := Hl4.out.after kk
        have Hx5 : Hid (Sl w5 B xs) := Hx4.out.after kk
        have Hy5 : Hid (Sl w5 C ys) := Hy4.out.after kk
        have Hm5 : Hid (Mx w5 m) := Hm4.out.after kk
        have hb5 := hb4.trans (kk.mono hb4.size)
        clear kk hb4 Hl4 Hx4 Hy4 Hm4
        have HX5 : Hid (Sl w5 A1 (ls ++ xs)) := HS1'
        have HY5 : Hid (Sl w5 A2 (ls ++ ys)) := HS2
        clear HS1' HS2
        have M1 : Hid (N1 ≤ maxLen) := by have h1 := HN1.out; have h2 := LL.out; rw [List.length_append] at h1; unfold maxLen; show _ ≤ _; omega
        have M2 : Hid (N2 ≤ maxLen) := by have h1 := HN2.out; have h2 := LL.out; rw [List.length_append] at h1; unfold maxLen; show _ ≤ _; omega
        obtain ⟨q, hq⟩ : ∃ q, cmpL xs ys = q := ⟨_, rfl⟩
        have Hq := Lib.hid hq
        have Hq2 : Hid (cmpL (ls ++ xs) (ls ++ ys) = q) := by rw [cmpL_front]; exact hq
        clear hq
        by_cases hz : n' = 0
        · subst hz
          have Hr : Hid (cmpL ls (ls ++ xs) = 0) := by rw [cmpL_more, if_pos Hn'.out]; exact rfl
          go_wp2_with fail
          refine (compareL_c A A1 n N1 c c1 ls (ls ++ xs) w5 Hn.out HN1.out hn1 M1.out Hl5.out HX5.out).mono ?_
          rintro e w6 ⟨rfl, hc⟩
          rw [Hr.out]
          have Hl6 : Hid (Sl w6 A ls) := Hl5.out.after hc
          have Hx6 : Hid (Sl w6 B xs) := Hx5.out.after hc
          have Hy6 : Hid (Sl w6 C ys) := Hy5.out.after hc
          have Hm6 : Hid (Mx w6 m) := Hm5.out.after hc
          have HX6 : Hid (Sl w6 A1 (ls ++ xs)) := HX5.out.after hc
          have HY6 : Hid (Sl w6 A2 (ls ++ ys)) := HY5.out.after hc
          have hb6 := hb5.trans (hc.mono hb5.size)
          clear hc hb5 Hl5 Hx5 Hy5 Hm5 HX5 HY5
          go_wp2_with fail
          refine (compareL_c A1 A2 N1 N2 c1 c2 (ls ++ xs) (ls ++ ys) w6 HN1.out HN2.out M1.out M2.out HX6.out HY6.out).mono ?_
          rintro e w7 ⟨rfl, hc⟩
          rw [Hq2.out]
          have Hl7 : Hid (Sl w7 A ls) := Hl6.out.after hc
          have Hx7 : Hid (Sl w7 B xs) := Hx6.out.after hc
          have Hy7 : Hid (Sl w7 C ys) := Hy6.out.after hc
          have Hm7 : Hid (Mx w7 m) := Hm6.out.after hc
          have HX7 : Hid (Sl w7 A1 (ls ++ xs)) := HX6.out.after hc
          have HY7 : Hid (Sl w7 A2 (ls ++ ys)) := HY6.out.after hc
          have hb7 := hb6.trans (hc.mono hb6.size)
          clear hc hb6 Hl6 Hx6 Hy6 Hm6 HX6 HY6
          go_wp2_with fail
          refine (compareL_c B C 0 n'' d e xs ys w7 Hn'.out Hn''.out hn1' hn1'' Hx7.out Hy7.out).mono ?_
          rintro e w8 ⟨rfl, hc⟩
          rw [Hq.out]
          have Hl8 : Hid (Sl w8 A ls) := Hl7.out.after hc
          have Hx8 : Hid (Sl w8 B xs) := Hx7.out.after hc
          have Hy8 : Hid (Sl w8 C ys) := Hy7.out.after hc
          have Hm8 : Hid (Mx w8 m) := Hm7.out.after hc
          have HX8 : Hid (Sl w8 A1 (ls ++ xs)) := HX7.out.after hc
          have HY8 : Hid (Sl w8 A2 (ls ++ ys)) := HY7.out.after hc
          have hb8 := hb7.trans (hc.mono hb7.size)
          clear hc hb7 Hl7 Hx7 Hy7 Hm7 HX7 HY7
          go_wp2
          go_ret
          exact ⟨rfl, hb8⟩
        · have Hr : Hid (cmpL ls (ls ++ xs) = -1) := by rw [cmpL_more, if_neg (by rw [Hn'.out]; exact hz)]; exact rfl
          have hz2 : ((n' : Int) == 0) = false := by simpa using hz
          go_wp2_with fail
          refine (compareL_c A A1 n N1 c c1 ls (ls ++ xs) w5 Hn.out HN1.out hn1 M1.out Hl5.out HX5.out).mono ?_
          rintro e w6 ⟨rfl, hc⟩
          rw [Hr.out]
          have Hl6 : Hid (Sl w6 A ls) := Hl5.out.after hc
          have Hx6 : Hid (Sl w6 B xs) := Hx5.out.after hc
          have Hy6 : Hid (Sl w6 C ys) := Hy5.out.after hc
          have Hm6 : Hid (Mx w6 m) := Hm5.out.after hc
          have HX6 : Hid (Sl w6 A1 (ls ++ xs)) := HX5.out.after hc
          have HY6 : Hid (Sl w6 A2 (ls ++ ys)) := HY5.out.after hc
          have hb6 := hb5.trans (hc.mono hb5.size)
          clear hc hb5 Hl5 Hx5 Hy5 Hm5 HX5 HY5
          go_wp2_with fail
          refine (compareL_c A1 A2 N1 N2 c1 c2 (ls ++ xs) (ls ++ ys) w6 HN1.out HN2.out M1.out M2.out HX6.out HY6.out).mono ?_
          rintro e w7 ⟨rfl, hc⟩
          rw [Hq2.out]
          have Hl7 : Hid (Sl w7 A ls) := Hl6.out.after hc
          have Hx7 : Hid (Sl w7 B xs) := Hx6.out.after hc
          have Hy7 : Hid (Sl w7 C ys) := Hy6.out.after hc
          have Hm7 : Hid (Mx w7 m) := Hm6.out.after hc
          have HX7 : Hid (Sl w7 A1 (ls ++ xs)) := HX6.out.after hc
          have HY7 : Hid (Sl w7 A2 (ls ++ ys)) := HY6.out.after hc
          have hb7 := hb6.trans (hc.mono hb6.size)
          clear hc hb6 Hl6 Hx6 Hy6 Hm6 HX6 HY6
          go_wp2_with fail
          refine (compareL_c B C n' n'' d e xs ys w7 Hn'.out Hn''.out hn1' hn1'' Hx7.out Hy7.out).mono ?_
          rintro e w8 ⟨rfl, hc⟩
          rw [Hq.out]
          have Hl8 : Hid (Sl w8 A ls) := Hl7.out.after hc
          have Hx8 : Hid (Sl w8 B xs) := Hx7.out.after hc
          have Hy8 : Hid (Sl w8 C ys) := Hy7.out.after hc
          have Hm8 : Hid (Mx w8 m) := Hm7.out.after hc
          have HX8 : Hid (Sl w8 A1 (ls ++ xs)) := HX7.out.after hc
          have HY8 : Hid (Sl w8 A2 (ls ++ ys)) := HY7.out.after hc
          have hb8 := hb7.trans (hc.mono hb7.size)
          clear hc hb7 Hl7 Hx7 Hy7 Hm7 HX7 HY7
          go_wp2
          go_ret
          exact ⟨rfl, hb8⟩
end Go.Proofs.YtkbgcgkblbbcbaaDoor
