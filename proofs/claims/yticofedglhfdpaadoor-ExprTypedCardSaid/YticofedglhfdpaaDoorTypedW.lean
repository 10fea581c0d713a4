/-
  An expression that has a kind comes to a value of it, or null, or it is too large: the law, walked; no condition.
-/
import Derived.Test.YticofedglhfdpaaDoorExpP
namespace Go.Proofs.YticofedglhfdpaaDoor
open Go Go.RowKit
set_option maxRecDepth 100000
attribute [local go_sem ↓] run_eqV run_neV

set_option maxHeartbeats 8000000 in
theorem typed_c (A A2 A3 : Option Addr) (n c m c2 r c3 : Nat) (e : List Nd) (cols : List Int) (row : List Val) (w : World) (hn : e.length = n) (hmax : n ≤ maxLen) (hs : SlN w A e) (hz : ∀ x ∈ e, x.v.s.size ≤ maxLen)
    (hm : cols.length = m) (hmax2 : m ≤ maxLen) (hs2 : SlI w A2 cols) (hr : row.length = r) (hmax3 : r ≤ maxLen) (hs3 : Sl w A3 row) (hw : Wd w) :
    Calls Tryd.prog 3 #[.slice A n c, .slice A2 m c2, .slice A3 r c3] w fun en w' => en = .returned (.bool true) ∧ Below w.heap.size w w' := by
  have hm1 : n ≤ 9223372036854775807 := hmax
  have hm2 : m ≤ 9223372036854775807 := hmax2
  have hm3 : r ≤ 9223372036854775807 := hmax3
  have Hn := Lib.hid hn
  have Hs := Lib.hid hs
  have Hz := Lib.hid hz
  have Hm := Lib.hid hm
  have Hs2 := Lib.hid hs2
  have Hr := Lib.hid hr
  have Hs3 := Lib.hid hs3
  have Hw := Lib.hid hw
  have Hx := Lib.hid hmax
  have Hx2 := Lib.hid hmax2
  have Hx3 := Lib.hid hmax3
  clear hn hs hz hm hs2 hr hs3 hw hmax hmax2 hmax3
  go_enter Tryd.func3, Tryd.ntmps3
  go_wp2_with fail
  refine (fixed_c _ Hw.out).mono ?_
  rintro en w1 ⟨rfl, hb1⟩
  have Hb1 := Lib.hid hb1
  clear hb1
  go_wp2_with fail
  refine (big_c A n c e w1 Hn.out Hx.out (Hs.out.after Hb1.out) Hz.out).mono ?_
  rintro en w2 ⟨rfl, rfl⟩
  obtain ⟨B, hB⟩ : ∃ B, bigB e = B := ⟨_, rfl⟩
  rw [hB]
  clear hB
  cases B
  · by_cases hl : r ≤ 40
    · go_wp2_with fail
      refine (fits_c A3 A2 r c3 m c2 row cols w2 Hr.out Hm.out Hx3.out Hx2.out (Hs3.out.after Hb1.out) (Hs2.out.after Hb1.out)).mono ?_
      rintro en w3 ⟨rfl, hb3⟩
      have Hb3 := Lib.hid (Hb1.out.trans (hb3.mono Hb1.out.size))
      clear hb3 Hb1
      obtain ⟨B, hB⟩ : ∃ B, fitsB row cols = B := ⟨_, rfl⟩
      rw [hB]
      have HB := Lib.hid hB
      clear hB
      cases B
      · go_wp2_with fail
        refine (fixed_c _ (Hw.out.after Hb3.out)).mono ?_
        rintro en w4 ⟨rfl, hb4⟩
        have Hb4 := Lib.hid (Hb3.out.trans (hb4.mono Hb3.out.size))
        clear hb4
        go_wp2
        go_ret
        exact ⟨rfl, Hb4.out⟩
      · go_wp2_with fail
        refine (type_c A A2 n c m c2 e cols w3 Hn.out (Hs.out.after Hb3.out) Hx.out Hm.out (Hs2.out.after Hb3.out) Hz.out).mono ?_
        rintro en w4 ⟨rfl, hb4⟩
        have Hb4 := Lib.hid (Hb3.out.trans (hb4.mono Hb3.out.size))
        clear hb4 Hb3
        obtain ⟨⟨K, er⟩, hT⟩ : ∃ T, typeR e cols = T := ⟨_, rfl⟩
        rw [hT]
        have HT := Lib.hid hT
        clear hT
        cases h0 : er == 0
        · have h0' : (er != 0) = true := by rw [bne, h0]; rfl
          obtain rfl : K = 0 := by
            have := typeR_err e cols (by rw [HT.out]; exact h0)
            rw [HT.out] at this
            exact this
          go_wp2
          go_ret
          exact ⟨rfl, Hb4.out⟩
        · obtain rfl : er = 0 := by simpa using h0
          clear h0
          go_wp2_with fail
          refine (eval_c A A3 n c r c3 e row w4 Hn.out (Hs.out.after Hb4.out) Hx.out Hr.out (Hs3.out.after Hb4.out) Hz.out).mono ?_
          rintro en w5 ⟨rfl, hb5⟩
          obtain ⟨⟨v, g⟩, hE⟩ : ∃ E, evalR e row = E := ⟨_, rfl⟩
          rw [hE]
          have HE := Lib.hid hE
          have Hb5 := Lib.hid ((Hb4.out.trans (hb5.mono Hb4.out.size)).alloc (Nat.le_trans Hb4.out.size hb5.size) (.cells #[.int .i64 v.k, .int .i64 v.n, .string v.s] 34))
          clear hE hb5 Hb4
          have hty := typed_eval e cols row HB.out (by rw [HT.out]; rfl)
          rw [HE.out, HT.out] at hty
          cases h0 : g == 0
          · have h0' : (g != 0) = true := by rw [bne, h0]; rfl
            obtain rfl : g = 31 := by
              rcases hty with h | ⟨h, _⟩
              · exact h
              · have h' : g = 0 := h
                rw [h'] at h0
                cases h0
            obtain rfl : v = nl := by
              have := evalR_err e row (by rw [HE.out]; exact h0)
              rw [HE.out] at this
              exact this
            clear hty h0 h0'
            go_wp2
            go_ret
            exact ⟨by rw [show (Val.eq ⟨nl.k, nl.n, nl.s⟩ ⟨0, 0, emp⟩) = true from Val.eq_self nl]; rfl, Hb5.out⟩
          · obtain rfl : g = 0 := by simpa using h0
            clear h0
            have hk : v.k = 0 ∨ v.k = K := by
              rcases hty with h | ⟨_, h⟩
              · cases h
              · exact h
            clear hty
            cases h1 : v.k == 0
            · obtain rfl : v.k = K := by
                rcases hk with h | h
                · rw [h] at h1; cases h1
                · exact h
              have h2 : (v.k == v.k) = true := beq_self_eq_true _
              clear hk
              go_wp2
              go_ret
              exact ⟨rfl, Hb5.out⟩
            · clear hk
              go_wp2
              go_ret
              exact ⟨rfl, Hb5.out⟩
    · go_wp2_with fail
      refine (fixed_c _ (Hw.out.after Hb1.out)).mono ?_
      rintro en w3 ⟨rfl, hb3⟩
      have Hb3 := Lib.hid (Hb1.out.trans (hb3.mono Hb1.out.size))
      clear hb3
      go_wp2
      go_ret
      exact ⟨rfl, Hb3.out⟩
  · go_wp2_with fail
    refine (fixed_c _ (Hw.out.after Hb1.out)).mono ?_
    rintro en w3 ⟨rfl, hb3⟩
    have Hb3 := Lib.hid (Hb1.out.trans (hb3.mono Hb1.out.size))
    clear hb3
    go_wp2
    go_ret
    exact ⟨rfl, Hb3.out⟩
end Go.Proofs.YticofedglhfdpaaDoor
