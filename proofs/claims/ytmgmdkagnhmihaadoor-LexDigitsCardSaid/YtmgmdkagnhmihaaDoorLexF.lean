/-
  Whether a text is a word, or a sign; whether a token may be, as the program asks it: of every token.
-/
import Derived.Test.YtmgmdkagnhmihaaDoorLexE
namespace Go.Proofs.YtmgmdkagnhmihaaDoor
open Go Go.RowKit
set_option maxRecDepth 100000

theorem all_drop (p : UInt8 → Bool) : ∀ l : List UInt8, l.all p = (l.dropWhile p).isEmpty
  | [] => rfl
  | c :: l => by
    rw [List.all_cons, List.dropWhile_cons]
    cases p c
    · rfl
    · simp only [Bool.true_and, if_true]
      exact all_drop p l
theorem Rd.new (w : World) (l : List UInt8) : Rd (w.alloc (.cells #[.string (ba l)] 43)) w.heap.size l := by
  show (w.heap.push _)[w.heap.size]? = _
  simp
set_option maxHeartbeats 1000000 in
theorem isWord_c (l : List UInt8) (w : World) (hl : l.length ≤ maxLen) : Calls Tryd.prog 26 #[.string (ba l)] w fun e w' => e = .returned (.bool (wordB l)) ∧ Below w.heap.size w w' := by
  unfold maxLen at hl
  cases l with
  | nil =>
    go_enter Tryd.func26, Tryd.ntmps26
    go_wp2
    go_ret
    exact ⟨rfl, Below.refl _ _⟩
  | cons c r =>
    have Hg : Hid ((ba (c :: r))[0]'(by show 0 < (c :: r).toArray.size; simp) = c) := rfl
    obtain ⟨R, hR⟩ : ∃ R, wordB (c :: r) = R := ⟨_, rfl⟩
    rw [hR]
    have HR : Hid ((decide ((c :: r).length ≤ 30) && (decide (cls c = 2) && (c :: r).all inn)) = R) := hR
    clear hR
    by_cases h30 : (c :: r).length ≤ 30
    · have hd := decide_eq_true h30
      have h31 : r.length + 1 ≤ 30 := by simpa using h30
      have H30 := Lib.hid h30
      go_enter Tryd.func26, Tryd.ntmps26
      go_wp2_with fail
      refine (cls_c _ _).mono ?_
      rintro e w0 ⟨rfl, rfl⟩
      rw [Hg.out]
      by_cases h2 : cls c = 2
      · rw [h2]
        have H2 := Lib.hid h2
        clear h2 hd h30 Hg
        go_wp2_with fail
        refine (word_c _ (c :: r) _ (Rd.new _ _) (by have := H30.out; omega)).mono ?_
        rintro e w1 ⟨rfl, hS⟩
        have r0 := hS.rd.cell
        have hlt := hS.rd.lt
        have Hb : Hid (Below w0.heap.size w0 w1) := (below_one w0 _).trans (hS.below (Nat.le_refl _) (by simp))
        have hall := all_drop inn (c :: r)
        have hR := HR.out
        rw [hall, decide_eq_true H30.out, decide_eq_true H2.out] at hR
        simp only [Bool.true_and] at hR
        clear hall HR hS
        generalize (c :: r).takeWhile inn = T
        generalize (c :: r).dropWhile inn = D at r0 hR
        cases D with
        | nil =>
          subst hR
          go_wp2
          go_ret
          exact ⟨rfl, Hb.out⟩
        | cons x D =>
          subst hR
          go_wp2
          go_ret
          exact ⟨rfl, Hb.out⟩
      · have hne : (cls c == 2) = false := by simpa using h2
        have hne2 : (cls c != 2) = true := by simpa using h2
        have hR := HR.out
        rw [decide_eq_false h2, Bool.false_and, Bool.and_false] at hR
        subst hR
        clear HR h2 hd
        generalize cls c = cx at hne hne2 ⊢
        go_wp2
        go_ret
        exact ⟨rfl, Below.refl _ _⟩
    · have hR := HR.out
      rw [decide_eq_false h30, Bool.false_and] at hR
      subst hR
      have h31 : 30 < r.length + 1 := by simp only [List.length_cons] at h30; omega
      clear HR h30
      go_enter Tryd.func26, Tryd.ntmps26
      go_wp2
      go_ret
      exact ⟨rfl, Below.refl _ _⟩
set_option maxHeartbeats 1000000 in
theorem isSign_c (l : List UInt8) (w : World) (hl : l.length ≤ maxLen) : Calls Tryd.prog 28 #[.string (ba l)] w fun e w' => e = .returned (.bool (signB l)) ∧ Below w.heap.size w w' := by
  unfold maxLen at hl
  have other : ∀ l : List UInt8, l.length ≤ 9223372036854775807 → (l.length == 1) = false → Calls Tryd.prog 28 #[.string (ba l)] w fun e w' => e = .returned (.bool false) ∧ Below w.heap.size w w' := by
    intro l hl h1
    have h2 : ((l.length : Int) == 1) = false := by simp at h1 ⊢; omega
    go_enter Tryd.func28, Tryd.ntmps28
    go_wp2
    go_ret
    exact ⟨rfl, Below.refl _ _⟩
  match l, hl with
  | [], hl => exact other [] hl rfl
  | [c], hl =>
    obtain ⟨R, hR⟩ : ∃ R, signB [c] = R := ⟨_, rfl⟩
    rw [hR]
    have HR := Lib.hid hR
    clear hR other
    go_enter Tryd.func28, Tryd.ntmps28
    go_wp2_with fail
    refine (Tryd.strings_Contains_one _ c _).mono ?_
    rintro e w1 ⟨rfl, rfl⟩
    have e1 : decide (0 ≤ Lib.indexByte (⟨#[40, 41, 91, 93, 44, 61, 60, 43, 45, 42, 63]⟩ : ByteArray).data.toList c) = R := by
      rw [← HR.out]
      unfold signB
      have := indexByte_mem sgns c
      rw [decide_eq_decide]
      exact this
    rw [e1]
    clear e1 HR
    go_wp2
    go_ret
    exact ⟨rfl, Below.refl _ _⟩
  | c :: d :: r, hl => exact other (c :: d :: r) hl (by simp)
section
attribute [local go_sem ↓] run_eqV run_neV
set_option maxHeartbeats 1000000 in
theorem tmay_c0 (t : Tk) (w : World) (hl : t.t.size ≤ maxLen) (h0 : (t.k == 0) = true) : Calls Tryd.prog 16 #[t.val] w fun e w' => e = .returned (.bool (wordB t.t.data.toList && t.v.eq nl)) ∧ Below w.heap.size w w' := by
  obtain ⟨R, hR⟩ : ∃ R, (wordB t.t.data.toList && t.v.eq nl) = R := ⟨_, rfl⟩
  rw [hR]
  have HR := Lib.hid hR
  clear hR
  obtain ⟨k, s, v⟩ := t
  obtain ⟨vk, vn, vs⟩ := v
  simp only at *
  have Hw := Lib.hid (isWord_c s.data.toList (w.alloc (⟨k, s, vk, vn, vs⟩ : Tk).obj) hl)
  rw [ba_of] at Hw
  have HB := Lib.hid (Bt.new w ⟨k, s, ⟨vk, vn, vs⟩⟩)
  clear hl
  go_enter Tryd.func16, Tryd.ntmps16
  go_wp2_with fail
  refine Hw.out.mono ?_
  rintro e w1 ⟨rfl, hb⟩
  obtain ⟨c0, c1, c2, c3, c4, f0, f1, f2, f3, f4, hlt⟩ := (HB.out.after hb).all
  have Hb := Lib.hid ((below_one w _).trans (hb.mono (by simp)))
  clear hb Hw HB
  have hR := HR.out
  clear HR
  cases hW : wordB s.data.toList
  all_goals
    rw [hW] at hR
    have HR := Lib.hid hR
    clear hR
    go_wp2
    go_ret
    refine ⟨?_, Hb.out⟩
    rw [← HR.out]
    rfl
set_option maxHeartbeats 1000000 in
theorem tmay_c2 (t : Tk) (w : World) (hl : t.t.size ≤ maxLen) (h0 : (t.k == 0) = false) (h1 : (t.k == 1) = false) (h2 : (t.k == 2) = true) : Calls Tryd.prog 16 #[t.val] w fun e w' => e = .returned (.bool (signB t.t.data.toList && t.v.eq nl)) ∧ Below w.heap.size w w' := by
  obtain ⟨R, hR⟩ : ∃ R, (signB t.t.data.toList && t.v.eq nl) = R := ⟨_, rfl⟩
  rw [hR]
  have HR := Lib.hid hR
  clear hR
  obtain ⟨k, s, v⟩ := t
  obtain ⟨vk, vn, vs⟩ := v
  simp only at *
  have Hw := Lib.hid (isSign_c s.data.toList (w.alloc (⟨k, s, vk, vn, vs⟩ : Tk).obj) hl)
  rw [ba_of] at Hw
  have HB := Lib.hid (Bt.new w ⟨k, s, ⟨vk, vn, vs⟩⟩)
  clear hl
  go_enter Tryd.func16, Tryd.ntmps16
  go_wp2_with fail
  refine Hw.out.mono ?_
  rintro e w1 ⟨rfl, hb⟩
  obtain ⟨c0, c1, c2, c3, c4, f0, f1, f2, f3, f4, hlt⟩ := (HB.out.after hb).all
  have Hb := Lib.hid ((below_one w _).trans (hb.mono (by simp)))
  clear hb Hw HB
  have hR := HR.out
  clear HR
  cases hW : signB s.data.toList
  all_goals
    rw [hW] at hR
    have HR := Lib.hid hR
    clear hR
    go_wp2
    go_ret
    refine ⟨?_, Hb.out⟩
    rw [← HR.out]
    rfl
end
set_option maxHeartbeats 1000000 in
theorem tmay_c1 (t : Tk) (w : World) (hs : t.v.s.size ≤ maxLen) (h0 : (t.k == 0) = false) (h1 : (t.k == 1) = true) : Calls Tryd.prog 16 #[t.val] w fun e w' => e = .returned (.bool (t.t.toList.isEmpty && ((t.v.k == 2 || t.v.k == 3) && mayB t.v))) ∧ Below w.heap.size w w' := by
  obtain ⟨R, hR⟩ : ∃ R, (t.t.toList.isEmpty && ((t.v.k == 2 || t.v.k == 3) && mayB t.v)) = R := ⟨_, rfl⟩
  rw [hR]
  obtain ⟨k, s, v⟩ := t
  obtain ⟨vk, vn, vs⟩ := v
  simp only at *
  have HB := Lib.hid (Bt.new w ⟨k, s, ⟨vk, vn, vs⟩⟩)
  have Hm := Lib.hid (may_c ⟨vk, vn, vs⟩ (w.alloc (⟨k, s, vk, vn, vs⟩ : Tk).obj) hs)
  have hbo : Below w.heap.size w (w.alloc (⟨k, s, vk, vn, vs⟩ : Tk).obj) := below_one w _
  have Hbo := Lib.hid hbo
  clear hs hbo
  cases he : s.toList.isEmpty
  · rw [he] at hR
    have HR := Lib.hid hR
    clear hR
    go_enter Tryd.func16, Tryd.ntmps16
    go_wp2
    go_ret
    exact ⟨by rw [← HR.out]; rfl, Hbo.out⟩
  · rw [he] at hR
    cases h2 : vk == 2
    · cases h3 : vk == 3
      · rw [h2, h3] at hR
        have HR := Lib.hid hR
        clear hR
        go_enter Tryd.func16, Tryd.ntmps16
        go_wp2
        go_ret
        exact ⟨by rw [← HR.out]; rfl, Hbo.out⟩
      · rw [h2, h3] at hR
        have HR := Lib.hid hR
        clear hR
        go_enter Tryd.func16, Tryd.ntmps16
        go_wp2_with fail
        refine Hm.out.mono ?_
        rintro e w1 ⟨rfl, hb⟩
        have Hb := Lib.hid (Hbo.out.trans (hb.mono (by simp)))
        have hR2 : mayB ⟨vk, vn, vs⟩ = R := HR.out
        rw [hR2]
        clear hb Hm HR hR2
        go_wp2
        go_ret
        exact ⟨rfl, Hb.out⟩
    · rw [h2] at hR
      have HR := Lib.hid hR
      clear hR
      go_enter Tryd.func16, Tryd.ntmps16
      go_wp2_with fail
      refine Hm.out.mono ?_
      rintro e w1 ⟨rfl, hb⟩
      have Hb := Lib.hid (Hbo.out.trans (hb.mono (by simp)))
      have hR2 : mayB ⟨vk, vn, vs⟩ = R := HR.out
      rw [hR2]
      clear hb Hm HR hR2
      go_wp2
      go_ret
      exact ⟨rfl, Hb.out⟩
set_option maxHeartbeats 1000000 in
theorem tmay_c3 (t : Tk) (w : World) (h0 : (t.k == 0) = false) (h1 : (t.k == 1) = false) (h2 : (t.k == 2) = false) : Calls Tryd.prog 16 #[t.val] w fun e w' => e = .returned (.bool false) ∧ Below w.heap.size w w' := by
  have hbo : Below w.heap.size w (w.alloc t.obj) := below_one w _
  have Hbo := Lib.hid hbo
  clear hbo
  go_enter Tryd.func16, Tryd.ntmps16
  go_wp2
  go_ret
  exact ⟨rfl, Hbo.out⟩
theorem tmay_c (t : Tk) (w : World) (hl : t.t.size ≤ maxLen) (hs : t.v.s.size ≤ maxLen) : Calls Tryd.prog 16 #[t.val] w fun e w' => e = .returned (.bool (mayT t)) ∧ Below w.heap.size w w' := by
  unfold mayT
  cases h0 : t.k == 0
  · cases h1 : t.k == 1
    · cases h2 : t.k == 2
      · exact tmay_c3 t w h0 h1 h2
      · exact tmay_c2 t w hl h0 h1 h2
    · exact tmay_c1 t w hs h0 h1
  · exact tmay_c0 t w hl h0
end Go.Proofs.YtmgmdkagnhmihaaDoor
