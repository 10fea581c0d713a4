/-
  The document's own answers on tokens: whether one may be, whether all of some may be, their print. Of tokens of 64 bits; of prints of at most 300 tokens.
-/
import Derived.Test.YtmgmdkagnhmihaaDoorLexS
namespace Go.Proofs.YtmgmdkagnhmihaaDoor
open Go Go.RowKit
set_option maxRecDepth 100000

section
attribute [local go_sem ↓] run_eqV run_neV
set_option maxHeartbeats 1000000 in
theorem rmayT_0 (t : Tk) (w : World) (hl : t.t.size ≤ maxLen) (h0 : (t.k == 0) = true) : Calls Tryd.prog 13 #[t.val] w fun e w' => e = .returned (.bool (wordB t.t.data.toList && t.v.eq nl)) ∧ Below w.heap.size w w' := by
  obtain ⟨R, hR⟩ : ∃ R, (wordB t.t.data.toList && t.v.eq nl) = R := ⟨_, rfl⟩
  rw [hR]
  have HR := Lib.hid hR
  clear hR
  obtain ⟨k, s, v⟩ := t
  obtain ⟨vk, vn, vs⟩ := v
  simp only at *
  have Hw := Lib.hid (fun w => rword_c s.data.toList w hl)
  rw [ba_of] at Hw
  have Hb := Lib.hid ((below_one w (⟨k, s, vk, vn, vs⟩ : Tk).obj).alloc (by simp) (.cells #[.int .i64 0, .int .i64 0, .string ⟨#[]⟩] 33))
  clear hl
  go_enter Tryd.func13, Tryd.ntmps13
  go_wp2_with fail
  refine (Hw.out _).mono ?_
  rintro e w1 ⟨rfl, rfl⟩
  clear Hw
  have hR := HR.out
  clear HR
  cases hW : wordB s.data.toList
  all_goals
    rw [hW] at hR
    have HR := Lib.hid hR
    clear hR
    go_wp2
    go_ret
    refine ⟨?_, Hb.out⟩
    rw [← HR.out]
    rfl
set_option maxHeartbeats 1000000 in
theorem rmayT_2 (t : Tk) (w : World) (hl : t.t.size ≤ maxLen) (h0 : (t.k == 0) = false) (h1 : (t.k == 1) = false) (h2 : (t.k == 2) = true) : Calls Tryd.prog 13 #[t.val] w fun e w' => e = .returned (.bool (signB t.t.data.toList && t.v.eq nl)) ∧ Below w.heap.size w w' := by
  obtain ⟨R, hR⟩ : ∃ R, (signB t.t.data.toList && t.v.eq nl) = R := ⟨_, rfl⟩
  rw [hR]
  have HR := Lib.hid hR
  clear hR
  obtain ⟨k, s, v⟩ := t
  obtain ⟨vk, vn, vs⟩ := v
  obtain ⟨l, hl2⟩ : ∃ l, s = ba l := ⟨_, (ba_of s).symm⟩
  subst hl2
  simp only at *
  have Hb := Lib.hid ((below_one w (⟨k, ba l, vk, vn, vs⟩ : Tk).obj).alloc (by simp) (.cells #[.int .i64 0, .int .i64 0, .string ⟨#[]⟩] 33))
  unfold maxLen at hl
  have hl3 : l.length ≤ 9223372036854775807 := by rw [← ba_size l]; exact hl
  clear hl
  have other : (l.length == 1) = false → Calls Tryd.prog 13 #[(⟨k, ba l, vk, vn, vs⟩ : Tk).val] w fun e w' => e = .returned (.bool false) ∧ Below w.heap.size w w' := by
    intro h1
    have h2 : ((l.length : Int) == 1) = false := by simp at h1 ⊢; omega
    clear HR h1
    go_enter Tryd.func13, Tryd.ntmps13
    go_wp2
    go_ret
    exact ⟨rfl, Hb.out⟩
  match l, hl3 with
  | [], _ =>
    have hR : R = false := by rw [← HR.out]; rfl
    rw [hR]
    exact other rfl
  | c :: d :: r, _ =>
    have hR : R = false := by rw [← HR.out]; rfl
    rw [hR]
    exact other (by simp)
  | [c], _ =>
    have Hg : Hid ((ba [c])[0]'(by show 0 < [c].toArray.size; simp) = c) := rfl
    clear other
    go_enter Tryd.func13, Tryd.ntmps13
    go_wp2_with fail
    rw [Hg.out]
    refine (rsign_c c _).mono ?_
    rintro e w1 ⟨rfl, rfl⟩
    have hR : (decide (c ∈ sgns) && Val.eq ⟨vk, vn, vs⟩ nl) = R := HR.out
    clear HR
    cases hW : decide (c ∈ sgns)
    all_goals
      rw [hW] at hR
      have HR := Lib.hid hR
      clear hR
      go_wp2
      go_ret
      refine ⟨?_, Hb.out⟩
      rw [← HR.out]
      rfl
end
set_option maxHeartbeats 1000000 in
theorem rmayT_1 (t : Tk) (w : World) (hs : t.v.s.size ≤ maxLen) (h0 : (t.k == 0) = false) (h1 : (t.k == 1) = true) : Calls Tryd.prog 13 #[t.val] w fun e w' => e = .returned (.bool (t.t.toList.isEmpty && ((t.v.k == 2 || t.v.k == 3) && mayB t.v))) ∧ Below w.heap.size w w' := by
  obtain ⟨R, hR⟩ : ∃ R, (t.t.toList.isEmpty && ((t.v.k == 2 || t.v.k == 3) && mayB t.v)) = R := ⟨_, rfl⟩
  rw [hR]
  have HR := Lib.hid hR
  clear hR
  obtain ⟨k, s, v⟩ := t
  obtain ⟨vk, vn, vs⟩ := v
  simp only at *
  have hbo : Below w.heap.size w ((w.alloc (⟨k, s, vk, vn, vs⟩ : Tk).obj).alloc (.cells #[.int .i64 0, .int .i64 0, .string ⟨#[]⟩] 33)) := (below_one w (⟨k, s, vk, vn, vs⟩ : Tk).obj).alloc (by simp) _
  have Hb := Lib.hid hbo
  have HB := Lib.hid ((Bt.new w ⟨k, s, ⟨vk, vn, vs⟩⟩).after (below_one _ (.cells #[.int .i64 0, .int .i64 0, .string ⟨#[]⟩] 33)))
  have Hm := Lib.hid (fun w => rmay_c ⟨vk, vn, vs⟩ w hs)
  rw [← may_rm] at Hm
  have HR2 : Hid ((s.toList.isEmpty && ((vk == 2 || vk == 3) && mayB ⟨vk, vn, vs⟩)) = R) := HR
  clear hs hbo HR
  generalize mayB ⟨vk, vn, vs⟩ = m at Hm HR2
  cases he : s.toList.isEmpty
  · have hR := HR2.out
    rw [he, Bool.false_and] at hR
    subst hR
    clear HR2 Hm
    go_enter Tryd.func13, Tryd.ntmps13
    go_wp2
    go_ret
    exact ⟨rfl, Hb.out⟩
  · have hR := HR2.out
    rw [he, Bool.true_and] at hR
    have HR := Lib.hid hR
    clear HR2 hR
    go_enter Tryd.func13, Tryd.ntmps13
    go_wp2_with fail
    refine (Hm.out _).mono ?_
    rintro e w1 ⟨rfl, hb⟩
    obtain ⟨c0, c1, c2, c3, c4, f0, f1, f2, f3, f4, hlt⟩ := (HB.out.after hb).all
    have Hb2 := Lib.hid (Hb.out.trans (hb.mono Hb.out.size))
    clear hb Hm HB Hb
    cases m
    · have hR := HR.out
      rw [Bool.and_false] at hR
      subst hR
      clear HR
      go_wp2
      go_ret
      exact ⟨rfl, Hb2.out⟩
    · have hR := HR.out
      rw [Bool.and_true] at hR
      clear HR
      cases h2 : vk == 2
      · rw [h2, Bool.false_or] at hR
        have HR := Lib.hid hR
        clear hR
        go_wp2
        go_ret
        exact ⟨by rw [HR.out]; rfl, Hb2.out⟩
      · rw [h2, Bool.true_or] at hR
        subst hR
        go_wp2
        go_ret
        exact ⟨rfl, Hb2.out⟩
set_option maxHeartbeats 1000000 in
theorem rmayT_3 (t : Tk) (w : World) (h0 : (t.k == 0) = false) (h1 : (t.k == 1) = false) (h2 : (t.k == 2) = false) : Calls Tryd.prog 13 #[t.val] w fun e w' => e = .returned (.bool false) ∧ Below w.heap.size w w' := by
  have Hb := Lib.hid ((below_one w t.obj).alloc (by simp) (.cells #[.int .i64 0, .int .i64 0, .string ⟨#[]⟩] 33))
  go_enter Tryd.func13, Tryd.ntmps13
  go_wp2
  go_ret
  exact ⟨rfl, Hb.out⟩
theorem rmayT_c (t : Tk) (w : World) (hl : t.t.size ≤ maxLen) (hs : t.v.s.size ≤ maxLen) : Calls Tryd.prog 13 #[t.val] w fun e w' => e = .returned (.bool (mayT t)) ∧ Below w.heap.size w w' := by
  unfold mayT
  cases h0 : t.k == 0
  · cases h1 : t.k == 1
    · cases h2 : t.k == 2
      · exact rmayT_3 t w h0 h1 h2
      · exact rmayT_2 t w hl h0 h1 h2
    · exact rmayT_1 t w hs h0 h1
  · exact rmayT_0 t w hl h0
theorem all_dropG {α : Type} (p : α → Bool) {xs : List α} {k : Nat} {x : α} (hx : xs[k]? = some x) : (xs.drop k).all p = (p x && (xs.drop (k + 1)).all p) := by
  rw [drop_at hx, List.all_cons]
set_option maxHeartbeats 1000000 in
theorem rall_c (A : Option Addr) (n c : Nat) (ts : List Tk) (w : World) (hn : ts.length = n) (hn1 : n ≤ maxLen) (hs : SlG w A 5 rdT ts) (hz : ∀ t ∈ ts, t.t.size ≤ maxLen ∧ t.v.s.size ≤ maxLen) :
    Calls Tryd.prog 8 #[.slice A n c] w fun e w' => e = .returned (.bool (ts.all mayT)) ∧ Below w.heap.size w w' := by
  unfold maxLen at hn1
  obtain ⟨R, hR⟩ : ∃ R, ts.all mayT = R := ⟨_, rfl⟩
  rw [hR]
  have HR := Lib.hid hR
  have Hs := Lib.hid hs
  have Hn := Lib.hid hn
  have Hz := Lib.hid hz
  clear hs hn hz hR
  go_enter Tryd.func8, Tryd.ntmps8
  go_wp2_with fail
  go_loopw [3] (fun i wr => ∃ k : Nat, k ≤ n ∧ i = .int .i64 k ∧ Hid (Below w.heap.size w wr) ∧ Hid ((ts.drop k).all mayT = R)) (fun i _ => n - (intOf i).toNat)
  case atStart => exact ⟨0, Nat.zero_le _, rfl, Below.refl _ _, HR⟩
  case round =>
    obtain ⟨k, hk, rfl, hb, hinv⟩ := hrel
    clear HR
    by_cases hlt : k < n
    · obtain ⟨b, off, x, rfl, hblt, hx, c0, c1, c2, c3, c4⟩ := Hs.out.at5 (by rw [Hn.out]; exact hlt)
      have d0 := (hb.out.cell (p := ⟨b, off + k * 5, none⟩) hblt).trans c0
      have d1 := (hb.out.cell (p := ⟨b, off + k * 5 + 1, none⟩) hblt).trans c1
      have d2 := (hb.out.cell (p := ⟨b, off + k * 5 + 2, none⟩) hblt).trans c2
      have d3 := (hb.out.cell (p := ⟨b, off + k * 5 + 3, none⟩) hblt).trans c3
      have d4 := (hb.out.cell (p := ⟨b, off + k * 5 + 4, none⟩) hblt).trans c4
      have l1 : b < wr.heap.size := Nat.lt_of_lt_of_le hblt hb.out.size
      have Hzx := Lib.hid (Hz.out x (List.mem_of_getElem? hx))
      have hst : (mayT x && (ts.drop (k + 1)).all mayT) = R := by rw [← hinv.out, all_dropG mayT hx]
      have Hst := Lib.hid hst
      clear hinv hx c0 c1 c2 c3 c4 hblt hst
      go_wp2_with fail
      refine (rmayT_c x wr Hzx.out.1 Hzx.out.2).mono ?_
      rintro e w1 ⟨rfl, hb1⟩
      have Hb2 := Lib.hid (hb.out.trans (hb1.mono hb.out.size))
      clear hb1 d0 d1 d2 d3 d4
      cases hm : mayT x
      · have hRf : false = R := by have := Hst.out; rw [hm, Bool.false_and] at this; exact this
        subst hRf
        clear Hst hm
        go_wp2
        go_ret
        exact ⟨rfl, Hb2.out⟩
      · have hst : (ts.drop (k + 1)).all mayT = R := by have := Hst.out; rw [hm, Bool.true_and] at this; exact this
        have Hst2 := Lib.hid hst
        clear Hst hm hst
        go_wp2
        go_roundw
        case rel => exact ⟨k + 1, by omega, by go_num, Hb2, Hst2⟩
        case measure => simp [intOf]; omega
    · obtain rfl : k = n := by omega
      have hRt : true = R := by
        have := hinv.out
        rw [show ts.drop k = [] from List.drop_eq_nil_of_le (by rw [Hn.out]; omega)] at this
        exact this
      subst hRt
      clear hinv
      go_wp2
      go_ret
      exact ⟨rfl, hb.out⟩
end Go.Proofs.YtmgmdkagnhmihaaDoor
