/-
  The document's bytes of a list of values: they are the program's, of every short list.
-/
import Derived.Test.YtkbgcgkblbbcbaaDoorROne
import Derived.Test.YtkbgcgkblbbcbaaDoorBackW
namespace Go.Proofs.YtkbgcgkblbbcbaaDoor
open Go Go.RowKit

theorem all_may_rm (xs : List Val) : xs.all mayB = xs.all rmB := by congr 1; funext x; exact may_rm x

set_option maxHeartbeats 2000000 in
theorem rencode_no (A : Option Addr) (n c : Nat) (xs : List Val) (w : World) (hn : xs.length = n) (hn1 : n ≤ 40) (hs : Sl w A xs) (hz : ∀ x ∈ xs, x.s.size ≤ 1000) (hg : xs.all rmB = false) :
    Calls Tryd.prog 13 #[.slice A n c] w fun e w' => e = .returned (.string emp) ∧ Below w.heap.size w w' := by
  have hpos : 0 < n := by
    rcases Nat.eq_zero_or_pos n with h | h
    · subst h
      rw [List.eq_nil_of_length_eq_zero hn] at hg
      exact absurd hg (by decide)
    · exact h
  have Hn := Lib.hid hn
  have Hs := Lib.hid hs
  have Hz := Lib.hid hz
  have Hg := Lib.hid hg
  clear hn hs hz hg
  go_enter Tryd.func13, Tryd.ntmps13
  go_wp2_with fail
  refine wp_loop_rounds 1 ?_
  rw [rounds_succ]
  go_wp2_with fail
  refine (rmayL_c A n c xs w Hn.out (by unfold maxLen; omega) Hs.out (fun x hx => Nat.le_trans (Hz.out x hx) (by unfold maxLen; omega))).mono ?_
  rintro e w1 ⟨rfl, hb⟩
  rw [Hg.out]
  go_wp2
  go_ret
  exact ⟨rfl, hb⟩

set_option maxHeartbeats 2000000 in
theorem rencode_yes (A : Option Addr) (n c : Nat) (xs : List Val) (w : World) (hn : xs.length = n) (hn1 : n ≤ 40) (hs : Sl w A xs) (hz : ∀ x ∈ xs, x.s.size ≤ 1000) (hi : ∀ x ∈ xs, In64 x) (hg : xs.all rmB = true) :
    Calls Tryd.prog 13 #[.slice A n c] w fun e w' => e = .returned (.string ⟨(encL xs).toArray⟩) ∧ Below w.heap.size w w' := by
  have Hn := Lib.hid hn
  have Hs := Lib.hid hs
  have Hz := Lib.hid hz
  have Hg := Lib.hid hg
  have Hi := Lib.hid hi
  clear hn hs hz hg hi
  go_enter Tryd.func13, Tryd.ntmps13
  go_wp2_with fail
  go_loopw [3, 4] (fun y i wr => ∃ k : Nat, k ≤ n ∧ i = .int .i64 k ∧ y = .string ⟨(encL (xs.take k)).toArray⟩ ∧ Below w.heap.size w wr) (fun _ i _ => n - (intOf i).toNat)
  case atStart => exact ⟨0, Nat.zero_le _, rfl, rfl, Below.refl _ _⟩
  case round =>
    obtain ⟨k, hk, rfl, rfl, hb⟩ := hrel
    by_cases hlt : k < n
    · obtain ⟨b, off, x, rfl, hblt, hx, c0, c1, c2⟩ := Hs.out.at (by rw [Hn.out]; exact hlt)
      have hcat := cat_run2 (encL (xs.take k)) (enc1 x) (by
        have h1 := encL_length (xs.take k) (fun y hy => Hz.out y (List.mem_of_mem_take hy))
        have h2 := enc1_length x (Hz.out x (List.mem_of_getElem? hx))
        rw [List.length_take] at h1
        omega)
      have htake : encL (xs.take k) ++ enc1 x = encL (xs.take (k + 1)) := by
        rw [List.take_add_one, hx, encL_append]
        simp [encL]
      rw [htake] at hcat
      have Hv := Lib.hid (valid_of x (List.all_eq_true.1 Hg.out x (List.mem_of_getElem? hx)))
      have Hxi := Lib.hid (Hi.out x (List.mem_of_getElem? hx))
      have C0 := Lib.hid c0
      have C1 := Lib.hid c1
      have C2 := Lib.hid c2
      clear hx htake c0 c1 c2
      obtain ⟨e1, he1⟩ : ∃ e1 : ByteArray, e1 = ⟨(encL (xs.take k)).toArray⟩ := ⟨_, rfl⟩
      obtain ⟨e2, he2⟩ : ∃ e2 : ByteArray, e2 = ⟨(enc1 x).toArray⟩ := ⟨_, rfl⟩
      obtain ⟨e3, he3⟩ : ∃ e3 : ByteArray, e3 = ⟨(encL (xs.take (k + 1))).toArray⟩ := ⟨_, rfl⟩
      rw [← he1, ← he2, ← he3] at hcat
      rw [← he1]
      have E2 := Lib.hid he2
      have E3 := Lib.hid he3
      clear he1 he2 he3
      go_wp2_with fail
      refine (rmayL_c (some ⟨b, off, none⟩) n c xs wr Hn.out (by unfold maxLen; omega) (Hs.out.after hb) (fun x hx => Nat.le_trans (Hz.out x hx) (by unfold maxLen; omega))).mono ?_
      rintro e w1 ⟨rfl, hb1⟩
      rw [Hg.out]
      have hbw := hb.trans (hb1.mono hb.size)
      have d0 := (hbw.cell (p := ⟨b, off + k * 3, none⟩) hblt).trans C0.out
      have d1 := (hbw.cell (p := ⟨b, off + k * 3 + 1, none⟩) hblt).trans C1.out
      have d2 := (hbw.cell (p := ⟨b, off + k * 3 + 2, none⟩) hblt).trans C2.out
      clear hb hb1 C0 C1 C2
      go_wp2_with fail
      refine (one_c x w1 Hv.out Hxi.out).mono ?_
      rintro e w2 ⟨rfl, hb2⟩
      rw [← E2.out]
      have hbw2 := hbw.trans (hb2.mono hbw.size)
      clear hb2 hbw d0 d1 d2
      go_wp2
      go_roundw
      case rel => exact ⟨k + 1, by omega, by go_num, congrArg Value.string E3.out, hbw2⟩
      case measure => simp [intOf]; omega
    · obtain rfl : k = n := by omega
      have hfin : xs.take k = xs := List.take_of_length_le (by rw [Hn.out]; omega)
      rw [hfin]
      clear hfin
      go_wp2
      go_ret
      exact ⟨rfl, hb⟩
theorem rencode_c (A : Option Addr) (n c : Nat) (xs : List Val) (w : World) (hn : xs.length = n) (hn1 : n ≤ 40) (hs : Sl w A xs) (hz : ∀ x ∈ xs, x.s.size ≤ 1000) (hi : ∀ x ∈ xs, In64 x) :
    Calls Tryd.prog 13 #[.slice A n c] w fun e w' => e = .returned (.string ⟨(encode xs).toArray⟩) ∧ Below w.heap.size w w' := by
  unfold encode
  rw [all_may_rm]
  cases hg : xs.all rmB
  · exact rencode_no A n c xs w hn hn1 hs hz hg
  · exact rencode_yes A n c xs w hn hn1 hs hz hi hg
end Go.Proofs.YtkbgcgkblbbcbaaDoor
