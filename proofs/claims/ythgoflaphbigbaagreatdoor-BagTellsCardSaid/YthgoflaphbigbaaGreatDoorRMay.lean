/-
  Whether a row may be; of every row.
-/
import Derived.Test.YthgoflaphbigbaaGreatDoorHd
import Derived.Test.YthgoflaphbigbaaGreatDoorMay
namespace Go.Proofs.YthgoflaphbigbaaGreatDoor
open Go Go.RowKit
set_option maxRecDepth 100000

/-- May a row be? -/
def mayR (xs : List Val) : Bool := decide (xs.length ≤ 40) && xs.all mayB
set_option maxHeartbeats 1000000 in
theorem mayRow_c (A : Option Addr) (n c : Nat) (xs : List Val) (w : World) (hn : xs.length = n) (hn1 : n ≤ maxLen) (hs : Sl w A xs) (hz : ∀ x ∈ xs, x.s.size ≤ maxLen) :
    Calls Tryz.prog 26 #[.slice A n c] w fun e w' => e = .returned (.bool (mayR xs)) ∧ Below w.heap.size w w' := by
  unfold maxLen at hn1
  have Hn := Lib.hid hn
  have Hs := Lib.hid hs
  have Hz := Lib.hid hz
  by_cases h40 : n ≤ 40
  · have hR : mayR xs = xs.all mayB := by unfold mayR; rw [hn, decide_eq_true h40, Bool.true_and]
    rw [hR]
    obtain ⟨R, hR2⟩ : ∃ R, xs.all mayB = R := ⟨_, rfl⟩
    rw [hR2]
    have HR := Lib.hid hR2
    clear hn hs hz hR hR2
    go_enter Tryz.func26, Tryz.ntmps26
    go_wp2_with fail
    go_loopw [10] (fun i wr => ∃ k : Nat, k ≤ n ∧ i = .int .i64 k ∧ Below w.heap.size w wr ∧ Hid ((xs.drop k).all mayB = R)) (fun i _ => n - (intOf i).toNat)
    case atStart => exact ⟨0, Nat.zero_le _, rfl, Below.refl _ _, HR.out⟩
    case round =>
      obtain ⟨k, hk, rfl, hb, hinv⟩ := hrel
      by_cases hlt : k < n
      · obtain ⟨b, off, x, rfl, hblt, hx, c0, c1, c2⟩ := Hs.out.at3 (by rw [Hn.out]; exact hlt)
        have d0 := (hb.cell (p := ⟨b, off + k * 3, none⟩) hblt).trans c0
        have d1 := (hb.cell (p := ⟨b, off + k * 3 + 1, none⟩) hblt).trans c1
        have d2 := (hb.cell (p := ⟨b, off + k * 3 + 2, none⟩) hblt).trans c2
        have l1 : b < wr.heap.size := Nat.lt_of_lt_of_le hblt hb.size
        have Hxz := Lib.hid (Hz.out x (List.mem_of_getElem? hx))
        have Hst := Lib.hid ((all_dropA mayB xs k x hx).symm.trans hinv.out)
        clear hinv hx c0 c1 c2
        cases hm : mayB x
        · have Hst' : Hid (false = R) := by
            have := Hst.out
            rw [hm, Bool.false_and] at this
            exact this
          clear Hst HR
          go_wp2_with fail
          refine (may_c x _ Hxz.out).mono ?_
          rintro e w1 ⟨rfl, hb1⟩
          rw [hm]
          have hb2 := (hb.alloc hb.size _).trans (hb1.mono (by have := hb.size; simp; omega))
          clear hb1 hb
          go_wp2
          go_ret
          exact ⟨congrArg (fun z => Ending.returned (Value.bool z)) Hst'.out, hb2⟩
        · have Hst' : Hid ((xs.drop (k + 1)).all mayB = R) := by
            have := Hst.out
            rw [hm, Bool.true_and] at this
            exact this
          clear Hst HR
          go_wp2_with fail
          refine (may_c x _ Hxz.out).mono ?_
          rintro e w1 ⟨rfl, hb1⟩
          rw [hm]
          have hb2 := (hb.alloc hb.size _).trans (hb1.mono (by have := hb.size; simp; omega))
          clear hb1 hb
          go_wp2
          go_roundw
          case rel => exact ⟨k + 1, by omega, by go_num, hb2, Hst'.out⟩
          case measure => simp [intOf]; omega
      · obtain rfl : k = n := by omega
        have Hst' : Hid (true = R) := by
          have := hinv.out
          rw [show xs.drop k = [] from List.drop_eq_nil_of_le (by rw [Hn.out]; omega)] at this
          exact this
        clear hinv HR
        go_wp2
        go_ret
        exact ⟨congrArg (fun z => Ending.returned (Value.bool z)) Hst'.out, hb⟩
  · have hR : mayR xs = false := by unfold mayR; rw [hn, decide_eq_false h40, Bool.false_and]
    rw [hR]
    clear hn hs hz hR
    go_enter Tryz.func26, Tryz.ntmps26
    go_wp2
    go_ret
    exact ⟨rfl, Below.refl _ _⟩

theorem any_dropA (p : Val → Bool) (xs : List Val) (k : Nat) (x : Val) (hx : xs[k]? = some x) : (xs.drop k).any p = (p x || (xs.drop (k + 1)).any p) := by
  have h1 := List.drop_eq_getElem_cons (List.getElem?_eq_some_iff.1 hx).1
  rw [(List.getElem?_eq_some_iff.1 hx).2] at h1
  rw [h1, List.any_cons]
end Go.Proofs.YthgoflaphbigbaaGreatDoor
