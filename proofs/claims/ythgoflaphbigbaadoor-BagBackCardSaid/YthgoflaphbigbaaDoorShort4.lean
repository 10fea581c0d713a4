/-
  Whether rows are few, of few values, of short texts, as the document has it. Of all rows.
-/
import Derived.Test.YthgoflaphbigbaaDoorSame4
namespace Go.Proofs.YthgoflaphbigbaaDoor
open Go Go.RowKit
set_option maxRecDepth 100000
set_option maxHeartbeats 2000000 in
theorem shortRows_c (A : Option Addr) (n c : Nat) (hs : List Hd) (w : World) (hn : hs.length = n) (hn1 : n ≤ maxLen) (hsl : SlG w A 1 rdH hs) (hin : ∀ h ∈ hs, Hd.In w h) (hz : ∀ h ∈ hs, ∀ x ∈ h.xs, x.s.size ≤ maxLen) :
    Calls Tryd.prog 8 #[.slice A n c] w fun e w' => e = .returned (.bool (shortRR (hs.map (·.xs)))) ∧ Below w.heap.size w w' := by
  unfold maxLen at hn1
  obtain ⟨R, hR⟩ : ∃ R, shortRR (hs.map (·.xs)) = R := ⟨_, rfl⟩
  rw [hR]
  have HR := Lib.hid hR
  have Hn := Lib.hid hn
  have Hs := Lib.hid hsl
  have Hi := Lib.hid hin
  have Hz := Lib.hid hz
  clear hn hsl hin hR hz
  go_enter Tryd.func8, Tryd.ntmps8
  go_wp2_with fail
  go_loopw [3] (fun i wr => ∃ k : Nat, k ≤ n ∧ i = .int .i64 k ∧ Hid (Below w.heap.size w wr) ∧ Hid (((hs.map (·.xs)).drop k).all shortB = (hs.map (·.xs)).all shortB)) (fun i _ => n - (intOf i).toNat)
  case atStart => exact ⟨0, Nat.zero_le _, rfl, Below.refl _ _, rfl⟩
  case round =>
    obtain ⟨k, hk, rfl, hb, hinv⟩ := hrel
    by_cases hlt : k < n
    · obtain ⟨b, off, x, rfl, hblt, hx, c0⟩ := Hs.out.at1 (by rw [Hn.out]; exact hlt)
      have d0 := (hb.out.cell (p := ⟨b, off + k, none⟩) hblt).trans (c0 _ rfl)
      have l1 : b < wr.heap.size := Nat.lt_of_lt_of_le hblt hb.out.size
      have Hx := Lib.hid ((Hi.out x (List.mem_of_getElem? hx)).after hb.out)
      have Hxz := Lib.hid (Hz.out x (List.mem_of_getElem? hx))
      have Hst := Lib.hid ((all_dropL shortB _ k x.xs (xs_at hx)).symm.trans hinv.out)
      clear hx c0 hblt hinv
      go_wp2_with fail
      refine (short_c x.A x.n x.c x.xs wr Hx.out.len Hx.out.max Hx.out.sl Hxz.out).mono ?_
      rintro e w1 ⟨rfl, hb1⟩
      have Hb1 := Lib.hid (hb.out.trans (hb1.mono hb.out.size))
      clear hb1 hb Hx d0
      cases hc : shortB x.xs
      · have Hst' : Hid (false = R) := by
          have := Hst.out
          rw [hc, Bool.false_and] at this
          have h2 := HR.out
          unfold shortRR at h2
          rw [← this, Bool.false_and] at h2
          exact h2
        clear Hst HR
        go_wp2
        go_ret
        exact ⟨congrArg (fun z => Ending.returned (Value.bool z)) Hst'.out, Hb1.out⟩
      · have Hst' : Hid (((hs.map (·.xs)).drop (k + 1)).all shortB = (hs.map (·.xs)).all shortB) := by
          have := Hst.out
          rw [hc, Bool.true_and] at this
          exact this
        clear Hst HR
        go_wp2
        go_roundw
        case rel => exact ⟨k + 1, by omega, by go_num, Hb1, Hst'⟩
        case measure => simp [intOf]; omega
    · obtain rfl : k = n := by omega
      have Hst' : Hid (decide ((k : Int) ≤ 100) = R) := by
        have := hinv.out
        rw [List.drop_eq_nil_of_le (by rw [List.length_map, Hn.out]; omega)] at this
        have h2 := HR.out
        unfold shortRR at h2
        rw [← this, List.length_map, Hn.out] at h2
        rw [← h2]
        simp only [List.all_nil, Bool.true_and]
        exact decide_eq_decide.2 (by omega)
      clear hinv HR
      go_wp2
      go_ret
      exact ⟨congrArg (fun z => Ending.returned (Value.bool z)) Hst'.out, hb.out⟩

end Go.Proofs.YthgoflaphbigbaaDoor
