/-
  Whether a bag is low, as the laws of layer 5 ask it. Of all bags.
-/
import Derived.Test.YthgoflaphbigbaaDoorSameP5
namespace Go.Proofs.YthgoflaphbigbaaDoor
open Go Go.RowKit
set_option maxRecDepth 100000

/-- May a bag be, of few rows, and low counts? -/
def lowF (b : Bg) : Bool := b.all fun x => !(decide (1000000 < x.2) || decide (x.2 < -1000000))
def lowB (b : Bg) : Bool := lowF b && (smallB b && mayBag b)
theorem lowF_drop (b : Bg) (k : Nat) (x : List Val × Int) (h : b[k]? = some x) : lowF (b.drop k) = (!(decide (1000000 < x.2) || decide (x.2 < -1000000)) && lowF (b.drop (k + 1))) := all_dropG _ b k x h
set_option maxHeartbeats 4000000 in
theorem low_c (A : Option Addr) (n c : Nat) (cs : List Ct) (w : World) (hB : BgIn w A n cs) :
    Calls Tryd.prog 18 #[.slice A n c] w fun e w' => e = .returned (.bool (lowB (pl cs))) ∧ Below w.heap.size w w' := by
  obtain ⟨T, hT⟩ : ∃ T, lowB (pl cs) = T := ⟨_, rfl⟩
  rw [hT]
  obtain ⟨R, hR⟩ : ∃ R, lowF (pl cs) = R := ⟨_, rfl⟩
  have HR := Lib.hid hR
  have HT : Hid ((R && (smallB (pl cs) && mayBag (pl cs))) = T) := Lib.hid (by rw [← hR, ← hT]; rfl)
  have HB := Lib.hid hB
  have hmx : n ≤ 9223372036854775807 := hB.max
  clear hB hR hT
  go_enter Tryd.func18, Tryd.ntmps18
  go_wp2_with fail
  go_loopw [3] (fun i wr => ∃ k : Nat, k ≤ n ∧ i = .int .i64 k ∧ Hid (Below w.heap.size w wr) ∧ Hid (lowF ((pl cs).drop k) = R)) (fun i _ => n - (intOf i).toNat)
  case atStart => exact ⟨0, Nat.zero_le _, rfl, Lib.hid (Below.refl _ _), HR⟩
  case round =>
    obtain ⟨k, hk, rfl, hb, hinv⟩ := hrel
    clear HR
    by_cases hlt : k < n
    · obtain ⟨b, off, rfl⟩ := HB.out.sl.some2 (k := k) (by rw [HB.out.len]; exact hlt)
      obtain ⟨x, hx⟩ : ∃ x, cs[k]? = some x := ⟨_, List.getElem?_eq_getElem (by rw [HB.out.len]; exact hlt)⟩
      obtain ⟨hblt, c0, c1⟩ := HB.out.sl.cell2 hx
      have d1 := (hb.out.cell (p := ⟨b, off + k * 2 + 1, none⟩) hblt).trans c1
      have l0 : b < wr.heap.size := Nat.lt_of_lt_of_le hblt hb.out.size
      have Hst := Lib.hid ((lowF_drop (pl cs) k _ (pl_at hx)).symm.trans hinv.out)
      clear hinv c0 c1 hx hblt
      obtain ⟨⟨xA, xn, xc, xs⟩, N⟩ := x
      simp only [] at d1
      have hgo : (k : Int) < n := by omega
      cases h1 : decide (1000000 < N)
      · cases h2 : decide (N < -1000000)
        · have Hst2 : Hid (lowF ((pl cs).drop (k + 1)) = R) := by
            have := Hst.out
            simp only [h1, h2, Bool.or_false, Bool.not_false, Bool.true_and] at this
            exact Lib.hid this
          clear Hst
          go_wp2
          go_roundw
          case rel => exact ⟨k + 1, by omega, by go_num, hb, Hst2⟩
          case measure => simp [intOf]; omega
        · obtain rfl : R = false := by
            have := Hst.out
            simp only [h1, h2, Bool.or_true, Bool.not_true, Bool.false_and] at this
            exact this.symm
          clear Hst
          go_wp2
          go_ret
          exact ⟨congrArg (fun z => Ending.returned (Value.bool z)) HT.out, hb.out⟩
      · obtain rfl : R = false := by
          have := Hst.out
          simp only [h1, Bool.true_or, Bool.not_true, Bool.false_and] at this
          exact this.symm
        clear Hst
        go_wp2
        go_ret
        exact ⟨congrArg (fun z => Ending.returned (Value.bool z)) HT.out, hb.out⟩
    · obtain rfl : k = n := by omega
      obtain rfl : R = true := by
        have := hinv.out
        rw [show (pl cs).drop k = [] from List.drop_eq_nil_of_le (by rw [pl_len, HB.out.len]; exact Nat.le_refl _)] at this
        exact this.symm
      clear hinv
      have HS := Lib.hid (smallB_c A k c cs wr (HB.out.after hb.out))
      go_wp2_with fail
      refine HS.out.mono ?_
      rintro e w1 ⟨rfl, hb1⟩
      have Hb1 := Lib.hid (below_via hb.out hb1)
      clear hb1 hb HS
      cases hS : smallB (pl cs)
      · have HT2 : Hid (false = T) := Lib.hid (by rw [← HT.out, hS]; rfl)
        go_wp2
        go_ret
        exact ⟨congrArg (fun z => Ending.returned (Value.bool z)) HT2.out, Hb1.out⟩
      · have HT2 : Hid (mayBag (pl cs) = T) := Lib.hid (by rw [← HT.out, hS]; simp)
        have HM := Lib.hid (rmayBag_c A k c cs w1 (HB.out.after Hb1.out))
        go_wp2_with fail
        refine HM.out.mono ?_
        rintro e w2 ⟨rfl, hb2⟩
        have Hb2 := Lib.hid (below_via Hb1.out hb2)
        clear hb2 HM
        obtain ⟨M, hM⟩ : ∃ M, mayBag (pl cs) = M := ⟨_, rfl⟩
        rw [hM] at HT2 ⊢
        clear hM
        go_wp2
        go_ret
        exact ⟨congrArg (fun z => Ending.returned (Value.bool z)) HT2.out, Hb2.out⟩
theorem low_parts {b : Bg} (h : lowB b = true) : Bd 1000000 b ∧ smallB b = true ∧ mayBag b = true := by
  unfold lowB at h
  rw [Bool.and_eq_true, Bool.and_eq_true] at h
  refine ⟨fun x hx => ?_, h.2.1, h.2.2⟩
  have h1 := h.1
  unfold lowF at h1
  rw [List.all_eq_true] at h1
  have h2 := h1 x hx
  simp only [Bool.not_eq_true', Bool.or_eq_false_iff, decide_eq_false_iff_not] at h2
  omega

end Go.Proofs.YthgoflaphbigbaaDoor
