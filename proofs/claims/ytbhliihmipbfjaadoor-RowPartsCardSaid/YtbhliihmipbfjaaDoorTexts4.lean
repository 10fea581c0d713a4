/-
  The law RowTexts, walked: of any two rows it answers true, and turns nothing that was there.
-/
import Derived.Test.YtbhliihmipbfjaaDoorFix4
namespace Go.Proofs.YtbhliihmipbfjaaDoor
open Go Go.RowKit
set_option maxRecDepth 100000

theorem rmay_valid {xs : List Val} (h : rmayR xs = true) : xs.length ≤ 40 ∧ ∀ x ∈ xs, Valid x := by
  unfold rmayR at h
  simp only [Bool.and_eq_true, decide_eq_true_eq, List.all_eq_true] at h
  exact ⟨h.1, fun x hx => valid_of x (h.2 x hx)⟩
theorem valid_size {x : Val} (h : Valid x) : x.s.size ≤ 2000 := by
  rcases h with ⟨_, _, hs⟩ | ⟨_, _, hs⟩ | ⟨_, hs⟩ | ⟨_, _, hs⟩
  · rw [hs]; exact Nat.zero_le _
  · rw [hs]; exact Nat.zero_le _
  · rw [hs]; exact Nat.zero_le _
  · omega
/-- What a row that came in reads. -/
structure RowIn (w : World) (A : Option Addr) (n : Nat) (xs : List Val) : Prop where
  len : xs.length = n
  max : n ≤ maxLen
  sl : Sl w A xs
  sz : ∀ x ∈ xs, x.s.size ≤ maxLen
  n64 : ∀ x ∈ xs, -9223372036854775808 ≤ x.n ∧ x.n ≤ 9223372036854775807
theorem RowIn.after {w w' : World} {A : Option Addr} {n : Nat} {xs : List Val} (h : RowIn w A n xs) (hb : Below w.heap.size w w') : RowIn w' A n xs := ⟨h.len, h.max, h.sl.after hb, h.sz, h.n64⟩

set_option maxHeartbeats 2000000 in
theorem texts4_c (A B : Option Addr) (n m c d : Nat) (xs ys : List Val) (w : World) (hx : RowIn w A n xs) (hy : RowIn w B m ys) (hG : Gl w) :
    Calls Tryd.prog 6 #[.slice A n c, .slice B m d] w fun en w' => en = .returned (.bool true) ∧ Below w.heap.size w w' := by
  have Hx := Lib.hid hx
  have Hy := Lib.hid hy
  have HG := Lib.hid hG
  clear hx hy hG
  go_enter Tryd.func6, Tryd.ntmps6
  go_wp2_with fail
  refine (fixed_c _ HG.out).mono ?_
  rintro en w1 ⟨rfl, hb1⟩
  have Hb1 := Lib.hid hb1
  clear hb1
  go_wp2_with fail
  refine (rmayRow_c A n c xs _ Hx.out.len Hx.out.max (Hx.out.after Hb1.out).sl Hx.out.sz).mono ?_
  rintro en w2 ⟨rfl, hb2⟩
  have Hb2 := Lib.hid (below_via Hb1.out hb2)
  clear hb2 Hb1
  cases hmx : rmayR xs
  · go_wp2_with fail
    refine (fixed_c _ (HG.out.after Hb2.out)).mono ?_
    rintro en w3 ⟨rfl, hb3⟩
    have Hb3 := Lib.hid (below_via Hb2.out hb3)
    clear hb3
    go_wp2
    go_ret
    exact ⟨rfl, Hb3.out⟩
  have Hmx := Lib.hid hmx
  clear hmx
  go_wp2_with fail
  refine (rmayRow_c B m d ys _ Hy.out.len Hy.out.max (Hy.out.after Hb2.out).sl Hy.out.sz).mono ?_
  rintro en w3 ⟨rfl, hb3⟩
  have Hb3 := Lib.hid (below_via Hb2.out hb3)
  clear hb3 Hb2
  cases hmy : rmayR ys
  · go_wp2_with fail
    refine (fixed_c _ (HG.out.after Hb3.out)).mono ?_
    rintro en w4 ⟨rfl, hb4⟩
    have Hb4 := Lib.hid (below_via Hb3.out hb4)
    clear hb4
    go_wp2
    go_ret
    exact ⟨rfl, Hb4.out⟩
  obtain ⟨hlx, hvx⟩ := rmay_valid Hmx.out
  obtain ⟨hly, hvy⟩ := rmay_valid hmy
  have hkey : (rowT xs == rowT ys) = (cmpL xs ys == 0) := by
    by_cases e : xs = ys
    · subst e
      rw [cmpL_same]
      simp
    · have h1 : ¬ rowT xs = rowT ys := fun h => e (rowT_inj hvx hvy h)
      have h2 : ¬ cmpL xs ys = 0 := fun h => e (cmpL_zero h)
      rw [beq_eq_false_iff_ne.2 h1, beq_eq_false_iff_ne.2 h2]
  rw [Hx.out.len] at hlx
  rw [Hy.out.len] at hly
  have Hvx := Lib.hid hvx
  have Hvy := Lib.hid hvy
  have Hkey := Lib.hid hkey
  have Hlx := Lib.hid hlx
  have Hly := Lib.hid hly
  clear hvx hvy hkey hmy Hmx hlx hly
  go_wp2_with fail
  refine (rtext_c A n c xs _ Hx.out.len (by have := Hlx.out; omega) (Hx.out.after Hb3.out).sl Hx.out.n64 (fun x h => valid_size (Hvx.out x h)) (HG.out.after Hb3.out)).mono ?_
  rintro en w4 ⟨rfl, hb4⟩
  have Hb4 := Lib.hid (below_via Hb3.out hb4)
  clear hb4 Hb3
  obtain ⟨Tx, hTx⟩ : ∃ T, rowT xs = T := ⟨_, rfl⟩
  rw [hTx] at Hkey ⊢
  clear hTx
  go_wp2_with fail
  refine (rtext_c B m d ys _ Hy.out.len (by have := Hly.out; omega) (Hy.out.after Hb4.out).sl Hy.out.n64 (fun x h => valid_size (Hvy.out x h)) (HG.out.after Hb4.out)).mono ?_
  rintro en w5 ⟨rfl, hb5⟩
  have Hb5 := Lib.hid (below_via Hb4.out hb5)
  clear hb5 Hb4
  obtain ⟨Ty, hTy⟩ : ∃ T, rowT ys = T := ⟨_, rfl⟩
  rw [hTy] at Hkey ⊢
  clear hTy
  go_wp2_with fail
  refine (same_c A B n m c d xs ys _ Hx.out.len Hy.out.len Hx.out.max Hy.out.max (Hx.out.after Hb5.out).sl (Hy.out.after Hb5.out).sl).mono ?_
  rintro en w6 ⟨rfl, hb6⟩
  have Hb6 := Lib.hid (below_via Hb5.out hb6)
  clear hb6 Hb5
  rw [← Hkey.out]
  clear Hkey Hvx Hvy Hlx Hly Hx Hy HG
  go_wp2
  go_ret
  exact ⟨by simp, Hb6.out⟩
end Go.Proofs.YtbhliihmipbfjaaDoor
