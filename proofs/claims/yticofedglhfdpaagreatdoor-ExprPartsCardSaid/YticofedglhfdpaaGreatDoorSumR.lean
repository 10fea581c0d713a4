/-
  Plain facts on Add, Sub and Mul of two numbers of 64 bits: what they tell is the sum, difference or product where that fits, and that it does not else. No condition but that the numbers are of 64 bits.
-/
import Derived.Test.YticofedglhfdpaaGreatDoorSumQ
namespace Go.Proofs.YticofedglhfdpaaGreatDoor
open Go Go.RowKit

def in64 (n : Int) : Prop := -9223372036854775808 ≤ n ∧ n ≤ 9223372036854775807
theorem w64 (n : Int) : wrap64 n = (n + 9223372036854775808) % 18446744073709551616 - 9223372036854775808 := by unfold wrap64; rfl
theorem w64_in {n : Int} (h : in64 n) : wrap64 n = n := by unfold in64 at h; rw [w64]; omega

theorem comp_iv (a b r : Int) (f : Bool) : comp (iv a) (iv b) r f = if f then (iv r, true) else (nl, false) := by
  unfold comp iv; rfl
theorem add_in {a b : Int} (h : in64 (a + b)) : addR (iv a) (iv b) = (iv (a + b), true) := by
  unfold addR
  rw [comp_iv]
  show (if (decide (a < wrap64 (a + b)) == decide (0 < b)) = true then (iv (wrap64 (a + b)), true) else (nl, false)) = _
  rw [w64_in h]
  have : (decide (a < a + b) == decide (0 < b)) = true := by
    by_cases hb0 : 0 < b
    · rw [decide_eq_true hb0, decide_eq_true (by omega)]; rfl
    · rw [decide_eq_false hb0, decide_eq_false (by omega)]; rfl
  rw [this]; rfl
theorem add_out {a b : Int} (ha : in64 a) (hb : in64 b) (h : ¬ in64 (a + b)) : addR (iv a) (iv b) = (nl, false) := by
  unfold addR
  rw [comp_iv]
  show (if (decide (a < wrap64 (a + b)) == decide (0 < b)) = true then (iv (wrap64 (a + b)), true) else (nl, false)) = _
  have : (decide (a < wrap64 (a + b)) == decide (0 < b)) = false := by
    unfold in64 at *
    have hw := w64 (a + b)
    by_cases hb0 : 0 < b
    · rw [decide_eq_true hb0, decide_eq_false (by omega)]; rfl
    · rw [decide_eq_false hb0, decide_eq_true (by omega)]; rfl
  rw [this]; rfl
theorem sub_in {a b : Int} (h : in64 (a - b)) : subR (iv a) (iv b) = (iv (a - b), true) := by
  unfold subR
  rw [comp_iv]
  show (if (decide (wrap64 (a - b) < a) == decide (0 < b)) = true then (iv (wrap64 (a - b)), true) else (nl, false)) = _
  rw [w64_in h]
  have : (decide (a - b < a) == decide (0 < b)) = true := by
    by_cases hb0 : 0 < b
    · rw [decide_eq_true hb0, decide_eq_true (by omega)]; rfl
    · rw [decide_eq_false hb0, decide_eq_false (by omega)]; rfl
  rw [this]; rfl

theorem tdiv_mul (a b : Int) (h : a ≠ 0) : (a * b).tdiv a = b := by
  rw [Int.mul_comm]; exact Int.mul_tdiv_cancel b h
theorem mul_in {a b : Int} (hb : in64 b) (h : in64 (a * b)) : mulR (iv a) (iv b) = (iv (a * b), true) := by
  unfold mulR
  rw [comp_iv]
  show (if mulFits a b = true then (iv (mulIs a b), true) else (nl, false)) = _
  by_cases h0 : a = 0
  · subst h0
    have e1 : mulFits 0 b = true := by simp [mulFits]
    have e2 : mulIs 0 b = 0 * b := by simp [mulIs]
    rw [e1, e2]; rfl
  · have n0 : (a == 0) = false := by simpa using h0
    have n1 : (a == -1 && b == -9223372036854775808) = false := by
      cases hq : (a == -1 && b == -9223372036854775808) with
      | false => rfl
      | true =>
        simp only [Bool.and_eq_true, beq_iff_eq] at hq
        obtain ⟨rfl, rfl⟩ := hq
        unfold in64 at h; omega
    have e2 : mulIs a b = a * b := by unfold mulIs; rw [n0, n1]; exact w64_in h
    have e1 : mulFits a b = true := by
      unfold mulFits; rw [n0, n1]
      show (wrap64 ((wrap64 (a * b)).tdiv a) == b) = true
      rw [w64_in h, tdiv_mul a b h0, w64_in hb]; simp
    rw [e1, e2]; rfl
theorem mul_out {a b : Int} (ha : in64 a) (h : ¬ in64 (a * b)) : mulR (iv a) (iv b) = (nl, false) := by
  unfold mulR
  rw [comp_iv]
  show (if mulFits a b = true then (iv (mulIs a b), true) else (nl, false)) = _
  have h0 : a ≠ 0 := by rintro rfl; exact h (by unfold in64; omega)
  have n0 : (a == 0) = false := by simpa using h0
  have key : mulFits a b = false := by
    unfold mulFits; rw [n0]
    show (if (a == -1 && b == -9223372036854775808) = true then false else wrap64 ((wrap64 (a * b)).tdiv a) == b) = false
    cases hq : (a == -1 && b == -9223372036854775808) with
    | true => rfl
    | false =>
      show (wrap64 ((wrap64 (a * b)).tdiv a) == b) = false
      cases hc : (wrap64 ((wrap64 (a * b)).tdiv a) == b) with
      | false => rfl
      | true =>
        exfalso
        have hc' := beq_iff_eq.1 hc
        obtain ⟨P, hP⟩ : ∃ P, a * b = P := ⟨_, rfl⟩
        rw [hP] at hc' h
        have hw := w64 P
        obtain ⟨p, hp⟩ : ∃ p, wrap64 P = p := ⟨_, rfl⟩
        rw [hp] at hc' hw
        have hpr : in64 p := by unfold in64; omega
        have hdiv := Int.mul_tdiv_add_tmod p a
        have hmod : (p.tmod a).natAbs < a.natAbs := by rw [Int.natAbs_tmod]; exact Nat.mod_lt _ (by omega)
        -- the quotient fits, but for the one case that was left out
        have hq1 : in64 (p.tdiv a) := by
          have hle : (p.tdiv a).natAbs ≤ p.natAbs := by rw [Int.natAbs_tdiv]; exact Nat.div_le_self _ _
          unfold in64 at *
          by_cases hm : p.tdiv a = 9223372036854775808
          · exfalso
            -- then p is the least number and a is -1, so b is the least number, too
            have hb' : b = -9223372036854775808 := by rw [← hc', hm, w64]; omega
            have hpa : p = -9223372036854775808 := by omega
            have ha1 : a = -1 := by
              rw [hm, hpa] at hdiv
              have : (p.tmod a).natAbs < a.natAbs := hmod
              rw [hpa] at this
              omega
            rw [ha1, hb'] at hq
            exact Bool.noConfusion hq
          · omega
        rw [w64_in hq1] at hc'
        rw [hc', hP] at hdiv
        unfold in64 at *
        omega
  rw [key]; rfl

/-- Sums and products are the same turned round. -/
theorem add_comm' {a b : Int} (ha : in64 a) (hb : in64 b) : addR (iv b) (iv a) = addR (iv a) (iv b) := by
  by_cases h : in64 (a + b)
  · rw [add_in h, add_in (by rwa [Int.add_comm]), Int.add_comm]
  · rw [add_out ha hb h, add_out hb ha (by rwa [Int.add_comm])]
theorem mul_comm' {a b : Int} (ha : in64 a) (hb : in64 b) : mulR (iv b) (iv a) = mulR (iv a) (iv b) := by
  by_cases h : in64 (a * b)
  · rw [mul_in hb h, mul_in ha (by rwa [Int.mul_comm]), Int.mul_comm]
  · rw [mul_out ha h, mul_out hb (by rwa [Int.mul_comm])]
end Go.Proofs.YticofedglhfdpaaGreatDoor
