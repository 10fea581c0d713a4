/-
  The order of values is one: turned round it is turned, it is told by -1, 0 and 1, 0 only of the same value, and it goes on from one to the next; so is that of lists. Plain facts; no condition.
-/
import Derived.Test.YthgoflaphbigbaaGreatDoorCmpL
namespace Go.Proofs.YthgoflaphbigbaaGreatDoor
open Go

theorem cb_range : ∀ a b : List UInt8, Lib.compareBytes a b = -1 ∨ Lib.compareBytes a b = 0 ∨ Lib.compareBytes a b = 1
  | [], [] => .inr (.inl rfl)
  | [], _ :: _ => .inl rfl
  | _ :: _, [] => .inr (.inr rfl)
  | a :: al, b :: bs => by
    rw [Lib.compareBytes]
    by_cases h1 : a < b
    · rw [if_pos h1]; exact .inl rfl
    · by_cases h2 : b < a
      · rw [if_neg h1, if_pos h2]; exact .inr (.inr rfl)
      · rw [if_neg h1, if_neg h2]; exact cb_range al bs
theorem cb_neg : ∀ a b : List UInt8, Lib.compareBytes b a = - Lib.compareBytes a b
  | [], [] => rfl
  | [], _ :: _ => rfl
  | _ :: _, [] => rfl
  | a :: al, b :: bs => by
    rw [Lib.compareBytes, Lib.compareBytes]
    by_cases h1 : a < b
    · have h2 : ¬ b < a := by rw [UInt8.lt_iff_toNat_lt] at *; omega
      rw [if_pos h1, if_neg h2, if_pos h1]; rfl
    · by_cases h2 : b < a
      · rw [if_pos h2, if_neg h1, if_pos h2]
      · rw [if_neg h1, if_neg h2, if_neg h2, if_neg h1]; exact cb_neg al bs
theorem cb_eq : ∀ a b : List UInt8, Lib.compareBytes a b = 0 → a = b
  | [], [], _ => rfl
  | [], _ :: _, h => by cases h
  | _ :: _, [], h => by cases h
  | a :: al, b :: bs, h => by
    rw [Lib.compareBytes] at h
    by_cases h1 : a < b
    · rw [if_pos h1] at h; cases h
    · by_cases h2 : b < a
      · rw [if_neg h1, if_pos h2] at h; cases h
      · rw [if_neg h1, if_neg h2] at h
        have : a = b := by rw [UInt8.lt_iff_toNat_lt] at h1 h2; exact UInt8.toNat_inj.1 (by omega)
        rw [this, cb_eq al bs h]
theorem cb_self : ∀ a : List UInt8, Lib.compareBytes a a = 0
  | [] => rfl
  | a :: al => by
    have h : ¬ a < a := by rw [UInt8.lt_iff_toNat_lt]; omega
    rw [Lib.compareBytes, if_neg h, if_neg h]; exact cb_self al
theorem cb_trans : ∀ a b c : List UInt8, Lib.compareBytes a b = -1 → Lib.compareBytes b c = -1 → Lib.compareBytes a c = -1
  | [], [], _, h, _ => by cases h
  | [], _ :: _, [], _, h => by cases h
  | [], _ :: _, _ :: _, _, _ => rfl
  | _ :: _, [], _, h, _ => by cases h
  | _ :: _, _ :: _, [], _, h => by cases h
  | a :: al, b :: bs, c :: cs, h1, h2 => by
    rw [Lib.compareBytes] at h1 h2 ⊢
    simp only [UInt8.lt_iff_toNat_lt] at *
    by_cases p1 : a.toNat < b.toNat
    · by_cases p2 : b.toNat < c.toNat
      · rw [if_pos (by omega)]
      · rw [if_neg p2] at h2
        by_cases p3 : c.toNat < b.toNat
        · rw [if_pos p3] at h2; cases h2
        · rw [if_pos (by omega)]
    · rw [if_neg p1] at h1
      by_cases p2 : b.toNat < a.toNat
      · rw [if_pos p2] at h1; cases h1
      · rw [if_neg p2] at h1
        by_cases p3 : b.toNat < c.toNat
        · rw [if_pos (by omega)]
        · rw [if_neg p3] at h2
          by_cases p4 : c.toNat < b.toNat
          · rw [if_pos p4] at h2; cases h2
          · rw [if_neg p4] at h2
            rw [if_neg (by omega), if_neg (by omega)]
            exact cb_trans al bs cs h1 h2

theorem ci_range (a b : Int) : Lib.compareInt a b = -1 ∨ Lib.compareInt a b = 0 ∨ Lib.compareInt a b = 1 := by
  unfold Lib.compareInt; split <;> (try split) <;> simp
theorem ci_neg (a b : Int) : Lib.compareInt b a = - Lib.compareInt a b := by
  unfold Lib.compareInt; split <;> split <;> (try split) <;> (try split) <;> first | rfl | omega
theorem ci_lt {a b : Int} : Lib.compareInt a b = -1 ↔ a < b := by
  unfold Lib.compareInt; split
  · simp [*]
  · split <;> simp <;> omega
theorem ci_zero {a b : Int} : Lib.compareInt a b = 0 ↔ a = b := by
  unfold Lib.compareInt; split
  · simp; omega
  · split
    · simp; omega
    · simp; omega

theorem cmp_range (x y : Val) : cmpV x y = -1 ∨ cmpV x y = 0 ∨ cmpV x y = 1 := by
  unfold cmpV; split
  · exact ci_range _ _
  · split
    · exact ci_range _ _
    · exact cb_range _ _
theorem cmp_neg (x y : Val) : cmpV y x = - cmpV x y := by
  unfold cmpV
  by_cases h1 : x.k = y.k <;> by_cases h2 : x.n = y.n
  · simp [h1, h2, cb_neg x.s.data.toList]
  · simp [h1, h2, Ne.symm h2, ci_neg x.n]
  · simp [h1, Ne.symm h1, ci_neg x.k]
  · simp [h1, Ne.symm h1, ci_neg x.k]
theorem cmp_zero {x y : Val} : cmpV x y = 0 ↔ x = y := by
  constructor
  · intro h
    unfold cmpV at h
    obtain ⟨k, n, s⟩ := x
    obtain ⟨k', n', s'⟩ := y
    by_cases h1 : k = k'
    · by_cases h2 : n = n'
      · simp [h1, h2] at h
        have := cb_eq _ _ h
        have hs : s = s' := by
          obtain ⟨⟨l⟩⟩ := s; obtain ⟨⟨l'⟩⟩ := s'
          simp at this; rw [this]
        rw [h1, h2, hs]
      · simp [h1, h2, ci_zero] at h
    · simp [h1, ci_zero] at h
  · rintro rfl
    simp [cmpV, cb_self]
theorem cmp_lt {x y : Val} : cmpV x y = -1 ↔ x.k < y.k ∨ (x.k = y.k ∧ (x.n < y.n ∨ (x.n = y.n ∧ Lib.compareBytes x.s.data.toList y.s.data.toList = -1))) := by
  unfold cmpV
  by_cases h1 : x.k = y.k
  · by_cases h2 : x.n = y.n
    · simp [h1, h2]
    · simp [h1, h2, ci_lt]
  · simp [h1, ci_lt]
theorem cmp_trans {x y z : Val} (h1 : cmpV x y = -1) (h2 : cmpV y z = -1) : cmpV x z = -1 := by
  rw [cmp_lt] at *
  rcases h1 with h1 | ⟨e1, h1 | ⟨f1, h1⟩⟩ <;> rcases h2 with h2 | ⟨e2, h2 | ⟨f2, h2⟩⟩
  all_goals first | (left; omega) | (right; refine ⟨by omega, ?_⟩; first | (left; omega) | (right; exact ⟨by omega, cb_trans _ _ _ h1 h2⟩))


theorem cmpL_neg : ∀ a b : List Val, cmpL b a = - cmpL a b
  | [], [] => rfl
  | [], _ :: _ => rfl
  | _ :: _, [] => rfl
  | x :: a, y :: b => by
    rw [cmpL, cmpL, cmp_neg x y, cmpL_neg a b]
    by_cases h : cmpV x y = 0
    · simp [h]
    · have h2 : ¬ - cmpV x y = 0 := by omega
      simp [h]
theorem cmpL_range : ∀ a b : List Val, cmpL a b = -1 ∨ cmpL a b = 0 ∨ cmpL a b = 1
  | [], [] => .inr (.inl rfl)
  | [], _ :: _ => .inl rfl
  | _ :: _, [] => .inr (.inr rfl)
  | x :: a, y :: b => by
    rw [cmpL]
    split
    · exact cmp_range x y
    · exact cmpL_range a b
theorem cmpL_zero : ∀ {a b : List Val}, cmpL a b = 0 → a = b
  | [], [], _ => rfl
  | [], _ :: _, h => by cases h
  | _ :: _, [], h => by cases h
  | x :: a, y :: b, h => by
    rw [cmpL] at h
    split at h
    · rename_i hne
      rw [h] at hne
      simp at hne
    · rename_i hne
      have hxy : cmpV x y = 0 := by simpa using hne
      rw [cmp_zero.1 hxy, cmpL_zero h]
theorem cmpV_same (x : Val) : cmpV x x = 0 := cmp_zero.2 rfl
theorem cmpL_same : ∀ l : List Val, cmpL l l = 0
  | [] => rfl
  | x :: l => by rw [cmpL, cmpV_same]; exact cmpL_same l
theorem cmpL_iff {a b : List Val} : cmpL a b = 0 ↔ a = b := ⟨cmpL_zero, fun h => by rw [h]; exact cmpL_same b⟩
theorem cmpL_front : ∀ l a b : List Val, cmpL (l ++ a) (l ++ b) = cmpL a b
  | [], _, _ => rfl
  | x :: l, a, b => by rw [List.cons_append, List.cons_append, cmpL, cmpV_same]; exact cmpL_front l a b
theorem cmpL_more : ∀ l a : List Val, cmpL l (l ++ a) = if a.length = 0 then 0 else -1
  | [], a => cmpL_nil_left a
  | x :: l, a => by rw [List.cons_append, cmpL, cmpV_same]; exact cmpL_more l a
theorem cb_lt_iff (x y : List UInt8) : Op.bytesLess x y = decide (Lib.compareBytes x y < 0) := by
  have h := bl_eq x y
  cases hb : Op.bytesLess x y
  · rw [hb] at h
    simp only [Bool.false_eq_true, if_false, Bool.false_or] at h
    rw [h]
    split <;> rfl
  · rw [hb] at h
    rw [h]
    rfl
theorem cb_eq_iff (x y : List UInt8) : (x == y) = decide (Lib.compareBytes x y = 0) := by
  by_cases h : x = y
  · subst h; simp [cb_self]
  · have : ¬ Lib.compareBytes x y = 0 := fun e => h (cb_eq _ _ e)
    simp [h, this]
end Go.Proofs.YthgoflaphbigbaaGreatDoor
