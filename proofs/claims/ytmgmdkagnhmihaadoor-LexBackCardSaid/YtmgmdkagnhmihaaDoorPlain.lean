/-
  Plain facts on lists of bytes: a text with one byte doubled, and how it is read back. No program is named here.
-/
import Derived.Lib.Replace
import Derived.Lib.ReplaceLaws
namespace Go.Proofs.YtmgmdkagnhmihaaDoor
open Go

/-- Each byte c written as new. -/
def sub1 (c : UInt8) (new : List UInt8) : List UInt8 → List UInt8
  | [] => []
  | b :: l => if b = c then new ++ sub1 c new l else b :: sub1 c new l

theorem index_nil (c : UInt8) : Lib.index [] [c] = -1 := rfl
theorem index_same (c : UInt8) (l : List UInt8) : Lib.index (c :: l) [c] = 0 := by simp [Lib.index]
theorem index_other (b c : UInt8) (l : List UInt8) (h : b ≠ c) : Lib.index (b :: l) [c] = if Lib.index l [c] == -1 then -1 else Lib.index l [c] + 1 := by
  rw [Lib.index]
  have : ([c].isPrefixOf (b :: l)) = false := by simp [List.isPrefixOf]; exact fun e => h e.symm
  rw [this]; rfl

theorem replaceK_nil (c : UInt8) (new : List UInt8) : ∀ k, Lib.replaceK [c] new k [] = []
  | 0 => rfl
  | k + 1 => by rw [Lib.replaceK, index_nil]; rfl
theorem replaceK_same (c : UInt8) (new l : List UInt8) (k : Nat) : Lib.replaceK [c] new (k + 1) (c :: l) = new ++ Lib.replaceK [c] new k l := by
  rw [Lib.replaceK_hit [c] new k (c :: l) 0 (index_same c l)]
  simp
theorem replaceK_other (b c : UInt8) (new l : List UInt8) (h : b ≠ c) : ∀ k, Lib.replaceK [c] new k (b :: l) = b :: Lib.replaceK [c] new k l
  | 0 => rfl
  | k + 1 => by
    have hge := Lib.index_ge l [c]
    by_cases hm : Lib.index l [c] = -1
    · have e1 : Lib.index (b :: l) [c] = -1 := by rw [index_other b c l h, hm]; rfl
      rw [Lib.replaceK, Lib.replaceK, e1, hm]; rfl
    · have hne : (Lib.index l [c] == -1) = false := by simpa using hm
      obtain ⟨i, hi⟩ : ∃ i : Nat, Lib.index l [c] = i := ⟨(Lib.index l [c]).toNat, by omega⟩
      have e1 : Lib.index (b :: l) [c] = ((i + 1 : Nat) : Int) := by rw [index_other b c l h, hne, hi]; simp
      rw [Lib.replaceK_hit [c] new k (b :: l) (i + 1) e1, Lib.replaceK_hit [c] new k l i hi]
      have e : i + 1 + [c].length = (i + [c].length) + 1 := by simp
      rw [e, List.drop_succ_cons, List.take_succ_cons]
      simp
theorem replaceK_sub1 (c : UInt8) (new : List UInt8) : ∀ (s : List UInt8) (k : Nat), s.count c ≤ k → Lib.replaceK [c] new k s = sub1 c new s
  | [], k, _ => replaceK_nil c new k
  | b :: l, k, h => by
    by_cases e : b = c
    · subst e
      rw [List.count_cons_self] at h
      obtain ⟨k, rfl⟩ : ∃ j, k = j + 1 := ⟨k - 1, by omega⟩
      rw [replaceK_same, replaceK_sub1 b new l k (by omega), sub1, if_pos rfl]
    · rw [List.count_cons_of_ne e] at h
      rw [replaceK_other b c new l e, replaceK_sub1 c new l k h, sub1, if_neg e]
theorem replaceAll_sub1 (c : UInt8) (new s : List UInt8) (h : [c] ≠ new) : Lib.replaceAll s [c] new = sub1 c new s := by
  have hne : ([c] == new) = false := by simpa using h
  unfold Lib.replaceAll Lib.replace
  rw [hne]
  simp only [Bool.false_eq_true, if_false]
  refine replaceK_sub1 c new s _ ?_
  unfold Lib.replaceNum
  rw [if_pos (.inl (by decide)), Lib.count_one]
  exact Nat.le_refl _

theorem sub1_length (c : UInt8) (new : List UInt8) : ∀ s : List UInt8, (sub1 c new s).length ≤ s.length * (new.length + 1)
  | [] => by simp [sub1]
  | b :: l => by
    have ih := sub1_length c new l
    rw [sub1, List.length_cons, Nat.add_mul, Nat.one_mul]
    by_cases e : b = c
    · rw [if_pos e, List.length_append]; omega
    · rw [if_neg e, List.length_cons]; omega

/-- A doubled byte is read back: two texts that are the same with c doubled, and behind them what does not begin with c, are the same. -/
theorem sub1_inj (c : UInt8) : ∀ s t : List UInt8, sub1 c [c, c] s = sub1 c [c, c] t → s = t
  | [], [], _ => rfl
  | [], b :: l, h => by
    rw [sub1, sub1] at h
    by_cases e : b = c
    · rw [if_pos e] at h; simp at h
    · rw [if_neg e] at h; simp at h
  | b :: l, [], h => by
    rw [sub1, sub1] at h
    by_cases e : b = c
    · rw [if_pos e] at h; simp at h
    · rw [if_neg e] at h; simp at h
  | a :: l, b :: r, h => by
    rw [sub1, sub1] at h
    by_cases e1 : a = c <;> by_cases e2 : b = c
    · rw [if_pos e1, if_pos e2] at h
      simp only [List.cons_append, List.nil_append, List.cons.injEq, true_and] at h
      rw [sub1_inj c l r h, e1, e2]
    · rw [if_pos e1, if_neg e2] at h
      simp only [List.cons_append, List.nil_append, List.cons.injEq] at h
      exact absurd h.1.symm e2
    · rw [if_neg e1, if_pos e2] at h
      simp only [List.cons_append, List.nil_append, List.cons.injEq] at h
      exact absurd h.1 e1
    · rw [if_neg e1, if_neg e2] at h
      simp only [List.cons.injEq] at h
      rw [sub1_inj c l r h.2, h.1]
end Go.Proofs.YtmgmdkagnhmihaaDoor
