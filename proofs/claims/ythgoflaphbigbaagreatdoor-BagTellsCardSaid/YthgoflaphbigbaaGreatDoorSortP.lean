/-
  Plain facts on rows in order: the order of lists of values goes on from one to the next; there is one sorted list of what there is. No condition.
-/
import Derived.Test.YthgoflaphbigbaaGreatDoorOrd
namespace Go.Proofs.YthgoflaphbigbaaGreatDoor
open Go

theorem cmpL_trans : ∀ {a b c : List Val}, cmpL a b = -1 → cmpL b c = -1 → cmpL a c = -1
  | [], [], _, h, _ => by cases h
  | [], _ :: _, [], _, h => by cases h
  | [], _ :: _, _ :: _, _, _ => rfl
  | _ :: _, [], _, h, _ => by cases h
  | _ :: _, _ :: _, [], _, h => by cases h
  | x :: a, y :: b, z :: c, h1, h2 => by
    rw [cmpL] at h1 h2 ⊢
    by_cases e1 : cmpV x y = 0
    · have hxy := cmp_zero.1 e1
      subst hxy
      rw [e1] at h1
      simp only [bne_self_eq_false, Bool.false_eq_true, if_false] at h1
      by_cases e2 : cmpV x z = 0
      · rw [e2] at h2 ⊢
        simp only [bne_self_eq_false, Bool.false_eq_true, if_false] at h2 ⊢
        exact cmpL_trans h1 h2
      · have e2' : (cmpV x z != 0) = true := by simpa using e2
        rw [e2'] at h2 ⊢
        exact h2
    · have e1' : (cmpV x y != 0) = true := by simpa using e1
      rw [e1'] at h1
      simp only [if_true] at h1
      by_cases e2 : cmpV y z = 0
      · have hyz := cmp_zero.1 e2
        subst hyz
        rw [e1']
        exact h1
      · have e2' : (cmpV y z != 0) = true := by simpa using e2
        rw [e2'] at h2
        simp only [if_true] at h2
        have h3 := cmp_trans h1 h2
        have e3 : (cmpV x z != 0) = true := by rw [h3]; rfl
        rw [e3]
        exact h3

/-- Not behind. -/
def leR (a b : List Val) : Bool := decide (cmpL a b ≤ 0)
theorem leR_trans (a b c : List Val) (h1 : leR a b = true) (h2 : leR b c = true) : leR a c = true := by
  unfold leR at *
  simp only [decide_eq_true_eq] at *
  rcases cmpL_range a b with e1 | e1 | e1
  · rcases cmpL_range b c with e2 | e2 | e2
    · rw [cmpL_trans e1 e2]; decide
    · rw [← cmpL_iff.1 e2]; exact h1
    · omega
  · rw [cmpL_iff.1 e1]; exact h2
  · omega
theorem leR_total (a b : List Val) : (leR a b || leR b a) = true := by
  unfold leR
  rw [cmpL_neg a b]
  rcases cmpL_range a b with e | e | e <;> rw [e] <;> rfl
theorem leR_anti {a b : List Val} (h1 : leR a b = true) (h2 : leR b a = true) : a = b := by
  unfold leR at *
  simp only [decide_eq_true_eq] at *
  rw [cmpL_neg a b] at h2
  exact cmpL_iff.1 (by omega)

/-- The rows, rising. -/
def sortR (l : List (List Val)) : List (List Val) := l.mergeSort leR
theorem sortR_perm (l : List (List Val)) : (sortR l).Perm l := List.mergeSort_perm l leR
theorem sortR_length (l : List (List Val)) : (sortR l).length = l.length := (sortR_perm l).length_eq
theorem sortR_pairwise (l : List (List Val)) : (sortR l).Pairwise (fun a b => leR a b = true) :=
  List.pairwise_mergeSort leR_trans leR_total l
theorem sorted_one {l m : List (List Val)} (hp : l.Perm m) (h1 : l.Pairwise (fun a b => leR a b = true)) (h2 : m.Pairwise (fun a b => leR a b = true)) : l = m :=
  hp.eq_of_pairwise (fun _ _ _ _ hab hba => leR_anti hab hba) h1 h2
theorem sortR_of {l m : List (List Val)} (hp : m.Perm l) (h : m.Pairwise (fun a b => leR a b = true)) : m = sortR l :=
  sorted_one (hp.trans (sortR_perm l).symm) h (sortR_pairwise l)
theorem sortR_same {l m : List (List Val)} (hp : l.Perm m) : sortR l = sortR m :=
  sorted_one ((sortR_perm l).trans (hp.trans (sortR_perm m).symm)) (sortR_pairwise l) (sortR_pairwise m)
/-- How often a row is one of some, as it is counted. -/
def cntR (l : List (List Val)) (r : List Val) : Nat := (l.filter fun x => cmpL x r == 0).length
theorem cntR_perm {l m : List (List Val)} (hp : l.Perm m) (r : List Val) : cntR l r = cntR m r := (hp.filter _).length_eq
theorem sortR_rises (l : List (List Val)) (i : Nat) (a b : List Val) (ha : (sortR l)[i]? = some a) (hb : (sortR l)[i + 1]? = some b) : cmpL a b ≤ 0 := by
  obtain ⟨h1, e1⟩ := List.getElem?_eq_some_iff.1 ha
  obtain ⟨h2, e2⟩ := List.getElem?_eq_some_iff.1 hb
  have := List.pairwise_iff_getElem.1 (sortR_pairwise l) i (i + 1) h1 h2 (by omega)
  rw [e1, e2] at this
  simpa [leR] using this
theorem rot_perm (l : List (List Val)) (k : Nat) : (l.drop k ++ l.take k).Perm l :=
  List.perm_append_comm.trans (by rw [List.take_append_drop])
end Go.Proofs.YthgoflaphbigbaaGreatDoor
