/-
  Plain facts on small bags, and how long sums of bags are. No condition.
-/
import Derived.Test.YthgoflaphbigbaaGreatDoorSameP5
namespace Go.Proofs.YthgoflaphbigbaaGreatDoor
open Go Go.RowKit
set_option maxRecDepth 100000

theorem small_parts {b : Bg} (h : smallB b = true) : b.length ≤ 60 ∧ ∀ x ∈ b, x.1.length ≤ 40 ∧ ∀ v ∈ x.1, v.s.size ≤ 1000 := by
  unfold smallB at h
  rw [Bool.and_eq_true, decide_eq_true_eq, List.all_eq_true] at h
  refine ⟨h.2, fun x hx => ?_⟩
  have h2 := h.1 x hx
  unfold shortB at h2
  rw [Bool.and_eq_true, decide_eq_true_eq, List.all_eq_true] at h2
  exact ⟨h2.2, fun v hv => of_decide_eq_true (h2.1 v hv)⟩
theorem small_short {b : Bg} (h : smallB b = true) : ∀ x ∈ b, x.1.length ≤ 200 ∧ ∀ v ∈ x.1, v.s.size ≤ 2000 := fun x hx => by
  have h1 := (small_parts h).2 x hx
  exact ⟨by omega, fun v hv => by have := h1.2 v hv; omega⟩
theorem len_bothG : ∀ (b a : Bg), (bothB a b).length ≤ a.length + b.length
  | [], a => Nat.le_refl _
  | x :: b, a => by
    have h1 := len_bothG b (addB a x.1 x.2)
    have h2 := len_add a x.1 x.2
    rw [both_cons, List.length_cons]
    omega
def lenL : List Bg → Nat
  | [] => 0
  | b :: l => b.length + lenL l
theorem len_goL : ∀ (l : List Bg) (a : Bg), (l.foldl bothB a).length ≤ a.length + lenL l
  | [], a => Nat.le_refl _
  | b :: l, a => by
    have h1 := len_goL l (bothB a b)
    have h2 := len_bothG b a
    rw [List.foldl_cons, lenL]
    omega
theorem len_plusR (l : List Bg) : (plusR l).length ≤ lenL l := by
  unfold plusR
  split
  · have := len_goL l []
    simp only [List.length_nil] at this
    unfold plusL
    omega
  · exact Nat.zero_le _

end Go.Proofs.YthgoflaphbigbaaGreatDoor
