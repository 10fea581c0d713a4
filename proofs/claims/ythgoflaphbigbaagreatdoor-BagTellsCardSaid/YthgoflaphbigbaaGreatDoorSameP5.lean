/-
  Two bags are the same just if they are one. No condition.
-/
import Derived.Test.YthgoflaphbigbaaGreatDoorFix5
namespace Go.Proofs.YthgoflaphbigbaaGreatDoor
open Go Go.RowKit
set_option maxRecDepth 100000

theorem sameB_iff : ∀ a b : Bg, sameB a b = true ↔ a = b
  | [], [] => by simp [sameB]
  | [], y :: b => by simp [sameB]
  | x :: a, [] => by simp [sameB]
  | x :: a, y :: b => by
    rw [sameB]
    simp only [Bool.and_eq_true, beq_iff_eq, sameB_iff a b]
    constructor
    · rintro ⟨h1, h2, h3⟩
      rw [h3, show x = y from Prod.ext (cmpL_iff.1 h2) h1]
    · intro h
      injection h with h1 h2
      subst h1 h2
      exact ⟨rfl, cmpL_same _, rfl⟩
theorem sameB_self (a : Bg) : sameB a a = true := (sameB_iff a a).2 rfl

end Go.Proofs.YthgoflaphbigbaaGreatDoor
