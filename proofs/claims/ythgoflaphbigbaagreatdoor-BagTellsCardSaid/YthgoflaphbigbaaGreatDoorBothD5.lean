/-
  Counts of bags within bounds. No condition.
-/
import Derived.Test.YthgoflaphbigbaaGreatDoorAdd5
import Derived.Deep.RegionHeld3
namespace Go.Proofs.YthgoflaphbigbaaGreatDoor
open Go Go.RowKit
set_option maxRecDepth 100000

/-- Counts lie within P. -/
def Bd (P : Int) (b : Bg) : Prop := ∀ x ∈ b, -P ≤ x.2 ∧ x.2 ≤ P
theorem bd_add : ∀ (b : Bg) (r : List Val) (n P Q : Int), Bd P b → 0 ≤ P → -Q ≤ n → n ≤ Q → Bd (P + Q) (addB b r n)
  | [], r, n, P, Q, _, h0, h1, h2 => by
    rw [addB]
    split
    · nofun
    · intro x hx
      cases List.mem_singleton.1 hx
      exact ⟨by show -(P + Q) ≤ n; omega, by show n ≤ P + Q; omega⟩
  | y :: b, r, n, P, Q, hb, h0, h1, h2 => by
    have hy := hb y List.mem_cons_self
    have ht : Bd P b := fun x hx => hb x (List.mem_cons_of_mem _ hx)
    have hw : ∀ x ∈ b, -(P + Q) ≤ x.2 ∧ x.2 ≤ P + Q := fun x hx => by have := ht x hx; omega
    have hy' : -(P + Q) ≤ y.2 ∧ y.2 ≤ P + Q := by omega
    rw [addB]
    split
    · intro x hx
      rcases List.mem_cons.1 hx with rfl | hx
      · exact hy'
      · exact bd_add b r n P Q ht h0 h1 h2 x hx
    · split
      · split
        · exact hw
        · intro x hx
          rcases List.mem_cons.1 hx with rfl | hx
          · exact ⟨by show -(P + Q) ≤ n + y.2; omega, by show n + y.2 ≤ P + Q; omega⟩
          · exact hw x hx
      · split
        · intro x hx
          rcases List.mem_cons.1 hx with rfl | hx
          · exact hy'
          · exact hw x hx
        · intro x hx
          rcases List.mem_cons.1 hx with rfl | hx
          · exact ⟨by show -(P + Q) ≤ n; omega, by show n ≤ P + Q; omega⟩
          · rcases List.mem_cons.1 hx with rfl | hx
            · exact hy'
            · exact hw x hx
theorem len_add : ∀ (b : Bg) (r : List Val) (n : Int), (addB b r n).length ≤ b.length + 1
  | [], r, n => by rw [addB]; split <;> simp
  | y :: b, r, n => by
    have := len_add b r n
    rw [addB]
    split
    · simp; omega
    · split <;> split <;> simp <;> omega
theorem both_take (a l : Bg) (k : Nat) (x : List Val × Int) (h : l[k]? = some x) : bothB a (l.take (k + 1)) = addB (bothB a (l.take k)) x.1 x.2 := by
  unfold bothB
  rw [List.take_add_one, h, List.foldl_append]
  rfl
theorem pl_mem {cs : List Ct} {x : Ct} (h : x ∈ cs) : (x.h.xs, x.N) ∈ pl cs := List.mem_map.2 ⟨x, h, rfl⟩
end Go.Proofs.YthgoflaphbigbaaGreatDoor
