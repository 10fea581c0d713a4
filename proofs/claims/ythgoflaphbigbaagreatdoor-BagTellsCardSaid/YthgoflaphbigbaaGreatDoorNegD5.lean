/-
  A bag turned round. No condition.
-/
import Derived.Test.YthgoflaphbigbaaGreatDoorPlusD5
import Derived.Test.YthgoflaphbigbaaGreatDoorAppA
namespace Go.Proofs.YthgoflaphbigbaaGreatDoor
open Go Go.RowKit
set_option maxRecDepth 100000

def negC (x : Ct) : Ct := ⟨x.h, -x.N⟩
/-- A bag turned round, if it may be. -/
def negR (b : Bg) : Bg := if mayBag b then negB b else []
theorem pl_neg (cs : List Ct) : pl (cs.map negC) = negB (pl cs) := by
  unfold pl negB
  rw [List.map_map, List.map_map]
  rfl
theorem neg_take (cs : List Ct) (k : Nat) (x : Ct) (h : cs[k]? = some x) : (cs.take (k + 1)).map negC = (cs.take k).map negC ++ [negC x] := by
  rw [List.take_add_one, h, List.map_append]
  rfl
end Go.Proofs.YthgoflaphbigbaaGreatDoor
