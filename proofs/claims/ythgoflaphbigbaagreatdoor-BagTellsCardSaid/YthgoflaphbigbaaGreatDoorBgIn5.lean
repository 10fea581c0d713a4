/-
  Bags that are empty; what the bag of rows is. No condition.
-/
import Derived.Test.YthgoflaphbigbaaGreatDoorBothD5
namespace Go.Proofs.YthgoflaphbigbaaGreatDoor
open Go Go.RowKit
set_option maxRecDepth 100000

/-- The bag of rows, if they may be. -/
def ofR (l : List (List Val)) : Bg := if l.all mayR then ofL l else []
theorem BgIn.nil (w : World) (c : Nat) : BgIn w none 0 [] ∧ c = c := ⟨⟨rfl, Nat.zero_le _, .inl rfl, nofun⟩, rfl⟩
theorem BgIn.none (w : World) : BgIn w none 0 [] := (BgIn.nil w 0).1
theorem BgIn.empty (w : World) (E : TypeId) : BgIn (w.alloc (.cells #[] E)) (some ⟨w.heap.size, 0, Option.none⟩) 0 [] := ⟨rfl, Nat.zero_le _, SlG.new cOk.len [] rfl, nofun⟩
end Go.Proofs.YthgoflaphbigbaaGreatDoor
