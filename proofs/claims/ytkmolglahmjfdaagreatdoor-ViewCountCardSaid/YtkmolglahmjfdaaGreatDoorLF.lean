/-
  The closed facts of ViewCount's claim, each reckoned by the kernel; no condition.
-/
import Derived.Test.YtkmolglahmjfdaaGreatDoorRows
import Derived.ProofKit
import Derived.OpenShut
import Derived.Deep.DeepHandedRow
namespace Go.Proofs.YtkmolglahmjfdaaGreatDoor
open Go Go.RowKit
set_option maxRecDepth 100000
namespace viewCount
set_option maxHeartbeats 4000000 in
/-- The claim's closed facts, one after another. -/
theorem facts : joinedFacts Tryz.pinned.checked.prog 8 Tryz.f8 (OpenSpec.ofChange Rows.viewCountSpec).bare Rows.viewCountRow = true := by
  unfold joinedFacts
  repeat' with_reducible (refine Bool.and_eq_true_iff.2 ⟨?_, ?_⟩)
  all_goals as_aux_lemma => kernel_rfl

end viewCount
end Go.Proofs.YtkmolglahmjfdaaGreatDoor
