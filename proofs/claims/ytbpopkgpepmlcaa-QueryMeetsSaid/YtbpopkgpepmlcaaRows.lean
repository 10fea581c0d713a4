/-
  No cell of these rows narrows 'for every input' (looked for: loops, veiled, ifaces, maps, wideKeys, modest, calm, conditions, laid).
  DERIVED. THE GIVEN ROWS OF THIS SEAT. 5 by the template 'for every input the law returns true; each argument reads behind the call as it read before'; 0 by the template 'total and deterministic' (their statements: YtbpopkgpepmlcaaTotals.lean).
  GIVEN WITH THE SEED: the statements are not yours to turn. If you find one false, say at which input.
  Laid BY PROGRAM, IN A SANDBOX (cutbox-rows.mjs): the forced cells as the released guide's own fill.sh prints them over the translation 36f31f0162b0ce5e… (all of the seat's roots in one cut). By AI agents, Wed Nov 11 2026. No macro, syntax, notation, axiom, sorry.
-/
import Derived.Test.YtbpopkgpepmlcaaChecked
import GoSem.Claim
import GoSem.ClaimJoined
import GoSem.ClaimMapViews
import Derived.JoinedTies
import Derived.KernelRfl
namespace Go.Proofs.Ytbpopkgpepmlcaa
/- THE CELL 'sum', in the pinned program and in every row, IS THE sha256 OF THE DUMP (.gsa) THAT YtbpopkgpepmlcaaProg.lean LOADS. Nothing in Lean hashes anything: it is a label: what it is worth is what the hold of that sum in a sandbox is worth. -/
noncomputable def Try.pinned : Pinned := { name := "ytbpopkgpepmlcaa", sum := "36f31f0162b0ce5e78436479e01f02b3308e5d5510d75ca48bff916014ffc1fa", checked := Try.checked }
namespace Rows
def none {H : Type} : Left H := { results := [], args := [] }

/-- 'leveelaw10.QueryLinear': WHATEVER THE INPUT: true; the input reads as it did. -/
def queryLinearSpec : ChangeSpec := { name := "queryLinear", fn := fun _ => fun
  | [d1, d2] => { results := [.lit (.bool true)], args := [d1, d2] }
  | _ => none }
def queryLinearRow : OpenClaim := { program := "ytbpopkgpepmlcaa", sum := "36f31f0162b0ce5e78436479e01f02b3308e5d5510d75ca48bff916014ffc1fa", func := "levee/leveelaw10.QueryLinear", spec := "queryLinear", inPlace := ["internal/bytealg.abigen_runtime_cmpstring"], unfollowed := true, recurses := true, plainKeys := false, apart := false }
def QueryLinearSaid : Prop := queryLinearRow.holds Try.pinned (OpenSpec.ofChange queryLinearSpec)

/-- ITS FALSE NEIGHBOUR: 'it returns false'. Refute it at one input. -/
def queryLinearWrong : ChangeSpec := { name := "queryLinear", fn := fun _ => fun
  | [d1, d2] => { results := [.lit (.bool false)], args := [d1, d2] }
  | _ => none }
def QueryLinearWrongFalsely : Prop := queryLinearRow.holds Try.pinned (OpenSpec.ofChange queryLinearWrong)

/-- 'leveelaw10.QueryMeets': WHATEVER THE INPUT: true; the input reads as it did. -/
def queryMeetsSpec : ChangeSpec := { name := "queryMeets", fn := fun _ => fun
  | [d1, d2, d3] => { results := [.lit (.bool true)], args := [d1, d2, d3] }
  | _ => none }
def queryMeetsRow : OpenClaim := { program := "ytbpopkgpepmlcaa", sum := "36f31f0162b0ce5e78436479e01f02b3308e5d5510d75ca48bff916014ffc1fa", func := "levee/leveelaw10.QueryMeets", spec := "queryMeets", inPlace := ["internal/bytealg.abigen_runtime_cmpstring"], unfollowed := true, recurses := true, plainKeys := false, apart := false }
def QueryMeetsSaid : Prop := queryMeetsRow.holds Try.pinned (OpenSpec.ofChange queryMeetsSpec)

/-- ITS FALSE NEIGHBOUR: 'it returns false'. Refute it at one input. -/
def queryMeetsWrong : ChangeSpec := { name := "queryMeets", fn := fun _ => fun
  | [d1, d2, d3] => { results := [.lit (.bool false)], args := [d1, d2, d3] }
  | _ => none }
def QueryMeetsWrongFalsely : Prop := queryMeetsRow.holds Try.pinned (OpenSpec.ofChange queryMeetsWrong)

/-- 'leveelaw10.QueryStays': WHATEVER THE INPUT: true; the input reads as it did. -/
def queryStaysSpec : ChangeSpec := { name := "queryStays", fn := fun _ => fun
  | [d1, d2] => { results := [.lit (.bool true)], args := [d1, d2] }
  | _ => none }
def queryStaysRow : OpenClaim := { program := "ytbpopkgpepmlcaa", sum := "36f31f0162b0ce5e78436479e01f02b3308e5d5510d75ca48bff916014ffc1fa", func := "levee/leveelaw10.QueryStays", spec := "queryStays", inPlace := ["internal/bytealg.abigen_runtime_cmpstring"], unfollowed := true, recurses := true, plainKeys := false, apart := false }
def QueryStaysSaid : Prop := queryStaysRow.holds Try.pinned (OpenSpec.ofChange queryStaysSpec)

/-- ITS FALSE NEIGHBOUR: 'it returns false'. Refute it at one input. -/
def queryStaysWrong : ChangeSpec := { name := "queryStays", fn := fun _ => fun
  | [d1, d2] => { results := [.lit (.bool false)], args := [d1, d2] }
  | _ => none }
def QueryStaysWrongFalsely : Prop := queryStaysRow.holds Try.pinned (OpenSpec.ofChange queryStaysWrong)

/-- 'leveelaw10.QueryPicks': WHATEVER THE INPUT: true; the input reads as it did. -/
def queryPicksSpec : ChangeSpec := { name := "queryPicks", fn := fun _ => fun
  | [d1, d2] => { results := [.lit (.bool true)], args := [d1, d2] }
  | _ => none }
def queryPicksRow : OpenClaim := { program := "ytbpopkgpepmlcaa", sum := "36f31f0162b0ce5e78436479e01f02b3308e5d5510d75ca48bff916014ffc1fa", func := "levee/leveelaw10.QueryPicks", spec := "queryPicks", inPlace := ["internal/bytealg.abigen_runtime_cmpstring"], unfollowed := true, recurses := true, plainKeys := false, apart := false }
def QueryPicksSaid : Prop := queryPicksRow.holds Try.pinned (OpenSpec.ofChange queryPicksSpec)

/-- ITS FALSE NEIGHBOUR: 'it returns false'. Refute it at one input. -/
def queryPicksWrong : ChangeSpec := { name := "queryPicks", fn := fun _ => fun
  | [d1, d2] => { results := [.lit (.bool false)], args := [d1, d2] }
  | _ => none }
def QueryPicksWrongFalsely : Prop := queryPicksRow.holds Try.pinned (OpenSpec.ofChange queryPicksWrong)

/-- 'leveelaw10.QueryNulls': WHATEVER THE INPUT: true; the input reads as it did. -/
def queryNullsSpec : ChangeSpec := { name := "queryNulls", fn := fun _ => fun
  | [d1, d2, d3] => { results := [.lit (.bool true)], args := [d1, d2, d3] }
  | _ => none }
def queryNullsRow : OpenClaim := { program := "ytbpopkgpepmlcaa", sum := "36f31f0162b0ce5e78436479e01f02b3308e5d5510d75ca48bff916014ffc1fa", func := "levee/leveelaw10.QueryNulls", spec := "queryNulls", inPlace := ["internal/bytealg.abigen_runtime_cmpstring"], unfollowed := true, recurses := true, plainKeys := false, apart := false }
def QueryNullsSaid : Prop := queryNullsRow.holds Try.pinned (OpenSpec.ofChange queryNullsSpec)

/-- ITS FALSE NEIGHBOUR: 'it returns false'. Refute it at one input. -/
def queryNullsWrong : ChangeSpec := { name := "queryNulls", fn := fun _ => fun
  | [d1, d2, d3] => { results := [.lit (.bool false)], args := [d1, d2, d3] }
  | _ => none }
def QueryNullsWrongFalsely : Prop := queryNullsRow.holds Try.pinned (OpenSpec.ofChange queryNullsWrong)

/- THE SECOND FORM. 'bulk': how many values and letters a reading holds, each counted each time it is reached (what is shared counts as often as it is met; a slice's spare places count too). A statement '..UptoSaid' is the law's where the arguments, and the package variables that the reading takes, are together of bulk at most 1048576: NARROWER than '..Said'. Prove '..Said' where nothing that the law and all that it calls make is longer than what came in: it says more and counts as full. Else prove '..UptoSaid'. A law counts once. -/
mutual
def uptoBulk {H : Type} : DataW H → Nat
  | .lit (.string bytes) => bytes.length + 1
  | .lit _ => 1
  | .nil => 1
  | .ptr d => uptoBulk d + 1
  | .slice elems spare => uptoBulkAll elems + uptoBulkAll spare + 1
  | .agg parts => uptoBulkAll parts + 1
  | .iface _ d => uptoBulk d + 1
  | .map entries => uptoBulkEntries entries + 1
  | .held _ => 1
def uptoBulkAll {H : Type} : List (DataW H) → Nat
  | [] => 0
  | d :: r => uptoBulk d + uptoBulkAll r
def uptoBulkEntries {H : Type} : List (Lit × DataW H) → Nat
  | [] => 0
  | x :: r => uptoBulkEntry x + uptoBulkEntries r
def uptoBulkEntry {H : Type} : Lit × DataW H → Nat
  | (.string bytes, d) => bytes.length + uptoBulk d + 1
  | (_, d) => uptoBulk d + 1
 end
def uptoSmall : (H : Type) → List (DataW H) → Bool := fun _ ds => decide (uptoBulkAll ds ≤ 1048576)
def OpenSpec.upto (s : _root_.Go.ChangeSpec) : _root_.Go.OpenSpec := { _root_.Go.OpenSpec.ofChange s with cond := some uptoSmall }

/-- 'leveelaw10.QueryLinear', WHERE WHAT IT READS IS OF BULK AT MOST 1048576: true; the input reads as it did. -/
def queryLinearUptoRow : OpenClaim := { program := "ytbpopkgpepmlcaa", sum := "36f31f0162b0ce5e78436479e01f02b3308e5d5510d75ca48bff916014ffc1fa", func := "levee/leveelaw10.QueryLinear", spec := "queryLinear", inPlace := ["internal/bytealg.abigen_runtime_cmpstring"], unfollowed := true, recurses := true, plainKeys := false, apart := false, narrowed := true }
def QueryLinearUptoSaid : Prop := queryLinearUptoRow.holds Try.pinned (OpenSpec.upto queryLinearSpec)

/-- 'leveelaw10.QueryMeets', WHERE WHAT IT READS IS OF BULK AT MOST 1048576: true; the input reads as it did. -/
def queryMeetsUptoRow : OpenClaim := { program := "ytbpopkgpepmlcaa", sum := "36f31f0162b0ce5e78436479e01f02b3308e5d5510d75ca48bff916014ffc1fa", func := "levee/leveelaw10.QueryMeets", spec := "queryMeets", inPlace := ["internal/bytealg.abigen_runtime_cmpstring"], unfollowed := true, recurses := true, plainKeys := false, apart := false, narrowed := true }
def QueryMeetsUptoSaid : Prop := queryMeetsUptoRow.holds Try.pinned (OpenSpec.upto queryMeetsSpec)

/-- 'leveelaw10.QueryStays', WHERE WHAT IT READS IS OF BULK AT MOST 1048576: true; the input reads as it did. -/
def queryStaysUptoRow : OpenClaim := { program := "ytbpopkgpepmlcaa", sum := "36f31f0162b0ce5e78436479e01f02b3308e5d5510d75ca48bff916014ffc1fa", func := "levee/leveelaw10.QueryStays", spec := "queryStays", inPlace := ["internal/bytealg.abigen_runtime_cmpstring"], unfollowed := true, recurses := true, plainKeys := false, apart := false, narrowed := true }
def QueryStaysUptoSaid : Prop := queryStaysUptoRow.holds Try.pinned (OpenSpec.upto queryStaysSpec)

/-- 'leveelaw10.QueryPicks', WHERE WHAT IT READS IS OF BULK AT MOST 1048576: true; the input reads as it did. -/
def queryPicksUptoRow : OpenClaim := { program := "ytbpopkgpepmlcaa", sum := "36f31f0162b0ce5e78436479e01f02b3308e5d5510d75ca48bff916014ffc1fa", func := "levee/leveelaw10.QueryPicks", spec := "queryPicks", inPlace := ["internal/bytealg.abigen_runtime_cmpstring"], unfollowed := true, recurses := true, plainKeys := false, apart := false, narrowed := true }
def QueryPicksUptoSaid : Prop := queryPicksUptoRow.holds Try.pinned (OpenSpec.upto queryPicksSpec)

/-- 'leveelaw10.QueryNulls', WHERE WHAT IT READS IS OF BULK AT MOST 1048576: true; the input reads as it did. -/
def queryNullsUptoRow : OpenClaim := { program := "ytbpopkgpepmlcaa", sum := "36f31f0162b0ce5e78436479e01f02b3308e5d5510d75ca48bff916014ffc1fa", func := "levee/leveelaw10.QueryNulls", spec := "queryNulls", inPlace := ["internal/bytealg.abigen_runtime_cmpstring"], unfollowed := true, recurses := true, plainKeys := false, apart := false, narrowed := true }
def QueryNullsUptoSaid : Prop := queryNullsUptoRow.holds Try.pinned (OpenSpec.upto queryNullsSpec)

end Rows
end Go.Proofs.Ytbpopkgpepmlcaa
