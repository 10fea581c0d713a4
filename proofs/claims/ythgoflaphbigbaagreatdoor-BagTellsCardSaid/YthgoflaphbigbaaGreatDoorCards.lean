/-
  DERIVED. GIVEN WITH THE SEED: THE CARDS: each row of YthgoflaphbigbaaGreatDoorRows.lean that lists a variable, with what it lists TIED to the program's text (the seventh form; the later family's looks); each row that meets fmt, with fmt's text TOLD by the authors' own Lean function (tested against real Go, not proved from fmt's source: count such statements apart). THE CARD IS WHAT COUNTS. Prove the row's statement (the work); the ties are given (YthgoflaphbigbaaGreatDoorTie.lean); close each card by the builder's one call (the guide's Derived/Test/ToyasCard.lean, 'card_holds'). Laid BY PROGRAM, IN A SANDBOX (cutbox-door.mjs). By AI agents, Wed Nov 11 2026. No macro, syntax, notation, axiom, sorry.
-/
import Derived.Test.YthgoflaphbigbaaGreatDoorRows
import GoSem.ClaimSeven
namespace Go.Proofs.YthgoflaphbigbaaGreatDoor
namespace Rows

/-- THE TIED CARD OF 'leveelaw05.BagTells'. -/
def bagTellsCard : Claim7 := { stood := { row := bagTellsRow, standIns := [], harness := (true, "4f7fb4375ab17a4e3fc29b28b4bc3bdd42eca6a4ef11a5bc6e6cf894680a6754"), looks := false }, kinds := [], alts := [], laidByText := true, laidKinds := [.data, .data, .data, .data, .pinned], laidTests := true, laidLooks := .later }
def BagTellsCardSaid : Prop := Claim7.holds Tryz.pinned (.plain (OpenSpec.ofChange bagTellsSpec)) bagTellsCard

/-- THE TIED CARD OF 'leveelaw05.BagSums'. -/
def bagSumsCard : Claim7 := { stood := { row := bagSumsRow, standIns := [], harness := (true, "4f7fb4375ab17a4e3fc29b28b4bc3bdd42eca6a4ef11a5bc6e6cf894680a6754"), looks := false }, kinds := [], alts := [], laidByText := true, laidKinds := [.data, .data, .data, .data, .pinned], laidTests := true, laidLooks := .later }
def BagSumsCardSaid : Prop := Claim7.holds Tryz.pinned (.plain (OpenSpec.ofChange bagSumsSpec)) bagSumsCard

/-- THE SECOND FORM's CARD OF 'leveelaw05.BagTells'. -/
def bagTellsUptoCard : Claim7 := { stood := { row := bagTellsUptoRow, standIns := [], harness := (true, "4f7fb4375ab17a4e3fc29b28b4bc3bdd42eca6a4ef11a5bc6e6cf894680a6754"), looks := false }, kinds := [], alts := [], laidByText := true, laidKinds := [.data, .data, .data, .data, .pinned], laidTests := true, laidLooks := .later }
def BagTellsUptoCardSaid : Prop := Claim7.holds Tryz.pinned (.plain (OpenSpec.upto bagTellsSpec)) bagTellsUptoCard

/-- THE SECOND FORM's CARD OF 'leveelaw05.BagSums'. -/
def bagSumsUptoCard : Claim7 := { stood := { row := bagSumsUptoRow, standIns := [], harness := (true, "4f7fb4375ab17a4e3fc29b28b4bc3bdd42eca6a4ef11a5bc6e6cf894680a6754"), looks := false }, kinds := [], alts := [], laidByText := true, laidKinds := [.data, .data, .data, .data, .pinned], laidTests := true, laidLooks := .later }
def BagSumsUptoCardSaid : Prop := Claim7.holds Tryz.pinned (.plain (OpenSpec.upto bagSumsSpec)) bagSumsUptoCard
end Rows
end Go.Proofs.YthgoflaphbigbaaGreatDoor
