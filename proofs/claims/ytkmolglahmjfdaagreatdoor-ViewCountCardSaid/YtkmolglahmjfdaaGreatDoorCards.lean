/-
  DERIVED. GIVEN WITH THE SEED: THE CARDS: each row of YtkmolglahmjfdaaGreatDoorRows.lean that lists a variable, with what it lists TIED to the program's text (the seventh form; the later family's looks); each row that meets fmt, with fmt's text TOLD by the authors' own Lean function (tested against real Go, not proved from fmt's source: count such statements apart). THE CARD IS WHAT COUNTS. Prove the row's statement (the work); the ties are given (YtkmolglahmjfdaaGreatDoorTie.lean); close each card by the builder's one call (the guide's Derived/Test/ToyasCard.lean, 'card_holds'). Laid BY PROGRAM, IN A SANDBOX (cutbox-door.mjs). By AI agents, Wed Nov 11 2026. No macro, syntax, notation, axiom, sorry.
-/
import Derived.Test.YtkmolglahmjfdaaGreatDoorRows
import GoSem.ClaimSeven
namespace Go.Proofs.YtkmolglahmjfdaaGreatDoor
namespace Rows

/-- THE TIED CARD OF 'leveelaw12.ViewEvals'. -/
def viewEvalsCard : Claim7 := { stood := { row := viewEvalsRow, standIns := [], harness := (true, "a6f24bf51bfba91c5cc94593150c017794cf1fded567ed0ff04c8481d6047540"), looks := true }, kinds := [], alts := [], laidByText := true, laidKinds := [.data, .data, .data, .data, .sentinel, .sentinel, .data, .pinned], laidTests := true, laidLooks := .later }
def ViewEvalsCardSaid : Prop := Claim7.holds Tryz.pinned (.plain (OpenSpec.ofChange viewEvalsSpec)) viewEvalsCard

/-- THE TIED CARD OF 'leveelaw12.ViewAll'. -/
def viewAllCard : Claim7 := { stood := { row := viewAllRow, standIns := [], harness := (true, "a6f24bf51bfba91c5cc94593150c017794cf1fded567ed0ff04c8481d6047540"), looks := true }, kinds := [], alts := [], laidByText := true, laidKinds := [.data, .data, .data, .data, .sentinel, .sentinel, .data, .pinned], laidTests := true, laidLooks := .later }
def ViewAllCardSaid : Prop := Claim7.holds Tryz.pinned (.plain (OpenSpec.ofChange viewAllSpec)) viewAllCard

/-- THE TIED CARD OF 'leveelaw12.ViewAhead'. -/
def viewAheadCard : Claim7 := { stood := { row := viewAheadRow, standIns := [], harness := (true, "a6f24bf51bfba91c5cc94593150c017794cf1fded567ed0ff04c8481d6047540"), looks := true }, kinds := [], alts := [], laidByText := true, laidKinds := [.data, .data, .data, .data, .sentinel, .sentinel, .data, .pinned], laidTests := true, laidLooks := .later }
def ViewAheadCardSaid : Prop := Claim7.holds Tryz.pinned (.plain (OpenSpec.ofChange viewAheadSpec)) viewAheadCard

/-- THE TIED CARD OF 'leveelaw12.ViewNothing'. -/
def viewNothingCard : Claim7 := { stood := { row := viewNothingRow, standIns := [], harness := (true, "a6f24bf51bfba91c5cc94593150c017794cf1fded567ed0ff04c8481d6047540"), looks := true }, kinds := [], alts := [], laidByText := true, laidKinds := [.data, .data, .data, .data, .sentinel, .sentinel, .data, .pinned], laidTests := true, laidLooks := .later }
def ViewNothingCardSaid : Prop := Claim7.holds Tryz.pinned (.plain (OpenSpec.ofChange viewNothingSpec)) viewNothingCard

/-- THE TIED CARD OF 'leveelaw12.ViewOther'. -/
def viewOtherCard : Claim7 := { stood := { row := viewOtherRow, standIns := [], harness := (true, "a6f24bf51bfba91c5cc94593150c017794cf1fded567ed0ff04c8481d6047540"), looks := true }, kinds := [], alts := [], laidByText := true, laidKinds := [.data, .data, .data, .data, .sentinel, .sentinel, .data, .pinned], laidTests := true, laidLooks := .later }
def ViewOtherCardSaid : Prop := Claim7.holds Tryz.pinned (.plain (OpenSpec.ofChange viewOtherSpec)) viewOtherCard

/-- THE TIED CARD OF 'leveelaw12.ViewCount'. -/
def viewCountCard : Claim7 := { stood := { row := viewCountRow, standIns := [], harness := (true, "a6f24bf51bfba91c5cc94593150c017794cf1fded567ed0ff04c8481d6047540"), looks := true }, kinds := [], alts := [], laidByText := true, laidKinds := [.data, .data, .data, .data, .sentinel, .sentinel, .data, .pinned], laidTests := true, laidLooks := .later }
def ViewCountCardSaid : Prop := Claim7.holds Tryz.pinned (.plain (OpenSpec.ofChange viewCountSpec)) viewCountCard

/-- THE SECOND FORM's CARD OF 'leveelaw12.ViewEvals'. -/
def viewEvalsUptoCard : Claim7 := { stood := { row := viewEvalsUptoRow, standIns := [], harness := (true, "a6f24bf51bfba91c5cc94593150c017794cf1fded567ed0ff04c8481d6047540"), looks := true }, kinds := [], alts := [], laidByText := true, laidKinds := [.data, .data, .data, .data, .sentinel, .sentinel, .data, .pinned], laidTests := true, laidLooks := .later }
def ViewEvalsUptoCardSaid : Prop := Claim7.holds Tryz.pinned (.plain (OpenSpec.upto viewEvalsSpec)) viewEvalsUptoCard

/-- THE SECOND FORM's CARD OF 'leveelaw12.ViewAll'. -/
def viewAllUptoCard : Claim7 := { stood := { row := viewAllUptoRow, standIns := [], harness := (true, "a6f24bf51bfba91c5cc94593150c017794cf1fded567ed0ff04c8481d6047540"), looks := true }, kinds := [], alts := [], laidByText := true, laidKinds := [.data, .data, .data, .data, .sentinel, .sentinel, .data, .pinned], laidTests := true, laidLooks := .later }
def ViewAllUptoCardSaid : Prop := Claim7.holds Tryz.pinned (.plain (OpenSpec.upto viewAllSpec)) viewAllUptoCard

/-- THE SECOND FORM's CARD OF 'leveelaw12.ViewAhead'. -/
def viewAheadUptoCard : Claim7 := { stood := { row := viewAheadUptoRow, standIns := [], harness := (true, "a6f24bf51bfba91c5cc94593150c017794cf1fded567ed0ff04c8481d6047540"), looks := true }, kinds := [], alts := [], laidByText := true, laidKinds := [.data, .data, .data, .data, .sentinel, .sentinel, .data, .pinned], laidTests := true, laidLooks := .later }
def ViewAheadUptoCardSaid : Prop := Claim7.holds Tryz.pinned (.plain (OpenSpec.upto viewAheadSpec)) viewAheadUptoCard

/-- THE SECOND FORM's CARD OF 'leveelaw12.ViewNothing'. -/
def viewNothingUptoCard : Claim7 := { stood := { row := viewNothingUptoRow, standIns := [], harness := (true, "a6f24bf51bfba91c5cc94593150c017794cf1fded567ed0ff04c8481d6047540"), looks := true }, kinds := [], alts := [], laidByText := true, laidKinds := [.data, .data, .data, .data, .sentinel, .sentinel, .data, .pinned], laidTests := true, laidLooks := .later }
def ViewNothingUptoCardSaid : Prop := Claim7.holds Tryz.pinned (.plain (OpenSpec.upto viewNothingSpec)) viewNothingUptoCard

/-- THE SECOND FORM's CARD OF 'leveelaw12.ViewOther'. -/
def viewOtherUptoCard : Claim7 := { stood := { row := viewOtherUptoRow, standIns := [], harness := (true, "a6f24bf51bfba91c5cc94593150c017794cf1fded567ed0ff04c8481d6047540"), looks := true }, kinds := [], alts := [], laidByText := true, laidKinds := [.data, .data, .data, .data, .sentinel, .sentinel, .data, .pinned], laidTests := true, laidLooks := .later }
def ViewOtherUptoCardSaid : Prop := Claim7.holds Tryz.pinned (.plain (OpenSpec.upto viewOtherSpec)) viewOtherUptoCard

/-- THE SECOND FORM's CARD OF 'leveelaw12.ViewCount'. -/
def viewCountUptoCard : Claim7 := { stood := { row := viewCountUptoRow, standIns := [], harness := (true, "a6f24bf51bfba91c5cc94593150c017794cf1fded567ed0ff04c8481d6047540"), looks := true }, kinds := [], alts := [], laidByText := true, laidKinds := [.data, .data, .data, .data, .sentinel, .sentinel, .data, .pinned], laidTests := true, laidLooks := .later }
def ViewCountUptoCardSaid : Prop := Claim7.holds Tryz.pinned (.plain (OpenSpec.upto viewCountSpec)) viewCountUptoCard
end Rows
end Go.Proofs.YtkmolglahmjfdaaGreatDoor
