/-
  DERIVED. GIVEN WITH THE SEED: THE CARDS: each row of YtldaoepemofhlaaGreatDoorRows.lean that lists a variable, with what it lists TIED to the program's text (the seventh form; the later family's looks); each row that meets fmt, with fmt's text TOLD by the authors' own Lean function (tested against real Go, not proved from fmt's source: count such statements apart). THE CARD IS WHAT COUNTS. Prove the row's statement (the work); the ties are given (YtldaoepemofhlaaGreatDoorTie.lean); close each card by the builder's one call (the guide's Derived/Test/ToyasCard.lean, 'card_holds'). Laid BY PROGRAM, IN A SANDBOX (cutbox-door.mjs). By AI agents, Wed Nov 11 2026. No macro, syntax, notation, axiom, sorry.
-/
import Derived.Test.YtldaoepemofhlaaGreatDoorRows
import GoSem.ClaimSeven
namespace Go.Proofs.YtldaoepemofhlaaGreatDoor
namespace Rows

/-- THE TIED CARD OF 'leveelaw11.GroupTells'. -/
def groupTellsCard : Claim7 := { stood := { row := groupTellsRow, standIns := [], harness := (true, "6a366e8ed18c051879edb3047d2acea8a08eb70d0b97c5a9b8b7a9e919e9ab8e"), looks := false }, kinds := [], alts := [], laidByText := true, laidKinds := [.data, .data, .data, .data, .pinned], laidTests := true, laidLooks := .later }
def GroupTellsCardSaid : Prop := Claim7.holds Tryz.pinned (.plain (OpenSpec.ofChange groupTellsSpec)) groupTellsCard

/-- THE TIED CARD OF 'leveelaw11.GroupCounts'. -/
def groupCountsCard : Claim7 := { stood := { row := groupCountsRow, standIns := [], harness := (true, "6a366e8ed18c051879edb3047d2acea8a08eb70d0b97c5a9b8b7a9e919e9ab8e"), looks := false }, kinds := [], alts := [], laidByText := true, laidKinds := [.data, .data, .data, .data, .pinned], laidTests := true, laidLooks := .later }
def GroupCountsCardSaid : Prop := Claim7.holds Tryz.pinned (.plain (OpenSpec.ofChange groupCountsSpec)) groupCountsCard

/-- THE TIED CARD OF 'leveelaw11.GroupEnds'. -/
def groupEndsCard : Claim7 := { stood := { row := groupEndsRow, standIns := [], harness := (true, "6a366e8ed18c051879edb3047d2acea8a08eb70d0b97c5a9b8b7a9e919e9ab8e"), looks := false }, kinds := [], alts := [], laidByText := true, laidKinds := [.data, .data, .data, .data, .pinned], laidTests := true, laidLooks := .later }
def GroupEndsCardSaid : Prop := Claim7.holds Tryz.pinned (.plain (OpenSpec.ofChange groupEndsSpec)) groupEndsCard

/-- THE TIED CARD OF 'leveelaw11.GroupOne'. -/
def groupOneCard : Claim7 := { stood := { row := groupOneRow, standIns := [], harness := (true, "6a366e8ed18c051879edb3047d2acea8a08eb70d0b97c5a9b8b7a9e919e9ab8e"), looks := false }, kinds := [], alts := [], laidByText := true, laidKinds := [.data, .data, .data, .data, .pinned], laidTests := true, laidLooks := .later }
def GroupOneCardSaid : Prop := Claim7.holds Tryz.pinned (.plain (OpenSpec.ofChange groupOneSpec)) groupOneCard

/-- THE TIED CARD OF 'leveelaw11.GroupParts'. -/
def groupPartsCard : Claim7 := { stood := { row := groupPartsRow, standIns := [], harness := (true, "6a366e8ed18c051879edb3047d2acea8a08eb70d0b97c5a9b8b7a9e919e9ab8e"), looks := false }, kinds := [], alts := [], laidByText := true, laidKinds := [.data, .data, .data, .data, .pinned], laidTests := true, laidLooks := .later }
def GroupPartsCardSaid : Prop := Claim7.holds Tryz.pinned (.plain (OpenSpec.ofChange groupPartsSpec)) groupPartsCard

/-- THE SECOND FORM's CARD OF 'leveelaw11.GroupTells'. -/
def groupTellsUptoCard : Claim7 := { stood := { row := groupTellsUptoRow, standIns := [], harness := (true, "6a366e8ed18c051879edb3047d2acea8a08eb70d0b97c5a9b8b7a9e919e9ab8e"), looks := false }, kinds := [], alts := [], laidByText := true, laidKinds := [.data, .data, .data, .data, .pinned], laidTests := true, laidLooks := .later }
def GroupTellsUptoCardSaid : Prop := Claim7.holds Tryz.pinned (.plain (OpenSpec.upto groupTellsSpec)) groupTellsUptoCard

/-- THE SECOND FORM's CARD OF 'leveelaw11.GroupCounts'. -/
def groupCountsUptoCard : Claim7 := { stood := { row := groupCountsUptoRow, standIns := [], harness := (true, "6a366e8ed18c051879edb3047d2acea8a08eb70d0b97c5a9b8b7a9e919e9ab8e"), looks := false }, kinds := [], alts := [], laidByText := true, laidKinds := [.data, .data, .data, .data, .pinned], laidTests := true, laidLooks := .later }
def GroupCountsUptoCardSaid : Prop := Claim7.holds Tryz.pinned (.plain (OpenSpec.upto groupCountsSpec)) groupCountsUptoCard

/-- THE SECOND FORM's CARD OF 'leveelaw11.GroupEnds'. -/
def groupEndsUptoCard : Claim7 := { stood := { row := groupEndsUptoRow, standIns := [], harness := (true, "6a366e8ed18c051879edb3047d2acea8a08eb70d0b97c5a9b8b7a9e919e9ab8e"), looks := false }, kinds := [], alts := [], laidByText := true, laidKinds := [.data, .data, .data, .data, .pinned], laidTests := true, laidLooks := .later }
def GroupEndsUptoCardSaid : Prop := Claim7.holds Tryz.pinned (.plain (OpenSpec.upto groupEndsSpec)) groupEndsUptoCard

/-- THE SECOND FORM's CARD OF 'leveelaw11.GroupOne'. -/
def groupOneUptoCard : Claim7 := { stood := { row := groupOneUptoRow, standIns := [], harness := (true, "6a366e8ed18c051879edb3047d2acea8a08eb70d0b97c5a9b8b7a9e919e9ab8e"), looks := false }, kinds := [], alts := [], laidByText := true, laidKinds := [.data, .data, .data, .data, .pinned], laidTests := true, laidLooks := .later }
def GroupOneUptoCardSaid : Prop := Claim7.holds Tryz.pinned (.plain (OpenSpec.upto groupOneSpec)) groupOneUptoCard

/-- THE SECOND FORM's CARD OF 'leveelaw11.GroupParts'. -/
def groupPartsUptoCard : Claim7 := { stood := { row := groupPartsUptoRow, standIns := [], harness := (true, "6a366e8ed18c051879edb3047d2acea8a08eb70d0b97c5a9b8b7a9e919e9ab8e"), looks := false }, kinds := [], alts := [], laidByText := true, laidKinds := [.data, .data, .data, .data, .pinned], laidTests := true, laidLooks := .later }
def GroupPartsUptoCardSaid : Prop := Claim7.holds Tryz.pinned (.plain (OpenSpec.upto groupPartsSpec)) groupPartsUptoCard
end Rows
end Go.Proofs.YtldaoepemofhlaaGreatDoor
