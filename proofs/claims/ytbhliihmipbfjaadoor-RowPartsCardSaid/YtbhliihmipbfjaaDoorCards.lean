/-
  DERIVED. GIVEN WITH THE SEED: THE CARDS: each row of YtbhliihmipbfjaaDoorRows.lean that lists a variable, with what it lists TIED to the program's text (the seventh form; the later family's looks); each row that meets fmt, with fmt's text TOLD by the authors' own Lean function (tested against real Go, not proved from fmt's source: count such statements apart). THE CARD IS WHAT COUNTS. Prove the row's statement (the work); the ties are given (YtbhliihmipbfjaaDoorTie.lean); close each card by the builder's one call (the guide's Derived/Test/ToyasCard.lean, 'card_holds'). Laid BY PROGRAM, IN A SANDBOX (cutbox-door.mjs). By AI agents, Wed Nov 11 2026. No macro, syntax, notation, axiom, sorry.
-/
import Derived.Test.YtbhliihmipbfjaaDoorRows
import GoSem.ClaimSeven
namespace Go.Proofs.YtbhliihmipbfjaaDoor
namespace Rows

/-- THE TIED CARD OF 'leveelaw04.RowSorts'. -/
def rowSortsCard : Claim7 := { stood := { row := rowSortsRow, standIns := [], harness := (true, "aa846ee4f0cdaa9adc135c85aa5f6dcfd3b389d0c31ad7672f6d4a1e4d77a355"), looks := false }, kinds := [], alts := [], laidByText := true, laidKinds := [.data, .data, .data, .data, .pinned], laidTests := true, laidLooks := .later }
def RowSortsCardSaid : Prop := Claim7.holds Tryd.pinned (.plain (OpenSpec.ofChange rowSortsSpec)) rowSortsCard

/-- THE TIED CARD OF 'leveelaw04.RowJoins'. -/
def rowJoinsCard : Claim7 := { stood := { row := rowJoinsRow, standIns := [], harness := (true, "aa846ee4f0cdaa9adc135c85aa5f6dcfd3b389d0c31ad7672f6d4a1e4d77a355"), looks := false }, kinds := [], alts := [], laidByText := true, laidKinds := [.data, .data, .data, .data, .pinned], laidTests := true, laidLooks := .later }
def RowJoinsCardSaid : Prop := Claim7.holds Tryd.pinned (.plain (OpenSpec.ofChange rowJoinsSpec)) rowJoinsCard

/-- THE TIED CARD OF 'leveelaw04.RowFits'. -/
def rowFitsCard : Claim7 := { stood := { row := rowFitsRow, standIns := [], harness := (true, "aa846ee4f0cdaa9adc135c85aa5f6dcfd3b389d0c31ad7672f6d4a1e4d77a355"), looks := false }, kinds := [], alts := [], laidByText := true, laidKinds := [.data, .data, .data, .data, .pinned], laidTests := true, laidLooks := .later }
def RowFitsCardSaid : Prop := Claim7.holds Tryd.pinned (.plain (OpenSpec.ofChange rowFitsSpec)) rowFitsCard

/-- THE TIED CARD OF 'leveelaw04.RowTexts'. -/
def rowTextsCard : Claim7 := { stood := { row := rowTextsRow, standIns := [], harness := (true, "aa846ee4f0cdaa9adc135c85aa5f6dcfd3b389d0c31ad7672f6d4a1e4d77a355"), looks := false }, kinds := [], alts := [], laidByText := true, laidKinds := [.data, .data, .data, .data, .pinned], laidTests := true, laidLooks := .later }
def RowTextsCardSaid : Prop := Claim7.holds Tryd.pinned (.plain (OpenSpec.ofChange rowTextsSpec)) rowTextsCard

/-- THE TIED CARD OF 'leveelaw04.RowParts'. -/
def rowPartsCard : Claim7 := { stood := { row := rowPartsRow, standIns := [], harness := (true, "aa846ee4f0cdaa9adc135c85aa5f6dcfd3b389d0c31ad7672f6d4a1e4d77a355"), looks := false }, kinds := [], alts := [], laidByText := true, laidKinds := [.data, .data, .data, .data, .pinned], laidTests := true, laidLooks := .later }
def RowPartsCardSaid : Prop := Claim7.holds Tryd.pinned (.plain (OpenSpec.ofChange rowPartsSpec)) rowPartsCard

/-- THE SECOND FORM's CARD OF 'leveelaw04.RowSorts'. -/
def rowSortsUptoCard : Claim7 := { stood := { row := rowSortsUptoRow, standIns := [], harness := (true, "aa846ee4f0cdaa9adc135c85aa5f6dcfd3b389d0c31ad7672f6d4a1e4d77a355"), looks := false }, kinds := [], alts := [], laidByText := true, laidKinds := [.data, .data, .data, .data, .pinned], laidTests := true, laidLooks := .later }
def RowSortsUptoCardSaid : Prop := Claim7.holds Tryd.pinned (.plain (OpenSpec.upto rowSortsSpec)) rowSortsUptoCard

/-- THE SECOND FORM's CARD OF 'leveelaw04.RowJoins'. -/
def rowJoinsUptoCard : Claim7 := { stood := { row := rowJoinsUptoRow, standIns := [], harness := (true, "aa846ee4f0cdaa9adc135c85aa5f6dcfd3b389d0c31ad7672f6d4a1e4d77a355"), looks := false }, kinds := [], alts := [], laidByText := true, laidKinds := [.data, .data, .data, .data, .pinned], laidTests := true, laidLooks := .later }
def RowJoinsUptoCardSaid : Prop := Claim7.holds Tryd.pinned (.plain (OpenSpec.upto rowJoinsSpec)) rowJoinsUptoCard

/-- THE SECOND FORM's CARD OF 'leveelaw04.RowFits'. -/
def rowFitsUptoCard : Claim7 := { stood := { row := rowFitsUptoRow, standIns := [], harness := (true, "aa846ee4f0cdaa9adc135c85aa5f6dcfd3b389d0c31ad7672f6d4a1e4d77a355"), looks := false }, kinds := [], alts := [], laidByText := true, laidKinds := [.data, .data, .data, .data, .pinned], laidTests := true, laidLooks := .later }
def RowFitsUptoCardSaid : Prop := Claim7.holds Tryd.pinned (.plain (OpenSpec.upto rowFitsSpec)) rowFitsUptoCard

/-- THE SECOND FORM's CARD OF 'leveelaw04.RowTexts'. -/
def rowTextsUptoCard : Claim7 := { stood := { row := rowTextsUptoRow, standIns := [], harness := (true, "aa846ee4f0cdaa9adc135c85aa5f6dcfd3b389d0c31ad7672f6d4a1e4d77a355"), looks := false }, kinds := [], alts := [], laidByText := true, laidKinds := [.data, .data, .data, .data, .pinned], laidTests := true, laidLooks := .later }
def RowTextsUptoCardSaid : Prop := Claim7.holds Tryd.pinned (.plain (OpenSpec.upto rowTextsSpec)) rowTextsUptoCard

/-- THE SECOND FORM's CARD OF 'leveelaw04.RowParts'. -/
def rowPartsUptoCard : Claim7 := { stood := { row := rowPartsUptoRow, standIns := [], harness := (true, "aa846ee4f0cdaa9adc135c85aa5f6dcfd3b389d0c31ad7672f6d4a1e4d77a355"), looks := false }, kinds := [], alts := [], laidByText := true, laidKinds := [.data, .data, .data, .data, .pinned], laidTests := true, laidLooks := .later }
def RowPartsUptoCardSaid : Prop := Claim7.holds Tryd.pinned (.plain (OpenSpec.upto rowPartsSpec)) rowPartsUptoCard
end Rows
end Go.Proofs.YtbhliihmipbfjaaDoor
