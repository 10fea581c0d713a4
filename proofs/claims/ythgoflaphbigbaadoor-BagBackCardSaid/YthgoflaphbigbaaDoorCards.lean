/-
  DERIVED. GIVEN WITH THE SEED: THE CARDS: each row of YthgoflaphbigbaaDoorRows.lean that lists a variable, with what it lists TIED to the program's text (the seventh form; the later family's looks); each row that meets fmt, with fmt's text TOLD by the authors' own Lean function (tested against real Go, not proved from fmt's source: count such statements apart). THE CARD IS WHAT COUNTS. Prove the row's statement (the work); the ties are given (YthgoflaphbigbaaDoorTie.lean); close each card by the builder's one call (the guide's Derived/Test/ToyasCard.lean, 'card_holds'). Laid BY PROGRAM, IN A SANDBOX (cutbox-door.mjs). By AI agents, Wed Nov 11 2026. No macro, syntax, notation, axiom, sorry.
-/
import Derived.Test.YthgoflaphbigbaaDoorRows
import GoSem.ClaimSeven
namespace Go.Proofs.YthgoflaphbigbaaDoor
namespace Rows

/-- THE TIED CARD OF 'leveelaw05.BagOf'. -/
def bagOfCard : Claim7 := { stood := { row := bagOfRow, standIns := [], harness := (true, "993567f18897e7fd761d36c28aafbbc3ecbf3fa2460d9989f2ef9d4c1a95ea62"), looks := false }, kinds := [], alts := [], laidByText := true, laidKinds := [.data, .data, .data, .data, .pinned], laidTests := true, laidLooks := .later }
def BagOfCardSaid : Prop := Claim7.holds Tryd.pinned (.plain (OpenSpec.ofChange bagOfSpec)) bagOfCard

/-- THE TIED CARD OF 'leveelaw05.BagBack'. -/
def bagBackCard : Claim7 := { stood := { row := bagBackRow, standIns := [], harness := (true, "993567f18897e7fd761d36c28aafbbc3ecbf3fa2460d9989f2ef9d4c1a95ea62"), looks := false }, kinds := [], alts := [], laidByText := true, laidKinds := [.data, .data, .data, .data, .pinned], laidTests := true, laidLooks := .later }
def BagBackCardSaid : Prop := Claim7.holds Tryd.pinned (.plain (OpenSpec.ofChange bagBackSpec)) bagBackCard

/-- THE TIED CARD OF 'leveelaw05.BagGets'. -/
def bagGetsCard : Claim7 := { stood := { row := bagGetsRow, standIns := [], harness := (true, "993567f18897e7fd761d36c28aafbbc3ecbf3fa2460d9989f2ef9d4c1a95ea62"), looks := false }, kinds := [], alts := [], laidByText := true, laidKinds := [.data, .data, .data, .data, .pinned], laidTests := true, laidLooks := .later }
def BagGetsCardSaid : Prop := Claim7.holds Tryd.pinned (.plain (OpenSpec.ofChange bagGetsSpec)) bagGetsCard

/-- THE TIED CARD OF 'leveelaw05.BagTexts'. -/
def bagTextsCard : Claim7 := { stood := { row := bagTextsRow, standIns := [], harness := (true, "993567f18897e7fd761d36c28aafbbc3ecbf3fa2460d9989f2ef9d4c1a95ea62"), looks := false }, kinds := [], alts := [], laidByText := true, laidKinds := [.data, .data, .data, .data, .pinned], laidTests := true, laidLooks := .later }
def BagTextsCardSaid : Prop := Claim7.holds Tryd.pinned (.plain (OpenSpec.ofChange bagTextsSpec)) bagTextsCard

/-- THE TIED CARD OF 'leveelaw05.BagMany'. -/
def bagManyCard : Claim7 := { stood := { row := bagManyRow, standIns := [], harness := (true, "993567f18897e7fd761d36c28aafbbc3ecbf3fa2460d9989f2ef9d4c1a95ea62"), looks := false }, kinds := [], alts := [], laidByText := true, laidKinds := [.data, .data, .data, .data, .pinned], laidTests := true, laidLooks := .later }
def BagManyCardSaid : Prop := Claim7.holds Tryd.pinned (.plain (OpenSpec.ofChange bagManySpec)) bagManyCard

/-- THE SECOND FORM's CARD OF 'leveelaw05.BagOf'. -/
def bagOfUptoCard : Claim7 := { stood := { row := bagOfUptoRow, standIns := [], harness := (true, "993567f18897e7fd761d36c28aafbbc3ecbf3fa2460d9989f2ef9d4c1a95ea62"), looks := false }, kinds := [], alts := [], laidByText := true, laidKinds := [.data, .data, .data, .data, .pinned], laidTests := true, laidLooks := .later }
def BagOfUptoCardSaid : Prop := Claim7.holds Tryd.pinned (.plain (OpenSpec.upto bagOfSpec)) bagOfUptoCard

/-- THE SECOND FORM's CARD OF 'leveelaw05.BagBack'. -/
def bagBackUptoCard : Claim7 := { stood := { row := bagBackUptoRow, standIns := [], harness := (true, "993567f18897e7fd761d36c28aafbbc3ecbf3fa2460d9989f2ef9d4c1a95ea62"), looks := false }, kinds := [], alts := [], laidByText := true, laidKinds := [.data, .data, .data, .data, .pinned], laidTests := true, laidLooks := .later }
def BagBackUptoCardSaid : Prop := Claim7.holds Tryd.pinned (.plain (OpenSpec.upto bagBackSpec)) bagBackUptoCard

/-- THE SECOND FORM's CARD OF 'leveelaw05.BagGets'. -/
def bagGetsUptoCard : Claim7 := { stood := { row := bagGetsUptoRow, standIns := [], harness := (true, "993567f18897e7fd761d36c28aafbbc3ecbf3fa2460d9989f2ef9d4c1a95ea62"), looks := false }, kinds := [], alts := [], laidByText := true, laidKinds := [.data, .data, .data, .data, .pinned], laidTests := true, laidLooks := .later }
def BagGetsUptoCardSaid : Prop := Claim7.holds Tryd.pinned (.plain (OpenSpec.upto bagGetsSpec)) bagGetsUptoCard

/-- THE SECOND FORM's CARD OF 'leveelaw05.BagTexts'. -/
def bagTextsUptoCard : Claim7 := { stood := { row := bagTextsUptoRow, standIns := [], harness := (true, "993567f18897e7fd761d36c28aafbbc3ecbf3fa2460d9989f2ef9d4c1a95ea62"), looks := false }, kinds := [], alts := [], laidByText := true, laidKinds := [.data, .data, .data, .data, .pinned], laidTests := true, laidLooks := .later }
def BagTextsUptoCardSaid : Prop := Claim7.holds Tryd.pinned (.plain (OpenSpec.upto bagTextsSpec)) bagTextsUptoCard

/-- THE SECOND FORM's CARD OF 'leveelaw05.BagMany'. -/
def bagManyUptoCard : Claim7 := { stood := { row := bagManyUptoRow, standIns := [], harness := (true, "993567f18897e7fd761d36c28aafbbc3ecbf3fa2460d9989f2ef9d4c1a95ea62"), looks := false }, kinds := [], alts := [], laidByText := true, laidKinds := [.data, .data, .data, .data, .pinned], laidTests := true, laidLooks := .later }
def BagManyUptoCardSaid : Prop := Claim7.holds Tryd.pinned (.plain (OpenSpec.upto bagManySpec)) bagManyUptoCard
end Rows
end Go.Proofs.YthgoflaphbigbaaDoor
