/-
  DERIVED. GIVEN WITH THE SEED: THE CARDS: each row of YtkbgcgkblbbcbaaDoorRows.lean that lists a variable, with what it lists TIED to the program's text (the seventh form; the later family's looks); each row that meets fmt, with fmt's text TOLD by the authors' own Lean function (tested against real Go, not proved from fmt's source: count such statements apart). THE CARD IS WHAT COUNTS. Prove the row's statement (the work); the ties are given (YtkbgcgkblbbcbaaDoorTie.lean); close each card by the builder's one call (the guide's Derived/Test/ToyasCard.lean, 'card_holds'). Laid BY PROGRAM, IN A SANDBOX (cutbox-door.mjs). By AI agents, Wed Nov 11 2026. No macro, syntax, notation, axiom, sorry.
-/
import Derived.Test.YtkbgcgkblbbcbaaDoorRows
import GoSem.ClaimSeven
namespace Go.Proofs.YtkbgcgkblbbcbaaDoor
namespace Rows

/-- THE TIED CARD OF 'leveelaw02.KeyTells'. -/
def keyTellsCard : Claim7 := { stood := { row := keyTellsRow, standIns := [], harness := (true, "5c46f872c4dfa25208518b71344230f3730f05126a938e7396450544bc897d27"), looks := false }, kinds := [], alts := [], laidByText := true, laidKinds := [.data, .pinned], laidTests := true, laidLooks := .later }
def KeyTellsCardSaid : Prop := Claim7.holds Tryd.pinned (.plain (OpenSpec.ofChange keyTellsSpec)) keyTellsCard

/-- THE TIED CARD OF 'leveelaw02.KeyRises'. -/
def keyRisesCard : Claim7 := { stood := { row := keyRisesRow, standIns := [], harness := (true, "5c46f872c4dfa25208518b71344230f3730f05126a938e7396450544bc897d27"), looks := false }, kinds := [], alts := [], laidByText := true, laidKinds := [.data, .pinned], laidTests := true, laidLooks := .later }
def KeyRisesCardSaid : Prop := Claim7.holds Tryd.pinned (.plain (OpenSpec.ofChange keyRisesSpec)) keyRisesCard

/-- THE TIED CARD OF 'leveelaw02.KeyBack'. -/
def keyBackCard : Claim7 := { stood := { row := keyBackRow, standIns := [], harness := (true, "5c46f872c4dfa25208518b71344230f3730f05126a938e7396450544bc897d27"), looks := false }, kinds := [], alts := [], laidByText := true, laidKinds := [.data, .pinned], laidTests := true, laidLooks := .later }
def KeyBackCardSaid : Prop := Claim7.holds Tryd.pinned (.plain (OpenSpec.ofChange keyBackSpec)) keyBackCard

/-- THE TIED CARD OF 'leveelaw02.KeyApart'. -/
def keyApartCard : Claim7 := { stood := { row := keyApartRow, standIns := [], harness := (true, "5c46f872c4dfa25208518b71344230f3730f05126a938e7396450544bc897d27"), looks := false }, kinds := [], alts := [], laidByText := true, laidKinds := [.data, .pinned], laidTests := true, laidLooks := .later }
def KeyApartCardSaid : Prop := Claim7.holds Tryd.pinned (.plain (OpenSpec.ofChange keyApartSpec)) keyApartCard

/-- THE TIED CARD OF 'leveelaw02.KeySame'. -/
def keySameCard : Claim7 := { stood := { row := keySameRow, standIns := [], harness := (true, "5c46f872c4dfa25208518b71344230f3730f05126a938e7396450544bc897d27"), looks := false }, kinds := [], alts := [], laidByText := true, laidKinds := [.data, .pinned], laidTests := true, laidLooks := .later }
def KeySameCardSaid : Prop := Claim7.holds Tryd.pinned (.plain (OpenSpec.ofChange keySameSpec)) keySameCard

/-- THE SECOND FORM's CARD OF 'leveelaw02.KeyTells'. -/
def keyTellsUptoCard : Claim7 := { stood := { row := keyTellsUptoRow, standIns := [], harness := (true, "5c46f872c4dfa25208518b71344230f3730f05126a938e7396450544bc897d27"), looks := false }, kinds := [], alts := [], laidByText := true, laidKinds := [.data, .pinned], laidTests := true, laidLooks := .later }
def KeyTellsUptoCardSaid : Prop := Claim7.holds Tryd.pinned (.plain (OpenSpec.upto keyTellsSpec)) keyTellsUptoCard

/-- THE SECOND FORM's CARD OF 'leveelaw02.KeyRises'. -/
def keyRisesUptoCard : Claim7 := { stood := { row := keyRisesUptoRow, standIns := [], harness := (true, "5c46f872c4dfa25208518b71344230f3730f05126a938e7396450544bc897d27"), looks := false }, kinds := [], alts := [], laidByText := true, laidKinds := [.data, .pinned], laidTests := true, laidLooks := .later }
def KeyRisesUptoCardSaid : Prop := Claim7.holds Tryd.pinned (.plain (OpenSpec.upto keyRisesSpec)) keyRisesUptoCard

/-- THE SECOND FORM's CARD OF 'leveelaw02.KeyBack'. -/
def keyBackUptoCard : Claim7 := { stood := { row := keyBackUptoRow, standIns := [], harness := (true, "5c46f872c4dfa25208518b71344230f3730f05126a938e7396450544bc897d27"), looks := false }, kinds := [], alts := [], laidByText := true, laidKinds := [.data, .pinned], laidTests := true, laidLooks := .later }
def KeyBackUptoCardSaid : Prop := Claim7.holds Tryd.pinned (.plain (OpenSpec.upto keyBackSpec)) keyBackUptoCard

/-- THE SECOND FORM's CARD OF 'leveelaw02.KeyApart'. -/
def keyApartUptoCard : Claim7 := { stood := { row := keyApartUptoRow, standIns := [], harness := (true, "5c46f872c4dfa25208518b71344230f3730f05126a938e7396450544bc897d27"), looks := false }, kinds := [], alts := [], laidByText := true, laidKinds := [.data, .pinned], laidTests := true, laidLooks := .later }
def KeyApartUptoCardSaid : Prop := Claim7.holds Tryd.pinned (.plain (OpenSpec.upto keyApartSpec)) keyApartUptoCard

/-- THE SECOND FORM's CARD OF 'leveelaw02.KeySame'. -/
def keySameUptoCard : Claim7 := { stood := { row := keySameUptoRow, standIns := [], harness := (true, "5c46f872c4dfa25208518b71344230f3730f05126a938e7396450544bc897d27"), looks := false }, kinds := [], alts := [], laidByText := true, laidKinds := [.data, .pinned], laidTests := true, laidLooks := .later }
def KeySameUptoCardSaid : Prop := Claim7.holds Tryd.pinned (.plain (OpenSpec.upto keySameSpec)) keySameUptoCard
end Rows
end Go.Proofs.YtkbgcgkblbbcbaaDoor
