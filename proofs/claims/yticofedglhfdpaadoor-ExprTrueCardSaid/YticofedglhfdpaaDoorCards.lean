/-
  DERIVED. GIVEN WITH THE SEED: THE CARDS: each row of YticofedglhfdpaaDoorRows.lean that lists a variable, with what it lists TIED to the program's text (the seventh form; the later family's looks); each row that meets fmt, with fmt's text TOLD by the authors' own Lean function (tested against real Go, not proved from fmt's source: count such statements apart). THE CARD IS WHAT COUNTS. Prove the row's statement (the work); the ties are given (YticofedglhfdpaaDoorTie.lean); close each card by the builder's one call (the guide's Derived/Test/ToyasCard.lean, 'card_holds'). Laid BY PROGRAM, IN A SANDBOX (cutbox-door.mjs). By AI agents, Wed Nov 11 2026. No macro, syntax, notation, axiom, sorry.
-/
import Derived.Test.YticofedglhfdpaaDoorRows
import GoSem.ClaimSeven
namespace Go.Proofs.YticofedglhfdpaaDoor
namespace Rows

/-- THE TIED CARD OF 'leveelaw03.ExprTyped'. -/
def exprTypedCard : Claim7 := { stood := { row := exprTypedRow, standIns := [], harness := (true, "a6ae45c9c797d08219ef5935d5952c271d2ee85434e1070dca7beae8b10fd253"), looks := false }, kinds := [], alts := [], laidByText := true, laidKinds := [.data, .data, .data, .data, .data, .pinned], laidTests := true, laidLooks := .later }
def ExprTypedCardSaid : Prop := Claim7.holds Tryd.pinned (.plain (OpenSpec.ofChange exprTypedSpec)) exprTypedCard

/-- THE TIED CARD OF 'leveelaw03.ExprConst'. -/
def exprConstCard : Claim7 := { stood := { row := exprConstRow, standIns := [], harness := (true, "a6ae45c9c797d08219ef5935d5952c271d2ee85434e1070dca7beae8b10fd253"), looks := false }, kinds := [], alts := [], laidByText := true, laidKinds := [.data, .data, .data, .data, .data, .pinned], laidTests := true, laidLooks := .later }
def ExprConstCardSaid : Prop := Claim7.holds Tryd.pinned (.plain (OpenSpec.ofChange exprConstSpec)) exprConstCard

/-- THE TIED CARD OF 'leveelaw03.ExprTrue'. -/
def exprTrueCard : Claim7 := { stood := { row := exprTrueRow, standIns := [], harness := (true, "a6ae45c9c797d08219ef5935d5952c271d2ee85434e1070dca7beae8b10fd253"), looks := false }, kinds := [], alts := [], laidByText := true, laidKinds := [.data, .data, .data, .data, .data, .pinned], laidTests := true, laidLooks := .later }
def ExprTrueCardSaid : Prop := Claim7.holds Tryd.pinned (.plain (OpenSpec.ofChange exprTrueSpec)) exprTrueCard

/-- THE TIED CARD OF 'leveelaw03.ExprDeep'. -/
def exprDeepCard : Claim7 := { stood := { row := exprDeepRow, standIns := [], harness := (true, "a6ae45c9c797d08219ef5935d5952c271d2ee85434e1070dca7beae8b10fd253"), looks := false }, kinds := [], alts := [], laidByText := true, laidKinds := [.data, .data, .data, .data, .data, .pinned], laidTests := true, laidLooks := .later }
def ExprDeepCardSaid : Prop := Claim7.holds Tryd.pinned (.plain (OpenSpec.ofChange exprDeepSpec)) exprDeepCard

/-- THE SECOND FORM's CARD OF 'leveelaw03.ExprTyped'. -/
def exprTypedUptoCard : Claim7 := { stood := { row := exprTypedUptoRow, standIns := [], harness := (true, "a6ae45c9c797d08219ef5935d5952c271d2ee85434e1070dca7beae8b10fd253"), looks := false }, kinds := [], alts := [], laidByText := true, laidKinds := [.data, .data, .data, .data, .data, .pinned], laidTests := true, laidLooks := .later }
def ExprTypedUptoCardSaid : Prop := Claim7.holds Tryd.pinned (.plain (OpenSpec.upto exprTypedSpec)) exprTypedUptoCard

/-- THE SECOND FORM's CARD OF 'leveelaw03.ExprConst'. -/
def exprConstUptoCard : Claim7 := { stood := { row := exprConstUptoRow, standIns := [], harness := (true, "a6ae45c9c797d08219ef5935d5952c271d2ee85434e1070dca7beae8b10fd253"), looks := false }, kinds := [], alts := [], laidByText := true, laidKinds := [.data, .data, .data, .data, .data, .pinned], laidTests := true, laidLooks := .later }
def ExprConstUptoCardSaid : Prop := Claim7.holds Tryd.pinned (.plain (OpenSpec.upto exprConstSpec)) exprConstUptoCard

/-- THE SECOND FORM's CARD OF 'leveelaw03.ExprTrue'. -/
def exprTrueUptoCard : Claim7 := { stood := { row := exprTrueUptoRow, standIns := [], harness := (true, "a6ae45c9c797d08219ef5935d5952c271d2ee85434e1070dca7beae8b10fd253"), looks := false }, kinds := [], alts := [], laidByText := true, laidKinds := [.data, .data, .data, .data, .data, .pinned], laidTests := true, laidLooks := .later }
def ExprTrueUptoCardSaid : Prop := Claim7.holds Tryd.pinned (.plain (OpenSpec.upto exprTrueSpec)) exprTrueUptoCard

/-- THE SECOND FORM's CARD OF 'leveelaw03.ExprDeep'. -/
def exprDeepUptoCard : Claim7 := { stood := { row := exprDeepUptoRow, standIns := [], harness := (true, "a6ae45c9c797d08219ef5935d5952c271d2ee85434e1070dca7beae8b10fd253"), looks := false }, kinds := [], alts := [], laidByText := true, laidKinds := [.data, .data, .data, .data, .data, .pinned], laidTests := true, laidLooks := .later }
def ExprDeepUptoCardSaid : Prop := Claim7.holds Tryd.pinned (.plain (OpenSpec.upto exprDeepSpec)) exprDeepUptoCard
end Rows
end Go.Proofs.YticofedglhfdpaaDoor
