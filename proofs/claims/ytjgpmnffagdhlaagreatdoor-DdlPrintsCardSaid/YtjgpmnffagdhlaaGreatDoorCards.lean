/-
  DERIVED. GIVEN WITH THE SEED: THE CARDS: each row of YtjgpmnffagdhlaaGreatDoorRows.lean that lists a variable, with what it lists TIED to the program's text (the seventh form; the later family's looks); each row that meets fmt, with fmt's text TOLD by the authors' own Lean function (tested against real Go, not proved from fmt's source: count such statements apart). THE CARD IS WHAT COUNTS. Prove the row's statement (the work); the ties are given (YtjgpmnffagdhlaaGreatDoorTie.lean); close each card by the builder's one call (the guide's Derived/Test/ToyasCard.lean, 'card_holds'). Laid BY PROGRAM, IN A SANDBOX (cutbox-door.mjs). By AI agents, Wed Nov 11 2026. No macro, syntax, notation, axiom, sorry.
-/
import Derived.Test.YtjgpmnffagdhlaaGreatDoorRows
import GoSem.ClaimSeven
namespace Go.Proofs.YtjgpmnffagdhlaaGreatDoor
namespace Rows

/-- THE TIED CARD OF 'leveelaw07.DdlPrints'. -/
def ddlPrintsCard : Claim7 := { stood := { row := ddlPrintsRow, standIns := [], harness := (true, "fbfe17ac86c58cf05393da0f472e18fb202487cc9faf3dfafe5003143c9e8e6b"), looks := true }, kinds := [], alts := [], laidByText := true, laidKinds := [.data, .data, .data, .data, .sentinel, .sentinel, .data, .pinned], laidTests := true, laidLooks := .later }
def DdlPrintsCardSaid : Prop := Claim7.holds Tryz.pinned (.plain (OpenSpec.ofChange ddlPrintsSpec)) ddlPrintsCard

/-- THE TIED CARD OF 'leveelaw07.DdlBack'. -/
def ddlBackCard : Claim7 := { stood := { row := ddlBackRow, standIns := [], harness := (true, "fbfe17ac86c58cf05393da0f472e18fb202487cc9faf3dfafe5003143c9e8e6b"), looks := true }, kinds := [], alts := [], laidByText := true, laidKinds := [.data, .data, .data, .data, .sentinel, .sentinel, .data, .pinned], laidTests := true, laidLooks := .later }
def DdlBackCardSaid : Prop := Claim7.holds Tryz.pinned (.plain (OpenSpec.ofChange ddlBackSpec)) ddlBackCard

/-- THE TIED CARD OF 'leveelaw07.DdlBlanks'. -/
def ddlBlanksCard : Claim7 := { stood := { row := ddlBlanksRow, standIns := [], harness := (true, "fbfe17ac86c58cf05393da0f472e18fb202487cc9faf3dfafe5003143c9e8e6b"), looks := true }, kinds := [], alts := [], laidByText := true, laidKinds := [.data, .data, .data, .data, .sentinel, .sentinel, .data, .pinned], laidTests := true, laidLooks := .later }
def DdlBlanksCardSaid : Prop := Claim7.holds Tryz.pinned (.plain (OpenSpec.ofChange ddlBlanksSpec)) ddlBlanksCard

/-- THE TIED CARD OF 'leveelaw07.DdlParts'. -/
def ddlPartsCard : Claim7 := { stood := { row := ddlPartsRow, standIns := [], harness := (true, "fbfe17ac86c58cf05393da0f472e18fb202487cc9faf3dfafe5003143c9e8e6b"), looks := true }, kinds := [], alts := [], laidByText := true, laidKinds := [.data, .data, .data, .data, .sentinel, .sentinel, .data, .pinned], laidTests := true, laidLooks := .later }
def DdlPartsCardSaid : Prop := Claim7.holds Tryz.pinned (.plain (OpenSpec.ofChange ddlPartsSpec)) ddlPartsCard

/-- THE TIED CARD OF 'leveelaw07.DdlUnlike'. -/
def ddlUnlikeCard : Claim7 := { stood := { row := ddlUnlikeRow, standIns := [], harness := (true, "fbfe17ac86c58cf05393da0f472e18fb202487cc9faf3dfafe5003143c9e8e6b"), looks := true }, kinds := [], alts := [], laidByText := true, laidKinds := [.data, .data, .data, .data, .sentinel, .sentinel, .data, .pinned], laidTests := true, laidLooks := .later }
def DdlUnlikeCardSaid : Prop := Claim7.holds Tryz.pinned (.plain (OpenSpec.ofChange ddlUnlikeSpec)) ddlUnlikeCard

/-- THE TIED CARD OF 'leveelaw08.StmtBack'. -/
def stmtBackCard : Claim7 := { stood := { row := stmtBackRow, standIns := [], harness := (true, "fbfe17ac86c58cf05393da0f472e18fb202487cc9faf3dfafe5003143c9e8e6b"), looks := true }, kinds := [], alts := [], laidByText := true, laidKinds := [.data, .data, .data, .data, .sentinel, .sentinel, .data, .data, .pinned], laidTests := true, laidLooks := .later }
def StmtBackCardSaid : Prop := Claim7.holds Tryz.pinned (.plain (OpenSpec.ofChange stmtBackSpec)) stmtBackCard

/-- THE TIED CARD OF 'leveelaw08.StmtKeys'. -/
def stmtKeysCard : Claim7 := { stood := { row := stmtKeysRow, standIns := [], harness := (true, "fbfe17ac86c58cf05393da0f472e18fb202487cc9faf3dfafe5003143c9e8e6b"), looks := true }, kinds := [], alts := [], laidByText := true, laidKinds := [.data, .data, .data, .data, .sentinel, .sentinel, .data, .data, .pinned], laidTests := true, laidLooks := .later }
def StmtKeysCardSaid : Prop := Claim7.holds Tryz.pinned (.plain (OpenSpec.ofChange stmtKeysSpec)) stmtKeysCard

/-- THE TIED CARD OF 'leveelaw08.StmtUnlike'. -/
def stmtUnlikeCard : Claim7 := { stood := { row := stmtUnlikeRow, standIns := [], harness := (true, "fbfe17ac86c58cf05393da0f472e18fb202487cc9faf3dfafe5003143c9e8e6b"), looks := true }, kinds := [], alts := [], laidByText := true, laidKinds := [.data, .data, .data, .data, .sentinel, .sentinel, .data, .data, .pinned], laidTests := true, laidLooks := .later }
def StmtUnlikeCardSaid : Prop := Claim7.holds Tryz.pinned (.plain (OpenSpec.ofChange stmtUnlikeSpec)) stmtUnlikeCard

/-- THE TIED CARD OF 'leveelaw08.StmtRows'. -/
def stmtRowsCard : Claim7 := { stood := { row := stmtRowsRow, standIns := [], harness := (true, "fbfe17ac86c58cf05393da0f472e18fb202487cc9faf3dfafe5003143c9e8e6b"), looks := true }, kinds := [], alts := [], laidByText := true, laidKinds := [.data, .data, .data, .data, .sentinel, .sentinel, .data, .data, .pinned], laidTests := true, laidLooks := .later }
def StmtRowsCardSaid : Prop := Claim7.holds Tryz.pinned (.plain (OpenSpec.ofChange stmtRowsSpec)) stmtRowsCard

/-- THE SECOND FORM's CARD OF 'leveelaw07.DdlPrints'. -/
def ddlPrintsUptoCard : Claim7 := { stood := { row := ddlPrintsUptoRow, standIns := [], harness := (true, "fbfe17ac86c58cf05393da0f472e18fb202487cc9faf3dfafe5003143c9e8e6b"), looks := true }, kinds := [], alts := [], laidByText := true, laidKinds := [.data, .data, .data, .data, .sentinel, .sentinel, .data, .pinned], laidTests := true, laidLooks := .later }
def DdlPrintsUptoCardSaid : Prop := Claim7.holds Tryz.pinned (.plain (OpenSpec.upto ddlPrintsSpec)) ddlPrintsUptoCard

/-- THE SECOND FORM's CARD OF 'leveelaw07.DdlBack'. -/
def ddlBackUptoCard : Claim7 := { stood := { row := ddlBackUptoRow, standIns := [], harness := (true, "fbfe17ac86c58cf05393da0f472e18fb202487cc9faf3dfafe5003143c9e8e6b"), looks := true }, kinds := [], alts := [], laidByText := true, laidKinds := [.data, .data, .data, .data, .sentinel, .sentinel, .data, .pinned], laidTests := true, laidLooks := .later }
def DdlBackUptoCardSaid : Prop := Claim7.holds Tryz.pinned (.plain (OpenSpec.upto ddlBackSpec)) ddlBackUptoCard

/-- THE SECOND FORM's CARD OF 'leveelaw07.DdlBlanks'. -/
def ddlBlanksUptoCard : Claim7 := { stood := { row := ddlBlanksUptoRow, standIns := [], harness := (true, "fbfe17ac86c58cf05393da0f472e18fb202487cc9faf3dfafe5003143c9e8e6b"), looks := true }, kinds := [], alts := [], laidByText := true, laidKinds := [.data, .data, .data, .data, .sentinel, .sentinel, .data, .pinned], laidTests := true, laidLooks := .later }
def DdlBlanksUptoCardSaid : Prop := Claim7.holds Tryz.pinned (.plain (OpenSpec.upto ddlBlanksSpec)) ddlBlanksUptoCard

/-- THE SECOND FORM's CARD OF 'leveelaw07.DdlParts'. -/
def ddlPartsUptoCard : Claim7 := { stood := { row := ddlPartsUptoRow, standIns := [], harness := (true, "fbfe17ac86c58cf05393da0f472e18fb202487cc9faf3dfafe5003143c9e8e6b"), looks := true }, kinds := [], alts := [], laidByText := true, laidKinds := [.data, .data, .data, .data, .sentinel, .sentinel, .data, .pinned], laidTests := true, laidLooks := .later }
def DdlPartsUptoCardSaid : Prop := Claim7.holds Tryz.pinned (.plain (OpenSpec.upto ddlPartsSpec)) ddlPartsUptoCard

/-- THE SECOND FORM's CARD OF 'leveelaw07.DdlUnlike'. -/
def ddlUnlikeUptoCard : Claim7 := { stood := { row := ddlUnlikeUptoRow, standIns := [], harness := (true, "fbfe17ac86c58cf05393da0f472e18fb202487cc9faf3dfafe5003143c9e8e6b"), looks := true }, kinds := [], alts := [], laidByText := true, laidKinds := [.data, .data, .data, .data, .sentinel, .sentinel, .data, .pinned], laidTests := true, laidLooks := .later }
def DdlUnlikeUptoCardSaid : Prop := Claim7.holds Tryz.pinned (.plain (OpenSpec.upto ddlUnlikeSpec)) ddlUnlikeUptoCard

/-- THE SECOND FORM's CARD OF 'leveelaw08.StmtBack'. -/
def stmtBackUptoCard : Claim7 := { stood := { row := stmtBackUptoRow, standIns := [], harness := (true, "fbfe17ac86c58cf05393da0f472e18fb202487cc9faf3dfafe5003143c9e8e6b"), looks := true }, kinds := [], alts := [], laidByText := true, laidKinds := [.data, .data, .data, .data, .sentinel, .sentinel, .data, .data, .pinned], laidTests := true, laidLooks := .later }
def StmtBackUptoCardSaid : Prop := Claim7.holds Tryz.pinned (.plain (OpenSpec.upto stmtBackSpec)) stmtBackUptoCard

/-- THE SECOND FORM's CARD OF 'leveelaw08.StmtKeys'. -/
def stmtKeysUptoCard : Claim7 := { stood := { row := stmtKeysUptoRow, standIns := [], harness := (true, "fbfe17ac86c58cf05393da0f472e18fb202487cc9faf3dfafe5003143c9e8e6b"), looks := true }, kinds := [], alts := [], laidByText := true, laidKinds := [.data, .data, .data, .data, .sentinel, .sentinel, .data, .data, .pinned], laidTests := true, laidLooks := .later }
def StmtKeysUptoCardSaid : Prop := Claim7.holds Tryz.pinned (.plain (OpenSpec.upto stmtKeysSpec)) stmtKeysUptoCard

/-- THE SECOND FORM's CARD OF 'leveelaw08.StmtUnlike'. -/
def stmtUnlikeUptoCard : Claim7 := { stood := { row := stmtUnlikeUptoRow, standIns := [], harness := (true, "fbfe17ac86c58cf05393da0f472e18fb202487cc9faf3dfafe5003143c9e8e6b"), looks := true }, kinds := [], alts := [], laidByText := true, laidKinds := [.data, .data, .data, .data, .sentinel, .sentinel, .data, .data, .pinned], laidTests := true, laidLooks := .later }
def StmtUnlikeUptoCardSaid : Prop := Claim7.holds Tryz.pinned (.plain (OpenSpec.upto stmtUnlikeSpec)) stmtUnlikeUptoCard

/-- THE SECOND FORM's CARD OF 'leveelaw08.StmtRows'. -/
def stmtRowsUptoCard : Claim7 := { stood := { row := stmtRowsUptoRow, standIns := [], harness := (true, "fbfe17ac86c58cf05393da0f472e18fb202487cc9faf3dfafe5003143c9e8e6b"), looks := true }, kinds := [], alts := [], laidByText := true, laidKinds := [.data, .data, .data, .data, .sentinel, .sentinel, .data, .data, .pinned], laidTests := true, laidLooks := .later }
def StmtRowsUptoCardSaid : Prop := Claim7.holds Tryz.pinned (.plain (OpenSpec.upto stmtRowsSpec)) stmtRowsUptoCard
end Rows
end Go.Proofs.YtjgpmnffagdhlaaGreatDoor
