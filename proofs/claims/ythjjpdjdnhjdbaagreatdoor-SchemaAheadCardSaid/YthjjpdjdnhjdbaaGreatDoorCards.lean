/-
  DERIVED. GIVEN WITH THE SEED: THE CARDS: each row of YthjjpdjdnhjdbaaGreatDoorRows.lean that lists a variable, with what it lists TIED to the program's text (the seventh form; the later family's looks); each row that meets fmt, with fmt's text TOLD by the authors' own Lean function (tested against real Go, not proved from fmt's source: count such statements apart). THE CARD IS WHAT COUNTS. Prove the row's statement (the work); the ties are given (YthjjpdjdnhjdbaaGreatDoorTie.lean); close each card by the builder's one call (the guide's Derived/Test/ToyasCard.lean, 'card_holds'). Laid BY PROGRAM, IN A SANDBOX (cutbox-door.mjs). By AI agents, Wed Nov 11 2026. No macro, syntax, notation, axiom, sorry.
-/
import Derived.Test.YthjjpdjdnhjdbaaGreatDoorRows
import GoSem.ClaimSeven
namespace Go.Proofs.YthjjpdjdnhjdbaaGreatDoor
namespace Rows

/-- THE TIED CARD OF 'leveelaw09.SchemaAhead'. -/
def schemaAheadCard : Claim7 := { stood := { row := schemaAheadRow, standIns := [], harness := (true, "947f8c73131d855e1580295af19bd06b44b09bbccd33675904783211f5961e37"), looks := true }, kinds := [], alts := [], laidByText := true, laidKinds := [.data, .data, .data, .data, .sentinel, .sentinel, .data, .pinned], laidTests := true, laidLooks := .later }
def SchemaAheadCardSaid : Prop := Claim7.holds Tryz.pinned (.plain (OpenSpec.ofChange schemaAheadSpec)) schemaAheadCard

/-- THE TIED CARD OF 'leveelaw09.SchemaKeeps'. -/
def schemaKeepsCard : Claim7 := { stood := { row := schemaKeepsRow, standIns := [], harness := (true, "947f8c73131d855e1580295af19bd06b44b09bbccd33675904783211f5961e37"), looks := true }, kinds := [], alts := [], laidByText := true, laidKinds := [.data, .data, .data, .data, .sentinel, .sentinel, .data, .pinned], laidTests := true, laidLooks := .later }
def SchemaKeepsCardSaid : Prop := Claim7.holds Tryz.pinned (.plain (OpenSpec.ofChange schemaKeepsSpec)) schemaKeepsCard

/-- THE TIED CARD OF 'leveelaw09.SchemaTwice'. -/
def schemaTwiceCard : Claim7 := { stood := { row := schemaTwiceRow, standIns := [], harness := (true, "947f8c73131d855e1580295af19bd06b44b09bbccd33675904783211f5961e37"), looks := true }, kinds := [], alts := [], laidByText := true, laidKinds := [.data, .data, .data, .data, .sentinel, .sentinel, .data, .pinned], laidTests := true, laidLooks := .later }
def SchemaTwiceCardSaid : Prop := Claim7.holds Tryz.pinned (.plain (OpenSpec.ofChange schemaTwiceSpec)) schemaTwiceCard

/-- THE TIED CARD OF 'leveelaw09.SchemaViews'. -/
def schemaViewsCard : Claim7 := { stood := { row := schemaViewsRow, standIns := [], harness := (true, "947f8c73131d855e1580295af19bd06b44b09bbccd33675904783211f5961e37"), looks := true }, kinds := [], alts := [], laidByText := true, laidKinds := [.data, .data, .data, .data, .sentinel, .sentinel, .data, .pinned], laidTests := true, laidLooks := .later }
def SchemaViewsCardSaid : Prop := Claim7.holds Tryz.pinned (.plain (OpenSpec.ofChange schemaViewsSpec)) schemaViewsCard

/-- THE SECOND FORM's CARD OF 'leveelaw09.SchemaAhead'. -/
def schemaAheadUptoCard : Claim7 := { stood := { row := schemaAheadUptoRow, standIns := [], harness := (true, "947f8c73131d855e1580295af19bd06b44b09bbccd33675904783211f5961e37"), looks := true }, kinds := [], alts := [], laidByText := true, laidKinds := [.data, .data, .data, .data, .sentinel, .sentinel, .data, .pinned], laidTests := true, laidLooks := .later }
def SchemaAheadUptoCardSaid : Prop := Claim7.holds Tryz.pinned (.plain (OpenSpec.upto schemaAheadSpec)) schemaAheadUptoCard

/-- THE SECOND FORM's CARD OF 'leveelaw09.SchemaKeeps'. -/
def schemaKeepsUptoCard : Claim7 := { stood := { row := schemaKeepsUptoRow, standIns := [], harness := (true, "947f8c73131d855e1580295af19bd06b44b09bbccd33675904783211f5961e37"), looks := true }, kinds := [], alts := [], laidByText := true, laidKinds := [.data, .data, .data, .data, .sentinel, .sentinel, .data, .pinned], laidTests := true, laidLooks := .later }
def SchemaKeepsUptoCardSaid : Prop := Claim7.holds Tryz.pinned (.plain (OpenSpec.upto schemaKeepsSpec)) schemaKeepsUptoCard

/-- THE SECOND FORM's CARD OF 'leveelaw09.SchemaTwice'. -/
def schemaTwiceUptoCard : Claim7 := { stood := { row := schemaTwiceUptoRow, standIns := [], harness := (true, "947f8c73131d855e1580295af19bd06b44b09bbccd33675904783211f5961e37"), looks := true }, kinds := [], alts := [], laidByText := true, laidKinds := [.data, .data, .data, .data, .sentinel, .sentinel, .data, .pinned], laidTests := true, laidLooks := .later }
def SchemaTwiceUptoCardSaid : Prop := Claim7.holds Tryz.pinned (.plain (OpenSpec.upto schemaTwiceSpec)) schemaTwiceUptoCard

/-- THE SECOND FORM's CARD OF 'leveelaw09.SchemaViews'. -/
def schemaViewsUptoCard : Claim7 := { stood := { row := schemaViewsUptoRow, standIns := [], harness := (true, "947f8c73131d855e1580295af19bd06b44b09bbccd33675904783211f5961e37"), looks := true }, kinds := [], alts := [], laidByText := true, laidKinds := [.data, .data, .data, .data, .sentinel, .sentinel, .data, .pinned], laidTests := true, laidLooks := .later }
def SchemaViewsUptoCardSaid : Prop := Claim7.holds Tryz.pinned (.plain (OpenSpec.upto schemaViewsSpec)) schemaViewsUptoCard
end Rows
end Go.Proofs.YthjjpdjdnhjdbaaGreatDoor
