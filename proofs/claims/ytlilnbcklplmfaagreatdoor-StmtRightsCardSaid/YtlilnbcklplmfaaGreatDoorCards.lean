/-
  DERIVED. GIVEN WITH THE SEED: THE CARDS: each row of YtlilnbcklplmfaaGreatDoorRows.lean that lists a variable, with what it lists TIED to the program's text (the seventh form; the later family's looks); each row that meets fmt, with fmt's text TOLD by the authors' own Lean function (tested against real Go, not proved from fmt's source: count such statements apart). THE CARD IS WHAT COUNTS. Prove the row's statement (the work); the ties are given (YtlilnbcklplmfaaGreatDoorTie.lean); close each card by the builder's one call (the guide's Derived/Test/ToyasCard.lean, 'card_holds'). Laid BY PROGRAM, IN A SANDBOX (cutbox-door.mjs). By AI agents, Wed Nov 11 2026. No macro, syntax, notation, axiom, sorry.
-/
import Derived.Test.YtlilnbcklplmfaaGreatDoorRows
import GoSem.ClaimSeven
namespace Go.Proofs.YtlilnbcklplmfaaGreatDoor
namespace Rows

/-- THE TIED CARD OF 'caddislaw05.StmtRights'. -/
def stmtRightsCard : Claim7 := { stood := { row := stmtRightsRow, standIns := [], harness := (true, "03bda5800ed5f1ca15101e59dd47fdf077dcf5ed22671da8d08df359afabf19e"), looks := true }, kinds := [], alts := [], laidByText := true, laidKinds := [.data, .data, .data, .data, .sentinel, .sentinel, .data, .pinned, .pinned], laidTests := true, laidLooks := .later }
def StmtRightsCardSaid : Prop := Claim7.holds Tryz.pinned (.plain (OpenSpec.ofChange stmtRightsSpec)) stmtRightsCard

/-- THE TIED CARD OF 'caddislaw06.SchemaChecks'. -/
def schemaChecksCard : Claim7 := { stood := { row := schemaChecksRow, standIns := [], harness := (true, "03bda5800ed5f1ca15101e59dd47fdf077dcf5ed22671da8d08df359afabf19e"), looks := true }, kinds := [], alts := [], laidByText := true, laidKinds := [.data, .data, .data, .data, .sentinel, .sentinel, .data, .pinned, .pinned], laidTests := true, laidLooks := .later }
def SchemaChecksCardSaid : Prop := Claim7.holds Tryz.pinned (.plain (OpenSpec.ofChange schemaChecksSpec)) schemaChecksCard

/-- THE TIED CARD OF 'caddislaw06.SchemaNulls'. -/
def schemaNullsCard : Claim7 := { stood := { row := schemaNullsRow, standIns := [], harness := (true, "03bda5800ed5f1ca15101e59dd47fdf077dcf5ed22671da8d08df359afabf19e"), looks := true }, kinds := [], alts := [], laidByText := true, laidKinds := [.data, .data, .data, .data, .sentinel, .sentinel, .data, .pinned, .pinned], laidTests := true, laidLooks := .later }
def SchemaNullsCardSaid : Prop := Claim7.holds Tryz.pinned (.plain (OpenSpec.ofChange schemaNullsSpec)) schemaNullsCard

/-- THE SECOND FORM's CARD OF 'caddislaw05.StmtRights'. -/
def stmtRightsUptoCard : Claim7 := { stood := { row := stmtRightsUptoRow, standIns := [], harness := (true, "03bda5800ed5f1ca15101e59dd47fdf077dcf5ed22671da8d08df359afabf19e"), looks := true }, kinds := [], alts := [], laidByText := true, laidKinds := [.data, .data, .data, .data, .sentinel, .sentinel, .data, .pinned, .pinned], laidTests := true, laidLooks := .later }
def StmtRightsUptoCardSaid : Prop := Claim7.holds Tryz.pinned (.plain (OpenSpec.upto stmtRightsSpec)) stmtRightsUptoCard

/-- THE SECOND FORM's CARD OF 'caddislaw06.SchemaChecks'. -/
def schemaChecksUptoCard : Claim7 := { stood := { row := schemaChecksUptoRow, standIns := [], harness := (true, "03bda5800ed5f1ca15101e59dd47fdf077dcf5ed22671da8d08df359afabf19e"), looks := true }, kinds := [], alts := [], laidByText := true, laidKinds := [.data, .data, .data, .data, .sentinel, .sentinel, .data, .pinned, .pinned], laidTests := true, laidLooks := .later }
def SchemaChecksUptoCardSaid : Prop := Claim7.holds Tryz.pinned (.plain (OpenSpec.upto schemaChecksSpec)) schemaChecksUptoCard

/-- THE SECOND FORM's CARD OF 'caddislaw06.SchemaNulls'. -/
def schemaNullsUptoCard : Claim7 := { stood := { row := schemaNullsUptoRow, standIns := [], harness := (true, "03bda5800ed5f1ca15101e59dd47fdf077dcf5ed22671da8d08df359afabf19e"), looks := true }, kinds := [], alts := [], laidByText := true, laidKinds := [.data, .data, .data, .data, .sentinel, .sentinel, .data, .pinned, .pinned], laidTests := true, laidLooks := .later }
def SchemaNullsUptoCardSaid : Prop := Claim7.holds Tryz.pinned (.plain (OpenSpec.upto schemaNullsSpec)) schemaNullsUptoCard
end Rows
end Go.Proofs.YtlilnbcklplmfaaGreatDoor
