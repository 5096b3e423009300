/-
  DERIVED. GIVEN WITH THE SEED: THE CARDS: each row of YtchebhdndkaheaaGreatDoorRows.lean that lists a variable, with what it lists TIED to the program's text (the seventh form; the later family's looks); each row that meets fmt, with fmt's text TOLD by the authors' own Lean function (tested against real Go, not proved from fmt's source: count such statements apart). THE CARD IS WHAT COUNTS. Prove the row's statement (the work); the ties are given (YtchebhdndkaheaaGreatDoorTie.lean); close each card by the builder's one call (the guide's Derived/Test/ToyasCard.lean, 'card_holds'). Laid BY PROGRAM, IN A SANDBOX (cutbox-door.mjs). By AI agents, Wed Nov 11 2026. No macro, syntax, notation, axiom, sorry.
-/
import Derived.Test.YtchebhdndkaheaaGreatDoorRows
import GoSem.ClaimSeven
namespace Go.Proofs.YtchebhdndkaheaaGreatDoor
namespace Rows

/-- THE TIED CARD OF 'caddislaw06.SchemaChecks'. -/
def schemaChecksCard : Claim7 := { stood := { row := schemaChecksRow, standIns := [], harness := (true, "355d7d639e4d09380e4376bd3f30e02adbf3a317b16d1f9bf94e1cd0d319794f"), looks := true }, kinds := [], alts := [], laidByText := true, laidKinds := [.data, .data, .data, .data, .sentinel, .sentinel, .data, .pinned, .pinned], laidTests := true, laidLooks := .later }
def SchemaChecksCardSaid : Prop := Claim7.holds Tryz.pinned (.plain (OpenSpec.ofChange schemaChecksSpec)) schemaChecksCard

/-- THE TIED CARD OF 'caddislaw06.SchemaNulls'. -/
def schemaNullsCard : Claim7 := { stood := { row := schemaNullsRow, standIns := [], harness := (true, "355d7d639e4d09380e4376bd3f30e02adbf3a317b16d1f9bf94e1cd0d319794f"), looks := true }, kinds := [], alts := [], laidByText := true, laidKinds := [.data, .data, .data, .data, .sentinel, .sentinel, .data, .pinned, .pinned], laidTests := true, laidLooks := .later }
def SchemaNullsCardSaid : Prop := Claim7.holds Tryz.pinned (.plain (OpenSpec.ofChange schemaNullsSpec)) schemaNullsCard

/-- THE SECOND FORM's CARD OF 'caddislaw06.SchemaChecks'. -/
def schemaChecksUptoCard : Claim7 := { stood := { row := schemaChecksUptoRow, standIns := [], harness := (true, "355d7d639e4d09380e4376bd3f30e02adbf3a317b16d1f9bf94e1cd0d319794f"), looks := true }, kinds := [], alts := [], laidByText := true, laidKinds := [.data, .data, .data, .data, .sentinel, .sentinel, .data, .pinned, .pinned], laidTests := true, laidLooks := .later }
def SchemaChecksUptoCardSaid : Prop := Claim7.holds Tryz.pinned (.plain (OpenSpec.upto schemaChecksSpec)) schemaChecksUptoCard

/-- THE SECOND FORM's CARD OF 'caddislaw06.SchemaNulls'. -/
def schemaNullsUptoCard : Claim7 := { stood := { row := schemaNullsUptoRow, standIns := [], harness := (true, "355d7d639e4d09380e4376bd3f30e02adbf3a317b16d1f9bf94e1cd0d319794f"), looks := true }, kinds := [], alts := [], laidByText := true, laidKinds := [.data, .data, .data, .data, .sentinel, .sentinel, .data, .pinned, .pinned], laidTests := true, laidLooks := .later }
def SchemaNullsUptoCardSaid : Prop := Claim7.holds Tryz.pinned (.plain (OpenSpec.upto schemaNullsSpec)) schemaNullsUptoCard
end Rows
end Go.Proofs.YtchebhdndkaheaaGreatDoor
