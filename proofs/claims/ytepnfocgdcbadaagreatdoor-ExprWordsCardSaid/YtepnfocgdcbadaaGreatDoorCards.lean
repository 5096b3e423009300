/-
  DERIVED. GIVEN WITH THE SEED: THE CARDS: each row of YtepnfocgdcbadaaGreatDoorRows.lean that lists a variable, with what it lists TIED to the program's text (the seventh form; the later family's looks); each row that meets fmt, with fmt's text TOLD by the authors' own Lean function (tested against real Go, not proved from fmt's source: count such statements apart). THE CARD IS WHAT COUNTS. Prove the row's statement (the work); the ties are given (YtepnfocgdcbadaaGreatDoorTie.lean); close each card by the builder's one call (the guide's Derived/Test/ToyasCard.lean, 'card_holds'). Laid BY PROGRAM, IN A SANDBOX (cutbox-door.mjs). By AI agents, Wed Nov 11 2026. No macro, syntax, notation, axiom, sorry.
-/
import Derived.Test.YtepnfocgdcbadaaGreatDoorRows
import GoSem.ClaimSeven
namespace Go.Proofs.YtepnfocgdcbadaaGreatDoor
namespace Rows

/-- THE TIED CARD OF 'caddislaw04.ExprParts'. -/
def exprPartsCard : Claim7 := { stood := { row := exprPartsRow, standIns := [], harness := (true, "e66b9d393e25045fd6d0dbca972bd215b68368069b0635d2300cd85e6dd91294"), looks := true }, kinds := [], alts := [], laidByText := true, laidKinds := [.data, .data, .data, .data, .sentinel, .sentinel, .pinned, .pinned], laidTests := true, laidLooks := .later }
def ExprPartsCardSaid : Prop := Claim7.holds Tryz.pinned (.plain (OpenSpec.ofChange exprPartsSpec)) exprPartsCard

/-- THE TIED CARD OF 'caddislaw04.ExprTruths'. -/
def exprTruthsCard : Claim7 := { stood := { row := exprTruthsRow, standIns := [], harness := (true, "e66b9d393e25045fd6d0dbca972bd215b68368069b0635d2300cd85e6dd91294"), looks := true }, kinds := [], alts := [], laidByText := true, laidKinds := [.data, .data, .data, .data, .sentinel, .sentinel, .pinned, .pinned], laidTests := true, laidLooks := .later }
def ExprTruthsCardSaid : Prop := Claim7.holds Tryz.pinned (.plain (OpenSpec.ofChange exprTruthsSpec)) exprTruthsCard

/-- THE TIED CARD OF 'caddislaw04.ExprWords'. -/
def exprWordsCard : Claim7 := { stood := { row := exprWordsRow, standIns := [], harness := (true, "e66b9d393e25045fd6d0dbca972bd215b68368069b0635d2300cd85e6dd91294"), looks := true }, kinds := [], alts := [], laidByText := true, laidKinds := [.data, .data, .data, .data, .sentinel, .sentinel, .pinned, .pinned], laidTests := true, laidLooks := .later }
def ExprWordsCardSaid : Prop := Claim7.holds Tryz.pinned (.plain (OpenSpec.ofChange exprWordsSpec)) exprWordsCard

/-- THE SECOND FORM's CARD OF 'caddislaw04.ExprParts'. -/
def exprPartsUptoCard : Claim7 := { stood := { row := exprPartsUptoRow, standIns := [], harness := (true, "e66b9d393e25045fd6d0dbca972bd215b68368069b0635d2300cd85e6dd91294"), looks := true }, kinds := [], alts := [], laidByText := true, laidKinds := [.data, .data, .data, .data, .sentinel, .sentinel, .pinned, .pinned], laidTests := true, laidLooks := .later }
def ExprPartsUptoCardSaid : Prop := Claim7.holds Tryz.pinned (.plain (OpenSpec.upto exprPartsSpec)) exprPartsUptoCard

/-- THE SECOND FORM's CARD OF 'caddislaw04.ExprTruths'. -/
def exprTruthsUptoCard : Claim7 := { stood := { row := exprTruthsUptoRow, standIns := [], harness := (true, "e66b9d393e25045fd6d0dbca972bd215b68368069b0635d2300cd85e6dd91294"), looks := true }, kinds := [], alts := [], laidByText := true, laidKinds := [.data, .data, .data, .data, .sentinel, .sentinel, .pinned, .pinned], laidTests := true, laidLooks := .later }
def ExprTruthsUptoCardSaid : Prop := Claim7.holds Tryz.pinned (.plain (OpenSpec.upto exprTruthsSpec)) exprTruthsUptoCard

/-- THE SECOND FORM's CARD OF 'caddislaw04.ExprWords'. -/
def exprWordsUptoCard : Claim7 := { stood := { row := exprWordsUptoRow, standIns := [], harness := (true, "e66b9d393e25045fd6d0dbca972bd215b68368069b0635d2300cd85e6dd91294"), looks := true }, kinds := [], alts := [], laidByText := true, laidKinds := [.data, .data, .data, .data, .sentinel, .sentinel, .pinned, .pinned], laidTests := true, laidLooks := .later }
def ExprWordsUptoCardSaid : Prop := Claim7.holds Tryz.pinned (.plain (OpenSpec.upto exprWordsSpec)) exprWordsUptoCard
end Rows
end Go.Proofs.YtepnfocgdcbadaaGreatDoor
