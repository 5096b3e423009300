/-
  NARROWER THAN 'FOR EVERY INPUT', by the rows' own cells (each row's printed sentence says how): RelSorts: loops · RelParts: loops · RelRises: loops · RelBoth: loops · RelTruths: loops · RelOrder: loops.
  DERIVED. THE GIVEN ROWS OF THIS SEAT. 6 by the template 'for every input the law returns true; each argument reads behind the call as it read before'; 0 by the template 'total and deterministic' (their statements: YtmhkmliebhbkdaaGreatTotals.lean).
  GIVEN WITH THE SEED: the statements are not yours to turn. If you find one false, say at which input.
  Laid BY PROGRAM, IN A SANDBOX (cutbox-rows.mjs): the forced cells as the released guide's own fill.sh prints them over the translation ec3b8262fbc9363c… (all of the seat's roots in one cut). By AI agents, Wed Nov 11 2026. No macro, syntax, notation, axiom, sorry.
-/
import Derived.Test.YtmhkmliebhbkdaaGreatChecked
import GoSem.Claim
import GoSem.ClaimJoined
import GoSem.ClaimMapViews
import Derived.JoinedTies
import Derived.KernelRfl
namespace Go.Proofs.YtmhkmliebhbkdaaGreat
/- THE CELL 'sum', in the pinned program and in every row, IS THE sha256 OF THE DUMP (.gsa) THAT YtmhkmliebhbkdaaGreatProg.lean LOADS. Nothing in Lean hashes anything: it is a label: what it is worth is what the hold of that sum in a sandbox is worth. -/
noncomputable def Tryz.pinned : Pinned := { name := "ytmhkmliebhbkdaagreat", sum := "ec3b8262fbc9363cce1e7cf9eca0d9a4867a987ff635adfa79b57e8ff1c78fce", checked := Tryz.checked }
namespace Rows
def none {H : Type} : Left H := { results := [], args := [] }

/-- 'caddislaw07.RelSorts': WHATEVER THE INPUT: true; the input reads as it did. -/
def relSortsSpec : ChangeSpec := { name := "relSorts", fn := fun _ => fun
  | [d1, d2] => { results := [.lit (.bool true)], args := [d1, d2] }
  | _ => none }
def relSortsRow : OpenClaim := { program := "ytmhkmliebhbkdaagreat", sum := "ec3b8262fbc9363cce1e7cf9eca0d9a4867a987ff635adfa79b57e8ff1c78fce", func := "caddis/caddislaw07.RelSorts", spec := "relSorts", inPlace := ["internal/bytealg.abigen_runtime_cmpstring"], unfollowed := true, recurses := true, loops := true, plainKeys := false, apart := false }
def RelSortsSaid : Prop := relSortsRow.holds Tryz.pinned (OpenSpec.ofChange relSortsSpec)

/-- ITS FALSE NEIGHBOUR: 'it returns false'. Refute it at one input. -/
def relSortsWrong : ChangeSpec := { name := "relSorts", fn := fun _ => fun
  | [d1, d2] => { results := [.lit (.bool false)], args := [d1, d2] }
  | _ => none }
def RelSortsWrongFalsely : Prop := relSortsRow.holds Tryz.pinned (OpenSpec.ofChange relSortsWrong)

/-- 'caddislaw07.RelParts': WHATEVER THE INPUT: true; the input reads as it did. -/
def relPartsSpec : ChangeSpec := { name := "relParts", fn := fun _ => fun
  | [d1, d2] => { results := [.lit (.bool true)], args := [d1, d2] }
  | _ => none }
def relPartsRow : OpenClaim := { program := "ytmhkmliebhbkdaagreat", sum := "ec3b8262fbc9363cce1e7cf9eca0d9a4867a987ff635adfa79b57e8ff1c78fce", func := "caddis/caddislaw07.RelParts", spec := "relParts", inPlace := ["internal/bytealg.abigen_runtime_cmpstring"], unfollowed := true, recurses := true, loops := true, plainKeys := false, apart := false }
def RelPartsSaid : Prop := relPartsRow.holds Tryz.pinned (OpenSpec.ofChange relPartsSpec)

/-- ITS FALSE NEIGHBOUR: 'it returns false'. Refute it at one input. -/
def relPartsWrong : ChangeSpec := { name := "relParts", fn := fun _ => fun
  | [d1, d2] => { results := [.lit (.bool false)], args := [d1, d2] }
  | _ => none }
def RelPartsWrongFalsely : Prop := relPartsRow.holds Tryz.pinned (OpenSpec.ofChange relPartsWrong)

/-- 'caddislaw07.RelRises': WHATEVER THE INPUT: true; the input reads as it did. -/
def relRisesSpec : ChangeSpec := { name := "relRises", fn := fun _ => fun
  | [d] => { results := [.lit (.bool true)], args := [d] }
  | _ => none }
def relRisesRow : OpenClaim := { program := "ytmhkmliebhbkdaagreat", sum := "ec3b8262fbc9363cce1e7cf9eca0d9a4867a987ff635adfa79b57e8ff1c78fce", func := "caddis/caddislaw07.RelRises", spec := "relRises", inPlace := ["internal/bytealg.abigen_runtime_cmpstring"], unfollowed := true, recurses := true, loops := true, plainKeys := false, apart := false }
def RelRisesSaid : Prop := relRisesRow.holds Tryz.pinned (OpenSpec.ofChange relRisesSpec)

/-- ITS FALSE NEIGHBOUR: 'it returns false'. Refute it at one input. -/
def relRisesWrong : ChangeSpec := { name := "relRises", fn := fun _ => fun
  | [d] => { results := [.lit (.bool false)], args := [d] }
  | _ => none }
def RelRisesWrongFalsely : Prop := relRisesRow.holds Tryz.pinned (OpenSpec.ofChange relRisesWrong)

/-- 'caddislaw07.RelBoth': WHATEVER THE INPUT: true; the input reads as it did. -/
def relBothSpec : ChangeSpec := { name := "relBoth", fn := fun _ => fun
  | [d1, d2, d3] => { results := [.lit (.bool true)], args := [d1, d2, d3] }
  | _ => none }
def relBothRow : OpenClaim := { program := "ytmhkmliebhbkdaagreat", sum := "ec3b8262fbc9363cce1e7cf9eca0d9a4867a987ff635adfa79b57e8ff1c78fce", func := "caddis/caddislaw07.RelBoth", spec := "relBoth", inPlace := ["internal/bytealg.abigen_runtime_cmpstring"], unfollowed := true, recurses := true, loops := true, plainKeys := false, apart := false }
def RelBothSaid : Prop := relBothRow.holds Tryz.pinned (OpenSpec.ofChange relBothSpec)

/-- ITS FALSE NEIGHBOUR: 'it returns false'. Refute it at one input. -/
def relBothWrong : ChangeSpec := { name := "relBoth", fn := fun _ => fun
  | [d1, d2, d3] => { results := [.lit (.bool false)], args := [d1, d2, d3] }
  | _ => none }
def RelBothWrongFalsely : Prop := relBothRow.holds Tryz.pinned (OpenSpec.ofChange relBothWrong)

/-- 'caddislaw07.RelTruths': WHATEVER THE INPUT: true; the input reads as it did. -/
def relTruthsSpec : ChangeSpec := { name := "relTruths", fn := fun _ => fun
  | [d] => { results := [.lit (.bool true)], args := [d] }
  | _ => none }
def relTruthsRow : OpenClaim := { program := "ytmhkmliebhbkdaagreat", sum := "ec3b8262fbc9363cce1e7cf9eca0d9a4867a987ff635adfa79b57e8ff1c78fce", func := "caddis/caddislaw07.RelTruths", spec := "relTruths", inPlace := ["internal/bytealg.abigen_runtime_cmpstring"], unfollowed := true, recurses := true, loops := true, plainKeys := false, apart := false }
def RelTruthsSaid : Prop := relTruthsRow.holds Tryz.pinned (OpenSpec.ofChange relTruthsSpec)

/-- ITS FALSE NEIGHBOUR: 'it returns false'. Refute it at one input. -/
def relTruthsWrong : ChangeSpec := { name := "relTruths", fn := fun _ => fun
  | [d] => { results := [.lit (.bool false)], args := [d] }
  | _ => none }
def RelTruthsWrongFalsely : Prop := relTruthsRow.holds Tryz.pinned (OpenSpec.ofChange relTruthsWrong)

/-- 'caddislaw07.RelOrder': WHATEVER THE INPUT: true; the input reads as it did. -/
def relOrderSpec : ChangeSpec := { name := "relOrder", fn := fun _ => fun
  | [d1, d2] => { results := [.lit (.bool true)], args := [d1, d2] }
  | _ => none }
def relOrderRow : OpenClaim := { program := "ytmhkmliebhbkdaagreat", sum := "ec3b8262fbc9363cce1e7cf9eca0d9a4867a987ff635adfa79b57e8ff1c78fce", func := "caddis/caddislaw07.RelOrder", spec := "relOrder", inPlace := ["internal/bytealg.abigen_runtime_cmpstring"], unfollowed := true, recurses := true, loops := true, plainKeys := false, apart := false }
def RelOrderSaid : Prop := relOrderRow.holds Tryz.pinned (OpenSpec.ofChange relOrderSpec)

/-- ITS FALSE NEIGHBOUR: 'it returns false'. Refute it at one input. -/
def relOrderWrong : ChangeSpec := { name := "relOrder", fn := fun _ => fun
  | [d1, d2] => { results := [.lit (.bool false)], args := [d1, d2] }
  | _ => none }
def RelOrderWrongFalsely : Prop := relOrderRow.holds Tryz.pinned (OpenSpec.ofChange relOrderWrong)

/- THE SECOND FORM. 'bulk': how many values and letters a reading holds, each counted each time it is reached (what is shared counts as often as it is met; a slice's spare places count too). A statement '..UptoSaid' is the law's where the arguments, and the package variables that the reading takes, are together of bulk at most 1048576: NARROWER than '..Said'. Prove '..Said' where nothing that the law and all that it calls make is longer than what came in: it says more and counts as full. Else prove '..UptoSaid'. A law counts once. -/
mutual
def uptoBulk {H : Type} : DataW H → Nat
  | .lit (.string bytes) => bytes.length + 1
  | .lit _ => 1
  | .nil => 1
  | .ptr d => uptoBulk d + 1
  | .slice elems spare => uptoBulkAll elems + uptoBulkAll spare + 1
  | .agg parts => uptoBulkAll parts + 1
  | .iface _ d => uptoBulk d + 1
  | .map entries => uptoBulkEntries entries + 1
  | .held _ => 1
def uptoBulkAll {H : Type} : List (DataW H) → Nat
  | [] => 0
  | d :: r => uptoBulk d + uptoBulkAll r
def uptoBulkEntries {H : Type} : List (Lit × DataW H) → Nat
  | [] => 0
  | x :: r => uptoBulkEntry x + uptoBulkEntries r
def uptoBulkEntry {H : Type} : Lit × DataW H → Nat
  | (.string bytes, d) => bytes.length + uptoBulk d + 1
  | (_, d) => uptoBulk d + 1
 end
def uptoSmall : (H : Type) → List (DataW H) → Bool := fun _ ds => decide (uptoBulkAll ds ≤ 1048576)
def OpenSpec.upto (s : _root_.Go.ChangeSpec) : _root_.Go.OpenSpec := { _root_.Go.OpenSpec.ofChange s with cond := some uptoSmall }

/-- 'caddislaw07.RelSorts', WHERE WHAT IT READS IS OF BULK AT MOST 1048576: true; the input reads as it did. -/
def relSortsUptoRow : OpenClaim := { program := "ytmhkmliebhbkdaagreat", sum := "ec3b8262fbc9363cce1e7cf9eca0d9a4867a987ff635adfa79b57e8ff1c78fce", func := "caddis/caddislaw07.RelSorts", spec := "relSorts", inPlace := ["internal/bytealg.abigen_runtime_cmpstring"], unfollowed := true, recurses := true, loops := true, plainKeys := false, apart := false, narrowed := true }
def RelSortsUptoSaid : Prop := relSortsUptoRow.holds Tryz.pinned (OpenSpec.upto relSortsSpec)

/-- 'caddislaw07.RelParts', WHERE WHAT IT READS IS OF BULK AT MOST 1048576: true; the input reads as it did. -/
def relPartsUptoRow : OpenClaim := { program := "ytmhkmliebhbkdaagreat", sum := "ec3b8262fbc9363cce1e7cf9eca0d9a4867a987ff635adfa79b57e8ff1c78fce", func := "caddis/caddislaw07.RelParts", spec := "relParts", inPlace := ["internal/bytealg.abigen_runtime_cmpstring"], unfollowed := true, recurses := true, loops := true, plainKeys := false, apart := false, narrowed := true }
def RelPartsUptoSaid : Prop := relPartsUptoRow.holds Tryz.pinned (OpenSpec.upto relPartsSpec)

/-- 'caddislaw07.RelRises', WHERE WHAT IT READS IS OF BULK AT MOST 1048576: true; the input reads as it did. -/
def relRisesUptoRow : OpenClaim := { program := "ytmhkmliebhbkdaagreat", sum := "ec3b8262fbc9363cce1e7cf9eca0d9a4867a987ff635adfa79b57e8ff1c78fce", func := "caddis/caddislaw07.RelRises", spec := "relRises", inPlace := ["internal/bytealg.abigen_runtime_cmpstring"], unfollowed := true, recurses := true, loops := true, plainKeys := false, apart := false, narrowed := true }
def RelRisesUptoSaid : Prop := relRisesUptoRow.holds Tryz.pinned (OpenSpec.upto relRisesSpec)

/-- 'caddislaw07.RelBoth', WHERE WHAT IT READS IS OF BULK AT MOST 1048576: true; the input reads as it did. -/
def relBothUptoRow : OpenClaim := { program := "ytmhkmliebhbkdaagreat", sum := "ec3b8262fbc9363cce1e7cf9eca0d9a4867a987ff635adfa79b57e8ff1c78fce", func := "caddis/caddislaw07.RelBoth", spec := "relBoth", inPlace := ["internal/bytealg.abigen_runtime_cmpstring"], unfollowed := true, recurses := true, loops := true, plainKeys := false, apart := false, narrowed := true }
def RelBothUptoSaid : Prop := relBothUptoRow.holds Tryz.pinned (OpenSpec.upto relBothSpec)

/-- 'caddislaw07.RelTruths', WHERE WHAT IT READS IS OF BULK AT MOST 1048576: true; the input reads as it did. -/
def relTruthsUptoRow : OpenClaim := { program := "ytmhkmliebhbkdaagreat", sum := "ec3b8262fbc9363cce1e7cf9eca0d9a4867a987ff635adfa79b57e8ff1c78fce", func := "caddis/caddislaw07.RelTruths", spec := "relTruths", inPlace := ["internal/bytealg.abigen_runtime_cmpstring"], unfollowed := true, recurses := true, loops := true, plainKeys := false, apart := false, narrowed := true }
def RelTruthsUptoSaid : Prop := relTruthsUptoRow.holds Tryz.pinned (OpenSpec.upto relTruthsSpec)

/-- 'caddislaw07.RelOrder', WHERE WHAT IT READS IS OF BULK AT MOST 1048576: true; the input reads as it did. -/
def relOrderUptoRow : OpenClaim := { program := "ytmhkmliebhbkdaagreat", sum := "ec3b8262fbc9363cce1e7cf9eca0d9a4867a987ff635adfa79b57e8ff1c78fce", func := "caddis/caddislaw07.RelOrder", spec := "relOrder", inPlace := ["internal/bytealg.abigen_runtime_cmpstring"], unfollowed := true, recurses := true, loops := true, plainKeys := false, apart := false, narrowed := true }
def RelOrderUptoSaid : Prop := relOrderUptoRow.holds Tryz.pinned (OpenSpec.upto relOrderSpec)

end Rows
end Go.Proofs.YtmhkmliebhbkdaaGreat
