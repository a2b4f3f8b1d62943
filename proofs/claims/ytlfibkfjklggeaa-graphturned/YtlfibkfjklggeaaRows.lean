/-
  No cell of these rows narrows 'for every input' (looked for: loops, veiled, ifaces, maps, wideKeys, modest, calm, conditions, laid).
  DERIVED. THE GIVEN ROWS OF THIS SEAT. 5 by the template 'for every input the law returns true; each argument reads behind the call as it read before'; 0 by the template 'total and deterministic' (their statements: YtlfibkfjklggeaaTotals.lean).
  GIVEN WITH THE SEED: the statements are not yours to turn. If you find one false, say at which input.
  Laid BY PROGRAM, IN A SANDBOX (cutbox-rows.mjs): the forced cells as the released guide's own fill.sh prints them over the translation 2041419825ddc722… (all of the seat's roots in one cut). By AI agents, Wed Nov 11 2026. No macro, syntax, notation, axiom, sorry.
-/
import Derived.Test.YtlfibkfjklggeaaChecked
import GoSem.Claim
import GoSem.ClaimJoined
import GoSem.ClaimMapViews
import Derived.JoinedTies
import Derived.KernelRfl
namespace Go.Proofs.Ytlfibkfjklggeaa
/- THE CELL 'sum', in the pinned program and in every row, IS THE sha256 OF THE DUMP (.gsa) THAT YtlfibkfjklggeaaProg.lean LOADS. Nothing in Lean hashes anything: it is a label: what it is worth is what the hold of that sum in a sandbox is worth. -/
noncomputable def Try.pinned : Pinned := { name := "ytlfibkfjklggeaa", sum := "2041419825ddc722b7f9a6cc97c74dffc0b9b2b08f79de7a8c233652047ff8e9", checked := Try.checked }
namespace Rows
def none {H : Type} : Left H := { results := [], args := [] }

/-- 'dioramalaw09.GraphChecks': WHATEVER THE INPUT: true; the input reads as it did. -/
def graphChecksSpec : ChangeSpec := { name := "graphChecks", fn := fun _ => fun
  | [d] => { results := [.lit (.bool true)], args := [d] }
  | _ => none }
def graphChecksRow : OpenClaim := { program := "ytlfibkfjklggeaa", sum := "2041419825ddc722b7f9a6cc97c74dffc0b9b2b08f79de7a8c233652047ff8e9", func := "diorama/dioramalaw09.GraphChecks", spec := "graphChecks", recurses := true, apart := false }
def GraphChecksSaid : Prop := graphChecksRow.holds Try.pinned (OpenSpec.ofChange graphChecksSpec)

/-- ITS FALSE NEIGHBOUR: 'it returns false'. Refute it at one input. -/
def graphChecksWrong : ChangeSpec := { name := "graphChecks", fn := fun _ => fun
  | [d] => { results := [.lit (.bool false)], args := [d] }
  | _ => none }
def GraphChecksWrongFalsely : Prop := graphChecksRow.holds Try.pinned (OpenSpec.ofChange graphChecksWrong)

/-- 'dioramalaw09.GraphBelow': WHATEVER THE INPUT: true; the input reads as it did. -/
def graphBelowSpec : ChangeSpec := { name := "graphBelow", fn := fun _ => fun
  | [d1, d2] => { results := [.lit (.bool true)], args := [d1, d2] }
  | _ => none }
def graphBelowRow : OpenClaim := { program := "ytlfibkfjklggeaa", sum := "2041419825ddc722b7f9a6cc97c74dffc0b9b2b08f79de7a8c233652047ff8e9", func := "diorama/dioramalaw09.GraphBelow", spec := "graphBelow", recurses := true, apart := false }
def GraphBelowSaid : Prop := graphBelowRow.holds Try.pinned (OpenSpec.ofChange graphBelowSpec)

/-- ITS FALSE NEIGHBOUR: 'it returns false'. Refute it at one input. -/
def graphBelowWrong : ChangeSpec := { name := "graphBelow", fn := fun _ => fun
  | [d1, d2] => { results := [.lit (.bool false)], args := [d1, d2] }
  | _ => none }
def GraphBelowWrongFalsely : Prop := graphBelowRow.holds Try.pinned (OpenSpec.ofChange graphBelowWrong)

/-- 'dioramalaw09.GraphDepth': WHATEVER THE INPUT: true; the input reads as it did. -/
def graphDepthSpec : ChangeSpec := { name := "graphDepth", fn := fun _ => fun
  | [d] => { results := [.lit (.bool true)], args := [d] }
  | _ => none }
def graphDepthRow : OpenClaim := { program := "ytlfibkfjklggeaa", sum := "2041419825ddc722b7f9a6cc97c74dffc0b9b2b08f79de7a8c233652047ff8e9", func := "diorama/dioramalaw09.GraphDepth", spec := "graphDepth", recurses := true, apart := false }
def GraphDepthSaid : Prop := graphDepthRow.holds Try.pinned (OpenSpec.ofChange graphDepthSpec)

/-- ITS FALSE NEIGHBOUR: 'it returns false'. Refute it at one input. -/
def graphDepthWrong : ChangeSpec := { name := "graphDepth", fn := fun _ => fun
  | [d] => { results := [.lit (.bool false)], args := [d] }
  | _ => none }
def GraphDepthWrongFalsely : Prop := graphDepthRow.holds Try.pinned (OpenSpec.ofChange graphDepthWrong)

/-- 'dioramalaw09.GraphLoose': WHATEVER THE INPUT: true; the input reads as it did. -/
def graphLooseSpec : ChangeSpec := { name := "graphLoose", fn := fun _ => fun
  | [d1, d2] => { results := [.lit (.bool true)], args := [d1, d2] }
  | _ => none }
def graphLooseRow : OpenClaim := { program := "ytlfibkfjklggeaa", sum := "2041419825ddc722b7f9a6cc97c74dffc0b9b2b08f79de7a8c233652047ff8e9", func := "diorama/dioramalaw09.GraphLoose", spec := "graphLoose", recurses := true, apart := false }
def GraphLooseSaid : Prop := graphLooseRow.holds Try.pinned (OpenSpec.ofChange graphLooseSpec)

/-- ITS FALSE NEIGHBOUR: 'it returns false'. Refute it at one input. -/
def graphLooseWrong : ChangeSpec := { name := "graphLoose", fn := fun _ => fun
  | [d1, d2] => { results := [.lit (.bool false)], args := [d1, d2] }
  | _ => none }
def GraphLooseWrongFalsely : Prop := graphLooseRow.holds Try.pinned (OpenSpec.ofChange graphLooseWrong)

/-- 'dioramalaw09.GraphTurned': WHATEVER THE INPUT: true; the input reads as it did. -/
def graphTurnedSpec : ChangeSpec := { name := "graphTurned", fn := fun _ => fun
  | [d] => { results := [.lit (.bool true)], args := [d] }
  | _ => none }
def graphTurnedRow : OpenClaim := { program := "ytlfibkfjklggeaa", sum := "2041419825ddc722b7f9a6cc97c74dffc0b9b2b08f79de7a8c233652047ff8e9", func := "diorama/dioramalaw09.GraphTurned", spec := "graphTurned", recurses := true, apart := false }
def GraphTurnedSaid : Prop := graphTurnedRow.holds Try.pinned (OpenSpec.ofChange graphTurnedSpec)

/-- ITS FALSE NEIGHBOUR: 'it returns false'. Refute it at one input. -/
def graphTurnedWrong : ChangeSpec := { name := "graphTurned", fn := fun _ => fun
  | [d] => { results := [.lit (.bool false)], args := [d] }
  | _ => none }
def GraphTurnedWrongFalsely : Prop := graphTurnedRow.holds Try.pinned (OpenSpec.ofChange graphTurnedWrong)

/- THE SECOND FORM. 'bulk': how many values and letters a reading holds, each counted each time it is reached (what is shared counts as often as it is met; a slice's spare places count too). A statement '..UptoSaid' is the law's where the arguments, and the package variables that the reading takes, are together of bulk at most 1048576: NARROWER than '..Said'. Prove '..Said' where nothing that the law and all that it calls make is longer than what came in: it says more and counts as full. Else prove '..UptoSaid'. A law counts once. -/
mutual
def uptoBulk {H : Type} : DataW H → Nat
  | .lit (.string bytes) => bytes.length + 1
  | .lit _ => 1
  | .nil => 1
  | .ptr d => uptoBulk d + 1
  | .slice elems spare => uptoBulkAll elems + uptoBulkAll spare + 1
  | .agg parts => uptoBulkAll parts + 1
  | .iface _ d => uptoBulk d + 1
  | .map entries => uptoBulkEntries entries + 1
  | .held _ => 1
def uptoBulkAll {H : Type} : List (DataW H) → Nat
  | [] => 0
  | d :: r => uptoBulk d + uptoBulkAll r
def uptoBulkEntries {H : Type} : List (Lit × DataW H) → Nat
  | [] => 0
  | x :: r => uptoBulkEntry x + uptoBulkEntries r
def uptoBulkEntry {H : Type} : Lit × DataW H → Nat
  | (.string bytes, d) => bytes.length + uptoBulk d + 1
  | (_, d) => uptoBulk d + 1
 end
def uptoSmall : (H : Type) → List (DataW H) → Bool := fun _ ds => decide (uptoBulkAll ds ≤ 1048576)
def OpenSpec.upto (s : _root_.Go.ChangeSpec) : _root_.Go.OpenSpec := { _root_.Go.OpenSpec.ofChange s with cond := some uptoSmall }

/-- 'dioramalaw09.GraphChecks', WHERE WHAT IT READS IS OF BULK AT MOST 1048576: true; the input reads as it did. -/
def graphChecksUptoRow : OpenClaim := { program := "ytlfibkfjklggeaa", sum := "2041419825ddc722b7f9a6cc97c74dffc0b9b2b08f79de7a8c233652047ff8e9", func := "diorama/dioramalaw09.GraphChecks", spec := "graphChecks", recurses := true, apart := false, narrowed := true }
def GraphChecksUptoSaid : Prop := graphChecksUptoRow.holds Try.pinned (OpenSpec.upto graphChecksSpec)

/-- 'dioramalaw09.GraphBelow', WHERE WHAT IT READS IS OF BULK AT MOST 1048576: true; the input reads as it did. -/
def graphBelowUptoRow : OpenClaim := { program := "ytlfibkfjklggeaa", sum := "2041419825ddc722b7f9a6cc97c74dffc0b9b2b08f79de7a8c233652047ff8e9", func := "diorama/dioramalaw09.GraphBelow", spec := "graphBelow", recurses := true, apart := false, narrowed := true }
def GraphBelowUptoSaid : Prop := graphBelowUptoRow.holds Try.pinned (OpenSpec.upto graphBelowSpec)

/-- 'dioramalaw09.GraphDepth', WHERE WHAT IT READS IS OF BULK AT MOST 1048576: true; the input reads as it did. -/
def graphDepthUptoRow : OpenClaim := { program := "ytlfibkfjklggeaa", sum := "2041419825ddc722b7f9a6cc97c74dffc0b9b2b08f79de7a8c233652047ff8e9", func := "diorama/dioramalaw09.GraphDepth", spec := "graphDepth", recurses := true, apart := false, narrowed := true }
def GraphDepthUptoSaid : Prop := graphDepthUptoRow.holds Try.pinned (OpenSpec.upto graphDepthSpec)

/-- 'dioramalaw09.GraphLoose', WHERE WHAT IT READS IS OF BULK AT MOST 1048576: true; the input reads as it did. -/
def graphLooseUptoRow : OpenClaim := { program := "ytlfibkfjklggeaa", sum := "2041419825ddc722b7f9a6cc97c74dffc0b9b2b08f79de7a8c233652047ff8e9", func := "diorama/dioramalaw09.GraphLoose", spec := "graphLoose", recurses := true, apart := false, narrowed := true }
def GraphLooseUptoSaid : Prop := graphLooseUptoRow.holds Try.pinned (OpenSpec.upto graphLooseSpec)

/-- 'dioramalaw09.GraphTurned', WHERE WHAT IT READS IS OF BULK AT MOST 1048576: true; the input reads as it did. -/
def graphTurnedUptoRow : OpenClaim := { program := "ytlfibkfjklggeaa", sum := "2041419825ddc722b7f9a6cc97c74dffc0b9b2b08f79de7a8c233652047ff8e9", func := "diorama/dioramalaw09.GraphTurned", spec := "graphTurned", recurses := true, apart := false, narrowed := true }
def GraphTurnedUptoSaid : Prop := graphTurnedUptoRow.holds Try.pinned (OpenSpec.upto graphTurnedSpec)

end Rows
end Go.Proofs.Ytlfibkfjklggeaa
