/-
  NARROWER THAN 'FOR EVERY INPUT', by the rows' own cells (each row's printed sentence says how): NodesPuts: laid · NodesGets: laid · NodesBack: laid · NodesLimits: laid.
  DERIVED. THE GIVEN ROWS OF THIS SEAT. 4 by the template 'for every input the law returns true; each argument reads behind the call as it read before'; 0 by the template 'total and deterministic' (their statements: YthfemhpbamcpjaaGreatDoorTotals.lean).
  GIVEN WITH THE SEED: the statements are not yours to turn. If you find one false, say at which input.
  Laid BY PROGRAM, IN A SANDBOX (cutbox-rows.mjs): the forced cells as the released guide's own fill.sh prints them over the translation 45d70d7e9fc13503… (all of the seat's roots in one cut). By AI agents, Wed Nov 11 2026. No macro, syntax, notation, axiom, sorry.
-/
import Derived.Test.YthfemhpbamcpjaaGreatDoorChecked
import GoSem.Claim
import GoSem.ClaimJoined
import GoSem.ClaimMapViews
import Derived.JoinedTies
import Derived.KernelRfl
namespace Go.Proofs.YthfemhpbamcpjaaGreatDoor
/- THE CELL 'sum', in the pinned program and in every row, IS THE sha256 OF THE DUMP (.gsa) THAT YthfemhpbamcpjaaGreatDoorProg.lean LOADS. Nothing in Lean hashes anything: it is a label: what it is worth is what the hold of that sum in a sandbox is worth. -/
noncomputable def Tryz.pinned : Pinned := { name := "ythfemhpbamcpjaagreatdoor", sum := "45d70d7e9fc135032c9972395502531664177747a6ce667572ca98ac4472365c", checked := Tryz.checked }
namespace Rows
def none {H : Type} : Left H := { results := [], args := [] }

/- WHAT THE LISTED PACKAGE-LEVEL VARIABLES READ AS WHEN THE CALL BEGINS. Each datum BY PROGRAM (the guide's laid-datum.mjs) off the statement by which the dump's own 'gosem.cut.vars' lays the variable. In a bare row this is a premise. The card (YthfemhpbamcpjaaGreatDoorCards.lean) ties it to the program's text. -/
def laid_diorama_schema_kinds {H : Type} : DataW H := .agg [.agg [.agg [.lit (.int .i64 0), .lit (.int .i64 0), .lit (.int .i64 0), .lit (.int .i64 0)], .lit (.int .i64 0), .lit (.int .i64 0), .lit (.int .i64 0)], .agg [.agg [.lit (.int .i64 0), .lit (.int .i64 0), .lit (.int .i64 0), .lit (.int .i64 0)], .lit (.int .i64 1), .lit (.int .i64 0), .lit (.int .i64 (-1))], .agg [.agg [.lit (.int .i64 2), .lit (.int .i64 2), .lit (.int .i64 2), .lit (.int .i64 0)], .lit (.int .i64 0), .lit (.int .i64 1), .lit (.int .i64 1)], .agg [.agg [.lit (.int .i64 3), .lit (.int .i64 3), .lit (.int .i64 3), .lit (.int .i64 0)], .lit (.int .i64 1), .lit (.int .i64 0), .lit (.int .i64 0)], .agg [.agg [.lit (.int .i64 3), .lit (.int .i64 0), .lit (.int .i64 0), .lit (.int .i64 0)], .lit (.int .i64 1), .lit (.int .i64 0), .lit (.int .i64 0)], .agg [.agg [.lit (.int .i64 3), .lit (.int .i64 0), .lit (.int .i64 0), .lit (.int .i64 0)], .lit (.int .i64 2), .lit (.int .i64 0), .lit (.int .i64 0)], .agg [.agg [.lit (.int .i64 1), .lit (.int .i64 0), .lit (.int .i64 0), .lit (.int .i64 0)], .lit (.int .i64 0), .lit (.int .i64 0), .lit (.int .i64 (-1))], .agg [.agg [.lit (.int .i64 4), .lit (.int .i64 4), .lit (.int .i64 4), .lit (.int .i64 5)], .lit (.int .i64 0), .lit (.int .i64 0), .lit (.int .i64 0)], .agg [.agg [.lit (.int .i64 2), .lit (.int .i64 2), .lit (.int .i64 2), .lit (.int .i64 0)], .lit (.int .i64 0), .lit (.int .i64 1), .lit (.int .i64 1)]]
def laid_diorama_schema_spans {H : Type} : DataW H := .agg [.agg [.lit (.int .i64 0), .lit (.int .i64 0)], .agg [.lit (.int .i64 (-9223372036854775808)), .lit (.int .i64 9223372036854775807)], .agg [.lit (.int .i64 (-140737488355328)), .lit (.int .i64 140737488355328)], .agg [.lit (.int .i64 0), .lit (.int .i64 140737488355328)], .agg [.lit (.int .i64 0), .lit (.int .i64 255)], .agg [.lit (.int .i64 0), .lit (.int .i64 1)]]

/-- 'dioramalaw14.NodesPuts': WHATEVER THE INPUT: true; the input reads as it did. -/
def nodesPutsSpec : ChangeSpec := { name := "nodesPuts", fn := fun _ => fun
  | [d] => { results := [.lit (.bool true)], args := [d] }
  | _ => none }
def nodesPutsRow : OpenClaim := { program := "ythfemhpbamcpjaagreatdoor", sum := "45d70d7e9fc135032c9972395502531664177747a6ce667572ca98ac4472365c", func := "diorama/dioramalaw14.NodesPuts", spec := "nodesPuts", inPlace := ["internal/abi.NoEscape"], unfollowed := true, recurses := true, named := ["diorama/schema.kinds", "diorama/schema.spans"], apart := false, laid := [("diorama/schema.kinds", laid_diorama_schema_kinds), ("diorama/schema.spans", laid_diorama_schema_spans)] }
def NodesPutsSaid : Prop := nodesPutsRow.holds Tryz.pinned (OpenSpec.ofChange nodesPutsSpec)

/-- ITS FALSE NEIGHBOUR: 'it returns false'. Refute it at one input. -/
def nodesPutsWrong : ChangeSpec := { name := "nodesPuts", fn := fun _ => fun
  | [d] => { results := [.lit (.bool false)], args := [d] }
  | _ => none }
def NodesPutsWrongFalsely : Prop := nodesPutsRow.holds Tryz.pinned (OpenSpec.ofChange nodesPutsWrong)

/-- 'dioramalaw14.NodesGets': WHATEVER THE INPUT: true; the input reads as it did. -/
def nodesGetsSpec : ChangeSpec := { name := "nodesGets", fn := fun _ => fun
  | [d1, d2, d3] => { results := [.lit (.bool true)], args := [d1, d2, d3] }
  | _ => none }
def nodesGetsRow : OpenClaim := { program := "ythfemhpbamcpjaagreatdoor", sum := "45d70d7e9fc135032c9972395502531664177747a6ce667572ca98ac4472365c", func := "diorama/dioramalaw14.NodesGets", spec := "nodesGets", inPlace := ["internal/abi.NoEscape"], unfollowed := true, recurses := true, named := ["diorama/schema.kinds", "diorama/schema.spans"], apart := false, laid := [("diorama/schema.kinds", laid_diorama_schema_kinds), ("diorama/schema.spans", laid_diorama_schema_spans)] }
def NodesGetsSaid : Prop := nodesGetsRow.holds Tryz.pinned (OpenSpec.ofChange nodesGetsSpec)

/-- ITS FALSE NEIGHBOUR: 'it returns false'. Refute it at one input. -/
def nodesGetsWrong : ChangeSpec := { name := "nodesGets", fn := fun _ => fun
  | [d1, d2, d3] => { results := [.lit (.bool false)], args := [d1, d2, d3] }
  | _ => none }
def NodesGetsWrongFalsely : Prop := nodesGetsRow.holds Tryz.pinned (OpenSpec.ofChange nodesGetsWrong)

/-- 'dioramalaw14.NodesBack': WHATEVER THE INPUT: true; the input reads as it did. -/
def nodesBackSpec : ChangeSpec := { name := "nodesBack", fn := fun _ => fun
  | [d] => { results := [.lit (.bool true)], args := [d] }
  | _ => none }
def nodesBackRow : OpenClaim := { program := "ythfemhpbamcpjaagreatdoor", sum := "45d70d7e9fc135032c9972395502531664177747a6ce667572ca98ac4472365c", func := "diorama/dioramalaw14.NodesBack", spec := "nodesBack", inPlace := ["internal/abi.NoEscape"], unfollowed := true, recurses := true, named := ["diorama/schema.kinds", "diorama/schema.spans"], apart := false, laid := [("diorama/schema.kinds", laid_diorama_schema_kinds), ("diorama/schema.spans", laid_diorama_schema_spans)] }
def NodesBackSaid : Prop := nodesBackRow.holds Tryz.pinned (OpenSpec.ofChange nodesBackSpec)

/-- ITS FALSE NEIGHBOUR: 'it returns false'. Refute it at one input. -/
def nodesBackWrong : ChangeSpec := { name := "nodesBack", fn := fun _ => fun
  | [d] => { results := [.lit (.bool false)], args := [d] }
  | _ => none }
def NodesBackWrongFalsely : Prop := nodesBackRow.holds Tryz.pinned (OpenSpec.ofChange nodesBackWrong)

/-- 'dioramalaw14.NodesLimits': WHATEVER THE INPUT: true; the input reads as it did. -/
def nodesLimitsSpec : ChangeSpec := { name := "nodesLimits", fn := fun _ => fun
  | [d] => { results := [.lit (.bool true)], args := [d] }
  | _ => none }
def nodesLimitsRow : OpenClaim := { program := "ythfemhpbamcpjaagreatdoor", sum := "45d70d7e9fc135032c9972395502531664177747a6ce667572ca98ac4472365c", func := "diorama/dioramalaw14.NodesLimits", spec := "nodesLimits", inPlace := ["internal/abi.NoEscape"], unfollowed := true, recurses := true, named := ["diorama/schema.kinds", "diorama/schema.spans"], apart := false, laid := [("diorama/schema.kinds", laid_diorama_schema_kinds), ("diorama/schema.spans", laid_diorama_schema_spans)] }
def NodesLimitsSaid : Prop := nodesLimitsRow.holds Tryz.pinned (OpenSpec.ofChange nodesLimitsSpec)

/-- ITS FALSE NEIGHBOUR: 'it returns false'. Refute it at one input. -/
def nodesLimitsWrong : ChangeSpec := { name := "nodesLimits", fn := fun _ => fun
  | [d] => { results := [.lit (.bool false)], args := [d] }
  | _ => none }
def NodesLimitsWrongFalsely : Prop := nodesLimitsRow.holds Tryz.pinned (OpenSpec.ofChange nodesLimitsWrong)

/- THE SECOND FORM. 'bulk': how many values and letters a reading holds, each counted each time it is reached (what is shared counts as often as it is met; a slice's spare places count too). A statement '..UptoSaid' is the law's where the arguments, and the package variables that the reading takes, are together of bulk at most 1048576: NARROWER than '..Said'. Prove '..Said' where nothing that the law and all that it calls make is longer than what came in: it says more and counts as full. Else prove '..UptoSaid'. A law counts once. -/
mutual
def uptoBulk {H : Type} : DataW H → Nat
  | .lit (.string bytes) => bytes.length + 1
  | .lit _ => 1
  | .nil => 1
  | .ptr d => uptoBulk d + 1
  | .slice elems spare => uptoBulkAll elems + uptoBulkAll spare + 1
  | .agg parts => uptoBulkAll parts + 1
  | .iface _ d => uptoBulk d + 1
  | .map entries => uptoBulkEntries entries + 1
  | .held _ => 1
def uptoBulkAll {H : Type} : List (DataW H) → Nat
  | [] => 0
  | d :: r => uptoBulk d + uptoBulkAll r
def uptoBulkEntries {H : Type} : List (Lit × DataW H) → Nat
  | [] => 0
  | x :: r => uptoBulkEntry x + uptoBulkEntries r
def uptoBulkEntry {H : Type} : Lit × DataW H → Nat
  | (.string bytes, d) => bytes.length + uptoBulk d + 1
  | (_, d) => uptoBulk d + 1
 end
def uptoSmall : (H : Type) → List (DataW H) → Bool := fun _ ds => decide (uptoBulkAll ds ≤ 1048576)
def OpenSpec.upto (s : _root_.Go.ChangeSpec) : _root_.Go.OpenSpec := { _root_.Go.OpenSpec.ofChange s with cond := some uptoSmall }

/-- 'dioramalaw14.NodesPuts', WHERE WHAT IT READS IS OF BULK AT MOST 1048576: true; the input reads as it did. -/
def nodesPutsUptoRow : OpenClaim := { program := "ythfemhpbamcpjaagreatdoor", sum := "45d70d7e9fc135032c9972395502531664177747a6ce667572ca98ac4472365c", func := "diorama/dioramalaw14.NodesPuts", spec := "nodesPuts", inPlace := ["internal/abi.NoEscape"], unfollowed := true, recurses := true, named := ["diorama/schema.kinds", "diorama/schema.spans"], apart := false, laid := [("diorama/schema.kinds", laid_diorama_schema_kinds), ("diorama/schema.spans", laid_diorama_schema_spans)], narrowed := true }
def NodesPutsUptoSaid : Prop := nodesPutsUptoRow.holds Tryz.pinned (OpenSpec.upto nodesPutsSpec)

/-- 'dioramalaw14.NodesGets', WHERE WHAT IT READS IS OF BULK AT MOST 1048576: true; the input reads as it did. -/
def nodesGetsUptoRow : OpenClaim := { program := "ythfemhpbamcpjaagreatdoor", sum := "45d70d7e9fc135032c9972395502531664177747a6ce667572ca98ac4472365c", func := "diorama/dioramalaw14.NodesGets", spec := "nodesGets", inPlace := ["internal/abi.NoEscape"], unfollowed := true, recurses := true, named := ["diorama/schema.kinds", "diorama/schema.spans"], apart := false, laid := [("diorama/schema.kinds", laid_diorama_schema_kinds), ("diorama/schema.spans", laid_diorama_schema_spans)], narrowed := true }
def NodesGetsUptoSaid : Prop := nodesGetsUptoRow.holds Tryz.pinned (OpenSpec.upto nodesGetsSpec)

/-- 'dioramalaw14.NodesBack', WHERE WHAT IT READS IS OF BULK AT MOST 1048576: true; the input reads as it did. -/
def nodesBackUptoRow : OpenClaim := { program := "ythfemhpbamcpjaagreatdoor", sum := "45d70d7e9fc135032c9972395502531664177747a6ce667572ca98ac4472365c", func := "diorama/dioramalaw14.NodesBack", spec := "nodesBack", inPlace := ["internal/abi.NoEscape"], unfollowed := true, recurses := true, named := ["diorama/schema.kinds", "diorama/schema.spans"], apart := false, laid := [("diorama/schema.kinds", laid_diorama_schema_kinds), ("diorama/schema.spans", laid_diorama_schema_spans)], narrowed := true }
def NodesBackUptoSaid : Prop := nodesBackUptoRow.holds Tryz.pinned (OpenSpec.upto nodesBackSpec)

/-- 'dioramalaw14.NodesLimits', WHERE WHAT IT READS IS OF BULK AT MOST 1048576: true; the input reads as it did. -/
def nodesLimitsUptoRow : OpenClaim := { program := "ythfemhpbamcpjaagreatdoor", sum := "45d70d7e9fc135032c9972395502531664177747a6ce667572ca98ac4472365c", func := "diorama/dioramalaw14.NodesLimits", spec := "nodesLimits", inPlace := ["internal/abi.NoEscape"], unfollowed := true, recurses := true, named := ["diorama/schema.kinds", "diorama/schema.spans"], apart := false, laid := [("diorama/schema.kinds", laid_diorama_schema_kinds), ("diorama/schema.spans", laid_diorama_schema_spans)], narrowed := true }
def NodesLimitsUptoSaid : Prop := nodesLimitsUptoRow.holds Tryz.pinned (OpenSpec.upto nodesLimitsSpec)

end Rows
end Go.Proofs.YthfemhpbamcpjaaGreatDoor
