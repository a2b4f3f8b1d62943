/-
  NARROWER THAN 'FOR EVERY INPUT', by the rows' own cells (each row's printed sentence says how): SchemaSpecs: laid · SchemaClasses: laid · SchemaNested: laid · SchemaNames: laid.
  DERIVED. THE GIVEN ROWS OF THIS SEAT. 4 by the template 'for every input the law returns true; each argument reads behind the call as it read before'; 0 by the template 'total and deterministic' (their statements: YtpnclcafhalaoaaDoorTotals.lean).
  GIVEN WITH THE SEED: the statements are not yours to turn. If you find one false, say at which input.
  Laid BY PROGRAM, IN A SANDBOX (cutbox-rows.mjs): the forced cells as the released guide's own fill.sh prints them over the translation 268c55c6bb6a228f… (all of the seat's roots in one cut). By AI agents, Wed Nov 11 2026. No macro, syntax, notation, axiom, sorry.
-/
import Derived.Test.YtpnclcafhalaoaaDoorChecked
import GoSem.Claim
import GoSem.ClaimJoined
import GoSem.ClaimMapViews
import Derived.JoinedTies
import Derived.KernelRfl
namespace Go.Proofs.YtpnclcafhalaoaaDoor
/- THE CELL 'sum', in the pinned program and in every row, IS THE sha256 OF THE DUMP (.gsa) THAT YtpnclcafhalaoaaDoorProg.lean LOADS. Nothing in Lean hashes anything: it is a label: what it is worth is what the hold of that sum in a sandbox is worth. -/
noncomputable def Tryd.pinned : Pinned := { name := "ytpnclcafhalaoaadoor", sum := "268c55c6bb6a228fdd77a2cc98e26f8744aec68cf96fc74a86ac0aa9cb14a522", checked := Tryd.checked }
namespace Rows
def none {H : Type} : Left H := { results := [], args := [] }

/- WHAT THE LISTED PACKAGE-LEVEL VARIABLES READ AS WHEN THE CALL BEGINS. Each datum BY PROGRAM (the guide's laid-datum.mjs) off the statement by which the dump's own 'gosem.cut.vars' lays the variable. In a bare row this is a premise. The card (YtpnclcafhalaoaaDoorCards.lean) ties it to the program's text. -/
def laid_diorama_schema_kinds {H : Type} : DataW H := .agg [.agg [.agg [.lit (.int .i64 0), .lit (.int .i64 0), .lit (.int .i64 0), .lit (.int .i64 0)], .lit (.int .i64 0), .lit (.int .i64 0), .lit (.int .i64 0)], .agg [.agg [.lit (.int .i64 0), .lit (.int .i64 0), .lit (.int .i64 0), .lit (.int .i64 0)], .lit (.int .i64 1), .lit (.int .i64 0), .lit (.int .i64 (-1))], .agg [.agg [.lit (.int .i64 2), .lit (.int .i64 2), .lit (.int .i64 2), .lit (.int .i64 0)], .lit (.int .i64 0), .lit (.int .i64 1), .lit (.int .i64 1)], .agg [.agg [.lit (.int .i64 3), .lit (.int .i64 3), .lit (.int .i64 3), .lit (.int .i64 0)], .lit (.int .i64 1), .lit (.int .i64 0), .lit (.int .i64 0)], .agg [.agg [.lit (.int .i64 3), .lit (.int .i64 0), .lit (.int .i64 0), .lit (.int .i64 0)], .lit (.int .i64 1), .lit (.int .i64 0), .lit (.int .i64 0)], .agg [.agg [.lit (.int .i64 3), .lit (.int .i64 0), .lit (.int .i64 0), .lit (.int .i64 0)], .lit (.int .i64 2), .lit (.int .i64 0), .lit (.int .i64 0)], .agg [.agg [.lit (.int .i64 1), .lit (.int .i64 0), .lit (.int .i64 0), .lit (.int .i64 0)], .lit (.int .i64 0), .lit (.int .i64 0), .lit (.int .i64 (-1))], .agg [.agg [.lit (.int .i64 4), .lit (.int .i64 4), .lit (.int .i64 4), .lit (.int .i64 5)], .lit (.int .i64 0), .lit (.int .i64 0), .lit (.int .i64 0)], .agg [.agg [.lit (.int .i64 2), .lit (.int .i64 2), .lit (.int .i64 2), .lit (.int .i64 0)], .lit (.int .i64 0), .lit (.int .i64 1), .lit (.int .i64 1)]]
def laid_diorama_schema_oldKinds {H : Type} : DataW H := .agg [.agg [.agg [.lit (.int .i64 0), .lit (.int .i64 0), .lit (.int .i64 0), .lit (.int .i64 0)], .lit (.int .i64 0), .lit (.int .i64 0), .lit (.int .i64 0)], .agg [.agg [.lit (.int .i64 0), .lit (.int .i64 0), .lit (.int .i64 0), .lit (.int .i64 0)], .lit (.int .i64 0), .lit (.int .i64 0), .lit (.int .i64 (-1))], .agg [.agg [.lit (.int .i64 2), .lit (.int .i64 2), .lit (.int .i64 2), .lit (.int .i64 2)], .lit (.int .i64 0), .lit (.int .i64 1), .lit (.int .i64 1)], .agg [.agg [.lit (.int .i64 3), .lit (.int .i64 0), .lit (.int .i64 0), .lit (.int .i64 0)], .lit (.int .i64 1), .lit (.int .i64 0), .lit (.int .i64 0)], .agg [.agg [.lit (.int .i64 3), .lit (.int .i64 0), .lit (.int .i64 0), .lit (.int .i64 0)], .lit (.int .i64 1), .lit (.int .i64 0), .lit (.int .i64 0)], .agg [.agg [.lit (.int .i64 0), .lit (.int .i64 0), .lit (.int .i64 0), .lit (.int .i64 0)], .lit (.int .i64 1), .lit (.int .i64 0), .lit (.int .i64 0)], .agg [.agg [.lit (.int .i64 4), .lit (.int .i64 0), .lit (.int .i64 0), .lit (.int .i64 0)], .lit (.int .i64 0), .lit (.int .i64 0), .lit (.int .i64 0)]]
def laid_diorama_schema_names {H : Type} : DataW H := .agg [.lit (.string []), .lit (.string [103, 114, 111, 117, 112]), .lit (.string [109, 111, 118, 101]), .lit (.string [98, 111, 120]), .lit (.string [98, 97, 108, 108]), .lit (.string [108, 97, 98, 101, 108]), .lit (.string [115, 119, 105, 116, 99, 104]), .lit (.string [108, 105, 103, 104, 116]), .lit (.string [115, 99, 97, 108, 101])]
def laid_diorama_schema_spans {H : Type} : DataW H := .agg [.agg [.lit (.int .i64 0), .lit (.int .i64 0)], .agg [.lit (.int .i64 (-9223372036854775808)), .lit (.int .i64 9223372036854775807)], .agg [.lit (.int .i64 (-140737488355328)), .lit (.int .i64 140737488355328)], .agg [.lit (.int .i64 0), .lit (.int .i64 140737488355328)], .agg [.lit (.int .i64 0), .lit (.int .i64 255)], .agg [.lit (.int .i64 0), .lit (.int .i64 1)]]

/-- 'dioramalaw07.SchemaSpecs': WHATEVER THE INPUT: true; the input reads as it did. -/
def schemaSpecsSpec : ChangeSpec := { name := "schemaSpecs", fn := fun _ => fun
  | [d] => { results := [.lit (.bool true)], args := [d] }
  | _ => none }
def schemaSpecsRow : OpenClaim := { program := "ytpnclcafhalaoaadoor", sum := "268c55c6bb6a228fdd77a2cc98e26f8744aec68cf96fc74a86ac0aa9cb14a522", func := "diorama/dioramalaw07.SchemaSpecs", spec := "schemaSpecs", named := ["diorama/schema.kinds", "diorama/schema.oldKinds", "diorama/schema.names", "diorama/schema.spans"], apart := false, laid := [("diorama/schema.kinds", laid_diorama_schema_kinds), ("diorama/schema.oldKinds", laid_diorama_schema_oldKinds), ("diorama/schema.names", laid_diorama_schema_names), ("diorama/schema.spans", laid_diorama_schema_spans)] }
def SchemaSpecsSaid : Prop := schemaSpecsRow.holds Tryd.pinned (OpenSpec.ofChange schemaSpecsSpec)

/-- ITS FALSE NEIGHBOUR: 'it returns false'. Refute it at one input. -/
def schemaSpecsWrong : ChangeSpec := { name := "schemaSpecs", fn := fun _ => fun
  | [d] => { results := [.lit (.bool false)], args := [d] }
  | _ => none }
def SchemaSpecsWrongFalsely : Prop := schemaSpecsRow.holds Tryd.pinned (OpenSpec.ofChange schemaSpecsWrong)

/-- 'dioramalaw07.SchemaClasses': WHATEVER THE INPUT: true; the input reads as it did. -/
def schemaClassesSpec : ChangeSpec := { name := "schemaClasses", fn := fun _ => fun
  | [d1, d2] => { results := [.lit (.bool true)], args := [d1, d2] }
  | _ => none }
def schemaClassesRow : OpenClaim := { program := "ytpnclcafhalaoaadoor", sum := "268c55c6bb6a228fdd77a2cc98e26f8744aec68cf96fc74a86ac0aa9cb14a522", func := "diorama/dioramalaw07.SchemaClasses", spec := "schemaClasses", named := ["diorama/schema.kinds", "diorama/schema.oldKinds", "diorama/schema.names", "diorama/schema.spans"], apart := false, laid := [("diorama/schema.kinds", laid_diorama_schema_kinds), ("diorama/schema.oldKinds", laid_diorama_schema_oldKinds), ("diorama/schema.names", laid_diorama_schema_names), ("diorama/schema.spans", laid_diorama_schema_spans)] }
def SchemaClassesSaid : Prop := schemaClassesRow.holds Tryd.pinned (OpenSpec.ofChange schemaClassesSpec)

/-- ITS FALSE NEIGHBOUR: 'it returns false'. Refute it at one input. -/
def schemaClassesWrong : ChangeSpec := { name := "schemaClasses", fn := fun _ => fun
  | [d1, d2] => { results := [.lit (.bool false)], args := [d1, d2] }
  | _ => none }
def SchemaClassesWrongFalsely : Prop := schemaClassesRow.holds Tryd.pinned (OpenSpec.ofChange schemaClassesWrong)

/-- 'dioramalaw07.SchemaNested': WHATEVER THE INPUT: true; the input reads as it did. -/
def schemaNestedSpec : ChangeSpec := { name := "schemaNested", fn := fun _ => fun
  | [d] => { results := [.lit (.bool true)], args := [d] }
  | _ => none }
def schemaNestedRow : OpenClaim := { program := "ytpnclcafhalaoaadoor", sum := "268c55c6bb6a228fdd77a2cc98e26f8744aec68cf96fc74a86ac0aa9cb14a522", func := "diorama/dioramalaw07.SchemaNested", spec := "schemaNested", named := ["diorama/schema.kinds", "diorama/schema.oldKinds", "diorama/schema.names", "diorama/schema.spans"], apart := false, laid := [("diorama/schema.kinds", laid_diorama_schema_kinds), ("diorama/schema.oldKinds", laid_diorama_schema_oldKinds), ("diorama/schema.names", laid_diorama_schema_names), ("diorama/schema.spans", laid_diorama_schema_spans)] }
def SchemaNestedSaid : Prop := schemaNestedRow.holds Tryd.pinned (OpenSpec.ofChange schemaNestedSpec)

/-- ITS FALSE NEIGHBOUR: 'it returns false'. Refute it at one input. -/
def schemaNestedWrong : ChangeSpec := { name := "schemaNested", fn := fun _ => fun
  | [d] => { results := [.lit (.bool false)], args := [d] }
  | _ => none }
def SchemaNestedWrongFalsely : Prop := schemaNestedRow.holds Tryd.pinned (OpenSpec.ofChange schemaNestedWrong)

/-- 'dioramalaw07.SchemaNames': WHATEVER THE INPUT: true; the input reads as it did. -/
def schemaNamesSpec : ChangeSpec := { name := "schemaNames", fn := fun _ => fun
  | [d1, d2] => { results := [.lit (.bool true)], args := [d1, d2] }
  | _ => none }
def schemaNamesRow : OpenClaim := { program := "ytpnclcafhalaoaadoor", sum := "268c55c6bb6a228fdd77a2cc98e26f8744aec68cf96fc74a86ac0aa9cb14a522", func := "diorama/dioramalaw07.SchemaNames", spec := "schemaNames", named := ["diorama/schema.kinds", "diorama/schema.oldKinds", "diorama/schema.names", "diorama/schema.spans"], apart := false, laid := [("diorama/schema.kinds", laid_diorama_schema_kinds), ("diorama/schema.oldKinds", laid_diorama_schema_oldKinds), ("diorama/schema.names", laid_diorama_schema_names), ("diorama/schema.spans", laid_diorama_schema_spans)] }
def SchemaNamesSaid : Prop := schemaNamesRow.holds Tryd.pinned (OpenSpec.ofChange schemaNamesSpec)

/-- ITS FALSE NEIGHBOUR: 'it returns false'. Refute it at one input. -/
def schemaNamesWrong : ChangeSpec := { name := "schemaNames", fn := fun _ => fun
  | [d1, d2] => { results := [.lit (.bool false)], args := [d1, d2] }
  | _ => none }
def SchemaNamesWrongFalsely : Prop := schemaNamesRow.holds Tryd.pinned (OpenSpec.ofChange schemaNamesWrong)

/- THE SECOND FORM. 'bulk': how many values and letters a reading holds, each counted each time it is reached (what is shared counts as often as it is met; a slice's spare places count too). A statement '..UptoSaid' is the law's where the arguments, and the package variables that the reading takes, are together of bulk at most 1048576: NARROWER than '..Said'. Prove '..Said' where nothing that the law and all that it calls make is longer than what came in: it says more and counts as full. Else prove '..UptoSaid'. A law counts once. -/
mutual
def uptoBulk {H : Type} : DataW H → Nat
  | .lit (.string bytes) => bytes.length + 1
  | .lit _ => 1
  | .nil => 1
  | .ptr d => uptoBulk d + 1
  | .slice elems spare => uptoBulkAll elems + uptoBulkAll spare + 1
  | .agg parts => uptoBulkAll parts + 1
  | .iface _ d => uptoBulk d + 1
  | .map entries => uptoBulkEntries entries + 1
  | .held _ => 1
def uptoBulkAll {H : Type} : List (DataW H) → Nat
  | [] => 0
  | d :: r => uptoBulk d + uptoBulkAll r
def uptoBulkEntries {H : Type} : List (Lit × DataW H) → Nat
  | [] => 0
  | x :: r => uptoBulkEntry x + uptoBulkEntries r
def uptoBulkEntry {H : Type} : Lit × DataW H → Nat
  | (.string bytes, d) => bytes.length + uptoBulk d + 1
  | (_, d) => uptoBulk d + 1
 end
def uptoSmall : (H : Type) → List (DataW H) → Bool := fun _ ds => decide (uptoBulkAll ds ≤ 1048576)
def OpenSpec.upto (s : _root_.Go.ChangeSpec) : _root_.Go.OpenSpec := { _root_.Go.OpenSpec.ofChange s with cond := some uptoSmall }

/-- 'dioramalaw07.SchemaSpecs', WHERE WHAT IT READS IS OF BULK AT MOST 1048576: true; the input reads as it did. -/
def schemaSpecsUptoRow : OpenClaim := { program := "ytpnclcafhalaoaadoor", sum := "268c55c6bb6a228fdd77a2cc98e26f8744aec68cf96fc74a86ac0aa9cb14a522", func := "diorama/dioramalaw07.SchemaSpecs", spec := "schemaSpecs", named := ["diorama/schema.kinds", "diorama/schema.oldKinds", "diorama/schema.names", "diorama/schema.spans"], apart := false, laid := [("diorama/schema.kinds", laid_diorama_schema_kinds), ("diorama/schema.oldKinds", laid_diorama_schema_oldKinds), ("diorama/schema.names", laid_diorama_schema_names), ("diorama/schema.spans", laid_diorama_schema_spans)], narrowed := true }
def SchemaSpecsUptoSaid : Prop := schemaSpecsUptoRow.holds Tryd.pinned (OpenSpec.upto schemaSpecsSpec)

/-- 'dioramalaw07.SchemaClasses', WHERE WHAT IT READS IS OF BULK AT MOST 1048576: true; the input reads as it did. -/
def schemaClassesUptoRow : OpenClaim := { program := "ytpnclcafhalaoaadoor", sum := "268c55c6bb6a228fdd77a2cc98e26f8744aec68cf96fc74a86ac0aa9cb14a522", func := "diorama/dioramalaw07.SchemaClasses", spec := "schemaClasses", named := ["diorama/schema.kinds", "diorama/schema.oldKinds", "diorama/schema.names", "diorama/schema.spans"], apart := false, laid := [("diorama/schema.kinds", laid_diorama_schema_kinds), ("diorama/schema.oldKinds", laid_diorama_schema_oldKinds), ("diorama/schema.names", laid_diorama_schema_names), ("diorama/schema.spans", laid_diorama_schema_spans)], narrowed := true }
def SchemaClassesUptoSaid : Prop := schemaClassesUptoRow.holds Tryd.pinned (OpenSpec.upto schemaClassesSpec)

/-- 'dioramalaw07.SchemaNested', WHERE WHAT IT READS IS OF BULK AT MOST 1048576: true; the input reads as it did. -/
def schemaNestedUptoRow : OpenClaim := { program := "ytpnclcafhalaoaadoor", sum := "268c55c6bb6a228fdd77a2cc98e26f8744aec68cf96fc74a86ac0aa9cb14a522", func := "diorama/dioramalaw07.SchemaNested", spec := "schemaNested", named := ["diorama/schema.kinds", "diorama/schema.oldKinds", "diorama/schema.names", "diorama/schema.spans"], apart := false, laid := [("diorama/schema.kinds", laid_diorama_schema_kinds), ("diorama/schema.oldKinds", laid_diorama_schema_oldKinds), ("diorama/schema.names", laid_diorama_schema_names), ("diorama/schema.spans", laid_diorama_schema_spans)], narrowed := true }
def SchemaNestedUptoSaid : Prop := schemaNestedUptoRow.holds Tryd.pinned (OpenSpec.upto schemaNestedSpec)

/-- 'dioramalaw07.SchemaNames', WHERE WHAT IT READS IS OF BULK AT MOST 1048576: true; the input reads as it did. -/
def schemaNamesUptoRow : OpenClaim := { program := "ytpnclcafhalaoaadoor", sum := "268c55c6bb6a228fdd77a2cc98e26f8744aec68cf96fc74a86ac0aa9cb14a522", func := "diorama/dioramalaw07.SchemaNames", spec := "schemaNames", named := ["diorama/schema.kinds", "diorama/schema.oldKinds", "diorama/schema.names", "diorama/schema.spans"], apart := false, laid := [("diorama/schema.kinds", laid_diorama_schema_kinds), ("diorama/schema.oldKinds", laid_diorama_schema_oldKinds), ("diorama/schema.names", laid_diorama_schema_names), ("diorama/schema.spans", laid_diorama_schema_spans)], narrowed := true }
def SchemaNamesUptoSaid : Prop := schemaNamesUptoRow.holds Tryd.pinned (OpenSpec.upto schemaNamesSpec)

end Rows
end Go.Proofs.YtpnclcafhalaoaaDoor
