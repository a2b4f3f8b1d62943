/-
  NARROWER THAN 'FOR EVERY INPUT', by the rows' own cells (each row's printed sentence says how): LimitValid: laid · LimitMeasures: laid · LimitGrows: laid · LimitCanon: laid · LimitOrder: laid.
  DERIVED. THE GIVEN ROWS OF THIS SEAT. 5 by the template 'for every input the law returns true; each argument reads behind the call as it read before'; 0 by the template 'total and deterministic' (their statements: YtdioecmpcppleaaDoorTotals.lean).
  GIVEN WITH THE SEED: the statements are not yours to turn. If you find one false, say at which input.
  Laid BY PROGRAM, IN A SANDBOX (cutbox-rows.mjs): the forced cells as the released guide's own fill.sh prints them over the translation 941a6653beb4bc10… (all of the seat's roots in one cut). By AI agents, Wed Nov 11 2026. No macro, syntax, notation, axiom, sorry.
-/
import Derived.Test.YtdioecmpcppleaaDoorChecked
import GoSem.Claim
import GoSem.ClaimJoined
import GoSem.ClaimMapViews
import Derived.JoinedTies
import Derived.KernelRfl
namespace Go.Proofs.YtdioecmpcppleaaDoor
/- THE CELL 'sum', in the pinned program and in every row, IS THE sha256 OF THE DUMP (.gsa) THAT YtdioecmpcppleaaDoorProg.lean LOADS. Nothing in Lean hashes anything: it is a label: what it is worth is what the hold of that sum in a sandbox is worth. -/
noncomputable def Tryd.pinned : Pinned := { name := "ytdioecmpcppleaadoor", sum := "941a6653beb4bc10e0a15eb1d04c0c89207eb5e66dde9c7c0cfc22089c3242e4", checked := Tryd.checked }
namespace Rows
def none {H : Type} : Left H := { results := [], args := [] }

/- WHAT THE LISTED PACKAGE-LEVEL VARIABLES READ AS WHEN THE CALL BEGINS. Each datum BY PROGRAM (the guide's laid-datum.mjs) off the statement by which the dump's own 'gosem.cut.vars' lays the variable. In a bare row this is a premise. The card (YtdioecmpcppleaaDoorCards.lean) ties it to the program's text. -/
def laid_diorama_schema_kinds {H : Type} : DataW H := .agg [.agg [.agg [.lit (.int .i64 0), .lit (.int .i64 0), .lit (.int .i64 0), .lit (.int .i64 0)], .lit (.int .i64 0), .lit (.int .i64 0), .lit (.int .i64 0)], .agg [.agg [.lit (.int .i64 0), .lit (.int .i64 0), .lit (.int .i64 0), .lit (.int .i64 0)], .lit (.int .i64 1), .lit (.int .i64 0), .lit (.int .i64 (-1))], .agg [.agg [.lit (.int .i64 2), .lit (.int .i64 2), .lit (.int .i64 2), .lit (.int .i64 0)], .lit (.int .i64 0), .lit (.int .i64 1), .lit (.int .i64 1)], .agg [.agg [.lit (.int .i64 3), .lit (.int .i64 3), .lit (.int .i64 3), .lit (.int .i64 0)], .lit (.int .i64 1), .lit (.int .i64 0), .lit (.int .i64 0)], .agg [.agg [.lit (.int .i64 3), .lit (.int .i64 0), .lit (.int .i64 0), .lit (.int .i64 0)], .lit (.int .i64 1), .lit (.int .i64 0), .lit (.int .i64 0)], .agg [.agg [.lit (.int .i64 3), .lit (.int .i64 0), .lit (.int .i64 0), .lit (.int .i64 0)], .lit (.int .i64 2), .lit (.int .i64 0), .lit (.int .i64 0)], .agg [.agg [.lit (.int .i64 1), .lit (.int .i64 0), .lit (.int .i64 0), .lit (.int .i64 0)], .lit (.int .i64 0), .lit (.int .i64 0), .lit (.int .i64 (-1))], .agg [.agg [.lit (.int .i64 4), .lit (.int .i64 4), .lit (.int .i64 4), .lit (.int .i64 5)], .lit (.int .i64 0), .lit (.int .i64 0), .lit (.int .i64 0)], .agg [.agg [.lit (.int .i64 2), .lit (.int .i64 2), .lit (.int .i64 2), .lit (.int .i64 0)], .lit (.int .i64 0), .lit (.int .i64 1), .lit (.int .i64 1)]]
def laid_diorama_schema_spans {H : Type} : DataW H := .agg [.agg [.lit (.int .i64 0), .lit (.int .i64 0)], .agg [.lit (.int .i64 (-9223372036854775808)), .lit (.int .i64 9223372036854775807)], .agg [.lit (.int .i64 (-140737488355328)), .lit (.int .i64 140737488355328)], .agg [.lit (.int .i64 0), .lit (.int .i64 140737488355328)], .agg [.lit (.int .i64 0), .lit (.int .i64 255)], .agg [.lit (.int .i64 0), .lit (.int .i64 1)]]

/-- 'dioramalaw12.LimitValid': WHATEVER THE INPUT: true; the input reads as it did. -/
def limitValidSpec : ChangeSpec := { name := "limitValid", fn := fun _ => fun
  | [d1, d2] => { results := [.lit (.bool true)], args := [d1, d2] }
  | _ => none }
def limitValidRow : OpenClaim := { program := "ytdioecmpcppleaadoor", sum := "941a6653beb4bc10e0a15eb1d04c0c89207eb5e66dde9c7c0cfc22089c3242e4", func := "diorama/dioramalaw12.LimitValid", spec := "limitValid", named := ["diorama/schema.kinds", "diorama/schema.spans"], apart := false, laid := [("diorama/schema.kinds", laid_diorama_schema_kinds), ("diorama/schema.spans", laid_diorama_schema_spans)] }
def LimitValidSaid : Prop := limitValidRow.holds Tryd.pinned (OpenSpec.ofChange limitValidSpec)

/-- ITS FALSE NEIGHBOUR: 'it returns false'. Refute it at one input. -/
def limitValidWrong : ChangeSpec := { name := "limitValid", fn := fun _ => fun
  | [d1, d2] => { results := [.lit (.bool false)], args := [d1, d2] }
  | _ => none }
def LimitValidWrongFalsely : Prop := limitValidRow.holds Tryd.pinned (OpenSpec.ofChange limitValidWrong)

/-- 'dioramalaw12.LimitMeasures': WHATEVER THE INPUT: true; the input reads as it did. -/
def limitMeasuresSpec : ChangeSpec := { name := "limitMeasures", fn := fun _ => fun
  | [d1, d2, d3] => { results := [.lit (.bool true)], args := [d1, d2, d3] }
  | _ => none }
def limitMeasuresRow : OpenClaim := { program := "ytdioecmpcppleaadoor", sum := "941a6653beb4bc10e0a15eb1d04c0c89207eb5e66dde9c7c0cfc22089c3242e4", func := "diorama/dioramalaw12.LimitMeasures", spec := "limitMeasures", named := ["diorama/schema.kinds", "diorama/schema.spans"], apart := false, laid := [("diorama/schema.kinds", laid_diorama_schema_kinds), ("diorama/schema.spans", laid_diorama_schema_spans)] }
def LimitMeasuresSaid : Prop := limitMeasuresRow.holds Tryd.pinned (OpenSpec.ofChange limitMeasuresSpec)

/-- ITS FALSE NEIGHBOUR: 'it returns false'. Refute it at one input. -/
def limitMeasuresWrong : ChangeSpec := { name := "limitMeasures", fn := fun _ => fun
  | [d1, d2, d3] => { results := [.lit (.bool false)], args := [d1, d2, d3] }
  | _ => none }
def LimitMeasuresWrongFalsely : Prop := limitMeasuresRow.holds Tryd.pinned (OpenSpec.ofChange limitMeasuresWrong)

/-- 'dioramalaw12.LimitGrows': WHATEVER THE INPUT: true; the input reads as it did. -/
def limitGrowsSpec : ChangeSpec := { name := "limitGrows", fn := fun _ => fun
  | [d1, d2, d3] => { results := [.lit (.bool true)], args := [d1, d2, d3] }
  | _ => none }
def limitGrowsRow : OpenClaim := { program := "ytdioecmpcppleaadoor", sum := "941a6653beb4bc10e0a15eb1d04c0c89207eb5e66dde9c7c0cfc22089c3242e4", func := "diorama/dioramalaw12.LimitGrows", spec := "limitGrows", named := ["diorama/schema.kinds", "diorama/schema.spans"], apart := false, laid := [("diorama/schema.kinds", laid_diorama_schema_kinds), ("diorama/schema.spans", laid_diorama_schema_spans)] }
def LimitGrowsSaid : Prop := limitGrowsRow.holds Tryd.pinned (OpenSpec.ofChange limitGrowsSpec)

/-- ITS FALSE NEIGHBOUR: 'it returns false'. Refute it at one input. -/
def limitGrowsWrong : ChangeSpec := { name := "limitGrows", fn := fun _ => fun
  | [d1, d2, d3] => { results := [.lit (.bool false)], args := [d1, d2, d3] }
  | _ => none }
def LimitGrowsWrongFalsely : Prop := limitGrowsRow.holds Tryd.pinned (OpenSpec.ofChange limitGrowsWrong)

/-- 'dioramalaw12.LimitCanon': WHATEVER THE INPUT: true; the input reads as it did. -/
def limitCanonSpec : ChangeSpec := { name := "limitCanon", fn := fun _ => fun
  | [d1, d2] => { results := [.lit (.bool true)], args := [d1, d2] }
  | _ => none }
def limitCanonRow : OpenClaim := { program := "ytdioecmpcppleaadoor", sum := "941a6653beb4bc10e0a15eb1d04c0c89207eb5e66dde9c7c0cfc22089c3242e4", func := "diorama/dioramalaw12.LimitCanon", spec := "limitCanon", named := ["diorama/schema.kinds", "diorama/schema.spans"], apart := false, laid := [("diorama/schema.kinds", laid_diorama_schema_kinds), ("diorama/schema.spans", laid_diorama_schema_spans)] }
def LimitCanonSaid : Prop := limitCanonRow.holds Tryd.pinned (OpenSpec.ofChange limitCanonSpec)

/-- ITS FALSE NEIGHBOUR: 'it returns false'. Refute it at one input. -/
def limitCanonWrong : ChangeSpec := { name := "limitCanon", fn := fun _ => fun
  | [d1, d2] => { results := [.lit (.bool false)], args := [d1, d2] }
  | _ => none }
def LimitCanonWrongFalsely : Prop := limitCanonRow.holds Tryd.pinned (OpenSpec.ofChange limitCanonWrong)

/-- 'dioramalaw12.LimitOrder': WHATEVER THE INPUT: true; the input reads as it did. -/
def limitOrderSpec : ChangeSpec := { name := "limitOrder", fn := fun _ => fun
  | [d1, d2, d3] => { results := [.lit (.bool true)], args := [d1, d2, d3] }
  | _ => none }
def limitOrderRow : OpenClaim := { program := "ytdioecmpcppleaadoor", sum := "941a6653beb4bc10e0a15eb1d04c0c89207eb5e66dde9c7c0cfc22089c3242e4", func := "diorama/dioramalaw12.LimitOrder", spec := "limitOrder", named := ["diorama/schema.kinds", "diorama/schema.spans"], apart := false, laid := [("diorama/schema.kinds", laid_diorama_schema_kinds), ("diorama/schema.spans", laid_diorama_schema_spans)] }
def LimitOrderSaid : Prop := limitOrderRow.holds Tryd.pinned (OpenSpec.ofChange limitOrderSpec)

/-- ITS FALSE NEIGHBOUR: 'it returns false'. Refute it at one input. -/
def limitOrderWrong : ChangeSpec := { name := "limitOrder", fn := fun _ => fun
  | [d1, d2, d3] => { results := [.lit (.bool false)], args := [d1, d2, d3] }
  | _ => none }
def LimitOrderWrongFalsely : Prop := limitOrderRow.holds Tryd.pinned (OpenSpec.ofChange limitOrderWrong)

/- THE SECOND FORM. 'bulk': how many values and letters a reading holds, each counted each time it is reached (what is shared counts as often as it is met; a slice's spare places count too). A statement '..UptoSaid' is the law's where the arguments, and the package variables that the reading takes, are together of bulk at most 1048576: NARROWER than '..Said'. Prove '..Said' where nothing that the law and all that it calls make is longer than what came in: it says more and counts as full. Else prove '..UptoSaid'. A law counts once. -/
mutual
def uptoBulk {H : Type} : DataW H → Nat
  | .lit (.string bytes) => bytes.length + 1
  | .lit _ => 1
  | .nil => 1
  | .ptr d => uptoBulk d + 1
  | .slice elems spare => uptoBulkAll elems + uptoBulkAll spare + 1
  | .agg parts => uptoBulkAll parts + 1
  | .iface _ d => uptoBulk d + 1
  | .map entries => uptoBulkEntries entries + 1
  | .held _ => 1
def uptoBulkAll {H : Type} : List (DataW H) → Nat
  | [] => 0
  | d :: r => uptoBulk d + uptoBulkAll r
def uptoBulkEntries {H : Type} : List (Lit × DataW H) → Nat
  | [] => 0
  | x :: r => uptoBulkEntry x + uptoBulkEntries r
def uptoBulkEntry {H : Type} : Lit × DataW H → Nat
  | (.string bytes, d) => bytes.length + uptoBulk d + 1
  | (_, d) => uptoBulk d + 1
 end
def uptoSmall : (H : Type) → List (DataW H) → Bool := fun _ ds => decide (uptoBulkAll ds ≤ 1048576)
def OpenSpec.upto (s : _root_.Go.ChangeSpec) : _root_.Go.OpenSpec := { _root_.Go.OpenSpec.ofChange s with cond := some uptoSmall }

/-- 'dioramalaw12.LimitValid', WHERE WHAT IT READS IS OF BULK AT MOST 1048576: true; the input reads as it did. -/
def limitValidUptoRow : OpenClaim := { program := "ytdioecmpcppleaadoor", sum := "941a6653beb4bc10e0a15eb1d04c0c89207eb5e66dde9c7c0cfc22089c3242e4", func := "diorama/dioramalaw12.LimitValid", spec := "limitValid", named := ["diorama/schema.kinds", "diorama/schema.spans"], apart := false, laid := [("diorama/schema.kinds", laid_diorama_schema_kinds), ("diorama/schema.spans", laid_diorama_schema_spans)], narrowed := true }
def LimitValidUptoSaid : Prop := limitValidUptoRow.holds Tryd.pinned (OpenSpec.upto limitValidSpec)

/-- 'dioramalaw12.LimitMeasures', WHERE WHAT IT READS IS OF BULK AT MOST 1048576: true; the input reads as it did. -/
def limitMeasuresUptoRow : OpenClaim := { program := "ytdioecmpcppleaadoor", sum := "941a6653beb4bc10e0a15eb1d04c0c89207eb5e66dde9c7c0cfc22089c3242e4", func := "diorama/dioramalaw12.LimitMeasures", spec := "limitMeasures", named := ["diorama/schema.kinds", "diorama/schema.spans"], apart := false, laid := [("diorama/schema.kinds", laid_diorama_schema_kinds), ("diorama/schema.spans", laid_diorama_schema_spans)], narrowed := true }
def LimitMeasuresUptoSaid : Prop := limitMeasuresUptoRow.holds Tryd.pinned (OpenSpec.upto limitMeasuresSpec)

/-- 'dioramalaw12.LimitGrows', WHERE WHAT IT READS IS OF BULK AT MOST 1048576: true; the input reads as it did. -/
def limitGrowsUptoRow : OpenClaim := { program := "ytdioecmpcppleaadoor", sum := "941a6653beb4bc10e0a15eb1d04c0c89207eb5e66dde9c7c0cfc22089c3242e4", func := "diorama/dioramalaw12.LimitGrows", spec := "limitGrows", named := ["diorama/schema.kinds", "diorama/schema.spans"], apart := false, laid := [("diorama/schema.kinds", laid_diorama_schema_kinds), ("diorama/schema.spans", laid_diorama_schema_spans)], narrowed := true }
def LimitGrowsUptoSaid : Prop := limitGrowsUptoRow.holds Tryd.pinned (OpenSpec.upto limitGrowsSpec)

/-- 'dioramalaw12.LimitCanon', WHERE WHAT IT READS IS OF BULK AT MOST 1048576: true; the input reads as it did. -/
def limitCanonUptoRow : OpenClaim := { program := "ytdioecmpcppleaadoor", sum := "941a6653beb4bc10e0a15eb1d04c0c89207eb5e66dde9c7c0cfc22089c3242e4", func := "diorama/dioramalaw12.LimitCanon", spec := "limitCanon", named := ["diorama/schema.kinds", "diorama/schema.spans"], apart := false, laid := [("diorama/schema.kinds", laid_diorama_schema_kinds), ("diorama/schema.spans", laid_diorama_schema_spans)], narrowed := true }
def LimitCanonUptoSaid : Prop := limitCanonUptoRow.holds Tryd.pinned (OpenSpec.upto limitCanonSpec)

/-- 'dioramalaw12.LimitOrder', WHERE WHAT IT READS IS OF BULK AT MOST 1048576: true; the input reads as it did. -/
def limitOrderUptoRow : OpenClaim := { program := "ytdioecmpcppleaadoor", sum := "941a6653beb4bc10e0a15eb1d04c0c89207eb5e66dde9c7c0cfc22089c3242e4", func := "diorama/dioramalaw12.LimitOrder", spec := "limitOrder", named := ["diorama/schema.kinds", "diorama/schema.spans"], apart := false, laid := [("diorama/schema.kinds", laid_diorama_schema_kinds), ("diorama/schema.spans", laid_diorama_schema_spans)], narrowed := true }
def LimitOrderUptoSaid : Prop := limitOrderUptoRow.holds Tryd.pinned (OpenSpec.upto limitOrderSpec)

end Rows
end Go.Proofs.YtdioecmpcppleaaDoor
