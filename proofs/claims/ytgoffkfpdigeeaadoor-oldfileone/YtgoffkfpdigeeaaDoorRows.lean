/-
  NARROWER THAN 'FOR EVERY INPUT', by the rows' own cells (each row's printed sentence says how): OldfileOne: laid.
  DERIVED. THE GIVEN ROWS OF THIS SEAT. 1 by the template 'for every input the law returns true; each argument reads behind the call as it read before'; 0 by the template 'total and deterministic' (their statements: YtgoffkfpdigeeaaDoorTotals.lean).
  GIVEN WITH THE SEED: the statements are not yours to turn. If you find one false, say at which input.
  Laid BY PROGRAM, IN A SANDBOX (cutbox-rows.mjs): the forced cells as the released guide's own fill.sh prints them over the translation 5d2a15548b1f4c8d… (all of the seat's roots in one cut). By AI agents, Wed Nov 11 2026. No macro, syntax, notation, axiom, sorry.
-/
import Derived.Test.YtgoffkfpdigeeaaDoorChecked
import GoSem.Claim
import GoSem.ClaimJoined
import GoSem.ClaimMapViews
import Derived.JoinedTies
import Derived.KernelRfl
namespace Go.Proofs.YtgoffkfpdigeeaaDoor
/- THE CELL 'sum', in the pinned program and in every row, IS THE sha256 OF THE DUMP (.gsa) THAT YtgoffkfpdigeeaaDoorProg.lean LOADS. Nothing in Lean hashes anything: it is a label: what it is worth is what the hold of that sum in a sandbox is worth. -/
noncomputable def Tryd.pinned : Pinned := { name := "ytgoffkfpdigeeaadoor", sum := "5d2a15548b1f4c8dcd63d6519b0443147e667d73fa39699361e234d2a799598b", checked := Tryd.checked }
namespace Rows
def none {H : Type} : Left H := { results := [], args := [] }

/- WHAT THE LISTED PACKAGE-LEVEL VARIABLES READ AS WHEN THE CALL BEGINS. Each datum BY PROGRAM (the guide's laid-datum.mjs) off the statement by which the dump's own 'gosem.cut.vars' lays the variable. In a bare row this is a premise. The card (YtgoffkfpdigeeaaDoorCards.lean) ties it to the program's text. -/
def laid_diorama_schema_oldKinds {H : Type} : DataW H := .agg [.agg [.agg [.lit (.int .i64 0), .lit (.int .i64 0), .lit (.int .i64 0), .lit (.int .i64 0)], .lit (.int .i64 0), .lit (.int .i64 0), .lit (.int .i64 0)], .agg [.agg [.lit (.int .i64 0), .lit (.int .i64 0), .lit (.int .i64 0), .lit (.int .i64 0)], .lit (.int .i64 0), .lit (.int .i64 0), .lit (.int .i64 (-1))], .agg [.agg [.lit (.int .i64 2), .lit (.int .i64 2), .lit (.int .i64 2), .lit (.int .i64 2)], .lit (.int .i64 0), .lit (.int .i64 1), .lit (.int .i64 1)], .agg [.agg [.lit (.int .i64 3), .lit (.int .i64 0), .lit (.int .i64 0), .lit (.int .i64 0)], .lit (.int .i64 1), .lit (.int .i64 0), .lit (.int .i64 0)], .agg [.agg [.lit (.int .i64 3), .lit (.int .i64 0), .lit (.int .i64 0), .lit (.int .i64 0)], .lit (.int .i64 1), .lit (.int .i64 0), .lit (.int .i64 0)], .agg [.agg [.lit (.int .i64 0), .lit (.int .i64 0), .lit (.int .i64 0), .lit (.int .i64 0)], .lit (.int .i64 1), .lit (.int .i64 0), .lit (.int .i64 0)], .agg [.agg [.lit (.int .i64 4), .lit (.int .i64 0), .lit (.int .i64 0), .lit (.int .i64 0)], .lit (.int .i64 0), .lit (.int .i64 0), .lit (.int .i64 0)]]
def laid_diorama_schema_spans {H : Type} : DataW H := .agg [.agg [.lit (.int .i64 0), .lit (.int .i64 0)], .agg [.lit (.int .i64 (-9223372036854775808)), .lit (.int .i64 9223372036854775807)], .agg [.lit (.int .i64 (-140737488355328)), .lit (.int .i64 140737488355328)], .agg [.lit (.int .i64 0), .lit (.int .i64 140737488355328)], .agg [.lit (.int .i64 0), .lit (.int .i64 255)], .agg [.lit (.int .i64 0), .lit (.int .i64 1)]]

/-- 'dioramalaw17.OldfileOne': WHATEVER THE INPUT: true; the input reads as it did. -/
def oldfileOneSpec : ChangeSpec := { name := "oldfileOne", fn := fun _ => fun
  | [d1, d2] => { results := [.lit (.bool true)], args := [d1, d2] }
  | _ => none }
def oldfileOneRow : OpenClaim := { program := "ytgoffkfpdigeeaadoor", sum := "5d2a15548b1f4c8dcd63d6519b0443147e667d73fa39699361e234d2a799598b", func := "diorama/dioramalaw17.OldfileOne", spec := "oldfileOne", inPlace := ["internal/abi.NoEscape"], unfollowed := true, recurses := true, named := ["diorama/schema.oldKinds", "diorama/schema.spans"], apart := false, laid := [("diorama/schema.oldKinds", laid_diorama_schema_oldKinds), ("diorama/schema.spans", laid_diorama_schema_spans)] }
def OldfileOneSaid : Prop := oldfileOneRow.holds Tryd.pinned (OpenSpec.ofChange oldfileOneSpec)

/-- ITS FALSE NEIGHBOUR: 'it returns false'. Refute it at one input. -/
def oldfileOneWrong : ChangeSpec := { name := "oldfileOne", fn := fun _ => fun
  | [d1, d2] => { results := [.lit (.bool false)], args := [d1, d2] }
  | _ => none }
def OldfileOneWrongFalsely : Prop := oldfileOneRow.holds Tryd.pinned (OpenSpec.ofChange oldfileOneWrong)

/- THE SECOND FORM. 'bulk': how many values and letters a reading holds, each counted each time it is reached (what is shared counts as often as it is met; a slice's spare places count too). A statement '..UptoSaid' is the law's where the arguments, and the package variables that the reading takes, are together of bulk at most 1048576: NARROWER than '..Said'. Prove '..Said' where nothing that the law and all that it calls make is longer than what came in: it says more and counts as full. Else prove '..UptoSaid'. A law counts once. -/
mutual
def uptoBulk {H : Type} : DataW H → Nat
  | .lit (.string bytes) => bytes.length + 1
  | .lit _ => 1
  | .nil => 1
  | .ptr d => uptoBulk d + 1
  | .slice elems spare => uptoBulkAll elems + uptoBulkAll spare + 1
  | .agg parts => uptoBulkAll parts + 1
  | .iface _ d => uptoBulk d + 1
  | .map entries => uptoBulkEntries entries + 1
  | .held _ => 1
def uptoBulkAll {H : Type} : List (DataW H) → Nat
  | [] => 0
  | d :: r => uptoBulk d + uptoBulkAll r
def uptoBulkEntries {H : Type} : List (Lit × DataW H) → Nat
  | [] => 0
  | x :: r => uptoBulkEntry x + uptoBulkEntries r
def uptoBulkEntry {H : Type} : Lit × DataW H → Nat
  | (.string bytes, d) => bytes.length + uptoBulk d + 1
  | (_, d) => uptoBulk d + 1
 end
def uptoSmall : (H : Type) → List (DataW H) → Bool := fun _ ds => decide (uptoBulkAll ds ≤ 1048576)
def OpenSpec.upto (s : _root_.Go.ChangeSpec) : _root_.Go.OpenSpec := { _root_.Go.OpenSpec.ofChange s with cond := some uptoSmall }

/-- 'dioramalaw17.OldfileOne', WHERE WHAT IT READS IS OF BULK AT MOST 1048576: true; the input reads as it did. -/
def oldfileOneUptoRow : OpenClaim := { program := "ytgoffkfpdigeeaadoor", sum := "5d2a15548b1f4c8dcd63d6519b0443147e667d73fa39699361e234d2a799598b", func := "diorama/dioramalaw17.OldfileOne", spec := "oldfileOne", inPlace := ["internal/abi.NoEscape"], unfollowed := true, recurses := true, named := ["diorama/schema.oldKinds", "diorama/schema.spans"], apart := false, laid := [("diorama/schema.oldKinds", laid_diorama_schema_oldKinds), ("diorama/schema.spans", laid_diorama_schema_spans)], narrowed := true }
def OldfileOneUptoSaid : Prop := oldfileOneUptoRow.holds Tryd.pinned (OpenSpec.upto oldfileOneSpec)

end Rows
end Go.Proofs.YtgoffkfpdigeeaaDoor
