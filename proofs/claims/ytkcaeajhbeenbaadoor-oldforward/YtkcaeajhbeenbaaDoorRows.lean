/-
  NARROWER THAN 'FOR EVERY INPUT', by the rows' own cells (each row's printed sentence says how): OldValid: laid · OldFlat: laid · OldCanon: laid · OldMeasure: laid · OldForward: laid.
  DERIVED. THE GIVEN ROWS OF THIS SEAT. 5 by the template 'for every input the law returns true; each argument reads behind the call as it read before'; 0 by the template 'total and deterministic' (their statements: YtkcaeajhbeenbaaDoorTotals.lean).
  GIVEN WITH THE SEED: the statements are not yours to turn. If you find one false, say at which input.
  Laid BY PROGRAM, IN A SANDBOX (cutbox-rows.mjs): the forced cells as the released guide's own fill.sh prints them over the translation e3cd04d58225a09e… (all of the seat's roots in one cut). By AI agents, Wed Nov 11 2026. No macro, syntax, notation, axiom, sorry.
-/
import Derived.Test.YtkcaeajhbeenbaaDoorChecked
import GoSem.Claim
import GoSem.ClaimJoined
import GoSem.ClaimMapViews
import Derived.JoinedTies
import Derived.KernelRfl
namespace Go.Proofs.YtkcaeajhbeenbaaDoor
/- THE CELL 'sum', in the pinned program and in every row, IS THE sha256 OF THE DUMP (.gsa) THAT YtkcaeajhbeenbaaDoorProg.lean LOADS. Nothing in Lean hashes anything: it is a label: what it is worth is what the hold of that sum in a sandbox is worth. -/
noncomputable def Tryd.pinned : Pinned := { name := "ytkcaeajhbeenbaadoor", sum := "e3cd04d58225a09e3cc4de0d1eba57004b9a703d6b51198a2a5d81a91c050f5e", checked := Tryd.checked }
namespace Rows
def none {H : Type} : Left H := { results := [], args := [] }

/- WHAT THE LISTED PACKAGE-LEVEL VARIABLES READ AS WHEN THE CALL BEGINS. Each datum BY PROGRAM (the guide's laid-datum.mjs) off the statement by which the dump's own 'gosem.cut.vars' lays the variable. In a bare row this is a premise. The card (YtkcaeajhbeenbaaDoorCards.lean) ties it to the program's text. -/
def laid_diorama_schema_oldKinds {H : Type} : DataW H := .agg [.agg [.agg [.lit (.int .i64 0), .lit (.int .i64 0), .lit (.int .i64 0), .lit (.int .i64 0)], .lit (.int .i64 0), .lit (.int .i64 0), .lit (.int .i64 0)], .agg [.agg [.lit (.int .i64 0), .lit (.int .i64 0), .lit (.int .i64 0), .lit (.int .i64 0)], .lit (.int .i64 0), .lit (.int .i64 0), .lit (.int .i64 (-1))], .agg [.agg [.lit (.int .i64 2), .lit (.int .i64 2), .lit (.int .i64 2), .lit (.int .i64 2)], .lit (.int .i64 0), .lit (.int .i64 1), .lit (.int .i64 1)], .agg [.agg [.lit (.int .i64 3), .lit (.int .i64 0), .lit (.int .i64 0), .lit (.int .i64 0)], .lit (.int .i64 1), .lit (.int .i64 0), .lit (.int .i64 0)], .agg [.agg [.lit (.int .i64 3), .lit (.int .i64 0), .lit (.int .i64 0), .lit (.int .i64 0)], .lit (.int .i64 1), .lit (.int .i64 0), .lit (.int .i64 0)], .agg [.agg [.lit (.int .i64 0), .lit (.int .i64 0), .lit (.int .i64 0), .lit (.int .i64 0)], .lit (.int .i64 1), .lit (.int .i64 0), .lit (.int .i64 0)], .agg [.agg [.lit (.int .i64 4), .lit (.int .i64 0), .lit (.int .i64 0), .lit (.int .i64 0)], .lit (.int .i64 0), .lit (.int .i64 0), .lit (.int .i64 0)]]
def laid_diorama_schema_spans {H : Type} : DataW H := .agg [.agg [.lit (.int .i64 0), .lit (.int .i64 0)], .agg [.lit (.int .i64 (-9223372036854775808)), .lit (.int .i64 9223372036854775807)], .agg [.lit (.int .i64 (-140737488355328)), .lit (.int .i64 140737488355328)], .agg [.lit (.int .i64 0), .lit (.int .i64 140737488355328)], .agg [.lit (.int .i64 0), .lit (.int .i64 255)], .agg [.lit (.int .i64 0), .lit (.int .i64 1)]]

/-- 'dioramalaw16.OldValid': WHATEVER THE INPUT: true; the input reads as it did. -/
def oldValidSpec : ChangeSpec := { name := "oldValid", fn := fun _ => fun
  | [d1, d2] => { results := [.lit (.bool true)], args := [d1, d2] }
  | _ => none }
def oldValidRow : OpenClaim := { program := "ytkcaeajhbeenbaadoor", sum := "e3cd04d58225a09e3cc4de0d1eba57004b9a703d6b51198a2a5d81a91c050f5e", func := "diorama/dioramalaw16.OldValid", spec := "oldValid", unfollowed := true, recurses := true, named := ["diorama/schema.oldKinds", "diorama/schema.spans"], apart := false, laid := [("diorama/schema.oldKinds", laid_diorama_schema_oldKinds), ("diorama/schema.spans", laid_diorama_schema_spans)] }
def OldValidSaid : Prop := oldValidRow.holds Tryd.pinned (OpenSpec.ofChange oldValidSpec)

/-- ITS FALSE NEIGHBOUR: 'it returns false'. Refute it at one input. -/
def oldValidWrong : ChangeSpec := { name := "oldValid", fn := fun _ => fun
  | [d1, d2] => { results := [.lit (.bool false)], args := [d1, d2] }
  | _ => none }
def OldValidWrongFalsely : Prop := oldValidRow.holds Tryd.pinned (OpenSpec.ofChange oldValidWrong)

/-- 'dioramalaw16.OldFlat': WHATEVER THE INPUT: true; the input reads as it did. -/
def oldFlatSpec : ChangeSpec := { name := "oldFlat", fn := fun _ => fun
  | [d] => { results := [.lit (.bool true)], args := [d] }
  | _ => none }
def oldFlatRow : OpenClaim := { program := "ytkcaeajhbeenbaadoor", sum := "e3cd04d58225a09e3cc4de0d1eba57004b9a703d6b51198a2a5d81a91c050f5e", func := "diorama/dioramalaw16.OldFlat", spec := "oldFlat", unfollowed := true, recurses := true, named := ["diorama/schema.oldKinds", "diorama/schema.spans"], apart := false, laid := [("diorama/schema.oldKinds", laid_diorama_schema_oldKinds), ("diorama/schema.spans", laid_diorama_schema_spans)] }
def OldFlatSaid : Prop := oldFlatRow.holds Tryd.pinned (OpenSpec.ofChange oldFlatSpec)

/-- ITS FALSE NEIGHBOUR: 'it returns false'. Refute it at one input. -/
def oldFlatWrong : ChangeSpec := { name := "oldFlat", fn := fun _ => fun
  | [d] => { results := [.lit (.bool false)], args := [d] }
  | _ => none }
def OldFlatWrongFalsely : Prop := oldFlatRow.holds Tryd.pinned (OpenSpec.ofChange oldFlatWrong)

/-- 'dioramalaw16.OldCanon': WHATEVER THE INPUT: true; the input reads as it did. -/
def oldCanonSpec : ChangeSpec := { name := "oldCanon", fn := fun _ => fun
  | [d] => { results := [.lit (.bool true)], args := [d] }
  | _ => none }
def oldCanonRow : OpenClaim := { program := "ytkcaeajhbeenbaadoor", sum := "e3cd04d58225a09e3cc4de0d1eba57004b9a703d6b51198a2a5d81a91c050f5e", func := "diorama/dioramalaw16.OldCanon", spec := "oldCanon", unfollowed := true, recurses := true, named := ["diorama/schema.oldKinds", "diorama/schema.spans"], apart := false, laid := [("diorama/schema.oldKinds", laid_diorama_schema_oldKinds), ("diorama/schema.spans", laid_diorama_schema_spans)] }
def OldCanonSaid : Prop := oldCanonRow.holds Tryd.pinned (OpenSpec.ofChange oldCanonSpec)

/-- ITS FALSE NEIGHBOUR: 'it returns false'. Refute it at one input. -/
def oldCanonWrong : ChangeSpec := { name := "oldCanon", fn := fun _ => fun
  | [d] => { results := [.lit (.bool false)], args := [d] }
  | _ => none }
def OldCanonWrongFalsely : Prop := oldCanonRow.holds Tryd.pinned (OpenSpec.ofChange oldCanonWrong)

/-- 'dioramalaw16.OldMeasure': WHATEVER THE INPUT: true; the input reads as it did. -/
def oldMeasureSpec : ChangeSpec := { name := "oldMeasure", fn := fun _ => fun
  | [d1, d2] => { results := [.lit (.bool true)], args := [d1, d2] }
  | _ => none }
def oldMeasureRow : OpenClaim := { program := "ytkcaeajhbeenbaadoor", sum := "e3cd04d58225a09e3cc4de0d1eba57004b9a703d6b51198a2a5d81a91c050f5e", func := "diorama/dioramalaw16.OldMeasure", spec := "oldMeasure", unfollowed := true, recurses := true, named := ["diorama/schema.oldKinds", "diorama/schema.spans"], apart := false, laid := [("diorama/schema.oldKinds", laid_diorama_schema_oldKinds), ("diorama/schema.spans", laid_diorama_schema_spans)] }
def OldMeasureSaid : Prop := oldMeasureRow.holds Tryd.pinned (OpenSpec.ofChange oldMeasureSpec)

/-- ITS FALSE NEIGHBOUR: 'it returns false'. Refute it at one input. -/
def oldMeasureWrong : ChangeSpec := { name := "oldMeasure", fn := fun _ => fun
  | [d1, d2] => { results := [.lit (.bool false)], args := [d1, d2] }
  | _ => none }
def OldMeasureWrongFalsely : Prop := oldMeasureRow.holds Tryd.pinned (OpenSpec.ofChange oldMeasureWrong)

/-- 'dioramalaw16.OldForward': WHATEVER THE INPUT: true; the input reads as it did. -/
def oldForwardSpec : ChangeSpec := { name := "oldForward", fn := fun _ => fun
  | [d] => { results := [.lit (.bool true)], args := [d] }
  | _ => none }
def oldForwardRow : OpenClaim := { program := "ytkcaeajhbeenbaadoor", sum := "e3cd04d58225a09e3cc4de0d1eba57004b9a703d6b51198a2a5d81a91c050f5e", func := "diorama/dioramalaw16.OldForward", spec := "oldForward", unfollowed := true, recurses := true, named := ["diorama/schema.oldKinds", "diorama/schema.spans"], apart := false, laid := [("diorama/schema.oldKinds", laid_diorama_schema_oldKinds), ("diorama/schema.spans", laid_diorama_schema_spans)] }
def OldForwardSaid : Prop := oldForwardRow.holds Tryd.pinned (OpenSpec.ofChange oldForwardSpec)

/-- ITS FALSE NEIGHBOUR: 'it returns false'. Refute it at one input. -/
def oldForwardWrong : ChangeSpec := { name := "oldForward", fn := fun _ => fun
  | [d] => { results := [.lit (.bool false)], args := [d] }
  | _ => none }
def OldForwardWrongFalsely : Prop := oldForwardRow.holds Tryd.pinned (OpenSpec.ofChange oldForwardWrong)

/- THE SECOND FORM. 'bulk': how many values and letters a reading holds, each counted each time it is reached (what is shared counts as often as it is met; a slice's spare places count too). A statement '..UptoSaid' is the law's where the arguments, and the package variables that the reading takes, are together of bulk at most 1048576: NARROWER than '..Said'. Prove '..Said' where nothing that the law and all that it calls make is longer than what came in: it says more and counts as full. Else prove '..UptoSaid'. A law counts once. -/
mutual
def uptoBulk {H : Type} : DataW H → Nat
  | .lit (.string bytes) => bytes.length + 1
  | .lit _ => 1
  | .nil => 1
  | .ptr d => uptoBulk d + 1
  | .slice elems spare => uptoBulkAll elems + uptoBulkAll spare + 1
  | .agg parts => uptoBulkAll parts + 1
  | .iface _ d => uptoBulk d + 1
  | .map entries => uptoBulkEntries entries + 1
  | .held _ => 1
def uptoBulkAll {H : Type} : List (DataW H) → Nat
  | [] => 0
  | d :: r => uptoBulk d + uptoBulkAll r
def uptoBulkEntries {H : Type} : List (Lit × DataW H) → Nat
  | [] => 0
  | x :: r => uptoBulkEntry x + uptoBulkEntries r
def uptoBulkEntry {H : Type} : Lit × DataW H → Nat
  | (.string bytes, d) => bytes.length + uptoBulk d + 1
  | (_, d) => uptoBulk d + 1
 end
def uptoSmall : (H : Type) → List (DataW H) → Bool := fun _ ds => decide (uptoBulkAll ds ≤ 1048576)
def OpenSpec.upto (s : _root_.Go.ChangeSpec) : _root_.Go.OpenSpec := { _root_.Go.OpenSpec.ofChange s with cond := some uptoSmall }

/-- 'dioramalaw16.OldValid', WHERE WHAT IT READS IS OF BULK AT MOST 1048576: true; the input reads as it did. -/
def oldValidUptoRow : OpenClaim := { program := "ytkcaeajhbeenbaadoor", sum := "e3cd04d58225a09e3cc4de0d1eba57004b9a703d6b51198a2a5d81a91c050f5e", func := "diorama/dioramalaw16.OldValid", spec := "oldValid", unfollowed := true, recurses := true, named := ["diorama/schema.oldKinds", "diorama/schema.spans"], apart := false, laid := [("diorama/schema.oldKinds", laid_diorama_schema_oldKinds), ("diorama/schema.spans", laid_diorama_schema_spans)], narrowed := true }
def OldValidUptoSaid : Prop := oldValidUptoRow.holds Tryd.pinned (OpenSpec.upto oldValidSpec)

/-- 'dioramalaw16.OldFlat', WHERE WHAT IT READS IS OF BULK AT MOST 1048576: true; the input reads as it did. -/
def oldFlatUptoRow : OpenClaim := { program := "ytkcaeajhbeenbaadoor", sum := "e3cd04d58225a09e3cc4de0d1eba57004b9a703d6b51198a2a5d81a91c050f5e", func := "diorama/dioramalaw16.OldFlat", spec := "oldFlat", unfollowed := true, recurses := true, named := ["diorama/schema.oldKinds", "diorama/schema.spans"], apart := false, laid := [("diorama/schema.oldKinds", laid_diorama_schema_oldKinds), ("diorama/schema.spans", laid_diorama_schema_spans)], narrowed := true }
def OldFlatUptoSaid : Prop := oldFlatUptoRow.holds Tryd.pinned (OpenSpec.upto oldFlatSpec)

/-- 'dioramalaw16.OldCanon', WHERE WHAT IT READS IS OF BULK AT MOST 1048576: true; the input reads as it did. -/
def oldCanonUptoRow : OpenClaim := { program := "ytkcaeajhbeenbaadoor", sum := "e3cd04d58225a09e3cc4de0d1eba57004b9a703d6b51198a2a5d81a91c050f5e", func := "diorama/dioramalaw16.OldCanon", spec := "oldCanon", unfollowed := true, recurses := true, named := ["diorama/schema.oldKinds", "diorama/schema.spans"], apart := false, laid := [("diorama/schema.oldKinds", laid_diorama_schema_oldKinds), ("diorama/schema.spans", laid_diorama_schema_spans)], narrowed := true }
def OldCanonUptoSaid : Prop := oldCanonUptoRow.holds Tryd.pinned (OpenSpec.upto oldCanonSpec)

/-- 'dioramalaw16.OldMeasure', WHERE WHAT IT READS IS OF BULK AT MOST 1048576: true; the input reads as it did. -/
def oldMeasureUptoRow : OpenClaim := { program := "ytkcaeajhbeenbaadoor", sum := "e3cd04d58225a09e3cc4de0d1eba57004b9a703d6b51198a2a5d81a91c050f5e", func := "diorama/dioramalaw16.OldMeasure", spec := "oldMeasure", unfollowed := true, recurses := true, named := ["diorama/schema.oldKinds", "diorama/schema.spans"], apart := false, laid := [("diorama/schema.oldKinds", laid_diorama_schema_oldKinds), ("diorama/schema.spans", laid_diorama_schema_spans)], narrowed := true }
def OldMeasureUptoSaid : Prop := oldMeasureUptoRow.holds Tryd.pinned (OpenSpec.upto oldMeasureSpec)

/-- 'dioramalaw16.OldForward', WHERE WHAT IT READS IS OF BULK AT MOST 1048576: true; the input reads as it did. -/
def oldForwardUptoRow : OpenClaim := { program := "ytkcaeajhbeenbaadoor", sum := "e3cd04d58225a09e3cc4de0d1eba57004b9a703d6b51198a2a5d81a91c050f5e", func := "diorama/dioramalaw16.OldForward", spec := "oldForward", unfollowed := true, recurses := true, named := ["diorama/schema.oldKinds", "diorama/schema.spans"], apart := false, laid := [("diorama/schema.oldKinds", laid_diorama_schema_oldKinds), ("diorama/schema.spans", laid_diorama_schema_spans)], narrowed := true }
def OldForwardUptoSaid : Prop := oldForwardUptoRow.holds Tryd.pinned (OpenSpec.upto oldForwardSpec)

end Rows
end Go.Proofs.YtkcaeajhbeenbaaDoor
