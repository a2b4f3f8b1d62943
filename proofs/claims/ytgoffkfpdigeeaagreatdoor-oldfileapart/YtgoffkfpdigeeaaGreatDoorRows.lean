/-
  NARROWER THAN 'FOR EVERY INPUT', by the rows' own cells (each row's printed sentence says how): OldfileSaves: laid · OldfileGets: laid · OldfileBack: laid · OldfileLimits: laid · OldfileApart: laid.
  DERIVED. THE GIVEN ROWS OF THIS SEAT. 5 by the template 'for every input the law returns true; each argument reads behind the call as it read before'; 0 by the template 'total and deterministic' (their statements: YtgoffkfpdigeeaaGreatDoorTotals.lean).
  GIVEN WITH THE SEED: the statements are not yours to turn. If you find one false, say at which input.
  Laid BY PROGRAM, IN A SANDBOX (cutbox-rows.mjs): the forced cells as the released guide's own fill.sh prints them over the translation 8cd662d3d50e7916… (all of the seat's roots in one cut). By AI agents, Wed Nov 11 2026. No macro, syntax, notation, axiom, sorry.
-/
import Derived.Test.YtgoffkfpdigeeaaGreatDoorChecked
import GoSem.Claim
import GoSem.ClaimJoined
import GoSem.ClaimMapViews
import Derived.JoinedTies
import Derived.KernelRfl
namespace Go.Proofs.YtgoffkfpdigeeaaGreatDoor
/- THE CELL 'sum', in the pinned program and in every row, IS THE sha256 OF THE DUMP (.gsa) THAT YtgoffkfpdigeeaaGreatDoorProg.lean LOADS. Nothing in Lean hashes anything: it is a label: what it is worth is what the hold of that sum in a sandbox is worth. -/
noncomputable def Tryz.pinned : Pinned := { name := "ytgoffkfpdigeeaagreatdoor", sum := "8cd662d3d50e7916b92dca663b04343be15c040177d6939fd47d72d550e0c893", checked := Tryz.checked }
namespace Rows
def none {H : Type} : Left H := { results := [], args := [] }

/- WHAT THE LISTED PACKAGE-LEVEL VARIABLES READ AS WHEN THE CALL BEGINS. Each datum BY PROGRAM (the guide's laid-datum.mjs) off the statement by which the dump's own 'gosem.cut.vars' lays the variable. In a bare row this is a premise. The card (YtgoffkfpdigeeaaGreatDoorCards.lean) ties it to the program's text. -/
def laid_diorama_schema_oldKinds {H : Type} : DataW H := .agg [.agg [.agg [.lit (.int .i64 0), .lit (.int .i64 0), .lit (.int .i64 0), .lit (.int .i64 0)], .lit (.int .i64 0), .lit (.int .i64 0), .lit (.int .i64 0)], .agg [.agg [.lit (.int .i64 0), .lit (.int .i64 0), .lit (.int .i64 0), .lit (.int .i64 0)], .lit (.int .i64 0), .lit (.int .i64 0), .lit (.int .i64 (-1))], .agg [.agg [.lit (.int .i64 2), .lit (.int .i64 2), .lit (.int .i64 2), .lit (.int .i64 2)], .lit (.int .i64 0), .lit (.int .i64 1), .lit (.int .i64 1)], .agg [.agg [.lit (.int .i64 3), .lit (.int .i64 0), .lit (.int .i64 0), .lit (.int .i64 0)], .lit (.int .i64 1), .lit (.int .i64 0), .lit (.int .i64 0)], .agg [.agg [.lit (.int .i64 3), .lit (.int .i64 0), .lit (.int .i64 0), .lit (.int .i64 0)], .lit (.int .i64 1), .lit (.int .i64 0), .lit (.int .i64 0)], .agg [.agg [.lit (.int .i64 0), .lit (.int .i64 0), .lit (.int .i64 0), .lit (.int .i64 0)], .lit (.int .i64 1), .lit (.int .i64 0), .lit (.int .i64 0)], .agg [.agg [.lit (.int .i64 4), .lit (.int .i64 0), .lit (.int .i64 0), .lit (.int .i64 0)], .lit (.int .i64 0), .lit (.int .i64 0), .lit (.int .i64 0)]]
def laid_diorama_schema_spans {H : Type} : DataW H := .agg [.agg [.lit (.int .i64 0), .lit (.int .i64 0)], .agg [.lit (.int .i64 (-9223372036854775808)), .lit (.int .i64 9223372036854775807)], .agg [.lit (.int .i64 (-140737488355328)), .lit (.int .i64 140737488355328)], .agg [.lit (.int .i64 0), .lit (.int .i64 140737488355328)], .agg [.lit (.int .i64 0), .lit (.int .i64 255)], .agg [.lit (.int .i64 0), .lit (.int .i64 1)]]
def laid_diorama_schema_kinds {H : Type} : DataW H := .agg [.agg [.agg [.lit (.int .i64 0), .lit (.int .i64 0), .lit (.int .i64 0), .lit (.int .i64 0)], .lit (.int .i64 0), .lit (.int .i64 0), .lit (.int .i64 0)], .agg [.agg [.lit (.int .i64 0), .lit (.int .i64 0), .lit (.int .i64 0), .lit (.int .i64 0)], .lit (.int .i64 1), .lit (.int .i64 0), .lit (.int .i64 (-1))], .agg [.agg [.lit (.int .i64 2), .lit (.int .i64 2), .lit (.int .i64 2), .lit (.int .i64 0)], .lit (.int .i64 0), .lit (.int .i64 1), .lit (.int .i64 1)], .agg [.agg [.lit (.int .i64 3), .lit (.int .i64 3), .lit (.int .i64 3), .lit (.int .i64 0)], .lit (.int .i64 1), .lit (.int .i64 0), .lit (.int .i64 0)], .agg [.agg [.lit (.int .i64 3), .lit (.int .i64 0), .lit (.int .i64 0), .lit (.int .i64 0)], .lit (.int .i64 1), .lit (.int .i64 0), .lit (.int .i64 0)], .agg [.agg [.lit (.int .i64 3), .lit (.int .i64 0), .lit (.int .i64 0), .lit (.int .i64 0)], .lit (.int .i64 2), .lit (.int .i64 0), .lit (.int .i64 0)], .agg [.agg [.lit (.int .i64 1), .lit (.int .i64 0), .lit (.int .i64 0), .lit (.int .i64 0)], .lit (.int .i64 0), .lit (.int .i64 0), .lit (.int .i64 (-1))], .agg [.agg [.lit (.int .i64 4), .lit (.int .i64 4), .lit (.int .i64 4), .lit (.int .i64 5)], .lit (.int .i64 0), .lit (.int .i64 0), .lit (.int .i64 0)], .agg [.agg [.lit (.int .i64 2), .lit (.int .i64 2), .lit (.int .i64 2), .lit (.int .i64 0)], .lit (.int .i64 0), .lit (.int .i64 1), .lit (.int .i64 1)]]

/-- 'dioramalaw17.OldfileSaves': WHATEVER THE INPUT: true; the input reads as it did. -/
def oldfileSavesSpec : ChangeSpec := { name := "oldfileSaves", fn := fun _ => fun
  | [d1, d2] => { results := [.lit (.bool true)], args := [d1, d2] }
  | _ => none }
def oldfileSavesRow : OpenClaim := { program := "ytgoffkfpdigeeaagreatdoor", sum := "8cd662d3d50e7916b92dca663b04343be15c040177d6939fd47d72d550e0c893", func := "diorama/dioramalaw17.OldfileSaves", spec := "oldfileSaves", inPlace := ["internal/abi.NoEscape"], unfollowed := true, recurses := true, named := ["diorama/schema.oldKinds", "diorama/schema.spans"], apart := false, laid := [("diorama/schema.oldKinds", laid_diorama_schema_oldKinds), ("diorama/schema.spans", laid_diorama_schema_spans)] }
def OldfileSavesSaid : Prop := oldfileSavesRow.holds Tryz.pinned (OpenSpec.ofChange oldfileSavesSpec)

/-- ITS FALSE NEIGHBOUR: 'it returns false'. Refute it at one input. -/
def oldfileSavesWrong : ChangeSpec := { name := "oldfileSaves", fn := fun _ => fun
  | [d1, d2] => { results := [.lit (.bool false)], args := [d1, d2] }
  | _ => none }
def OldfileSavesWrongFalsely : Prop := oldfileSavesRow.holds Tryz.pinned (OpenSpec.ofChange oldfileSavesWrong)

/-- 'dioramalaw17.OldfileGets': WHATEVER THE INPUT: true; the input reads as it did. -/
def oldfileGetsSpec : ChangeSpec := { name := "oldfileGets", fn := fun _ => fun
  | [d1, d2] => { results := [.lit (.bool true)], args := [d1, d2] }
  | _ => none }
def oldfileGetsRow : OpenClaim := { program := "ytgoffkfpdigeeaagreatdoor", sum := "8cd662d3d50e7916b92dca663b04343be15c040177d6939fd47d72d550e0c893", func := "diorama/dioramalaw17.OldfileGets", spec := "oldfileGets", inPlace := ["internal/abi.NoEscape"], unfollowed := true, recurses := true, named := ["diorama/schema.oldKinds", "diorama/schema.spans"], apart := false, laid := [("diorama/schema.oldKinds", laid_diorama_schema_oldKinds), ("diorama/schema.spans", laid_diorama_schema_spans)] }
def OldfileGetsSaid : Prop := oldfileGetsRow.holds Tryz.pinned (OpenSpec.ofChange oldfileGetsSpec)

/-- ITS FALSE NEIGHBOUR: 'it returns false'. Refute it at one input. -/
def oldfileGetsWrong : ChangeSpec := { name := "oldfileGets", fn := fun _ => fun
  | [d1, d2] => { results := [.lit (.bool false)], args := [d1, d2] }
  | _ => none }
def OldfileGetsWrongFalsely : Prop := oldfileGetsRow.holds Tryz.pinned (OpenSpec.ofChange oldfileGetsWrong)

/-- 'dioramalaw17.OldfileBack': WHATEVER THE INPUT: true; the input reads as it did. -/
def oldfileBackSpec : ChangeSpec := { name := "oldfileBack", fn := fun _ => fun
  | [d1, d2] => { results := [.lit (.bool true)], args := [d1, d2] }
  | _ => none }
def oldfileBackRow : OpenClaim := { program := "ytgoffkfpdigeeaagreatdoor", sum := "8cd662d3d50e7916b92dca663b04343be15c040177d6939fd47d72d550e0c893", func := "diorama/dioramalaw17.OldfileBack", spec := "oldfileBack", inPlace := ["internal/abi.NoEscape"], unfollowed := true, recurses := true, named := ["diorama/schema.oldKinds", "diorama/schema.spans"], apart := false, laid := [("diorama/schema.oldKinds", laid_diorama_schema_oldKinds), ("diorama/schema.spans", laid_diorama_schema_spans)] }
def OldfileBackSaid : Prop := oldfileBackRow.holds Tryz.pinned (OpenSpec.ofChange oldfileBackSpec)

/-- ITS FALSE NEIGHBOUR: 'it returns false'. Refute it at one input. -/
def oldfileBackWrong : ChangeSpec := { name := "oldfileBack", fn := fun _ => fun
  | [d1, d2] => { results := [.lit (.bool false)], args := [d1, d2] }
  | _ => none }
def OldfileBackWrongFalsely : Prop := oldfileBackRow.holds Tryz.pinned (OpenSpec.ofChange oldfileBackWrong)

/-- 'dioramalaw17.OldfileLimits': WHATEVER THE INPUT: true; the input reads as it did. -/
def oldfileLimitsSpec : ChangeSpec := { name := "oldfileLimits", fn := fun _ => fun
  | [d] => { results := [.lit (.bool true)], args := [d] }
  | _ => none }
def oldfileLimitsRow : OpenClaim := { program := "ytgoffkfpdigeeaagreatdoor", sum := "8cd662d3d50e7916b92dca663b04343be15c040177d6939fd47d72d550e0c893", func := "diorama/dioramalaw17.OldfileLimits", spec := "oldfileLimits", inPlace := ["internal/abi.NoEscape"], unfollowed := true, recurses := true, named := ["diorama/schema.oldKinds", "diorama/schema.spans"], apart := false, laid := [("diorama/schema.oldKinds", laid_diorama_schema_oldKinds), ("diorama/schema.spans", laid_diorama_schema_spans)] }
def OldfileLimitsSaid : Prop := oldfileLimitsRow.holds Tryz.pinned (OpenSpec.ofChange oldfileLimitsSpec)

/-- ITS FALSE NEIGHBOUR: 'it returns false'. Refute it at one input. -/
def oldfileLimitsWrong : ChangeSpec := { name := "oldfileLimits", fn := fun _ => fun
  | [d] => { results := [.lit (.bool false)], args := [d] }
  | _ => none }
def OldfileLimitsWrongFalsely : Prop := oldfileLimitsRow.holds Tryz.pinned (OpenSpec.ofChange oldfileLimitsWrong)

/-- 'dioramalaw17.OldfileApart': WHATEVER THE INPUT: true; the input reads as it did. -/
def oldfileApartSpec : ChangeSpec := { name := "oldfileApart", fn := fun _ => fun
  | [d1, d2] => { results := [.lit (.bool true)], args := [d1, d2] }
  | _ => none }
def oldfileApartRow : OpenClaim := { program := "ytgoffkfpdigeeaagreatdoor", sum := "8cd662d3d50e7916b92dca663b04343be15c040177d6939fd47d72d550e0c893", func := "diorama/dioramalaw17.OldfileApart", spec := "oldfileApart", inPlace := ["internal/abi.NoEscape"], unfollowed := true, recurses := true, named := ["diorama/schema.oldKinds", "diorama/schema.spans", "diorama/schema.kinds"], apart := false, laid := [("diorama/schema.kinds", laid_diorama_schema_kinds), ("diorama/schema.oldKinds", laid_diorama_schema_oldKinds), ("diorama/schema.spans", laid_diorama_schema_spans)] }
def OldfileApartSaid : Prop := oldfileApartRow.holds Tryz.pinned (OpenSpec.ofChange oldfileApartSpec)

/-- ITS FALSE NEIGHBOUR: 'it returns false'. Refute it at one input. -/
def oldfileApartWrong : ChangeSpec := { name := "oldfileApart", fn := fun _ => fun
  | [d1, d2] => { results := [.lit (.bool false)], args := [d1, d2] }
  | _ => none }
def OldfileApartWrongFalsely : Prop := oldfileApartRow.holds Tryz.pinned (OpenSpec.ofChange oldfileApartWrong)

/- THE SECOND FORM. 'bulk': how many values and letters a reading holds, each counted each time it is reached (what is shared counts as often as it is met; a slice's spare places count too). A statement '..UptoSaid' is the law's where the arguments, and the package variables that the reading takes, are together of bulk at most 1048576: NARROWER than '..Said'. Prove '..Said' where nothing that the law and all that it calls make is longer than what came in: it says more and counts as full. Else prove '..UptoSaid'. A law counts once. -/
mutual
def uptoBulk {H : Type} : DataW H → Nat
  | .lit (.string bytes) => bytes.length + 1
  | .lit _ => 1
  | .nil => 1
  | .ptr d => uptoBulk d + 1
  | .slice elems spare => uptoBulkAll elems + uptoBulkAll spare + 1
  | .agg parts => uptoBulkAll parts + 1
  | .iface _ d => uptoBulk d + 1
  | .map entries => uptoBulkEntries entries + 1
  | .held _ => 1
def uptoBulkAll {H : Type} : List (DataW H) → Nat
  | [] => 0
  | d :: r => uptoBulk d + uptoBulkAll r
def uptoBulkEntries {H : Type} : List (Lit × DataW H) → Nat
  | [] => 0
  | x :: r => uptoBulkEntry x + uptoBulkEntries r
def uptoBulkEntry {H : Type} : Lit × DataW H → Nat
  | (.string bytes, d) => bytes.length + uptoBulk d + 1
  | (_, d) => uptoBulk d + 1
 end
def uptoSmall : (H : Type) → List (DataW H) → Bool := fun _ ds => decide (uptoBulkAll ds ≤ 1048576)
def OpenSpec.upto (s : _root_.Go.ChangeSpec) : _root_.Go.OpenSpec := { _root_.Go.OpenSpec.ofChange s with cond := some uptoSmall }

/-- 'dioramalaw17.OldfileSaves', WHERE WHAT IT READS IS OF BULK AT MOST 1048576: true; the input reads as it did. -/
def oldfileSavesUptoRow : OpenClaim := { program := "ytgoffkfpdigeeaagreatdoor", sum := "8cd662d3d50e7916b92dca663b04343be15c040177d6939fd47d72d550e0c893", func := "diorama/dioramalaw17.OldfileSaves", spec := "oldfileSaves", inPlace := ["internal/abi.NoEscape"], unfollowed := true, recurses := true, named := ["diorama/schema.oldKinds", "diorama/schema.spans"], apart := false, laid := [("diorama/schema.oldKinds", laid_diorama_schema_oldKinds), ("diorama/schema.spans", laid_diorama_schema_spans)], narrowed := true }
def OldfileSavesUptoSaid : Prop := oldfileSavesUptoRow.holds Tryz.pinned (OpenSpec.upto oldfileSavesSpec)

/-- 'dioramalaw17.OldfileGets', WHERE WHAT IT READS IS OF BULK AT MOST 1048576: true; the input reads as it did. -/
def oldfileGetsUptoRow : OpenClaim := { program := "ytgoffkfpdigeeaagreatdoor", sum := "8cd662d3d50e7916b92dca663b04343be15c040177d6939fd47d72d550e0c893", func := "diorama/dioramalaw17.OldfileGets", spec := "oldfileGets", inPlace := ["internal/abi.NoEscape"], unfollowed := true, recurses := true, named := ["diorama/schema.oldKinds", "diorama/schema.spans"], apart := false, laid := [("diorama/schema.oldKinds", laid_diorama_schema_oldKinds), ("diorama/schema.spans", laid_diorama_schema_spans)], narrowed := true }
def OldfileGetsUptoSaid : Prop := oldfileGetsUptoRow.holds Tryz.pinned (OpenSpec.upto oldfileGetsSpec)

/-- 'dioramalaw17.OldfileBack', WHERE WHAT IT READS IS OF BULK AT MOST 1048576: true; the input reads as it did. -/
def oldfileBackUptoRow : OpenClaim := { program := "ytgoffkfpdigeeaagreatdoor", sum := "8cd662d3d50e7916b92dca663b04343be15c040177d6939fd47d72d550e0c893", func := "diorama/dioramalaw17.OldfileBack", spec := "oldfileBack", inPlace := ["internal/abi.NoEscape"], unfollowed := true, recurses := true, named := ["diorama/schema.oldKinds", "diorama/schema.spans"], apart := false, laid := [("diorama/schema.oldKinds", laid_diorama_schema_oldKinds), ("diorama/schema.spans", laid_diorama_schema_spans)], narrowed := true }
def OldfileBackUptoSaid : Prop := oldfileBackUptoRow.holds Tryz.pinned (OpenSpec.upto oldfileBackSpec)

/-- 'dioramalaw17.OldfileLimits', WHERE WHAT IT READS IS OF BULK AT MOST 1048576: true; the input reads as it did. -/
def oldfileLimitsUptoRow : OpenClaim := { program := "ytgoffkfpdigeeaagreatdoor", sum := "8cd662d3d50e7916b92dca663b04343be15c040177d6939fd47d72d550e0c893", func := "diorama/dioramalaw17.OldfileLimits", spec := "oldfileLimits", inPlace := ["internal/abi.NoEscape"], unfollowed := true, recurses := true, named := ["diorama/schema.oldKinds", "diorama/schema.spans"], apart := false, laid := [("diorama/schema.oldKinds", laid_diorama_schema_oldKinds), ("diorama/schema.spans", laid_diorama_schema_spans)], narrowed := true }
def OldfileLimitsUptoSaid : Prop := oldfileLimitsUptoRow.holds Tryz.pinned (OpenSpec.upto oldfileLimitsSpec)

/-- 'dioramalaw17.OldfileApart', WHERE WHAT IT READS IS OF BULK AT MOST 1048576: true; the input reads as it did. -/
def oldfileApartUptoRow : OpenClaim := { program := "ytgoffkfpdigeeaagreatdoor", sum := "8cd662d3d50e7916b92dca663b04343be15c040177d6939fd47d72d550e0c893", func := "diorama/dioramalaw17.OldfileApart", spec := "oldfileApart", inPlace := ["internal/abi.NoEscape"], unfollowed := true, recurses := true, named := ["diorama/schema.oldKinds", "diorama/schema.spans", "diorama/schema.kinds"], apart := false, laid := [("diorama/schema.kinds", laid_diorama_schema_kinds), ("diorama/schema.oldKinds", laid_diorama_schema_oldKinds), ("diorama/schema.spans", laid_diorama_schema_spans)], narrowed := true }
def OldfileApartUptoSaid : Prop := oldfileApartUptoRow.holds Tryz.pinned (OpenSpec.upto oldfileApartSpec)

end Rows
end Go.Proofs.YtgoffkfpdigeeaaGreatDoor
