/-
  NARROWER THAN 'FOR EVERY INPUT', by the rows' own cells (each row's printed sentence says how): FileSaves: laid · FileLoads: laid · FileBack: laid · FileOne: laid · FileTurned: laid · FileBurst: laid · FileLimits: laid.
  DERIVED. THE GIVEN ROWS OF THIS SEAT. 7 by the template 'for every input the law returns true; each argument reads behind the call as it read before'; 0 by the template 'total and deterministic' (their statements: YtcgjgjjegnofeaaGreatDoorTotals.lean).
  GIVEN WITH THE SEED: the statements are not yours to turn. If you find one false, say at which input.
  Laid BY PROGRAM, IN A SANDBOX (cutbox-rows.mjs): the forced cells as the released guide's own fill.sh prints them over the translation a6c64ca512dfadc7… (all of the seat's roots in one cut). By AI agents, Wed Nov 11 2026. No macro, syntax, notation, axiom, sorry.
-/
import Derived.Test.YtcgjgjjegnofeaaGreatDoorChecked
import GoSem.Claim
import GoSem.ClaimJoined
import GoSem.ClaimMapViews
import Derived.JoinedTies
import Derived.KernelRfl
namespace Go.Proofs.YtcgjgjjegnofeaaGreatDoor
/- THE CELL 'sum', in the pinned program and in every row, IS THE sha256 OF THE DUMP (.gsa) THAT YtcgjgjjegnofeaaGreatDoorProg.lean LOADS. Nothing in Lean hashes anything: it is a label: what it is worth is what the hold of that sum in a sandbox is worth. -/
noncomputable def Tryz.pinned : Pinned := { name := "ytcgjgjjegnofeaagreatdoor", sum := "a6c64ca512dfadc7133dafbed31c33e5230d50a67f5dda18e3051194f66e882b", checked := Tryz.checked }
namespace Rows
def none {H : Type} : Left H := { results := [], args := [] }

/- WHAT THE LISTED PACKAGE-LEVEL VARIABLES READ AS WHEN THE CALL BEGINS. Each datum BY PROGRAM (the guide's laid-datum.mjs) off the statement by which the dump's own 'gosem.cut.vars' lays the variable. In a bare row this is a premise. The card (YtcgjgjjegnofeaaGreatDoorCards.lean) ties it to the program's text. -/
def laid_diorama_schema_kinds {H : Type} : DataW H := .agg [.agg [.agg [.lit (.int .i64 0), .lit (.int .i64 0), .lit (.int .i64 0), .lit (.int .i64 0)], .lit (.int .i64 0), .lit (.int .i64 0), .lit (.int .i64 0)], .agg [.agg [.lit (.int .i64 0), .lit (.int .i64 0), .lit (.int .i64 0), .lit (.int .i64 0)], .lit (.int .i64 1), .lit (.int .i64 0), .lit (.int .i64 (-1))], .agg [.agg [.lit (.int .i64 2), .lit (.int .i64 2), .lit (.int .i64 2), .lit (.int .i64 0)], .lit (.int .i64 0), .lit (.int .i64 1), .lit (.int .i64 1)], .agg [.agg [.lit (.int .i64 3), .lit (.int .i64 3), .lit (.int .i64 3), .lit (.int .i64 0)], .lit (.int .i64 1), .lit (.int .i64 0), .lit (.int .i64 0)], .agg [.agg [.lit (.int .i64 3), .lit (.int .i64 0), .lit (.int .i64 0), .lit (.int .i64 0)], .lit (.int .i64 1), .lit (.int .i64 0), .lit (.int .i64 0)], .agg [.agg [.lit (.int .i64 3), .lit (.int .i64 0), .lit (.int .i64 0), .lit (.int .i64 0)], .lit (.int .i64 2), .lit (.int .i64 0), .lit (.int .i64 0)], .agg [.agg [.lit (.int .i64 1), .lit (.int .i64 0), .lit (.int .i64 0), .lit (.int .i64 0)], .lit (.int .i64 0), .lit (.int .i64 0), .lit (.int .i64 (-1))], .agg [.agg [.lit (.int .i64 4), .lit (.int .i64 4), .lit (.int .i64 4), .lit (.int .i64 5)], .lit (.int .i64 0), .lit (.int .i64 0), .lit (.int .i64 0)], .agg [.agg [.lit (.int .i64 2), .lit (.int .i64 2), .lit (.int .i64 2), .lit (.int .i64 0)], .lit (.int .i64 0), .lit (.int .i64 1), .lit (.int .i64 1)]]
def laid_diorama_schema_spans {H : Type} : DataW H := .agg [.agg [.lit (.int .i64 0), .lit (.int .i64 0)], .agg [.lit (.int .i64 (-9223372036854775808)), .lit (.int .i64 9223372036854775807)], .agg [.lit (.int .i64 (-140737488355328)), .lit (.int .i64 140737488355328)], .agg [.lit (.int .i64 0), .lit (.int .i64 140737488355328)], .agg [.lit (.int .i64 0), .lit (.int .i64 255)], .agg [.lit (.int .i64 0), .lit (.int .i64 1)]]

/-- 'dioramalaw15.FileSaves': WHATEVER THE INPUT: true; the input reads as it did. -/
def fileSavesSpec : ChangeSpec := { name := "fileSaves", fn := fun _ => fun
  | [d1, d2] => { results := [.lit (.bool true)], args := [d1, d2] }
  | _ => none }
def fileSavesRow : OpenClaim := { program := "ytcgjgjjegnofeaagreatdoor", sum := "a6c64ca512dfadc7133dafbed31c33e5230d50a67f5dda18e3051194f66e882b", func := "diorama/dioramalaw15.FileSaves", spec := "fileSaves", inPlace := ["internal/abi.NoEscape"], unfollowed := true, recurses := true, named := ["diorama/schema.kinds", "diorama/schema.spans"], apart := false, laid := [("diorama/schema.kinds", laid_diorama_schema_kinds), ("diorama/schema.spans", laid_diorama_schema_spans)] }
def FileSavesSaid : Prop := fileSavesRow.holds Tryz.pinned (OpenSpec.ofChange fileSavesSpec)

/-- ITS FALSE NEIGHBOUR: 'it returns false'. Refute it at one input. -/
def fileSavesWrong : ChangeSpec := { name := "fileSaves", fn := fun _ => fun
  | [d1, d2] => { results := [.lit (.bool false)], args := [d1, d2] }
  | _ => none }
def FileSavesWrongFalsely : Prop := fileSavesRow.holds Tryz.pinned (OpenSpec.ofChange fileSavesWrong)

/-- 'dioramalaw15.FileLoads': WHATEVER THE INPUT: true; the input reads as it did. -/
def fileLoadsSpec : ChangeSpec := { name := "fileLoads", fn := fun _ => fun
  | [d1, d2] => { results := [.lit (.bool true)], args := [d1, d2] }
  | _ => none }
def fileLoadsRow : OpenClaim := { program := "ytcgjgjjegnofeaagreatdoor", sum := "a6c64ca512dfadc7133dafbed31c33e5230d50a67f5dda18e3051194f66e882b", func := "diorama/dioramalaw15.FileLoads", spec := "fileLoads", inPlace := ["internal/abi.NoEscape"], unfollowed := true, recurses := true, named := ["diorama/schema.kinds", "diorama/schema.spans"], apart := false, laid := [("diorama/schema.kinds", laid_diorama_schema_kinds), ("diorama/schema.spans", laid_diorama_schema_spans)] }
def FileLoadsSaid : Prop := fileLoadsRow.holds Tryz.pinned (OpenSpec.ofChange fileLoadsSpec)

/-- ITS FALSE NEIGHBOUR: 'it returns false'. Refute it at one input. -/
def fileLoadsWrong : ChangeSpec := { name := "fileLoads", fn := fun _ => fun
  | [d1, d2] => { results := [.lit (.bool false)], args := [d1, d2] }
  | _ => none }
def FileLoadsWrongFalsely : Prop := fileLoadsRow.holds Tryz.pinned (OpenSpec.ofChange fileLoadsWrong)

/-- 'dioramalaw15.FileBack': WHATEVER THE INPUT: true; the input reads as it did. -/
def fileBackSpec : ChangeSpec := { name := "fileBack", fn := fun _ => fun
  | [d1, d2] => { results := [.lit (.bool true)], args := [d1, d2] }
  | _ => none }
def fileBackRow : OpenClaim := { program := "ytcgjgjjegnofeaagreatdoor", sum := "a6c64ca512dfadc7133dafbed31c33e5230d50a67f5dda18e3051194f66e882b", func := "diorama/dioramalaw15.FileBack", spec := "fileBack", inPlace := ["internal/abi.NoEscape"], unfollowed := true, recurses := true, named := ["diorama/schema.kinds", "diorama/schema.spans"], apart := false, laid := [("diorama/schema.kinds", laid_diorama_schema_kinds), ("diorama/schema.spans", laid_diorama_schema_spans)] }
def FileBackSaid : Prop := fileBackRow.holds Tryz.pinned (OpenSpec.ofChange fileBackSpec)

/-- ITS FALSE NEIGHBOUR: 'it returns false'. Refute it at one input. -/
def fileBackWrong : ChangeSpec := { name := "fileBack", fn := fun _ => fun
  | [d1, d2] => { results := [.lit (.bool false)], args := [d1, d2] }
  | _ => none }
def FileBackWrongFalsely : Prop := fileBackRow.holds Tryz.pinned (OpenSpec.ofChange fileBackWrong)

/-- 'dioramalaw15.FileOne': WHATEVER THE INPUT: true; the input reads as it did. -/
def fileOneSpec : ChangeSpec := { name := "fileOne", fn := fun _ => fun
  | [d1, d2] => { results := [.lit (.bool true)], args := [d1, d2] }
  | _ => none }
def fileOneRow : OpenClaim := { program := "ytcgjgjjegnofeaagreatdoor", sum := "a6c64ca512dfadc7133dafbed31c33e5230d50a67f5dda18e3051194f66e882b", func := "diorama/dioramalaw15.FileOne", spec := "fileOne", inPlace := ["internal/abi.NoEscape"], unfollowed := true, recurses := true, named := ["diorama/schema.kinds", "diorama/schema.spans"], apart := false, laid := [("diorama/schema.kinds", laid_diorama_schema_kinds), ("diorama/schema.spans", laid_diorama_schema_spans)] }
def FileOneSaid : Prop := fileOneRow.holds Tryz.pinned (OpenSpec.ofChange fileOneSpec)

/-- ITS FALSE NEIGHBOUR: 'it returns false'. Refute it at one input. -/
def fileOneWrong : ChangeSpec := { name := "fileOne", fn := fun _ => fun
  | [d1, d2] => { results := [.lit (.bool false)], args := [d1, d2] }
  | _ => none }
def FileOneWrongFalsely : Prop := fileOneRow.holds Tryz.pinned (OpenSpec.ofChange fileOneWrong)

/-- 'dioramalaw15.FileTurned': WHATEVER THE INPUT: true; the input reads as it did. -/
def fileTurnedSpec : ChangeSpec := { name := "fileTurned", fn := fun _ => fun
  | [d] => { results := [.lit (.bool true)], args := [d] }
  | _ => none }
def fileTurnedRow : OpenClaim := { program := "ytcgjgjjegnofeaagreatdoor", sum := "a6c64ca512dfadc7133dafbed31c33e5230d50a67f5dda18e3051194f66e882b", func := "diorama/dioramalaw15.FileTurned", spec := "fileTurned", inPlace := ["internal/abi.NoEscape"], unfollowed := true, recurses := true, named := ["diorama/schema.kinds", "diorama/schema.spans"], apart := false, laid := [("diorama/schema.kinds", laid_diorama_schema_kinds), ("diorama/schema.spans", laid_diorama_schema_spans)] }
def FileTurnedSaid : Prop := fileTurnedRow.holds Tryz.pinned (OpenSpec.ofChange fileTurnedSpec)

/-- ITS FALSE NEIGHBOUR: 'it returns false'. Refute it at one input. -/
def fileTurnedWrong : ChangeSpec := { name := "fileTurned", fn := fun _ => fun
  | [d] => { results := [.lit (.bool false)], args := [d] }
  | _ => none }
def FileTurnedWrongFalsely : Prop := fileTurnedRow.holds Tryz.pinned (OpenSpec.ofChange fileTurnedWrong)

/-- 'dioramalaw15.FileBurst': WHATEVER THE INPUT: true; the input reads as it did. -/
def fileBurstSpec : ChangeSpec := { name := "fileBurst", fn := fun _ => fun
  | [d1, d2, d3] => { results := [.lit (.bool true)], args := [d1, d2, d3] }
  | _ => none }
def fileBurstRow : OpenClaim := { program := "ytcgjgjjegnofeaagreatdoor", sum := "a6c64ca512dfadc7133dafbed31c33e5230d50a67f5dda18e3051194f66e882b", func := "diorama/dioramalaw15.FileBurst", spec := "fileBurst", inPlace := ["internal/abi.NoEscape"], unfollowed := true, recurses := true, named := ["diorama/schema.kinds", "diorama/schema.spans"], apart := false, laid := [("diorama/schema.kinds", laid_diorama_schema_kinds), ("diorama/schema.spans", laid_diorama_schema_spans)] }
def FileBurstSaid : Prop := fileBurstRow.holds Tryz.pinned (OpenSpec.ofChange fileBurstSpec)

/-- ITS FALSE NEIGHBOUR: 'it returns false'. Refute it at one input. -/
def fileBurstWrong : ChangeSpec := { name := "fileBurst", fn := fun _ => fun
  | [d1, d2, d3] => { results := [.lit (.bool false)], args := [d1, d2, d3] }
  | _ => none }
def FileBurstWrongFalsely : Prop := fileBurstRow.holds Tryz.pinned (OpenSpec.ofChange fileBurstWrong)

/-- 'dioramalaw15.FileLimits': WHATEVER THE INPUT: true; the input reads as it did. -/
def fileLimitsSpec : ChangeSpec := { name := "fileLimits", fn := fun _ => fun
  | [d] => { results := [.lit (.bool true)], args := [d] }
  | _ => none }
def fileLimitsRow : OpenClaim := { program := "ytcgjgjjegnofeaagreatdoor", sum := "a6c64ca512dfadc7133dafbed31c33e5230d50a67f5dda18e3051194f66e882b", func := "diorama/dioramalaw15.FileLimits", spec := "fileLimits", inPlace := ["internal/abi.NoEscape"], unfollowed := true, recurses := true, named := ["diorama/schema.kinds", "diorama/schema.spans"], apart := false, laid := [("diorama/schema.kinds", laid_diorama_schema_kinds), ("diorama/schema.spans", laid_diorama_schema_spans)] }
def FileLimitsSaid : Prop := fileLimitsRow.holds Tryz.pinned (OpenSpec.ofChange fileLimitsSpec)

/-- ITS FALSE NEIGHBOUR: 'it returns false'. Refute it at one input. -/
def fileLimitsWrong : ChangeSpec := { name := "fileLimits", fn := fun _ => fun
  | [d] => { results := [.lit (.bool false)], args := [d] }
  | _ => none }
def FileLimitsWrongFalsely : Prop := fileLimitsRow.holds Tryz.pinned (OpenSpec.ofChange fileLimitsWrong)

/- THE SECOND FORM. 'bulk': how many values and letters a reading holds, each counted each time it is reached (what is shared counts as often as it is met; a slice's spare places count too). A statement '..UptoSaid' is the law's where the arguments, and the package variables that the reading takes, are together of bulk at most 1048576: NARROWER than '..Said'. Prove '..Said' where nothing that the law and all that it calls make is longer than what came in: it says more and counts as full. Else prove '..UptoSaid'. A law counts once. -/
mutual
def uptoBulk {H : Type} : DataW H → Nat
  | .lit (.string bytes) => bytes.length + 1
  | .lit _ => 1
  | .nil => 1
  | .ptr d => uptoBulk d + 1
  | .slice elems spare => uptoBulkAll elems + uptoBulkAll spare + 1
  | .agg parts => uptoBulkAll parts + 1
  | .iface _ d => uptoBulk d + 1
  | .map entries => uptoBulkEntries entries + 1
  | .held _ => 1
def uptoBulkAll {H : Type} : List (DataW H) → Nat
  | [] => 0
  | d :: r => uptoBulk d + uptoBulkAll r
def uptoBulkEntries {H : Type} : List (Lit × DataW H) → Nat
  | [] => 0
  | x :: r => uptoBulkEntry x + uptoBulkEntries r
def uptoBulkEntry {H : Type} : Lit × DataW H → Nat
  | (.string bytes, d) => bytes.length + uptoBulk d + 1
  | (_, d) => uptoBulk d + 1
 end
def uptoSmall : (H : Type) → List (DataW H) → Bool := fun _ ds => decide (uptoBulkAll ds ≤ 1048576)
def OpenSpec.upto (s : _root_.Go.ChangeSpec) : _root_.Go.OpenSpec := { _root_.Go.OpenSpec.ofChange s with cond := some uptoSmall }

/-- 'dioramalaw15.FileSaves', WHERE WHAT IT READS IS OF BULK AT MOST 1048576: true; the input reads as it did. -/
def fileSavesUptoRow : OpenClaim := { program := "ytcgjgjjegnofeaagreatdoor", sum := "a6c64ca512dfadc7133dafbed31c33e5230d50a67f5dda18e3051194f66e882b", func := "diorama/dioramalaw15.FileSaves", spec := "fileSaves", inPlace := ["internal/abi.NoEscape"], unfollowed := true, recurses := true, named := ["diorama/schema.kinds", "diorama/schema.spans"], apart := false, laid := [("diorama/schema.kinds", laid_diorama_schema_kinds), ("diorama/schema.spans", laid_diorama_schema_spans)], narrowed := true }
def FileSavesUptoSaid : Prop := fileSavesUptoRow.holds Tryz.pinned (OpenSpec.upto fileSavesSpec)

/-- 'dioramalaw15.FileLoads', WHERE WHAT IT READS IS OF BULK AT MOST 1048576: true; the input reads as it did. -/
def fileLoadsUptoRow : OpenClaim := { program := "ytcgjgjjegnofeaagreatdoor", sum := "a6c64ca512dfadc7133dafbed31c33e5230d50a67f5dda18e3051194f66e882b", func := "diorama/dioramalaw15.FileLoads", spec := "fileLoads", inPlace := ["internal/abi.NoEscape"], unfollowed := true, recurses := true, named := ["diorama/schema.kinds", "diorama/schema.spans"], apart := false, laid := [("diorama/schema.kinds", laid_diorama_schema_kinds), ("diorama/schema.spans", laid_diorama_schema_spans)], narrowed := true }
def FileLoadsUptoSaid : Prop := fileLoadsUptoRow.holds Tryz.pinned (OpenSpec.upto fileLoadsSpec)

/-- 'dioramalaw15.FileBack', WHERE WHAT IT READS IS OF BULK AT MOST 1048576: true; the input reads as it did. -/
def fileBackUptoRow : OpenClaim := { program := "ytcgjgjjegnofeaagreatdoor", sum := "a6c64ca512dfadc7133dafbed31c33e5230d50a67f5dda18e3051194f66e882b", func := "diorama/dioramalaw15.FileBack", spec := "fileBack", inPlace := ["internal/abi.NoEscape"], unfollowed := true, recurses := true, named := ["diorama/schema.kinds", "diorama/schema.spans"], apart := false, laid := [("diorama/schema.kinds", laid_diorama_schema_kinds), ("diorama/schema.spans", laid_diorama_schema_spans)], narrowed := true }
def FileBackUptoSaid : Prop := fileBackUptoRow.holds Tryz.pinned (OpenSpec.upto fileBackSpec)

/-- 'dioramalaw15.FileOne', WHERE WHAT IT READS IS OF BULK AT MOST 1048576: true; the input reads as it did. -/
def fileOneUptoRow : OpenClaim := { program := "ytcgjgjjegnofeaagreatdoor", sum := "a6c64ca512dfadc7133dafbed31c33e5230d50a67f5dda18e3051194f66e882b", func := "diorama/dioramalaw15.FileOne", spec := "fileOne", inPlace := ["internal/abi.NoEscape"], unfollowed := true, recurses := true, named := ["diorama/schema.kinds", "diorama/schema.spans"], apart := false, laid := [("diorama/schema.kinds", laid_diorama_schema_kinds), ("diorama/schema.spans", laid_diorama_schema_spans)], narrowed := true }
def FileOneUptoSaid : Prop := fileOneUptoRow.holds Tryz.pinned (OpenSpec.upto fileOneSpec)

/-- 'dioramalaw15.FileTurned', WHERE WHAT IT READS IS OF BULK AT MOST 1048576: true; the input reads as it did. -/
def fileTurnedUptoRow : OpenClaim := { program := "ytcgjgjjegnofeaagreatdoor", sum := "a6c64ca512dfadc7133dafbed31c33e5230d50a67f5dda18e3051194f66e882b", func := "diorama/dioramalaw15.FileTurned", spec := "fileTurned", inPlace := ["internal/abi.NoEscape"], unfollowed := true, recurses := true, named := ["diorama/schema.kinds", "diorama/schema.spans"], apart := false, laid := [("diorama/schema.kinds", laid_diorama_schema_kinds), ("diorama/schema.spans", laid_diorama_schema_spans)], narrowed := true }
def FileTurnedUptoSaid : Prop := fileTurnedUptoRow.holds Tryz.pinned (OpenSpec.upto fileTurnedSpec)

/-- 'dioramalaw15.FileBurst', WHERE WHAT IT READS IS OF BULK AT MOST 1048576: true; the input reads as it did. -/
def fileBurstUptoRow : OpenClaim := { program := "ytcgjgjjegnofeaagreatdoor", sum := "a6c64ca512dfadc7133dafbed31c33e5230d50a67f5dda18e3051194f66e882b", func := "diorama/dioramalaw15.FileBurst", spec := "fileBurst", inPlace := ["internal/abi.NoEscape"], unfollowed := true, recurses := true, named := ["diorama/schema.kinds", "diorama/schema.spans"], apart := false, laid := [("diorama/schema.kinds", laid_diorama_schema_kinds), ("diorama/schema.spans", laid_diorama_schema_spans)], narrowed := true }
def FileBurstUptoSaid : Prop := fileBurstUptoRow.holds Tryz.pinned (OpenSpec.upto fileBurstSpec)

/-- 'dioramalaw15.FileLimits', WHERE WHAT IT READS IS OF BULK AT MOST 1048576: true; the input reads as it did. -/
def fileLimitsUptoRow : OpenClaim := { program := "ytcgjgjjegnofeaagreatdoor", sum := "a6c64ca512dfadc7133dafbed31c33e5230d50a67f5dda18e3051194f66e882b", func := "diorama/dioramalaw15.FileLimits", spec := "fileLimits", inPlace := ["internal/abi.NoEscape"], unfollowed := true, recurses := true, named := ["diorama/schema.kinds", "diorama/schema.spans"], apart := false, laid := [("diorama/schema.kinds", laid_diorama_schema_kinds), ("diorama/schema.spans", laid_diorama_schema_spans)], narrowed := true }
def FileLimitsUptoSaid : Prop := fileLimitsUptoRow.holds Tryz.pinned (OpenSpec.upto fileLimitsSpec)

end Rows
end Go.Proofs.YtcgjgjjegnofeaaGreatDoor
