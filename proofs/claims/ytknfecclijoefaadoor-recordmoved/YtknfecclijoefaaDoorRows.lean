/-
  NARROWER THAN 'FOR EVERY INPUT', by the rows' own cells (each row's printed sentence says how): RecordPuts: laid · RecordGets: laid · RecordBack: laid · RecordOne: laid · RecordTable: laid · RecordMoved: laid.
  DERIVED. THE GIVEN ROWS OF THIS SEAT. 6 by the template 'for every input the law returns true; each argument reads behind the call as it read before'; 0 by the template 'total and deterministic' (their statements: YtknfecclijoefaaDoorTotals.lean).
  GIVEN WITH THE SEED: the statements are not yours to turn. If you find one false, say at which input.
  Laid BY PROGRAM, IN A SANDBOX (cutbox-rows.mjs): the forced cells as the released guide's own fill.sh prints them over the translation fa53eadf8662971b… (all of the seat's roots in one cut). By AI agents, Wed Nov 11 2026. No macro, syntax, notation, axiom, sorry.
-/
import Derived.Test.YtknfecclijoefaaDoorChecked
import GoSem.Claim
import GoSem.ClaimJoined
import GoSem.ClaimMapViews
import Derived.JoinedTies
import Derived.KernelRfl
namespace Go.Proofs.YtknfecclijoefaaDoor
/- THE CELL 'sum', in the pinned program and in every row, IS THE sha256 OF THE DUMP (.gsa) THAT YtknfecclijoefaaDoorProg.lean LOADS. Nothing in Lean hashes anything: it is a label: what it is worth is what the hold of that sum in a sandbox is worth. -/
noncomputable def Tryd.pinned : Pinned := { name := "ytknfecclijoefaadoor", sum := "fa53eadf8662971b36163240e9db002c87093c6a769419e5489199e66b361c5d", checked := Tryd.checked }
namespace Rows
def none {H : Type} : Left H := { results := [], args := [] }

/- WHAT THE LISTED PACKAGE-LEVEL VARIABLES READ AS WHEN THE CALL BEGINS. Each datum BY PROGRAM (the guide's laid-datum.mjs) off the statement by which the dump's own 'gosem.cut.vars' lays the variable. In a bare row this is a premise. The card (YtknfecclijoefaaDoorCards.lean) ties it to the program's text. -/
def laid_diorama_schema_kinds {H : Type} : DataW H := .agg [.agg [.agg [.lit (.int .i64 0), .lit (.int .i64 0), .lit (.int .i64 0), .lit (.int .i64 0)], .lit (.int .i64 0), .lit (.int .i64 0), .lit (.int .i64 0)], .agg [.agg [.lit (.int .i64 0), .lit (.int .i64 0), .lit (.int .i64 0), .lit (.int .i64 0)], .lit (.int .i64 1), .lit (.int .i64 0), .lit (.int .i64 (-1))], .agg [.agg [.lit (.int .i64 2), .lit (.int .i64 2), .lit (.int .i64 2), .lit (.int .i64 0)], .lit (.int .i64 0), .lit (.int .i64 1), .lit (.int .i64 1)], .agg [.agg [.lit (.int .i64 3), .lit (.int .i64 3), .lit (.int .i64 3), .lit (.int .i64 0)], .lit (.int .i64 1), .lit (.int .i64 0), .lit (.int .i64 0)], .agg [.agg [.lit (.int .i64 3), .lit (.int .i64 0), .lit (.int .i64 0), .lit (.int .i64 0)], .lit (.int .i64 1), .lit (.int .i64 0), .lit (.int .i64 0)], .agg [.agg [.lit (.int .i64 3), .lit (.int .i64 0), .lit (.int .i64 0), .lit (.int .i64 0)], .lit (.int .i64 2), .lit (.int .i64 0), .lit (.int .i64 0)], .agg [.agg [.lit (.int .i64 1), .lit (.int .i64 0), .lit (.int .i64 0), .lit (.int .i64 0)], .lit (.int .i64 0), .lit (.int .i64 0), .lit (.int .i64 (-1))], .agg [.agg [.lit (.int .i64 4), .lit (.int .i64 4), .lit (.int .i64 4), .lit (.int .i64 5)], .lit (.int .i64 0), .lit (.int .i64 0), .lit (.int .i64 0)], .agg [.agg [.lit (.int .i64 2), .lit (.int .i64 2), .lit (.int .i64 2), .lit (.int .i64 0)], .lit (.int .i64 0), .lit (.int .i64 1), .lit (.int .i64 1)]]
def laid_diorama_schema_spans {H : Type} : DataW H := .agg [.agg [.lit (.int .i64 0), .lit (.int .i64 0)], .agg [.lit (.int .i64 (-9223372036854775808)), .lit (.int .i64 9223372036854775807)], .agg [.lit (.int .i64 (-140737488355328)), .lit (.int .i64 140737488355328)], .agg [.lit (.int .i64 0), .lit (.int .i64 140737488355328)], .agg [.lit (.int .i64 0), .lit (.int .i64 255)], .agg [.lit (.int .i64 0), .lit (.int .i64 1)]]

/-- 'dioramalaw13.RecordPuts': WHATEVER THE INPUT: true; the input reads as it did. -/
def recordPutsSpec : ChangeSpec := { name := "recordPuts", fn := fun _ => fun
  | [d1, d2, d3] => { results := [.lit (.bool true)], args := [d1, d2, d3] }
  | _ => none }
def recordPutsRow : OpenClaim := { program := "ytknfecclijoefaadoor", sum := "fa53eadf8662971b36163240e9db002c87093c6a769419e5489199e66b361c5d", func := "diorama/dioramalaw13.RecordPuts", spec := "recordPuts", inPlace := ["internal/abi.NoEscape"], unfollowed := true, recurses := true, named := ["diorama/schema.kinds", "diorama/schema.spans"], apart := false, laid := [("diorama/schema.kinds", laid_diorama_schema_kinds), ("diorama/schema.spans", laid_diorama_schema_spans)] }
def RecordPutsSaid : Prop := recordPutsRow.holds Tryd.pinned (OpenSpec.ofChange recordPutsSpec)

/-- ITS FALSE NEIGHBOUR: 'it returns false'. Refute it at one input. -/
def recordPutsWrong : ChangeSpec := { name := "recordPuts", fn := fun _ => fun
  | [d1, d2, d3] => { results := [.lit (.bool false)], args := [d1, d2, d3] }
  | _ => none }
def RecordPutsWrongFalsely : Prop := recordPutsRow.holds Tryd.pinned (OpenSpec.ofChange recordPutsWrong)

/-- 'dioramalaw13.RecordGets': WHATEVER THE INPUT: true; the input reads as it did. -/
def recordGetsSpec : ChangeSpec := { name := "recordGets", fn := fun _ => fun
  | [d1, d2, d3] => { results := [.lit (.bool true)], args := [d1, d2, d3] }
  | _ => none }
def recordGetsRow : OpenClaim := { program := "ytknfecclijoefaadoor", sum := "fa53eadf8662971b36163240e9db002c87093c6a769419e5489199e66b361c5d", func := "diorama/dioramalaw13.RecordGets", spec := "recordGets", inPlace := ["internal/abi.NoEscape"], unfollowed := true, recurses := true, named := ["diorama/schema.kinds", "diorama/schema.spans"], apart := false, laid := [("diorama/schema.kinds", laid_diorama_schema_kinds), ("diorama/schema.spans", laid_diorama_schema_spans)] }
def RecordGetsSaid : Prop := recordGetsRow.holds Tryd.pinned (OpenSpec.ofChange recordGetsSpec)

/-- ITS FALSE NEIGHBOUR: 'it returns false'. Refute it at one input. -/
def recordGetsWrong : ChangeSpec := { name := "recordGets", fn := fun _ => fun
  | [d1, d2, d3] => { results := [.lit (.bool false)], args := [d1, d2, d3] }
  | _ => none }
def RecordGetsWrongFalsely : Prop := recordGetsRow.holds Tryd.pinned (OpenSpec.ofChange recordGetsWrong)

/-- 'dioramalaw13.RecordBack': WHATEVER THE INPUT: true; the input reads as it did. -/
def recordBackSpec : ChangeSpec := { name := "recordBack", fn := fun _ => fun
  | [d1, d2, d3] => { results := [.lit (.bool true)], args := [d1, d2, d3] }
  | _ => none }
def recordBackRow : OpenClaim := { program := "ytknfecclijoefaadoor", sum := "fa53eadf8662971b36163240e9db002c87093c6a769419e5489199e66b361c5d", func := "diorama/dioramalaw13.RecordBack", spec := "recordBack", inPlace := ["internal/abi.NoEscape"], unfollowed := true, recurses := true, named := ["diorama/schema.kinds", "diorama/schema.spans"], apart := false, laid := [("diorama/schema.kinds", laid_diorama_schema_kinds), ("diorama/schema.spans", laid_diorama_schema_spans)] }
def RecordBackSaid : Prop := recordBackRow.holds Tryd.pinned (OpenSpec.ofChange recordBackSpec)

/-- ITS FALSE NEIGHBOUR: 'it returns false'. Refute it at one input. -/
def recordBackWrong : ChangeSpec := { name := "recordBack", fn := fun _ => fun
  | [d1, d2, d3] => { results := [.lit (.bool false)], args := [d1, d2, d3] }
  | _ => none }
def RecordBackWrongFalsely : Prop := recordBackRow.holds Tryd.pinned (OpenSpec.ofChange recordBackWrong)

/-- 'dioramalaw13.RecordOne': WHATEVER THE INPUT: true; the input reads as it did. -/
def recordOneSpec : ChangeSpec := { name := "recordOne", fn := fun _ => fun
  | [d1, d2, d3] => { results := [.lit (.bool true)], args := [d1, d2, d3] }
  | _ => none }
def recordOneRow : OpenClaim := { program := "ytknfecclijoefaadoor", sum := "fa53eadf8662971b36163240e9db002c87093c6a769419e5489199e66b361c5d", func := "diorama/dioramalaw13.RecordOne", spec := "recordOne", inPlace := ["internal/abi.NoEscape"], unfollowed := true, recurses := true, named := ["diorama/schema.kinds", "diorama/schema.spans"], apart := false, laid := [("diorama/schema.kinds", laid_diorama_schema_kinds), ("diorama/schema.spans", laid_diorama_schema_spans)] }
def RecordOneSaid : Prop := recordOneRow.holds Tryd.pinned (OpenSpec.ofChange recordOneSpec)

/-- ITS FALSE NEIGHBOUR: 'it returns false'. Refute it at one input. -/
def recordOneWrong : ChangeSpec := { name := "recordOne", fn := fun _ => fun
  | [d1, d2, d3] => { results := [.lit (.bool false)], args := [d1, d2, d3] }
  | _ => none }
def RecordOneWrongFalsely : Prop := recordOneRow.holds Tryd.pinned (OpenSpec.ofChange recordOneWrong)

/-- 'dioramalaw13.RecordTable': WHATEVER THE INPUT: true; the input reads as it did. -/
def recordTableSpec : ChangeSpec := { name := "recordTable", fn := fun _ => fun
  | [d1, d2] => { results := [.lit (.bool true)], args := [d1, d2] }
  | _ => none }
def recordTableRow : OpenClaim := { program := "ytknfecclijoefaadoor", sum := "fa53eadf8662971b36163240e9db002c87093c6a769419e5489199e66b361c5d", func := "diorama/dioramalaw13.RecordTable", spec := "recordTable", inPlace := ["internal/abi.NoEscape"], unfollowed := true, recurses := true, named := ["diorama/schema.kinds", "diorama/schema.spans"], apart := false, laid := [("diorama/schema.kinds", laid_diorama_schema_kinds), ("diorama/schema.spans", laid_diorama_schema_spans)] }
def RecordTableSaid : Prop := recordTableRow.holds Tryd.pinned (OpenSpec.ofChange recordTableSpec)

/-- ITS FALSE NEIGHBOUR: 'it returns false'. Refute it at one input. -/
def recordTableWrong : ChangeSpec := { name := "recordTable", fn := fun _ => fun
  | [d1, d2] => { results := [.lit (.bool false)], args := [d1, d2] }
  | _ => none }
def RecordTableWrongFalsely : Prop := recordTableRow.holds Tryd.pinned (OpenSpec.ofChange recordTableWrong)

/-- 'dioramalaw13.RecordMoved': WHATEVER THE INPUT: true; the input reads as it did. -/
def recordMovedSpec : ChangeSpec := { name := "recordMoved", fn := fun _ => fun
  | [d1, d2, d3] => { results := [.lit (.bool true)], args := [d1, d2, d3] }
  | _ => none }
def recordMovedRow : OpenClaim := { program := "ytknfecclijoefaadoor", sum := "fa53eadf8662971b36163240e9db002c87093c6a769419e5489199e66b361c5d", func := "diorama/dioramalaw13.RecordMoved", spec := "recordMoved", inPlace := ["internal/abi.NoEscape"], unfollowed := true, recurses := true, named := ["diorama/schema.kinds", "diorama/schema.spans"], apart := false, laid := [("diorama/schema.kinds", laid_diorama_schema_kinds), ("diorama/schema.spans", laid_diorama_schema_spans)] }
def RecordMovedSaid : Prop := recordMovedRow.holds Tryd.pinned (OpenSpec.ofChange recordMovedSpec)

/-- ITS FALSE NEIGHBOUR: 'it returns false'. Refute it at one input. -/
def recordMovedWrong : ChangeSpec := { name := "recordMoved", fn := fun _ => fun
  | [d1, d2, d3] => { results := [.lit (.bool false)], args := [d1, d2, d3] }
  | _ => none }
def RecordMovedWrongFalsely : Prop := recordMovedRow.holds Tryd.pinned (OpenSpec.ofChange recordMovedWrong)

/- THE SECOND FORM. 'bulk': how many values and letters a reading holds, each counted each time it is reached (what is shared counts as often as it is met; a slice's spare places count too). A statement '..UptoSaid' is the law's where the arguments, and the package variables that the reading takes, are together of bulk at most 1048576: NARROWER than '..Said'. Prove '..Said' where nothing that the law and all that it calls make is longer than what came in: it says more and counts as full. Else prove '..UptoSaid'. A law counts once. -/
mutual
def uptoBulk {H : Type} : DataW H → Nat
  | .lit (.string bytes) => bytes.length + 1
  | .lit _ => 1
  | .nil => 1
  | .ptr d => uptoBulk d + 1
  | .slice elems spare => uptoBulkAll elems + uptoBulkAll spare + 1
  | .agg parts => uptoBulkAll parts + 1
  | .iface _ d => uptoBulk d + 1
  | .map entries => uptoBulkEntries entries + 1
  | .held _ => 1
def uptoBulkAll {H : Type} : List (DataW H) → Nat
  | [] => 0
  | d :: r => uptoBulk d + uptoBulkAll r
def uptoBulkEntries {H : Type} : List (Lit × DataW H) → Nat
  | [] => 0
  | x :: r => uptoBulkEntry x + uptoBulkEntries r
def uptoBulkEntry {H : Type} : Lit × DataW H → Nat
  | (.string bytes, d) => bytes.length + uptoBulk d + 1
  | (_, d) => uptoBulk d + 1
 end
def uptoSmall : (H : Type) → List (DataW H) → Bool := fun _ ds => decide (uptoBulkAll ds ≤ 1048576)
def OpenSpec.upto (s : _root_.Go.ChangeSpec) : _root_.Go.OpenSpec := { _root_.Go.OpenSpec.ofChange s with cond := some uptoSmall }

/-- 'dioramalaw13.RecordPuts', WHERE WHAT IT READS IS OF BULK AT MOST 1048576: true; the input reads as it did. -/
def recordPutsUptoRow : OpenClaim := { program := "ytknfecclijoefaadoor", sum := "fa53eadf8662971b36163240e9db002c87093c6a769419e5489199e66b361c5d", func := "diorama/dioramalaw13.RecordPuts", spec := "recordPuts", inPlace := ["internal/abi.NoEscape"], unfollowed := true, recurses := true, named := ["diorama/schema.kinds", "diorama/schema.spans"], apart := false, laid := [("diorama/schema.kinds", laid_diorama_schema_kinds), ("diorama/schema.spans", laid_diorama_schema_spans)], narrowed := true }
def RecordPutsUptoSaid : Prop := recordPutsUptoRow.holds Tryd.pinned (OpenSpec.upto recordPutsSpec)

/-- 'dioramalaw13.RecordGets', WHERE WHAT IT READS IS OF BULK AT MOST 1048576: true; the input reads as it did. -/
def recordGetsUptoRow : OpenClaim := { program := "ytknfecclijoefaadoor", sum := "fa53eadf8662971b36163240e9db002c87093c6a769419e5489199e66b361c5d", func := "diorama/dioramalaw13.RecordGets", spec := "recordGets", inPlace := ["internal/abi.NoEscape"], unfollowed := true, recurses := true, named := ["diorama/schema.kinds", "diorama/schema.spans"], apart := false, laid := [("diorama/schema.kinds", laid_diorama_schema_kinds), ("diorama/schema.spans", laid_diorama_schema_spans)], narrowed := true }
def RecordGetsUptoSaid : Prop := recordGetsUptoRow.holds Tryd.pinned (OpenSpec.upto recordGetsSpec)

/-- 'dioramalaw13.RecordBack', WHERE WHAT IT READS IS OF BULK AT MOST 1048576: true; the input reads as it did. -/
def recordBackUptoRow : OpenClaim := { program := "ytknfecclijoefaadoor", sum := "fa53eadf8662971b36163240e9db002c87093c6a769419e5489199e66b361c5d", func := "diorama/dioramalaw13.RecordBack", spec := "recordBack", inPlace := ["internal/abi.NoEscape"], unfollowed := true, recurses := true, named := ["diorama/schema.kinds", "diorama/schema.spans"], apart := false, laid := [("diorama/schema.kinds", laid_diorama_schema_kinds), ("diorama/schema.spans", laid_diorama_schema_spans)], narrowed := true }
def RecordBackUptoSaid : Prop := recordBackUptoRow.holds Tryd.pinned (OpenSpec.upto recordBackSpec)

/-- 'dioramalaw13.RecordOne', WHERE WHAT IT READS IS OF BULK AT MOST 1048576: true; the input reads as it did. -/
def recordOneUptoRow : OpenClaim := { program := "ytknfecclijoefaadoor", sum := "fa53eadf8662971b36163240e9db002c87093c6a769419e5489199e66b361c5d", func := "diorama/dioramalaw13.RecordOne", spec := "recordOne", inPlace := ["internal/abi.NoEscape"], unfollowed := true, recurses := true, named := ["diorama/schema.kinds", "diorama/schema.spans"], apart := false, laid := [("diorama/schema.kinds", laid_diorama_schema_kinds), ("diorama/schema.spans", laid_diorama_schema_spans)], narrowed := true }
def RecordOneUptoSaid : Prop := recordOneUptoRow.holds Tryd.pinned (OpenSpec.upto recordOneSpec)

/-- 'dioramalaw13.RecordTable', WHERE WHAT IT READS IS OF BULK AT MOST 1048576: true; the input reads as it did. -/
def recordTableUptoRow : OpenClaim := { program := "ytknfecclijoefaadoor", sum := "fa53eadf8662971b36163240e9db002c87093c6a769419e5489199e66b361c5d", func := "diorama/dioramalaw13.RecordTable", spec := "recordTable", inPlace := ["internal/abi.NoEscape"], unfollowed := true, recurses := true, named := ["diorama/schema.kinds", "diorama/schema.spans"], apart := false, laid := [("diorama/schema.kinds", laid_diorama_schema_kinds), ("diorama/schema.spans", laid_diorama_schema_spans)], narrowed := true }
def RecordTableUptoSaid : Prop := recordTableUptoRow.holds Tryd.pinned (OpenSpec.upto recordTableSpec)

/-- 'dioramalaw13.RecordMoved', WHERE WHAT IT READS IS OF BULK AT MOST 1048576: true; the input reads as it did. -/
def recordMovedUptoRow : OpenClaim := { program := "ytknfecclijoefaadoor", sum := "fa53eadf8662971b36163240e9db002c87093c6a769419e5489199e66b361c5d", func := "diorama/dioramalaw13.RecordMoved", spec := "recordMoved", inPlace := ["internal/abi.NoEscape"], unfollowed := true, recurses := true, named := ["diorama/schema.kinds", "diorama/schema.spans"], apart := false, laid := [("diorama/schema.kinds", laid_diorama_schema_kinds), ("diorama/schema.spans", laid_diorama_schema_spans)], narrowed := true }
def RecordMovedUptoSaid : Prop := recordMovedUptoRow.holds Tryd.pinned (OpenSpec.upto recordMovedSpec)

end Rows
end Go.Proofs.YtknfecclijoefaaDoor
