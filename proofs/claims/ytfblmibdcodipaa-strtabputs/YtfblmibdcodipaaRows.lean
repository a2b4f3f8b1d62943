/-
  No cell of these rows narrows 'for every input' (looked for: loops, veiled, ifaces, maps, wideKeys, modest, calm, conditions, laid).
  DERIVED. THE GIVEN ROWS OF THIS SEAT. 5 by the template 'for every input the law returns true; each argument reads behind the call as it read before'; 0 by the template 'total and deterministic' (their statements: YtfblmibdcodipaaTotals.lean).
  GIVEN WITH THE SEED: the statements are not yours to turn. If you find one false, say at which input.
  Laid BY PROGRAM, IN A SANDBOX (cutbox-rows.mjs): the forced cells as the released guide's own fill.sh prints them over the translation 04e22d846258be37… (all of the seat's roots in one cut). By AI agents, Wed Nov 11 2026. No macro, syntax, notation, axiom, sorry.
-/
import Derived.Test.YtfblmibdcodipaaChecked
import GoSem.Claim
import GoSem.ClaimJoined
import GoSem.ClaimMapViews
import Derived.JoinedTies
import Derived.KernelRfl
namespace Go.Proofs.Ytfblmibdcodipaa
/- THE CELL 'sum', in the pinned program and in every row, IS THE sha256 OF THE DUMP (.gsa) THAT YtfblmibdcodipaaProg.lean LOADS. Nothing in Lean hashes anything: it is a label: what it is worth is what the hold of that sum in a sandbox is worth. -/
noncomputable def Try.pinned : Pinned := { name := "ytfblmibdcodipaa", sum := "04e22d846258be37a195a3045bf6d940e94e3d77b29af2ff5b8c665f2ace3c15", checked := Try.checked }
namespace Rows
def none {H : Type} : Left H := { results := [], args := [] }

/-- 'dioramalaw06.StrtabPuts': WHATEVER THE INPUT: true; the input reads as it did. -/
def strtabPutsSpec : ChangeSpec := { name := "strtabPuts", fn := fun _ => fun
  | [d1, d2] => { results := [.lit (.bool true)], args := [d1, d2] }
  | _ => none }
def strtabPutsRow : OpenClaim := { program := "ytfblmibdcodipaa", sum := "04e22d846258be37a195a3045bf6d940e94e3d77b29af2ff5b8c665f2ace3c15", func := "diorama/dioramalaw06.StrtabPuts", spec := "strtabPuts", inPlace := ["internal/abi.NoEscape"], recurses := true, apart := false }
def StrtabPutsSaid : Prop := strtabPutsRow.holds Try.pinned (OpenSpec.ofChange strtabPutsSpec)

/-- ITS FALSE NEIGHBOUR: 'it returns false'. Refute it at one input. -/
def strtabPutsWrong : ChangeSpec := { name := "strtabPuts", fn := fun _ => fun
  | [d1, d2] => { results := [.lit (.bool false)], args := [d1, d2] }
  | _ => none }
def StrtabPutsWrongFalsely : Prop := strtabPutsRow.holds Try.pinned (OpenSpec.ofChange strtabPutsWrong)

/-- 'dioramalaw06.StrtabGets': WHATEVER THE INPUT: true; the input reads as it did. -/
def strtabGetsSpec : ChangeSpec := { name := "strtabGets", fn := fun _ => fun
  | [d1, d2, d3] => { results := [.lit (.bool true)], args := [d1, d2, d3] }
  | _ => none }
def strtabGetsRow : OpenClaim := { program := "ytfblmibdcodipaa", sum := "04e22d846258be37a195a3045bf6d940e94e3d77b29af2ff5b8c665f2ace3c15", func := "diorama/dioramalaw06.StrtabGets", spec := "strtabGets", inPlace := ["internal/abi.NoEscape"], apart := false }
def StrtabGetsSaid : Prop := strtabGetsRow.holds Try.pinned (OpenSpec.ofChange strtabGetsSpec)

/-- ITS FALSE NEIGHBOUR: 'it returns false'. Refute it at one input. -/
def strtabGetsWrong : ChangeSpec := { name := "strtabGets", fn := fun _ => fun
  | [d1, d2, d3] => { results := [.lit (.bool false)], args := [d1, d2, d3] }
  | _ => none }
def StrtabGetsWrongFalsely : Prop := strtabGetsRow.holds Try.pinned (OpenSpec.ofChange strtabGetsWrong)

/-- 'dioramalaw06.StrtabBack': WHATEVER THE INPUT: true; the input reads as it did. -/
def strtabBackSpec : ChangeSpec := { name := "strtabBack", fn := fun _ => fun
  | [d] => { results := [.lit (.bool true)], args := [d] }
  | _ => none }
def strtabBackRow : OpenClaim := { program := "ytfblmibdcodipaa", sum := "04e22d846258be37a195a3045bf6d940e94e3d77b29af2ff5b8c665f2ace3c15", func := "diorama/dioramalaw06.StrtabBack", spec := "strtabBack", inPlace := ["internal/abi.NoEscape"], apart := false }
def StrtabBackSaid : Prop := strtabBackRow.holds Try.pinned (OpenSpec.ofChange strtabBackSpec)

/-- ITS FALSE NEIGHBOUR: 'it returns false'. Refute it at one input. -/
def strtabBackWrong : ChangeSpec := { name := "strtabBack", fn := fun _ => fun
  | [d] => { results := [.lit (.bool false)], args := [d] }
  | _ => none }
def StrtabBackWrongFalsely : Prop := strtabBackRow.holds Try.pinned (OpenSpec.ofChange strtabBackWrong)

/-- 'dioramalaw06.StrtabOne': WHATEVER THE INPUT: true; the input reads as it did. -/
def strtabOneSpec : ChangeSpec := { name := "strtabOne", fn := fun _ => fun
  | [d1, d2] => { results := [.lit (.bool true)], args := [d1, d2] }
  | _ => none }
def strtabOneRow : OpenClaim := { program := "ytfblmibdcodipaa", sum := "04e22d846258be37a195a3045bf6d940e94e3d77b29af2ff5b8c665f2ace3c15", func := "diorama/dioramalaw06.StrtabOne", spec := "strtabOne", inPlace := ["internal/abi.NoEscape"], apart := false }
def StrtabOneSaid : Prop := strtabOneRow.holds Try.pinned (OpenSpec.ofChange strtabOneSpec)

/-- ITS FALSE NEIGHBOUR: 'it returns false'. Refute it at one input. -/
def strtabOneWrong : ChangeSpec := { name := "strtabOne", fn := fun _ => fun
  | [d1, d2] => { results := [.lit (.bool false)], args := [d1, d2] }
  | _ => none }
def StrtabOneWrongFalsely : Prop := strtabOneRow.holds Try.pinned (OpenSpec.ofChange strtabOneWrong)

/-- 'dioramalaw06.StrtabAgain': WHATEVER THE INPUT: true; the input reads as it did. -/
def strtabAgainSpec : ChangeSpec := { name := "strtabAgain", fn := fun _ => fun
  | [d1, d2] => { results := [.lit (.bool true)], args := [d1, d2] }
  | _ => none }
def strtabAgainRow : OpenClaim := { program := "ytfblmibdcodipaa", sum := "04e22d846258be37a195a3045bf6d940e94e3d77b29af2ff5b8c665f2ace3c15", func := "diorama/dioramalaw06.StrtabAgain", spec := "strtabAgain", inPlace := ["internal/abi.NoEscape"], apart := false }
def StrtabAgainSaid : Prop := strtabAgainRow.holds Try.pinned (OpenSpec.ofChange strtabAgainSpec)

/-- ITS FALSE NEIGHBOUR: 'it returns false'. Refute it at one input. -/
def strtabAgainWrong : ChangeSpec := { name := "strtabAgain", fn := fun _ => fun
  | [d1, d2] => { results := [.lit (.bool false)], args := [d1, d2] }
  | _ => none }
def StrtabAgainWrongFalsely : Prop := strtabAgainRow.holds Try.pinned (OpenSpec.ofChange strtabAgainWrong)

/- THE SECOND FORM. 'bulk': how many values and letters a reading holds, each counted each time it is reached (what is shared counts as often as it is met; a slice's spare places count too). A statement '..UptoSaid' is the law's where the arguments, and the package variables that the reading takes, are together of bulk at most 1048576: NARROWER than '..Said'. Prove '..Said' where nothing that the law and all that it calls make is longer than what came in: it says more and counts as full. Else prove '..UptoSaid'. A law counts once. -/
mutual
def uptoBulk {H : Type} : DataW H → Nat
  | .lit (.string bytes) => bytes.length + 1
  | .lit _ => 1
  | .nil => 1
  | .ptr d => uptoBulk d + 1
  | .slice elems spare => uptoBulkAll elems + uptoBulkAll spare + 1
  | .agg parts => uptoBulkAll parts + 1
  | .iface _ d => uptoBulk d + 1
  | .map entries => uptoBulkEntries entries + 1
  | .held _ => 1
def uptoBulkAll {H : Type} : List (DataW H) → Nat
  | [] => 0
  | d :: r => uptoBulk d + uptoBulkAll r
def uptoBulkEntries {H : Type} : List (Lit × DataW H) → Nat
  | [] => 0
  | x :: r => uptoBulkEntry x + uptoBulkEntries r
def uptoBulkEntry {H : Type} : Lit × DataW H → Nat
  | (.string bytes, d) => bytes.length + uptoBulk d + 1
  | (_, d) => uptoBulk d + 1
 end
def uptoSmall : (H : Type) → List (DataW H) → Bool := fun _ ds => decide (uptoBulkAll ds ≤ 1048576)
def OpenSpec.upto (s : _root_.Go.ChangeSpec) : _root_.Go.OpenSpec := { _root_.Go.OpenSpec.ofChange s with cond := some uptoSmall }

/-- 'dioramalaw06.StrtabPuts', WHERE WHAT IT READS IS OF BULK AT MOST 1048576: true; the input reads as it did. -/
def strtabPutsUptoRow : OpenClaim := { program := "ytfblmibdcodipaa", sum := "04e22d846258be37a195a3045bf6d940e94e3d77b29af2ff5b8c665f2ace3c15", func := "diorama/dioramalaw06.StrtabPuts", spec := "strtabPuts", inPlace := ["internal/abi.NoEscape"], recurses := true, apart := false, narrowed := true }
def StrtabPutsUptoSaid : Prop := strtabPutsUptoRow.holds Try.pinned (OpenSpec.upto strtabPutsSpec)

/-- 'dioramalaw06.StrtabGets', WHERE WHAT IT READS IS OF BULK AT MOST 1048576: true; the input reads as it did. -/
def strtabGetsUptoRow : OpenClaim := { program := "ytfblmibdcodipaa", sum := "04e22d846258be37a195a3045bf6d940e94e3d77b29af2ff5b8c665f2ace3c15", func := "diorama/dioramalaw06.StrtabGets", spec := "strtabGets", inPlace := ["internal/abi.NoEscape"], apart := false, narrowed := true }
def StrtabGetsUptoSaid : Prop := strtabGetsUptoRow.holds Try.pinned (OpenSpec.upto strtabGetsSpec)

/-- 'dioramalaw06.StrtabBack', WHERE WHAT IT READS IS OF BULK AT MOST 1048576: true; the input reads as it did. -/
def strtabBackUptoRow : OpenClaim := { program := "ytfblmibdcodipaa", sum := "04e22d846258be37a195a3045bf6d940e94e3d77b29af2ff5b8c665f2ace3c15", func := "diorama/dioramalaw06.StrtabBack", spec := "strtabBack", inPlace := ["internal/abi.NoEscape"], apart := false, narrowed := true }
def StrtabBackUptoSaid : Prop := strtabBackUptoRow.holds Try.pinned (OpenSpec.upto strtabBackSpec)

/-- 'dioramalaw06.StrtabOne', WHERE WHAT IT READS IS OF BULK AT MOST 1048576: true; the input reads as it did. -/
def strtabOneUptoRow : OpenClaim := { program := "ytfblmibdcodipaa", sum := "04e22d846258be37a195a3045bf6d940e94e3d77b29af2ff5b8c665f2ace3c15", func := "diorama/dioramalaw06.StrtabOne", spec := "strtabOne", inPlace := ["internal/abi.NoEscape"], apart := false, narrowed := true }
def StrtabOneUptoSaid : Prop := strtabOneUptoRow.holds Try.pinned (OpenSpec.upto strtabOneSpec)

/-- 'dioramalaw06.StrtabAgain', WHERE WHAT IT READS IS OF BULK AT MOST 1048576: true; the input reads as it did. -/
def strtabAgainUptoRow : OpenClaim := { program := "ytfblmibdcodipaa", sum := "04e22d846258be37a195a3045bf6d940e94e3d77b29af2ff5b8c665f2ace3c15", func := "diorama/dioramalaw06.StrtabAgain", spec := "strtabAgain", inPlace := ["internal/abi.NoEscape"], apart := false, narrowed := true }
def StrtabAgainUptoSaid : Prop := strtabAgainUptoRow.holds Try.pinned (OpenSpec.upto strtabAgainSpec)

end Rows
end Go.Proofs.Ytfblmibdcodipaa
