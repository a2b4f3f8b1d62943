/-
  DERIVED. GIVEN WITH THE SEED: THE CARDS: each row of YtaochgndednamaaDoorRows.lean that lists a variable, with what it lists TIED to the program's text (the seventh form; the later family's looks); each row that meets fmt, with fmt's text TOLD by the authors' own Lean function (tested against real Go, not proved from fmt's source: count such statements apart). THE CARD IS WHAT COUNTS. Prove the row's statement (the work); the ties are given (YtaochgndednamaaDoorTie.lean); close each card by the builder's one call (the guide's Derived/Test/ToyasCard.lean, 'card_holds'). Laid BY PROGRAM, IN A SANDBOX (cutbox-door.mjs). By AI agents, Wed Nov 11 2026. No macro, syntax, notation, axiom, sorry.
-/
import Derived.Test.YtaochgndednamaaDoorRows
import GoSem.ClaimSeven
namespace Go.Proofs.YtaochgndednamaaDoor
namespace Rows

/-- THE TIED CARD OF 'dioramalaw08.FieldChecks'. -/
def fieldChecksCard : Claim7 := { stood := { row := fieldChecksRow, standIns := [], harness := (true, "79f93fa6d1b37bb26019de4c8e7664fd9d2b2a5fd10ea0c9acc1a35759085e0c"), looks := false }, kinds := [], alts := [], laidByText := true, laidKinds := [.wider, .data], laidTests := true, laidLooks := .later }
def FieldChecksCardSaid : Prop := Claim7.holds Tryd.pinned (.plain (OpenSpec.ofChange fieldChecksSpec)) fieldChecksCard

/-- THE TIED CARD OF 'dioramalaw08.FieldSets'. -/
def fieldSetsCard : Claim7 := { stood := { row := fieldSetsRow, standIns := [], harness := (true, "79f93fa6d1b37bb26019de4c8e7664fd9d2b2a5fd10ea0c9acc1a35759085e0c"), looks := false }, kinds := [], alts := [], laidByText := true, laidKinds := [.wider, .data], laidTests := true, laidLooks := .later }
def FieldSetsCardSaid : Prop := Claim7.holds Tryd.pinned (.plain (OpenSpec.ofChange fieldSetsSpec)) fieldSetsCard

/-- THE TIED CARD OF 'dioramalaw08.FieldDiffs'. -/
def fieldDiffsCard : Claim7 := { stood := { row := fieldDiffsRow, standIns := [], harness := (true, "79f93fa6d1b37bb26019de4c8e7664fd9d2b2a5fd10ea0c9acc1a35759085e0c"), looks := false }, kinds := [], alts := [], laidByText := true, laidKinds := [.wider, .data], laidTests := true, laidLooks := .later }
def FieldDiffsCardSaid : Prop := Claim7.holds Tryd.pinned (.plain (OpenSpec.ofChange fieldDiffsSpec)) fieldDiffsCard

/-- THE TIED CARD OF 'dioramalaw08.FieldLeast'. -/
def fieldLeastCard : Claim7 := { stood := { row := fieldLeastRow, standIns := [], harness := (true, "79f93fa6d1b37bb26019de4c8e7664fd9d2b2a5fd10ea0c9acc1a35759085e0c"), looks := false }, kinds := [], alts := [], laidByText := true, laidKinds := [.wider, .data], laidTests := true, laidLooks := .later }
def FieldLeastCardSaid : Prop := Claim7.holds Tryd.pinned (.plain (OpenSpec.ofChange fieldLeastSpec)) fieldLeastCard

/-- THE TIED CARD OF 'dioramalaw08.FieldOld'. -/
def fieldOldCard : Claim7 := { stood := { row := fieldOldRow, standIns := [], harness := (true, "79f93fa6d1b37bb26019de4c8e7664fd9d2b2a5fd10ea0c9acc1a35759085e0c"), looks := false }, kinds := [], alts := [], laidByText := true, laidKinds := [.wider, .data], laidTests := true, laidLooks := .later }
def FieldOldCardSaid : Prop := Claim7.holds Tryd.pinned (.plain (OpenSpec.ofChange fieldOldSpec)) fieldOldCard

/-- THE SECOND FORM's CARD OF 'dioramalaw08.FieldChecks'. -/
def fieldChecksUptoCard : Claim7 := { stood := { row := fieldChecksUptoRow, standIns := [], harness := (true, "79f93fa6d1b37bb26019de4c8e7664fd9d2b2a5fd10ea0c9acc1a35759085e0c"), looks := false }, kinds := [], alts := [], laidByText := true, laidKinds := [.wider, .data], laidTests := true, laidLooks := .later }
def FieldChecksUptoCardSaid : Prop := Claim7.holds Tryd.pinned (.plain (OpenSpec.upto fieldChecksSpec)) fieldChecksUptoCard

/-- THE SECOND FORM's CARD OF 'dioramalaw08.FieldSets'. -/
def fieldSetsUptoCard : Claim7 := { stood := { row := fieldSetsUptoRow, standIns := [], harness := (true, "79f93fa6d1b37bb26019de4c8e7664fd9d2b2a5fd10ea0c9acc1a35759085e0c"), looks := false }, kinds := [], alts := [], laidByText := true, laidKinds := [.wider, .data], laidTests := true, laidLooks := .later }
def FieldSetsUptoCardSaid : Prop := Claim7.holds Tryd.pinned (.plain (OpenSpec.upto fieldSetsSpec)) fieldSetsUptoCard

/-- THE SECOND FORM's CARD OF 'dioramalaw08.FieldDiffs'. -/
def fieldDiffsUptoCard : Claim7 := { stood := { row := fieldDiffsUptoRow, standIns := [], harness := (true, "79f93fa6d1b37bb26019de4c8e7664fd9d2b2a5fd10ea0c9acc1a35759085e0c"), looks := false }, kinds := [], alts := [], laidByText := true, laidKinds := [.wider, .data], laidTests := true, laidLooks := .later }
def FieldDiffsUptoCardSaid : Prop := Claim7.holds Tryd.pinned (.plain (OpenSpec.upto fieldDiffsSpec)) fieldDiffsUptoCard

/-- THE SECOND FORM's CARD OF 'dioramalaw08.FieldLeast'. -/
def fieldLeastUptoCard : Claim7 := { stood := { row := fieldLeastUptoRow, standIns := [], harness := (true, "79f93fa6d1b37bb26019de4c8e7664fd9d2b2a5fd10ea0c9acc1a35759085e0c"), looks := false }, kinds := [], alts := [], laidByText := true, laidKinds := [.wider, .data], laidTests := true, laidLooks := .later }
def FieldLeastUptoCardSaid : Prop := Claim7.holds Tryd.pinned (.plain (OpenSpec.upto fieldLeastSpec)) fieldLeastUptoCard

/-- THE SECOND FORM's CARD OF 'dioramalaw08.FieldOld'. -/
def fieldOldUptoCard : Claim7 := { stood := { row := fieldOldUptoRow, standIns := [], harness := (true, "79f93fa6d1b37bb26019de4c8e7664fd9d2b2a5fd10ea0c9acc1a35759085e0c"), looks := false }, kinds := [], alts := [], laidByText := true, laidKinds := [.wider, .data], laidTests := true, laidLooks := .later }
def FieldOldUptoCardSaid : Prop := Claim7.holds Tryd.pinned (.plain (OpenSpec.upto fieldOldSpec)) fieldOldUptoCard
end Rows
end Go.Proofs.YtaochgndednamaaDoor
