/-
  DERIVED. GIVEN WITH THE SEED: THE PROGRAM's TIES (one call each: nine closed facts by the kernel) AND EACH ROW's TIE, after the 31st guide's Derived/Test/Toyas{Tie, Card}.lean. No idea stands in it: it is a product of the set-up. Laid BY PROGRAM, IN A SANDBOX (cutbox-door.mjs). By AI agents, Wed Nov 11 2026. No macro, syntax, notation, axiom, sorry.
-/
import Derived.Test.YtpnclcafhalaoaaDoorRows
import Derived.LaidByTextLater
import Derived.SevenTiedAt
import Derived.LaidSub
import Derived.LaidOnce
namespace Go.Proofs.YtpnclcafhalaoaaDoor
open Go
set_option maxRecDepth 100000
theorem seatTie1 : Tryd.prog.laidByTextLater [("diorama/schema.kinds", Rows.laid_diorama_schema_kinds), ("diorama/schema.oldKinds", Rows.laid_diorama_schema_oldKinds), ("diorama/schema.names", Rows.laid_diorama_schema_names), ("diorama/schema.spans", Rows.laid_diorama_schema_spans)] [.wider, .wider, .data, .data] true :=
  Program.laidByTextLater_by_one 59 8 64 (by kernel_rfl) (by kernel_rfl) (by kernel_rfl) (by kernel_rfl) (by kernel_rfl) (by kernel_rfl) (fun _ _ => by kernel_rfl)
theorem noOwnUnsafe : Tryd.pinned.checked.prog.headLifts.contains "ownunsafe" = false := by kernel_rfl
theorem tie : Tryd.prog.laidByTextLater [("diorama/schema.kinds", Rows.laid_diorama_schema_kinds), ("diorama/schema.oldKinds", Rows.laid_diorama_schema_oldKinds), ("diorama/schema.names", Rows.laid_diorama_schema_names), ("diorama/schema.spans", Rows.laid_diorama_schema_spans)] [.wider, .wider, .data, .data] true :=
  Program.laidByTextLater.sub seatTie1 ["diorama/schema.kinds", "diorama/schema.oldKinds", "diorama/schema.names", "diorama/schema.spans"] (by kernel_rfl) (by kernel_rfl)
theorem schemaSpecs_row_tie : Rows.schemaSpecsRow.laidByTextAt .later Tryd.pinned [.wider, .wider, .data, .data] true :=
  OpenClaim.laidByTextAt_later rfl rfl tie noOwnUnsafe
theorem schemaClasses_row_tie : Rows.schemaClassesRow.laidByTextAt .later Tryd.pinned [.wider, .wider, .data, .data] true :=
  OpenClaim.laidByTextAt_later rfl rfl tie noOwnUnsafe
theorem schemaNested_row_tie : Rows.schemaNestedRow.laidByTextAt .later Tryd.pinned [.wider, .wider, .data, .data] true :=
  OpenClaim.laidByTextAt_later rfl rfl tie noOwnUnsafe
theorem schemaNames_row_tie : Rows.schemaNamesRow.laidByTextAt .later Tryd.pinned [.wider, .wider, .data, .data] true :=
  OpenClaim.laidByTextAt_later rfl rfl tie noOwnUnsafe
theorem schemaSpecsUpto_row_tie : Rows.schemaSpecsUptoRow.laidByTextAt .later Tryd.pinned [.wider, .wider, .data, .data] true :=
  OpenClaim.laidByTextAt_later rfl rfl tie noOwnUnsafe
theorem schemaClassesUpto_row_tie : Rows.schemaClassesUptoRow.laidByTextAt .later Tryd.pinned [.wider, .wider, .data, .data] true :=
  OpenClaim.laidByTextAt_later rfl rfl tie noOwnUnsafe
theorem schemaNestedUpto_row_tie : Rows.schemaNestedUptoRow.laidByTextAt .later Tryd.pinned [.wider, .wider, .data, .data] true :=
  OpenClaim.laidByTextAt_later rfl rfl tie noOwnUnsafe
theorem schemaNamesUpto_row_tie : Rows.schemaNamesUptoRow.laidByTextAt .later Tryd.pinned [.wider, .wider, .data, .data] true :=
  OpenClaim.laidByTextAt_later rfl rfl tie noOwnUnsafe
end Go.Proofs.YtpnclcafhalaoaaDoor
