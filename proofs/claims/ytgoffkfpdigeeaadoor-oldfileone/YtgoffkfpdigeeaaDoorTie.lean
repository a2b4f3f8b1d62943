/-
  DERIVED. GIVEN WITH THE SEED: THE PROGRAM's TIES (one call each: nine closed facts by the kernel) AND EACH ROW's TIE, after the 31st guide's Derived/Test/Toyas{Tie, Card}.lean. No idea stands in it: it is a product of the set-up. Laid BY PROGRAM, IN A SANDBOX (cutbox-door.mjs). By AI agents, Wed Nov 11 2026. No macro, syntax, notation, axiom, sorry.
-/
import Derived.Test.YtgoffkfpdigeeaaDoorRows
import Derived.LaidByTextLater
import Derived.SevenTiedAt
import Derived.LaidSub
import Derived.LaidOnce
namespace Go.Proofs.YtgoffkfpdigeeaaDoor
open Go
set_option maxRecDepth 100000
theorem seatTie1 : Tryd.prog.laidByTextLater [("diorama/schema.oldKinds", Rows.laid_diorama_schema_oldKinds), ("diorama/schema.spans", Rows.laid_diorama_schema_spans)] [.wider, .data] true :=
  Program.laidByTextLater_by_one 34 8 50 (by kernel_rfl) (by kernel_rfl) (by kernel_rfl) (by kernel_rfl) (by kernel_rfl) (by kernel_rfl) (fun _ _ => by kernel_rfl)
theorem noOwnUnsafe : Tryd.pinned.checked.prog.headLifts.contains "ownunsafe" = false := by kernel_rfl
theorem tie : Tryd.prog.laidByTextLater [("diorama/schema.oldKinds", Rows.laid_diorama_schema_oldKinds), ("diorama/schema.spans", Rows.laid_diorama_schema_spans)] [.wider, .data] true :=
  Program.laidByTextLater.sub seatTie1 ["diorama/schema.oldKinds", "diorama/schema.spans"] (by kernel_rfl) (by kernel_rfl)
theorem oldfileOne_row_tie : Rows.oldfileOneRow.laidByTextAt .later Tryd.pinned [.wider, .data] true :=
  OpenClaim.laidByTextAt_later rfl rfl tie noOwnUnsafe
theorem oldfileOneUpto_row_tie : Rows.oldfileOneUptoRow.laidByTextAt .later Tryd.pinned [.wider, .data] true :=
  OpenClaim.laidByTextAt_later rfl rfl tie noOwnUnsafe
end Go.Proofs.YtgoffkfpdigeeaaDoor
