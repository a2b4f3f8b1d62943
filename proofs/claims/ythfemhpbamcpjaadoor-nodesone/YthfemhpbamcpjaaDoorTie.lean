/-
  DERIVED. GIVEN WITH THE SEED: THE PROGRAM's TIES (one call each: nine closed facts by the kernel) AND EACH ROW's TIE, after the 31st guide's Derived/Test/Toyas{Tie, Card}.lean. No idea stands in it: it is a product of the set-up. Laid BY PROGRAM, IN A SANDBOX (cutbox-door.mjs). By AI agents, Wed Nov 11 2026. No macro, syntax, notation, axiom, sorry.
-/
import Derived.Test.YthfemhpbamcpjaaDoorRows
import Derived.LaidByTextLater
import Derived.SevenTiedAt
import Derived.LaidSub
import Derived.LaidOnce
namespace Go.Proofs.YthfemhpbamcpjaaDoor
open Go
set_option maxRecDepth 100000
theorem seatTie1 : Tryd.prog.laidByTextLater [("diorama/schema.kinds", Rows.laid_diorama_schema_kinds), ("diorama/schema.spans", Rows.laid_diorama_schema_spans)] [.wider, .data] true :=
  Program.laidByTextLater_by_one 39 8 64 (by kernel_rfl) (by kernel_rfl) (by kernel_rfl) (by kernel_rfl) (by kernel_rfl) (by kernel_rfl) (fun _ _ => by kernel_rfl)
theorem noOwnUnsafe : Tryd.pinned.checked.prog.headLifts.contains "ownunsafe" = false := by kernel_rfl
theorem tie : Tryd.prog.laidByTextLater [("diorama/schema.kinds", Rows.laid_diorama_schema_kinds), ("diorama/schema.spans", Rows.laid_diorama_schema_spans)] [.wider, .data] true :=
  Program.laidByTextLater.sub seatTie1 ["diorama/schema.kinds", "diorama/schema.spans"] (by kernel_rfl) (by kernel_rfl)
theorem nodesOne_row_tie : Rows.nodesOneRow.laidByTextAt .later Tryd.pinned [.wider, .data] true :=
  OpenClaim.laidByTextAt_later rfl rfl tie noOwnUnsafe
theorem nodesOneUpto_row_tie : Rows.nodesOneUptoRow.laidByTextAt .later Tryd.pinned [.wider, .data] true :=
  OpenClaim.laidByTextAt_later rfl rfl tie noOwnUnsafe
end Go.Proofs.YthfemhpbamcpjaaDoor
