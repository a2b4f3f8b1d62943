/- What the given rows' list of package-level variables gives; what the laws of version 1 hold of their arguments. -/
import Derived.Test.YtgoffkfpdigeeaaGreatDoorOLm
import Derived.Test.YtgoffkfpdigeeaaGreatDoorLScO
import Derived.Stop.Joined
import Derived.LaidMore
import Derived.SevenTiedAt
namespace Go.Proofs.YtgoffkfpdigeeaaGreatDoor
open Go.ChangeShapes Go.WideShapes Go.ChangeAt Go.RowKit Go.Joins Go.Deep Go.Maps Go.WideMaps Go.Sort

/-- The two tables that the calls read. -/
structure Tabs16 (w : World) : Prop where
  o : TabAt w 0 oldC
  s : TabAt w 1 spansC
theorem Tabs16.on {w w' : World} (h : Tabs16 w) (hb : Below w.heap.size w w') : Tabs16 w' := ⟨h.o.below hb, h.s.below hb⟩

/-- The list, as three of the given rows have it. -/
def laid16 : List (String × DataW Unit) := Rows.oldfileSavesRow.laid -- 3

theorem tO16 : (Tryz.prog.globals[0]?).map (·.type) = some 210 := by kernel_rfl
theorem tS16 : (Tryz.prog.globals[1]?).map (·.type) = some 222 := by kernel_rfl

theorem tabs16_of {W : World} (h : laidMetH Tryz.prog laid16 W) : Tabs16 W := by
  rw [MakeChecks.laidMetH_plain _ _ _ (by kernel_rfl)] at h
  obtain ⟨ps, ⟨g0, t0, cs0, f0, p0, q0, hg0, ht0, hv0, hd0, ⟨g1, t1, cs1, f1, p1, q1, hg1, ht1, hv1, hd1, _, _⟩, _⟩, _, _⟩ := h
  exact ⟨tab_of (n := 8) (by kernel_rfl) tO16 (by kernel_rfl) hg0 ht0 hv0 hd0, tab_of (n := 8) (by kernel_rfl) tS16 (by kernel_rfl) hg1 ht1 hv1 hd1⟩

/-- The heap that the program's own start leaves meets the list. -/
theorem door16 (os : Os) (args : Array Value) : laidMetH Tryz.prog laid16 ((World.doorLaid Tryz.prog 400 os).forCall (fun _ _ => 0) ⟨#[], args, []⟩).memory :=
  laidMetH_of_parts3 (fuel := 8) (laidMet_of_run' 8 (by kernel_rfl) (by kernel_rfl)) (by kernel_rfl) (by kernel_rfl)
end Go.Proofs.YtgoffkfpdigeeaaGreatDoor
