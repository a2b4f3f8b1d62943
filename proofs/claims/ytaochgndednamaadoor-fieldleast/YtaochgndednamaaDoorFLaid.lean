/- What the given rows' list of package-level variables gives: the two tables of the package schema, cell by cell; and a world in which they are laid. -/
import Derived.Test.YtaochgndednamaaDoorAwake08
import Derived.Stop.Joined
namespace Go.Proofs.YtaochgndednamaaDoor
open Go Go.RowKit

/-- The list, as each of the given rows has it. -/
def laid2 : List (String × DataW Unit) := Rows.fieldChecksRow.laid

theorem tK : (Tryd.prog.globals[0]?).map (·.type) = some 61 := by kernel_rfl
theorem tS : (Tryd.prog.globals[1]?).map (·.type) = some 70 := by kernel_rfl

theorem tabs_of {W : World} (h : laidMetH Tryd.prog laid2 W) : Tabs8 W := by
  rw [MakeChecks.laidMetH_plain _ _ _ (by kernel_rfl)] at h
  obtain ⟨ps, ⟨g0, t0, cs0, f0, p0, q0, hg0, ht0, hv0, hd0, ⟨g1, t1, cs1, f1, p1, q1, hg1, ht1, hv1, hd1, _, _⟩, _⟩, _, _⟩ := h
  exact ⟨tab_of (n := 8) (by kernel_rfl) tK (by kernel_rfl) hg0 ht0 hv0 hd0, tab_of (n := 8) (by kernel_rfl) tS (by kernel_rfl) hg1 ht1 hv1 hd1⟩

/-- The heap that the program's own start leaves meets the list. -/
theorem door_met (os : Os) (args : Array Value) : laidMetH Tryd.prog laid2 ((World.doorLaid Tryd.prog 400 os).forCall (fun _ _ => 0) ⟨#[], args, []⟩).memory :=
  laidMetH_of_parts3 (fuel := 8) (laidMet_of_run' 8 (by kernel_rfl) (by kernel_rfl)) (by kernel_rfl) (by kernel_rfl)

end Go.Proofs.YtaochgndednamaaDoor
