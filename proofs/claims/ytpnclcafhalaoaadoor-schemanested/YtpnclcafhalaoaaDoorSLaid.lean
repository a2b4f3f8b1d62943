/- What the given rows' list of package-level variables gives: the four tables of the package schema, cell by cell; and a world in which they are laid. -/
import Derived.Test.YtpnclcafhalaoaaDoorAwake07
import Derived.Stop.Joined
namespace Go.Proofs.YtpnclcafhalaoaaDoor
open Go Go.RowKit

/-- The list, as each of the given rows has it. -/
def laid4 : List (String × DataW Unit) := Rows.schemaSpecsRow.laid

theorem tK : (Tryd.prog.globals[0]?).map (·.type) = some 42 := by kernel_rfl
theorem tO : (Tryd.prog.globals[1]?).map (·.type) = some 44 := by kernel_rfl
theorem tS : (Tryd.prog.globals[2]?).map (·.type) = some 47 := by kernel_rfl
theorem tN : (Tryd.prog.globals[3]?).map (·.type) = some 48 := by kernel_rfl

theorem tabs_of {W : World} (h : laidMetH Tryd.prog laid4 W) : Tabs W := by
  rw [MakeChecks.laidMetH_plain _ _ _ (by kernel_rfl)] at h
  obtain ⟨ps, ⟨g0, t0, cs0, f0, p0, q0, hg0, ht0, hv0, hd0, ⟨g1, t1, cs1, f1, p1, q1, hg1, ht1, hv1, hd1, ⟨g2, t2, cs2, f2, p2, q2, hg2, ht2, hv2, hd2, ⟨g3, t3, cs3, f3, p3, q3, hg3, ht3, hv3, hd3, _, _⟩, _⟩, _⟩, _⟩, _, _⟩ := h
  exact ⟨tab_of (n := 8) (by kernel_rfl) tK (by kernel_rfl) hg0 ht0 hv0 hd0, tab_of (n := 8) (by kernel_rfl) tO (by kernel_rfl) hg1 ht1 hv1 hd1, tab_of (n := 8) (by kernel_rfl) tS (by kernel_rfl) hg3 ht3 hv3 hd3, tab_of (n := 8) (by kernel_rfl) tN (by kernel_rfl) hg2 ht2 hv2 hd2⟩

/-- The heap that the program's own start leaves meets the list. -/
theorem door_met (os : Os) (args : Array Value) : laidMetH Tryd.prog laid4 ((World.doorLaid Tryd.prog 400 os).forCall (fun _ _ => 0) ⟨#[], args, []⟩).memory :=
  laidMetH_of_parts3 (fuel := 8) (laidMet_of_run' 8 (by kernel_rfl) (by kernel_rfl)) (by kernel_rfl) (by kernel_rfl)

end Go.Proofs.YtpnclcafhalaoaaDoor
