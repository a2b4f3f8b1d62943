/- The contracts of the document's own Names and Same of layer 7. -/
import Derived.Test.YtpnclcafhalaoaaDoorSTab2
import Derived.Deep.QuietTactic
namespace Go.Proofs.YtpnclcafhalaoaaDoor
open Go.RowKit

/-- The names, in new memory. -/
def NamesAt (w : World) (g : Nat) : Prop := AtN 9 w g (names7.map Value.string).toArray

set_option maxRecDepth 10000 in
set_option maxHeartbeats 400000 in
theorem names_any (w : World) :
    Calls Tryd.prog 14 #[] w fun e w' => e = .returned (.slice (some ⟨w.heap.size, 0, none⟩) 8 8) ∧ NamesAt w' w.heap.size ∧ Below w.heap.size w w' := by
  go_enter Tryd.func14, Tryd.ntmps14
  go_wp2_with fail
  go_ret
  exact ⟨rfl, AtN.new w 9 _, (Below.refl _ _).alloc (Nat.le_refl _) _⟩

/-- A list of numbers, wherever it lies: what reads of it give. -/
theorem ints_at {w : World} {B : Nat} {v : Value} {l : List Int} (h : Ints w B v l) (i : Nat) (hi : i < l.length) : ∃ g cap, v = .slice (some ⟨g, 0, none⟩) l.length cap ∧ g < w.heap.size ∧ w.cell? ⟨g, i, none⟩ = some (.int .i64 (l.getD i 0)) := by
  rcases h.2 with ⟨_, h2⟩ | ⟨g, cap, cur, rfl, h1, h2, h3⟩
  · omega
  · refine ⟨g, cap, rfl, (Array.getElem?_eq_some_iff.1 h2).1, ?_⟩
    rw [World.ownsRow.cellAt h i (by omega)]
    simp [iV, hi]

set_option maxRecDepth 10000 in
set_option maxHeartbeats 400000 in
theorem same_yes (w : World) (B C : Nat) (va vb : Value) (t l m : Int) (L : List Int) (ha : Ints w B va L) (hb : Ints w C vb L) (hL : L.length ≤ 1000) :
    Calls Tryd.prog 11 #[.agg #[va, .int .i64 t, .int .i64 l, .int .i64 m], .agg #[vb, .int .i64 t, .int .i64 l, .int .i64 m]] w fun e w' => e = .returned (.bool true) ∧ Below w.heap.size w w' := by
  obtain ⟨ao, ca, rfl⟩ := own_shape7 ha
  obtain ⟨bo, cb, rfl⟩ := own_shape7 hb
  have HA : Hid _ := fun i hi => ints_at ha i hi
  have HB : Hid _ := fun i hi => ints_at hb i hi
  clear ha hb
  go_enter Tryd.func11, Tryd.ntmps11
  go_wp2_with fail
  go_loopw [5] (fun iv wr => ∃ (i : Nat), iv = .int .i64 i ∧ i ≤ L.length ∧ Below w.heap.size w wr ∧ AtN 25 wr w.heap.size #[.slice ao L.length ca, .int .i64 t, .int .i64 l, .int .i64 m] ∧ AtN 25 wr (w.heap.size + 1) #[.slice bo L.length cb, .int .i64 t, .int .i64 l, .int .i64 m]) (fun iv _ => L.length - (intOf iv).toNat)
  case atStart => exact ⟨0, rfl, by omega, ((Below.refl _ _).alloc (Nat.le_refl _) _).alloc (by simp) _, (AtN.new w 25 _).alloc _, mk_at (AtN.new (w.alloc _) 25 _) (by simp)⟩
  case round =>
    obtain ⟨i, rfl, hi, hB, n1, n2⟩ := hrel
    have c1 : wr.cell? ⟨w.heap.size, 0, none⟩ = some (.slice ao L.length ca) := n1.cell 0
    have c2 : wr.cell? ⟨w.heap.size + 1, 0, none⟩ = some (.slice bo L.length cb) := n2.cell 0
    by_cases hlt : i < L.length
    · have hlt' : (i : Int) < L.length := by omega
      obtain ⟨ga, ca', ea, la, da⟩ := HA.out i hlt
      obtain ⟨gb, cb', eb, lb, db⟩ := HB.out i hlt
      simp only [Value.slice.injEq, true_and] at ea eb
      obtain ⟨rfl, rfl⟩ := ea
      obtain ⟨rfl, rfl⟩ := eb
      have da' : wr.cell? ⟨ga, i, none⟩ = some (.int .i64 (L.getD i 0)) := (hB.cell (p := ⟨ga, i, none⟩) la).trans da
      have db' : wr.cell? ⟨gb, i, none⟩ = some (.int .i64 (L.getD i 0)) := (hB.cell (p := ⟨gb, i, none⟩) lb).trans db
      clear da db HA HB
      generalize L.getD i 0 = z at *
      go_wp2_with fail
      go_quiet (fail)
      go_wp2_with fail
      go_roundw
      case rel => exact ⟨i + 1, by go_num, by omega, dn_below hB _, n1, n2⟩
      case measure => simp [intOf]; omega
    · have hlt' : ¬ (i : Int) < L.length := by omega
      go_wp2_with fail
      go_ret
      exact ⟨rfl, hB⟩

end Go.Proofs.YtpnclcafhalaoaaDoor
