/- What the given rows' list of package-level variables gives; limits that came in; is a scene whole. -/
import Derived.Test.YthfemhpbamcpjaaGreatDoorCC
import Derived.Test.YthfemhpbamcpjaaGreatDoorLTyp
import Derived.Test.YthfemhpbamcpjaaGreatDoorLLim
import Derived.Test.YthfemhpbamcpjaaGreatDoorRA
import Derived.Stop.Joined
import Derived.LaidMore
import Derived.SevenTiedAt
namespace Go.Proofs.YthfemhpbamcpjaaGreatDoor
open Go.ChangeShapes Go.WideShapes Go.ChangeAt Go.RowKit Go.Joins Go.Deep
def laid2 : List (String × DataW Unit) := Rows.nodesGetsRow.laid -- 4
theorem tK : (Tryz.prog.globals[0]?).map (·.type) = some 172 := by kernel_rfl
theorem tS : (Tryz.prog.globals[1]?).map (·.type) = some 193 := by kernel_rfl
theorem tabs_of {W : World} (h : laidMetH Tryz.prog laid2 W) : Tabs12 W := by
  rw [MakeChecks.laidMetH_plain _ _ _ (by kernel_rfl)] at h
  obtain ⟨ps, ⟨g0, t0, cs0, f0, p0, q0, hg0, ht0, hv0, hd0, ⟨g1, t1, cs1, f1, p1, q1, hg1, ht1, hv1, hd1, _, _⟩, _⟩, _, _⟩ := h
  exact ⟨tab_of (n := 8) (by kernel_rfl) tK (by kernel_rfl) hg0 ht0 hv0 hd0, tab_of (n := 8) (by kernel_rfl) tS (by kernel_rfl) hg1 ht1 hv1 hd1⟩
theorem door_met (os : Os) (args : Array Value) : laidMetH Tryz.prog laid2 ((World.doorLaid Tryz.prog 400 os).forCall (fun _ _ => 0) ⟨#[], args, []⟩).memory :=
  laidMetH_of_parts3 (fuel := 8) (laidMet_of_run' 8 (by kernel_rfl) (by kernel_rfl)) (by kernel_rfl) (by kernel_rfl)
structure LmR (l : Lm) : Prop where
  b : inR l.b
  n : inR l.n
  e : inR l.e
  d : inR l.d
  x : inR l.x
section
variable {H : Type} {enc : TypeId × Value → H} {P : Program} {w : World}
theorem five_cells {α : Type} {cs : Array α} (h : cs.size = 5) : ∃ c0 c1 c2 c3 c4, cs = #[c0, c1, c2, c3, c4] := by
  obtain ⟨l⟩ := cs
  match l, h with
  | [c0, c1, c2, c3, c4], _ => exact ⟨c0, c1, c2, c3, c4, rfl⟩
theorem five_read {xs : List (DataW H × List MemPlace)} (h : xs.length = 5) : ∃ y0 y1 y2 y3 y4, xs = [y0, y1, y2, y3, y4] := by
  match xs, h with
  | [y0, y1, y2, y3, y4], _ => exact ⟨y0, y1, y2, y3, y4, rfl⟩
theorem open_lim {r : Reach} {b0 : Nat} {t : TypeId} {f0 f1 f2 f3 f4 : Field} {v : Value} {d : DataW H} {p : List MemPlace} (hs : P.underlying t = some (.struct #[f0, f1, f2, f3, f4])) (hone : oneCellFields P #[f0, f1, f2, f3, f4] = true) (hC : P.cellsOf t = 5)
    (u0 : P.underlying f0.type = some (.int .i64)) (u1 : P.underlying f1.type = some (.int .i64)) (u2 : P.underlying f2.type = some (.int .i64)) (u3 : P.underlying f3.type = some (.int .i64)) (u4 : P.underlying f4.type = some (.int .i64))
    (hv : Value.okWide P w r b0 t v) (h : DataW.Trod enc P w 0 (fun _ => true) true t v d p) :
    ∃ l : Lm, v = .agg #[.int .i64 l.b, .int .i64 l.n, .int .i64 l.e, .int .i64 l.d, .int .i64 l.x] ∧ LmR l := by
  obtain ⟨cs, rfl, hsz⟩ := okWide_struct hs hv
  obtain ⟨c0, c1, c2, c3, c4, rfl⟩ := five_cells (hsz.trans hC)
  obtain ⟨fuel, hf⟩ := h
  obtain ⟨xs, n, _, _, _, hlen, hx⟩ := DataW.trod_struct hs hf
  obtain ⟨y0, y1, y2, y3, y4, rfl⟩ := five_read (by simpa using hlen)
  obtain ⟨o0, k0⟩ := hone_of hone 0 f0 rfl
  obtain ⟨o1, k1⟩ := hone_of hone 1 f1 rfl
  obtain ⟨o2, k2⟩ := hone_of hone 2 f2 rfl
  obtain ⟨o3, k3⟩ := hone_of hone 3 f3 rfl
  obtain ⟨o4, k4⟩ := hone_of hone 4 f4 rfl
  have t0 := hx 0 f0 rfl
  have t1 := hx 1 f1 rfl
  have t2 := hx 2 f2 rfl
  have t3 := hx 3 f3 rfl
  have t4 := hx 4 f4 rfl
  simp [Value.cells, o0, k0, o1, k1, o2, k2, o3, k3, o4, k4] at t0 t1 t2 t3 t4
  obtain ⟨z0, e0, _, g0⟩ := DataW.trod_int u0 t0
  obtain ⟨z1, e1, _, g1⟩ := DataW.trod_int u1 t1
  obtain ⟨z2, e2, _, g2⟩ := DataW.trod_int u2 t2
  obtain ⟨z3, e3, _, g3⟩ := DataW.trod_int u3 t3
  obtain ⟨z4, e4, _, g4⟩ := DataW.trod_int u4 t4
  simp at e0 e1 e2 e3 e4
  subst e0 e1 e2 e3 e4
  exact ⟨⟨z0, z1, z2, z3, z4⟩, rfl, ⟨wf_i64 g0, wf_i64 g1, wf_i64 g2, wf_i64 g3, wf_i64 g4⟩⟩
end
theorem IsSc.fn {w : World} {a : Option Addr} {X : List Nx} {r : Int} (h : IsSc w a X r) : FnX X := fun i hi j hj => by
  have h1 := (h.rg i hi).ints
  generalize (X.getD i noNx).nd.ints = T at *
  exact h1 _ (by rw [List.getD_eq_getElem?_getD, List.getElem?_eq_getElem hj]; exact List.getElem_mem hj)
def Whole (X : List Nx) (r : Int) : Prop := tyE X = 0 ∧ RightIs X r
def WhOut (X : List Nx) (r : Int) (w w' : World) (e : Ending) : Prop := ∃ b, e = .returned (.bool b) ∧ (b = true ↔ Whole X r) ∧ Below w.heap.size w w'
set_option maxRecDepth 10000 in
set_option maxHeartbeats 1000000 in
theorem rwhole_any (X : List Nx) (a : Option Addr) (c : Nat) (r : Int) (w : World) (h : ScAt w a X) (hX : Small X) (hF : FnX X) :
    Calls Tryz.prog 15 #[.agg #[.slice a X.length c, .int .i64 r], .int .i64 2] w fun e w' => WhOut X r w w' e := by
  have HA0 : Hid (AtN 24 (w.alloc (.cells #[.slice a X.length c, .int .i64 r] 24)) w.heap.size #[.slice a X.length c, .int .i64 r]) := AtN.new w 24 _
  have HB0 : Hid (Below w.heap.size w (w.alloc (.cells #[.slice a X.length c, .int .i64 r] 24))) := (Below.refl _ _).alloc (Nat.le_refl _) _
  have HTy : Hid (∀ W, Below w.heap.size w W → Calls Tryz.prog 29 #[.agg #[.slice a X.length c, .int .i64 r], .int .i64 2] W fun e w' => e = .returned (.tuple #[.int .i64 (tyE X), .int .i64 (tyZ X)]) ∧ Below W.heap.size W w') := fun W hW => rtyped_any X a c r W (h.belowB hW) hX hF
  have HRt : Hid (∀ W, Below w.heap.size w W → Calls Tryz.prog 46 #[.agg #[.slice a X.length c, .int .i64 r]] W fun e w' => RightOut X r W w' e) := fun W hW => right_any X a c r W (h.belowB hW) hX
  have HV : Hid (Whole X r ↔ (tyE X = 0 ∧ RightIs X r)) := Iff.rfl
  obtain ⟨te, hte⟩ : ∃ te, tyE X = te := ⟨_, rfl⟩
  rw [hte] at HTy HV
  generalize tyZ X = tz at *
  clear h hX hF hte
  go_enter Tryz.func15, Tryz.ntmps15
  go_wp2_with fail
  refine Calls.mono (HTy.out _ HB0.out) ?_
  rintro e w1 ⟨rfl, hb1⟩
  have HA1 : Hid (AtN 24 w1 w.heap.size #[.slice a X.length c, .int .i64 r]) := AtN.belowAll HA0.out hb1
  have HB1 : Hid (Below w.heap.size w w1) := HB0.out.trans (hb1.mono HB0.out.size)
  clear HA0 HB0 HTy hb1
  by_cases ht : te = 0
  · have HV1 : Hid (Whole X r ↔ RightIs X r) := ⟨fun q => (HV.out.1 q).2, fun q => HV.out.2 ⟨ht, q⟩⟩
    clear HV
    subst ht
    have x0 : w1.cell? ⟨w.heap.size, 0, none⟩ = some (.slice a X.length c) := HA1.out.cell 0
    have x1 : w1.cell? ⟨w.heap.size, 1, none⟩ = some (.int .i64 r) := HA1.out.cell 1
    go_wp2_with fail
    refine Calls.mono (HRt.out _ HB1.out) ?_
    rintro e w2 ⟨b, rfl, hb, hb2⟩
    have HB2 : Hid (Below w.heap.size w w2) := HB1.out.trans (hb2.mono HB1.out.size)
    have HBb : Hid (b = true ↔ RightIs X r) := hb
    clear HA1 HB1 HRt hb2 hb x0 x1
    go_wp2_with fail
    go_ret
    exact ⟨_, rfl, HBb.out.trans HV1.out.symm, HB2.out⟩
  · have ht' : (te == 0) = false := by simpa using ht
    have HV1 : Hid (¬ Whole X r) := fun q => absurd (HV.out.1 q).1 ht
    clear HV
    go_wp2_with fail
    go_ret
    exact ⟨false, rfl, ⟨(fun q => by cases q), fun q => absurd q HV1.out⟩, HB1.out⟩
end Go.Proofs.YthfemhpbamcpjaaGreatDoor
