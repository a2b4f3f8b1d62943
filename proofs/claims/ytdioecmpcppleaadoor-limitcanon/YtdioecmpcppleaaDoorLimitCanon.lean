/- For every scene that is right, and all limits: its canonical scene is told, has the same measure, is valid within the limits just if the scene is, and is told to be beyond them just if the scene is (scenes greater than the law plays with are let go by the law itself); the arguments read afterwards as before. The package schema's tables hold what the program's text lays into them when the call begins (the card ties them). -/
import Derived.Test.YtdioecmpcppleaaDoorRows
import Derived.Test.YtdioecmpcppleaaDoorCards
import Derived.Test.YtdioecmpcppleaaDoorTie
import Derived.WalkKit
import Derived.ProofKit
import Derived.OpenShut
import Derived.ShutString
import Derived.Below
import Derived.Test.YtdioecmpcppleaaDoorLCan
import Derived.Test.YtdioecmpcppleaaDoorLEq
import Derived.Test.YtdioecmpcppleaaDoorCB
import Derived.ChangeOld
import Derived.LaidMore
import Derived.SevenTiedAt
namespace Go.Proofs.YtdioecmpcppleaaDoor.limitCanon
open Go.ChangeShapes Go.WideShapes Go.ChangeAt Go.RowKit
open Go.ChangeMaps (open_string shut_string)
set_option linter.unusedVariables false

theorem own : ownKnob Tryd.prog.godebug = none := by kernel_rfl
theorem laidOut : laidOutB Tryd.prog = true := by kernel_rfl

theorem meL_self (X : List Nx) (d : Nat) : sameL (meL X d) (meL X d) = true := decide_eq_true ⟨rfl, rfl, rfl, rfl, rfl⟩
/-- The facts of the last region, case 0. -/
def lc0F (X0 Z : List Nx) (a0 az : Option Addr) (c0 cz : Nat) (r0 : Int) (bx gz d : Nat) (e0 e1 : Int) : Nat → Value → World → Prop
  | 0, v, _ => v = .int .i64 0
  | 1, v, _ => v = .bool true
  | 2, v, _ => v = .bool true
  | 3, v, _ => v = .agg #[.slice az Z.length cz, .int .i64 ((X0.length : Int) - 1)]
  | 4, v, _ => v = .agg #[.int .i64 0, .int .i64 X0.length, .int .i64 (edg X0 : Nat), .int .i64 (d : Nat), .int .i64 (txb X0 : Nat)]
  | 5, v, _ => v = .agg #[.slice a0 X0.length c0, .int .i64 r0]
  | 6, v, _ => v = .agg #[.int .i64 0, .int .i64 X0.length, .int .i64 (edg X0 : Nat), .int .i64 (d : Nat), .int .i64 (txb X0 : Nat)]
  | 7, v, _ => v = .bool true
  | 8, v, _ => v = .bool true
  | 9, v, _ => v = .bool true
  | 10, v, _ => v = .int .i64 0
  | 11, v, _ => v = .bool true
  | 12, v, _ => v = .int .i64 0
  | 13, v, _ => v = .bool true
  | 14, v, _ => v = .bool true
  | 15, v, _ => v = .bool true
  | 16, v, _ => v = .bool true
  | 17, v, _ => v = .int .i64 0
  | 18, v, _ => v = .bool false
  | 19, v, _ => v = .int .i64 0
  | 20, v, _ => v = .bool false
  | 21, v, _ => v = .bool true
  | 22, v, _ => v = .bool true
  | 23, v, _ => v = .bool true
  | _, _, _ => True
theorem lc0F_stab (X0 Z : List Nx) (a0 az : Option Addr) (c0 cz : Nat) (r0 : Int) (bx gz d : Nat) (e0 e1 : Int) : ∀ ix jx v w w', ix ≠ jx → World.grownBy w w' (if ix = 99 then none else none) → lc0F X0 Z a0 az c0 cz r0 bx gz d e0 e1 jx v w → lc0F X0 Z a0 az c0 cz r0 bx gz d e0 e1 jx v w' := by
  intro ix jx v w w' hne hg h
  match jx, h with
  | 0, h | 1, h | 2, h | 3, h | 4, h | 5, h | 6, h | 7, h | 8, h | 9, h | 10, h | 11, h | 12, h | 13, h | 14, h | 15, h | 16, h | 17, h | 18, h | 19, h | 20, h | 21, h | 22, h | 23, h => exact h
  | n + 24, _ => trivial
/-- The facts of the last region, case 1. -/
def lc1F (X0 Z : List Nx) (a0 az : Option Addr) (c0 cz : Nat) (r0 : Int) (bx gz d : Nat) (e0 e1 : Int) : Nat → Value → World → Prop
  | 0, v, _ => v = .int .i64 0
  | 1, v, _ => v = .bool true
  | 2, v, _ => v = .bool true
  | 3, v, _ => v = .agg #[.slice az Z.length cz, .int .i64 ((X0.length : Int) - 1)]
  | 4, v, _ => v = .agg #[.int .i64 0, .int .i64 X0.length, .int .i64 (edg X0 : Nat), .int .i64 (d : Nat), .int .i64 (txb X0 : Nat)]
  | 5, v, _ => v = .agg #[.slice a0 X0.length c0, .int .i64 r0]
  | 6, v, _ => v = .agg #[.int .i64 0, .int .i64 X0.length, .int .i64 (edg X0 : Nat), .int .i64 (d : Nat), .int .i64 (txb X0 : Nat)]
  | 7, v, _ => v = .bool true
  | 8, v, _ => v = .bool true
  | 9, v, _ => v = .bool true
  | 10, v, _ => v = .int .i64 19
  | 11, v, _ => v = .bool false
  | 12, v, _ => v = .int .i64 19
  | 13, v, _ => v = .bool false
  | 14, v, _ => v = .bool true
  | 15, v, _ => v = .bool true
  | 16, v, _ => v = .bool true
  | 17, v, _ => v = .int .i64 19
  | 18, v, _ => v = .bool true
  | 19, v, _ => v = .int .i64 19
  | 20, v, _ => v = .bool true
  | 21, v, _ => v = .bool true
  | 22, v, _ => v = .bool true
  | 23, v, _ => v = .bool true
  | _, _, _ => True
theorem lc1F_stab (X0 Z : List Nx) (a0 az : Option Addr) (c0 cz : Nat) (r0 : Int) (bx gz d : Nat) (e0 e1 : Int) : ∀ ix jx v w w', ix ≠ jx → World.grownBy w w' (if ix = 99 then none else none) → lc1F X0 Z a0 az c0 cz r0 bx gz d e0 e1 jx v w → lc1F X0 Z a0 az c0 cz r0 bx gz d e0 e1 jx v w' := by
  intro ix jx v w w' hne hg h
  match jx, h with
  | 0, h | 1, h | 2, h | 3, h | 4, h | 5, h | 6, h | 7, h | 8, h | 9, h | 10, h | 11, h | 12, h | 13, h | 14, h | 15, h | 16, h | 17, h | 18, h | 19, h | 20, h | 21, h | 22, h | 23, h => exact h
  | n + 24, _ => trivial
/-- The facts of the last region, case 2. -/
def lc2F (X0 Z : List Nx) (a0 az : Option Addr) (c0 cz : Nat) (r0 : Int) (bx gz d : Nat) (e0 e1 : Int) : Nat → Value → World → Prop
  | 0, v, _ => v = .int .i64 0
  | 1, v, _ => v = .bool true
  | 2, v, _ => v = .bool true
  | 3, v, _ => v = .agg #[.slice az Z.length cz, .int .i64 ((X0.length : Int) - 1)]
  | 4, v, _ => v = .agg #[.int .i64 0, .int .i64 X0.length, .int .i64 (edg X0 : Nat), .int .i64 (d : Nat), .int .i64 (txb X0 : Nat)]
  | 5, v, _ => v = .agg #[.slice a0 X0.length c0, .int .i64 r0]
  | 6, v, _ => v = .agg #[.int .i64 0, .int .i64 X0.length, .int .i64 (edg X0 : Nat), .int .i64 (d : Nat), .int .i64 (txb X0 : Nat)]
  | 7, v, _ => v = .bool true
  | 8, v, _ => v = .bool true
  | 9, v, _ => v = .bool true
  | 10, v, _ => v = .int .i64 e0
  | 11, v, _ => v = .bool false
  | 12, v, _ => v = .int .i64 e1
  | 13, v, _ => v = .bool false
  | 14, v, _ => v = .bool true
  | 15, v, _ => v = .bool true
  | 16, v, _ => v = .bool true
  | 17, v, _ => v = .int .i64 e0
  | 18, v, _ => v = .bool false
  | 19, v, _ => v = .int .i64 e1
  | 20, v, _ => v = .bool false
  | 21, v, _ => v = .bool true
  | 22, v, _ => v = .bool true
  | 23, v, _ => v = .bool true
  | _, _, _ => True
theorem lc2F_stab (X0 Z : List Nx) (a0 az : Option Addr) (c0 cz : Nat) (r0 : Int) (bx gz d : Nat) (e0 e1 : Int) : ∀ ix jx v w w', ix ≠ jx → World.grownBy w w' (if ix = 99 then none else none) → lc2F X0 Z a0 az c0 cz r0 bx gz d e0 e1 jx v w → lc2F X0 Z a0 az c0 cz r0 bx gz d e0 e1 jx v w' := by
  intro ix jx v w w' hne hg h
  match jx, h with
  | 0, h | 1, h | 2, h | 3, h | 4, h | 5, h | 6, h | 7, h | 8, h | 9, h | 10, h | 11, h | 12, h | 13, h | 14, h | 15, h | 16, h | 17, h | 18, h | 19, h | 20, h | 21, h | 22, h | 23, h => exact h
  | n + 24, _ => trivial
/-- What the law holds behind the canonical scene. -/
structure Cz (w W : World) (a : Option Addr) (X : List Nx) (c : Nat) (r : Int) (l : Lm) (gz : Nat) (az : Option Addr) (Z : List Nx) (cz : Nat) : Prop where
  t : L2 w W a X c r l
  z : AtN 24 W gz #[.slice az Z.length cz, .int .i64 ((X.length : Int) - 1)]
  sc : ScAt W az Z
theorem Cz.more {w W W' : World} {a az : Option Addr} {X Z : List Nx} {c cz gz : Nat} {r : Int} {l : Lm} (h : Cz w W a X c r l gz az Z cz) (hb : Below W.heap.size W W') : Cz w W' a X c r l gz az Z cz := ⟨h.t.more hb, h.z.belowAll hb, h.sc.belowB hb⟩

set_option maxRecDepth 10000 in
set_option maxHeartbeats 4000000 in
theorem walk (X0 : List Nx) (a0 : Option Addr) (c0 : Nat) (r0 : Int) (l1 : Lm) (w : World) (w0 : IsSc w a0 X0 r0) (w1 : LmR l1) (hT : Tabs12 w) :
    Calls Tryd.prog 6 #[.agg #[.slice a0 X0.length c0, .int .i64 r0], .agg #[.int .i64 l1.b, .int .i64 l1.n, .int .i64 l1.e, .int .i64 l1.d, .int .i64 l1.x]] w fun e w' => e = .returned (.bool true) ∧ Below w.heap.size w w' := by
  have HA : Hid (∀ W, Tabs12 W → Calls Tryd.prog 8 #[] W fun e w' => e = .returned (.bool true) ∧ Below W.heap.size W w') := awake_any
  have HS : Hid (IsSc w a0 X0 r0) := w0
  have HL : Hid (L2 w ((w.alloc (.cells #[.slice a0 X0.length c0, .int .i64 r0] 24)).alloc (.cells (lmC l1) 26)) a0 X0 c0 r0 l1) := L2.start hT
  clear w0 hT w1
  go_enter Tryd.func6, Tryd.ntmps6
  go_wp2_with fail
  refine (HA.out _ HL.out.tab).mono ?_
  rintro e w2 ⟨rfl, hb2⟩
  have HL2 : Hid (L2 w w2 a0 X0 c0 r0 l1) := HL.out.more hb2
  clear HL hb2
  have xa0 := HL2.out.c0
  have xa1 := HL2.out.c1
  have HG : Hid (Calls Tryd.prog 9 #[.agg #[.slice a0 X0.length c0, .int .i64 r0]] w2 fun e w' => GreatOut X0 w2 w' e) := sgreat_any X0 a0 c0 r0 w2 (HS.out.belS HL2.out.bel)
  go_wp2_with fail
  refine Calls.mono HG.out ?_
  rintro e w3 ⟨g, rfl, hg, hb3⟩
  have HL3 : Hid (L2 w w3 a0 X0 c0 r0 l1) := HL2.out.more hb3
  clear HG HL2 hb3 xa0 xa1
  cases g with
  | true =>
    go_wp2_with fail
    refine (HA.out _ HL3.out.tab).mono ?_
    rintro e wz ⟨rfl, hbz⟩
    have HB : Hid (Below w.heap.size w wz) := (HL3.out.more hbz).bel
    clear HL3 hbz
    go_wp2_with fail
    go_ret
    exact ⟨rfl, HB.out⟩
  | false =>
    have HSm : Hid (Small X0) := (hg rfl).1
    clear hg
    have xa0 := HL3.out.c0
    have xa1 := HL3.out.c1
    have HRr : Hid (Calls Tryd.prog 21 #[.agg #[.slice a0 X0.length c0, .int .i64 r0]] w3 fun e w' => RightOut X0 r0 w3 w' e) := right_any X0 a0 c0 r0 w3 (HS.out.belS HL3.out.bel) HSm.out
    go_wp2_with fail
    refine Calls.mono HRr.out ?_
    rintro e w4 ⟨rb, rfl, hr, hb4⟩
    have HL4 : Hid (L2 w w4 a0 X0 c0 r0 l1) := HL3.out.more hb4
    clear HRr HL3 hb4 xa0 xa1
    cases rb with
    | false =>
      go_wp2_with fail
      refine (HA.out _ HL4.out.tab).mono ?_
      rintro e wz ⟨rfl, hbz⟩
      have HB : Hid (Below w.heap.size w wz) := (HL4.out.more hbz).bel
      clear HL4 hbz
      go_wp2_with fail
      go_ret
      exact ⟨rfl, HB.out⟩
    | true =>
      have HR : Hid (RightIs X0 r0) := hr.1 rfl
      obtain ⟨d, hd⟩ := depth_there X0 r0
      have HD : Hid (DepthIs X0 r0 d) := hd
      have xa0 := HL4.out.c0
      have xa1 := HL4.out.c1
      have HC : Hid (Calls Tryd.prog 22 #[.agg #[.slice a0 X0.length c0, .int .i64 r0]] w4 fun e w' => ∃ (Z : List Nx) (az : Option Addr) (cz : Nat), e = .returned (.tuple #[.agg #[.slice az Z.length cz, .int .i64 ((X0.length : Int) - 1)], .int .i64 0]) ∧ Z.map Nx.nd = cX X0 r0 ∧ ScAt w' az Z ∧ Below w4.heap.size w4 w') := by
        refine Calls.mono (canon_any X0 a0 c0 r0 w4 (HS.out.belS HL4.out.bel) HSm.out) ?_
        rintro e w' ⟨q1, -, q3⟩
        obtain ⟨Z, az, cz, q4, q5, q6⟩ := q1 HR.out
        exact ⟨Z, az, cz, q4, q5, q6, q3⟩
      clear hr hd HA
      go_wp2_with fail
      refine Calls.mono HC.out ?_
      rintro e w5 ⟨Z, az, cz, rfl, hZ, hs5, hb5⟩
      have HL5 : Hid (Cz w (w5.alloc (.cells #[.slice az Z.length cz, .int .i64 ((X0.length : Int) - 1)] 24)) a0 X0 c0 r0 l1 w5.heap.size az Z cz) := ⟨(HL4.out.more hb5).more ((Below.refl _ _).alloc (Nat.le_refl _) _), AtN.new w5 24 _, hs5.alloc _⟩
      have HRn : Hid (Ren X0 Z (oX X0 r0).idxOf) := can_ren HR.out hZ
      have HZ : Hid (RightIs Z ((X0.length : Int) - 1) ∧ Small Z ∧ FnX Z) := ⟨can_right HR.out hZ, HRn.out.small HSm.out, HRn.out.fnx HS.out.fn⟩
      obtain ⟨dz, hdz⟩ := depth_there Z ((X0.length : Int) - 1)
      have hde : dz = d := HRn.out.depth HR.out HD.out (by rw [can_root HR.out]; exact hdz)
      subst hde
      have HDz : Hid (DepthIs Z ((X0.length : Int) - 1) dz) := hdz
      obtain ⟨gz, hgz⟩ : ∃ gz, w5.heap.size = gz := ⟨_, rfl⟩
      rw [hgz] at HL5
      have xl0 := HL5.out.t.c0
      have xl1 := HL5.out.t.c1

      have xm0 := HL5.out.t.d0
      have xm1 := HL5.out.t.d1
      have xm2 := HL5.out.t.d2
      have xm3 := HL5.out.t.d3
      have xm4 := HL5.out.t.d4
      have HV1 : Hid (Calls Tryd.prog 10 #[.agg #[.slice a0 X0.length c0, .int .i64 r0], .agg #[.int .i64 l1.b, .int .i64 l1.n, .int .i64 l1.e, .int .i64 l1.d, .int .i64 l1.x]] (w5.alloc (.cells #[.slice az Z.length cz, .int .i64 ((X0.length : Int) - 1)] 24)) fun e w' => VaOut X0 r0 l1 dz (w5.alloc (.cells #[.slice az Z.length cz, .int .i64 ((X0.length : Int) - 1)] 24)) w' e) := valid_any X0 a0 c0 r0 l1 dz _ (HS.out.belS HL5.out.t.bel) HSm.out HS.out.fn HL5.out.t.tab HD.out
      clear HC hs5 hb5 hZ HL4 hdz xa0 xa1
      go_wp2_with fail
      refine Calls.mono HV1.out ?_
      rintro e w6 ⟨e0, y0, rfl, hv0, hb6⟩
      have HL6 : Hid (Cz w w6 a0 X0 c0 r0 l1 gz az Z cz) := HL5.out.more hb6
      clear HV1 HL5 hb6 xl0 xl1 xm0 xm1 xm2 xm3 xm4 hgz
      have xl0 : w6.cell? ⟨gz, 0, none⟩ = some (.slice az Z.length cz) := HL6.out.z.cell 0
      have xl1 : w6.cell? ⟨gz, 1, none⟩ = some (.int .i64 ((X0.length : Int) - 1)) := HL6.out.z.cell 1
      have xm0 := HL6.out.t.d0
      have xm1 := HL6.out.t.d1
      have xm2 := HL6.out.t.d2
      have xm3 := HL6.out.t.d3
      have xm4 := HL6.out.t.d4
      have hgl := HL6.out.z.lt
      have HV2 : Hid (Calls Tryd.prog 10 #[.agg #[.slice az Z.length cz, .int .i64 ((X0.length : Int) - 1)], .agg #[.int .i64 l1.b, .int .i64 l1.n, .int .i64 l1.e, .int .i64 l1.d, .int .i64 l1.x]] w6 fun e w' => VaOut Z ((X0.length : Int) - 1) l1 dz w6 w' e) := valid_any Z az cz ((X0.length : Int) - 1) l1 dz w6 HL6.out.sc HZ.out.2.1 HZ.out.2.2 HL6.out.t.tab HDz.out
      go_wp2_with fail
      refine Calls.mono HV2.out ?_
      rintro e w7 ⟨e1, y1, rfl, hv1, hb7⟩
      have HL7 : Hid (Cz w w7 a0 X0 c0 r0 l1 gz az Z cz) := HL6.out.more hb7
      obtain ⟨q0, q19⟩ := HRn.out.va HR.out HZ.out.1 hv0 hv1
      have HMC : Hid (meC Z dz = meC X0 dz) := HRn.out.meC
      clear HV2 HL6 hb7 xl0 xl1 xm0 xm1 xm2 xm3 xm4 hv0 hv1 hgl
      by_cases h0 : e0 = 0
      · obtain rfl := q0.2 h0
        subst h0
        clear q0 q19
        go_wp2_with fail
        refine facts_region none 99 (lc0F X0 Z a0 az c0 cz r0 w.heap.size gz dz 0 0) (by kernel_rfl) (by kernel_rfl) (lc0F_stab X0 Z a0 az c0 cz r0 w.heap.size gz dz 0 0) ?step ?fin
        case step =>
          intro i' o' ho act W hg hstill hoff hdep K hK
          have hb := below_of_grown hg
          have hW := HL7.out.more hb
          have xa0 := hW.t.c0
          have xa1 := hW.t.c1
          have xz0 : W.cell? ⟨gz, 0, none⟩ = some (.slice az Z.length cz) := hW.z.cell 0
          have xz1 : W.cell? ⟨gz, 1, none⟩ = some (.int .i64 ((X0.length : Int) - 1)) := hW.z.cell 1
          have HMX : Hid (Calls Tryd.prog 15 #[.agg #[.slice a0 X0.length c0, .int .i64 r0]] W fun e w' => e = .returned (.agg #[.int .i64 0, .int .i64 X0.length, .int .i64 (edg X0 : Nat), .int .i64 (dz : Nat), .int .i64 (txb X0 : Nat)]) ∧ Below W.heap.size W w') := measure_any X0 a0 c0 r0 dz W (HS.out.belS hW.t.bel) HSm.out HD.out
          have HMZ : Hid (Calls Tryd.prog 15 #[.agg #[.slice az Z.length cz, .int .i64 ((X0.length : Int) - 1)]] W fun e w' => e = .returned (.agg #[.int .i64 0, .int .i64 X0.length, .int .i64 (edg X0 : Nat), .int .i64 (dz : Nat), .int .i64 (txb X0 : Nat)]) ∧ Below W.heap.size W w') := by
            have := measure_any Z az cz ((X0.length : Int) - 1) dz W hW.sc HZ.out.2.1 HDz.out
            rw [HMC.out] at this
            exact this
          have heq : ∀ U : World, (binOp .eql 26 (.agg #[.int .i64 0, .int .i64 X0.length, .int .i64 (edg X0 : Nat), .int .i64 (dz : Nat), .int .i64 (txb X0 : Nat)]) (.agg #[.int .i64 0, .int .i64 X0.length, .int .i64 (edg X0 : Nat), .int .i64 (dz : Nat), .int .i64 (txb X0 : Nat)])).run Tryd.prog U = .ok (.bool true) U := fun U => by have := eql_lim (meL X0 dz) (meL X0 dz) U; rw [meL_self] at this; exact this
          clear hb hW HL7 HS HSm HD HZ HDz HMC HRn HR
          rcases i' with _|_|_|_|_|_|_|_|_|_|_|_|_|_|_|_|_|_|_|_|_|_|_|_|i'
          · obtain rfl := Option.some.inj ho
            have t6 : act.tmps[6]?.getD undef = .int .i64 0 := hoff 6 (by kernel_rfl)
            clear hdep hoff hg hstill HMZ HMX heq
            go_simp
            exact hK _ _ (grown_refl _ _) rfl
          · obtain rfl := Option.some.inj ho
            have e0 : act.tmps[40]?.getD undef = .int .i64 0 := hdep 0 _ (by kernel_rfl) rfl
            clear hdep hoff hg hstill HMZ HMX heq
            go_simp
            exact hK _ _ (grown_refl _ _) rfl
          · obtain rfl := Option.some.inj ho
            have e1 : act.tmps[41]?.getD undef = .bool true := hdep 1 _ (by kernel_rfl) rfl
            clear hdep hoff hg hstill HMZ HMX heq
            go_simp
            exact hK _ _ (grown_refl _ _) rfl
          · obtain rfl := Option.some.inj ho
            have t5 : act.tmps[5]?.getD undef = .pointer (some ⟨gz, 0, none⟩) := hoff 5 (by kernel_rfl)
            have hgd : act.tmps[42]?.getD undef = .bool true := hdep 2 _ (by kernel_rfl) rfl
            have hgd' := getD_bool hgd
            clear hdep hoff hg hstill HMZ HMX heq
            go_simp
            exact hK _ _ (grown_refl _ _) rfl
          · obtain rfl := Option.some.inj ho
            have e3 : act.tmps[43]?.getD undef = .agg #[.slice az Z.length cz, .int .i64 ((X0.length : Int) - 1)] := hdep 3 _ (by kernel_rfl) rfl
            have hgd : act.tmps[42]?.getD undef = .bool true := hdep 2 _ (by kernel_rfl) rfl
            have hgd' := getD_bool hgd
            clear hdep hoff hg hstill HMX heq
            go_simp
            refine Calls.mono (Hid.out HMZ) ?_
            rintro e w' ⟨rfl, hb⟩
            exact hK _ _ (grown_of_below hb _) rfl
          · obtain rfl := Option.some.inj ho
            have t2 : act.tmps[2]?.getD undef = .pointer (some ⟨w.heap.size, 0, none⟩) := hoff 2 (by kernel_rfl)
            have hgd : act.tmps[42]?.getD undef = .bool true := hdep 2 _ (by kernel_rfl) rfl
            have hgd' := getD_bool hgd
            clear hdep hoff hg hstill HMZ HMX heq
            go_simp
            exact hK _ _ (grown_refl _ _) rfl
          · obtain rfl := Option.some.inj ho
            have e5 : act.tmps[45]?.getD undef = .agg #[.slice a0 X0.length c0, .int .i64 r0] := hdep 5 _ (by kernel_rfl) rfl
            have hgd : act.tmps[42]?.getD undef = .bool true := hdep 2 _ (by kernel_rfl) rfl
            have hgd' := getD_bool hgd
            clear hdep hoff hg hstill HMZ heq
            go_simp
            refine Calls.mono (Hid.out HMX) ?_
            rintro e w' ⟨rfl, hb⟩
            exact hK _ _ (grown_of_below hb _) rfl
          · obtain rfl := Option.some.inj ho
            have e4 : act.tmps[44]?.getD undef = .agg #[.int .i64 0, .int .i64 X0.length, .int .i64 (edg X0 : Nat), .int .i64 (dz : Nat), .int .i64 (txb X0 : Nat)] := hdep 4 _ (by kernel_rfl) rfl
            have e6 : act.tmps[46]?.getD undef = .agg #[.int .i64 0, .int .i64 X0.length, .int .i64 (edg X0 : Nat), .int .i64 (dz : Nat), .int .i64 (txb X0 : Nat)] := hdep 6 _ (by kernel_rfl) rfl
            have hgd : act.tmps[42]?.getD undef = .bool true := hdep 2 _ (by kernel_rfl) rfl
            have hgd' := getD_bool hgd
            clear hdep hoff hg hstill HMZ HMX
            have heq1 := heq W
            go_simp
            exact hK _ _ (grown_refl _ _) rfl
          · obtain rfl := Option.some.inj ho
            have e2 : act.tmps[42]?.getD undef = .bool true := hdep 2 _ (by kernel_rfl) rfl
            have e7 : act.tmps[47]?.getD undef = .bool true := hdep 7 _ (by kernel_rfl) rfl
            clear hdep hoff hg hstill HMZ HMX heq
            go_simp
            exact hK _ _ (grown_refl _ _) rfl
          · obtain rfl := Option.some.inj ho
            have e8 : act.tmps[48]?.getD undef = .bool true := hdep 8 _ (by kernel_rfl) rfl
            clear hdep hoff hg hstill HMZ HMX heq
            go_simp
            exact hK _ _ (grown_refl _ _) rfl
          · obtain rfl := Option.some.inj ho
            have t7 : act.tmps[7]?.getD undef = .int .i64 0 := hoff 7 (by kernel_rfl)
            have hgd : act.tmps[49]?.getD undef = .bool true := hdep 9 _ (by kernel_rfl) rfl
            have hgd' := getD_bool hgd
            clear hdep hoff hg hstill HMZ HMX heq
            go_simp
            exact hK _ _ (grown_refl _ _) rfl
          · obtain rfl := Option.some.inj ho
            have e10 : act.tmps[50]?.getD undef = .int .i64 0 := hdep 10 _ (by kernel_rfl) rfl
            have hgd : act.tmps[49]?.getD undef = .bool true := hdep 9 _ (by kernel_rfl) rfl
            have hgd' := getD_bool hgd
            clear hdep hoff hg hstill HMZ HMX heq
            go_simp
            exact hK _ _ (grown_refl _ _) rfl
          · obtain rfl := Option.some.inj ho
            have t9 : act.tmps[9]?.getD undef = .int .i64 0 := hoff 9 (by kernel_rfl)
            have hgd : act.tmps[49]?.getD undef = .bool true := hdep 9 _ (by kernel_rfl) rfl
            have hgd' := getD_bool hgd
            clear hdep hoff hg hstill HMZ HMX heq
            go_simp
            exact hK _ _ (grown_refl _ _) rfl
          · obtain rfl := Option.some.inj ho
            have e12 : act.tmps[52]?.getD undef = .int .i64 0 := hdep 12 _ (by kernel_rfl) rfl
            have hgd : act.tmps[49]?.getD undef = .bool true := hdep 9 _ (by kernel_rfl) rfl
            have hgd' := getD_bool hgd
            clear hdep hoff hg hstill HMZ HMX heq
            go_simp
            exact hK _ _ (grown_refl _ _) rfl
          · obtain rfl := Option.some.inj ho
            have e11 : act.tmps[51]?.getD undef = .bool true := hdep 11 _ (by kernel_rfl) rfl
            have e13 : act.tmps[53]?.getD undef = .bool true := hdep 13 _ (by kernel_rfl) rfl
            have hgd : act.tmps[49]?.getD undef = .bool true := hdep 9 _ (by kernel_rfl) rfl
            have hgd' := getD_bool hgd
            clear hdep hoff hg hstill HMZ HMX heq
            go_simp
            exact hK _ _ (grown_refl _ _) rfl
          · obtain rfl := Option.some.inj ho
            have e9 : act.tmps[49]?.getD undef = .bool true := hdep 9 _ (by kernel_rfl) rfl
            have e14 : act.tmps[54]?.getD undef = .bool true := hdep 14 _ (by kernel_rfl) rfl
            clear hdep hoff hg hstill HMZ HMX heq
            go_simp
            exact hK _ _ (grown_refl _ _) rfl
          · obtain rfl := Option.some.inj ho
            have e15 : act.tmps[55]?.getD undef = .bool true := hdep 15 _ (by kernel_rfl) rfl
            clear hdep hoff hg hstill HMZ HMX heq
            go_simp
            exact hK _ _ (grown_refl _ _) rfl
          · obtain rfl := Option.some.inj ho
            have t7 : act.tmps[7]?.getD undef = .int .i64 0 := hoff 7 (by kernel_rfl)
            have hgd : act.tmps[56]?.getD undef = .bool true := hdep 16 _ (by kernel_rfl) rfl
            have hgd' := getD_bool hgd
            clear hdep hoff hg hstill HMZ HMX heq
            go_simp
            exact hK _ _ (grown_refl _ _) rfl
          · obtain rfl := Option.some.inj ho
            have e17 : act.tmps[57]?.getD undef = .int .i64 0 := hdep 17 _ (by kernel_rfl) rfl
            have hgd : act.tmps[56]?.getD undef = .bool true := hdep 16 _ (by kernel_rfl) rfl
            have hgd' := getD_bool hgd
            clear hdep hoff hg hstill HMZ HMX heq
            go_simp
            exact hK _ _ (grown_refl _ _) rfl
          · obtain rfl := Option.some.inj ho
            have t9 : act.tmps[9]?.getD undef = .int .i64 0 := hoff 9 (by kernel_rfl)
            have hgd : act.tmps[56]?.getD undef = .bool true := hdep 16 _ (by kernel_rfl) rfl
            have hgd' := getD_bool hgd
            clear hdep hoff hg hstill HMZ HMX heq
            go_simp
            exact hK _ _ (grown_refl _ _) rfl
          · obtain rfl := Option.some.inj ho
            have e19 : act.tmps[59]?.getD undef = .int .i64 0 := hdep 19 _ (by kernel_rfl) rfl
            have hgd : act.tmps[56]?.getD undef = .bool true := hdep 16 _ (by kernel_rfl) rfl
            have hgd' := getD_bool hgd
            clear hdep hoff hg hstill HMZ HMX heq
            go_simp
            exact hK _ _ (grown_refl _ _) rfl
          · obtain rfl := Option.some.inj ho
            have e18 : act.tmps[58]?.getD undef = .bool false := hdep 18 _ (by kernel_rfl) rfl
            have e20 : act.tmps[60]?.getD undef = .bool false := hdep 20 _ (by kernel_rfl) rfl
            have hgd : act.tmps[56]?.getD undef = .bool true := hdep 16 _ (by kernel_rfl) rfl
            have hgd' := getD_bool hgd
            clear hdep hoff hg hstill HMZ HMX heq
            go_simp
            exact hK _ _ (grown_refl _ _) rfl
          · obtain rfl := Option.some.inj ho
            have e16 : act.tmps[56]?.getD undef = .bool true := hdep 16 _ (by kernel_rfl) rfl
            have e21 : act.tmps[61]?.getD undef = .bool true := hdep 21 _ (by kernel_rfl) rfl
            clear hdep hoff hg hstill HMZ HMX heq
            go_simp
            exact hK _ _ (grown_refl _ _) rfl
          · obtain rfl := Option.some.inj ho
            have e22 : act.tmps[62]?.getD undef = .bool true := hdep 22 _ (by kernel_rfl) rfl
            clear hdep hoff hg hstill HMZ HMX heq
            go_simp
            exact hK _ _ (grown_refl _ _) rfl
          · exact absurd ho (by simp)
        case fin =>
          intro V W hg hF
          have HB : Hid (Below w.heap.size w W) := (HL7.out.more (below_of_grown hg)).t.bel
          have v4 : V (some 4) = .bool true := hF 23 _ rfl
          clear hF hg HL7
          simp only [fillA, Act.put, List.setIfInBounds_toArray, List.set_cons_zero, List.set_cons_succ, v4]
          generalize V (some 40) = z40
          generalize V (some 41) = z41
          generalize V (some 42) = z42
          generalize V (some 43) = z43
          generalize V (some 44) = z44
          generalize V (some 45) = z45
          generalize V (some 46) = z46
          generalize V (some 47) = z47
          generalize V (some 48) = z48
          generalize V (some 49) = z49
          generalize V (some 50) = z50
          generalize V (some 51) = z51
          generalize V (some 52) = z52
          generalize V (some 53) = z53
          generalize V (some 54) = z54
          generalize V (some 55) = z55
          generalize V (some 56) = z56
          generalize V (some 57) = z57
          generalize V (some 58) = z58
          generalize V (some 59) = z59
          generalize V (some 60) = z60
          generalize V (some 61) = z61
          generalize V (some 62) = z62
          clear v4
          go_wp2_with fail
          go_ret
          exact ⟨rfl, HB.out⟩
      · have h1 : ¬ e1 = 0 := fun q => h0 (q0.1 q)
        by_cases h19 : e0 = 19
        · obtain rfl := q19.2 h19
          subst h19
          clear q0 q19 h0 h1
          go_wp2_with fail
          refine facts_region none 99 (lc1F X0 Z a0 az c0 cz r0 w.heap.size gz dz 0 0) (by kernel_rfl) (by kernel_rfl) (lc1F_stab X0 Z a0 az c0 cz r0 w.heap.size gz dz 0 0) ?step ?fin
          case step =>
            intro i' o' ho act W hg hstill hoff hdep K hK
            have hb := below_of_grown hg
            have hW := HL7.out.more hb
            have xa0 := hW.t.c0
            have xa1 := hW.t.c1
            have xz0 : W.cell? ⟨gz, 0, none⟩ = some (.slice az Z.length cz) := hW.z.cell 0
            have xz1 : W.cell? ⟨gz, 1, none⟩ = some (.int .i64 ((X0.length : Int) - 1)) := hW.z.cell 1
            have HMX : Hid (Calls Tryd.prog 15 #[.agg #[.slice a0 X0.length c0, .int .i64 r0]] W fun e w' => e = .returned (.agg #[.int .i64 0, .int .i64 X0.length, .int .i64 (edg X0 : Nat), .int .i64 (dz : Nat), .int .i64 (txb X0 : Nat)]) ∧ Below W.heap.size W w') := measure_any X0 a0 c0 r0 dz W (HS.out.belS hW.t.bel) HSm.out HD.out
            have HMZ : Hid (Calls Tryd.prog 15 #[.agg #[.slice az Z.length cz, .int .i64 ((X0.length : Int) - 1)]] W fun e w' => e = .returned (.agg #[.int .i64 0, .int .i64 X0.length, .int .i64 (edg X0 : Nat), .int .i64 (dz : Nat), .int .i64 (txb X0 : Nat)]) ∧ Below W.heap.size W w') := by
              have := measure_any Z az cz ((X0.length : Int) - 1) dz W hW.sc HZ.out.2.1 HDz.out
              rw [HMC.out] at this
              exact this
            have heq : ∀ U : World, (binOp .eql 26 (.agg #[.int .i64 0, .int .i64 X0.length, .int .i64 (edg X0 : Nat), .int .i64 (dz : Nat), .int .i64 (txb X0 : Nat)]) (.agg #[.int .i64 0, .int .i64 X0.length, .int .i64 (edg X0 : Nat), .int .i64 (dz : Nat), .int .i64 (txb X0 : Nat)])).run Tryd.prog U = .ok (.bool true) U := fun U => by have := eql_lim (meL X0 dz) (meL X0 dz) U; rw [meL_self] at this; exact this
            clear hb hW HL7 HS HSm HD HZ HDz HMC HRn HR
            rcases i' with _|_|_|_|_|_|_|_|_|_|_|_|_|_|_|_|_|_|_|_|_|_|_|_|i'
            · obtain rfl := Option.some.inj ho
              have t6 : act.tmps[6]?.getD undef = .int .i64 0 := hoff 6 (by kernel_rfl)
              clear hdep hoff hg hstill HMZ HMX heq
              go_simp
              exact hK _ _ (grown_refl _ _) rfl
            · obtain rfl := Option.some.inj ho
              have e0 : act.tmps[40]?.getD undef = .int .i64 0 := hdep 0 _ (by kernel_rfl) rfl
              clear hdep hoff hg hstill HMZ HMX heq
              go_simp
              exact hK _ _ (grown_refl _ _) rfl
            · obtain rfl := Option.some.inj ho
              have e1 : act.tmps[41]?.getD undef = .bool true := hdep 1 _ (by kernel_rfl) rfl
              clear hdep hoff hg hstill HMZ HMX heq
              go_simp
              exact hK _ _ (grown_refl _ _) rfl
            · obtain rfl := Option.some.inj ho
              have t5 : act.tmps[5]?.getD undef = .pointer (some ⟨gz, 0, none⟩) := hoff 5 (by kernel_rfl)
              have hgd : act.tmps[42]?.getD undef = .bool true := hdep 2 _ (by kernel_rfl) rfl
              have hgd' := getD_bool hgd
              clear hdep hoff hg hstill HMZ HMX heq
              go_simp
              exact hK _ _ (grown_refl _ _) rfl
            · obtain rfl := Option.some.inj ho
              have e3 : act.tmps[43]?.getD undef = .agg #[.slice az Z.length cz, .int .i64 ((X0.length : Int) - 1)] := hdep 3 _ (by kernel_rfl) rfl
              have hgd : act.tmps[42]?.getD undef = .bool true := hdep 2 _ (by kernel_rfl) rfl
              have hgd' := getD_bool hgd
              clear hdep hoff hg hstill HMX heq
              go_simp
              refine Calls.mono (Hid.out HMZ) ?_
              rintro e w' ⟨rfl, hb⟩
              exact hK _ _ (grown_of_below hb _) rfl
            · obtain rfl := Option.some.inj ho
              have t2 : act.tmps[2]?.getD undef = .pointer (some ⟨w.heap.size, 0, none⟩) := hoff 2 (by kernel_rfl)
              have hgd : act.tmps[42]?.getD undef = .bool true := hdep 2 _ (by kernel_rfl) rfl
              have hgd' := getD_bool hgd
              clear hdep hoff hg hstill HMZ HMX heq
              go_simp
              exact hK _ _ (grown_refl _ _) rfl
            · obtain rfl := Option.some.inj ho
              have e5 : act.tmps[45]?.getD undef = .agg #[.slice a0 X0.length c0, .int .i64 r0] := hdep 5 _ (by kernel_rfl) rfl
              have hgd : act.tmps[42]?.getD undef = .bool true := hdep 2 _ (by kernel_rfl) rfl
              have hgd' := getD_bool hgd
              clear hdep hoff hg hstill HMZ heq
              go_simp
              refine Calls.mono (Hid.out HMX) ?_
              rintro e w' ⟨rfl, hb⟩
              exact hK _ _ (grown_of_below hb _) rfl
            · obtain rfl := Option.some.inj ho
              have e4 : act.tmps[44]?.getD undef = .agg #[.int .i64 0, .int .i64 X0.length, .int .i64 (edg X0 : Nat), .int .i64 (dz : Nat), .int .i64 (txb X0 : Nat)] := hdep 4 _ (by kernel_rfl) rfl
              have e6 : act.tmps[46]?.getD undef = .agg #[.int .i64 0, .int .i64 X0.length, .int .i64 (edg X0 : Nat), .int .i64 (dz : Nat), .int .i64 (txb X0 : Nat)] := hdep 6 _ (by kernel_rfl) rfl
              have hgd : act.tmps[42]?.getD undef = .bool true := hdep 2 _ (by kernel_rfl) rfl
              have hgd' := getD_bool hgd
              clear hdep hoff hg hstill HMZ HMX
              have heq1 := heq W
              go_simp
              exact hK _ _ (grown_refl _ _) rfl
            · obtain rfl := Option.some.inj ho
              have e2 : act.tmps[42]?.getD undef = .bool true := hdep 2 _ (by kernel_rfl) rfl
              have e7 : act.tmps[47]?.getD undef = .bool true := hdep 7 _ (by kernel_rfl) rfl
              clear hdep hoff hg hstill HMZ HMX heq
              go_simp
              exact hK _ _ (grown_refl _ _) rfl
            · obtain rfl := Option.some.inj ho
              have e8 : act.tmps[48]?.getD undef = .bool true := hdep 8 _ (by kernel_rfl) rfl
              clear hdep hoff hg hstill HMZ HMX heq
              go_simp
              exact hK _ _ (grown_refl _ _) rfl
            · obtain rfl := Option.some.inj ho
              have t7 : act.tmps[7]?.getD undef = .int .i64 19 := hoff 7 (by kernel_rfl)
              have hgd : act.tmps[49]?.getD undef = .bool true := hdep 9 _ (by kernel_rfl) rfl
              have hgd' := getD_bool hgd
              clear hdep hoff hg hstill HMZ HMX heq
              go_simp
              exact hK _ _ (grown_refl _ _) rfl
            · obtain rfl := Option.some.inj ho
              have e10 : act.tmps[50]?.getD undef = .int .i64 19 := hdep 10 _ (by kernel_rfl) rfl
              have hgd : act.tmps[49]?.getD undef = .bool true := hdep 9 _ (by kernel_rfl) rfl
              have hgd' := getD_bool hgd
              clear hdep hoff hg hstill HMZ HMX heq
              go_simp
              exact hK _ _ (grown_refl _ _) rfl
            · obtain rfl := Option.some.inj ho
              have t9 : act.tmps[9]?.getD undef = .int .i64 19 := hoff 9 (by kernel_rfl)
              have hgd : act.tmps[49]?.getD undef = .bool true := hdep 9 _ (by kernel_rfl) rfl
              have hgd' := getD_bool hgd
              clear hdep hoff hg hstill HMZ HMX heq
              go_simp
              exact hK _ _ (grown_refl _ _) rfl
            · obtain rfl := Option.some.inj ho
              have e12 : act.tmps[52]?.getD undef = .int .i64 19 := hdep 12 _ (by kernel_rfl) rfl
              have hgd : act.tmps[49]?.getD undef = .bool true := hdep 9 _ (by kernel_rfl) rfl
              have hgd' := getD_bool hgd
              clear hdep hoff hg hstill HMZ HMX heq
              go_simp
              exact hK _ _ (grown_refl _ _) rfl
            · obtain rfl := Option.some.inj ho
              have e11 : act.tmps[51]?.getD undef = .bool false := hdep 11 _ (by kernel_rfl) rfl
              have e13 : act.tmps[53]?.getD undef = .bool false := hdep 13 _ (by kernel_rfl) rfl
              have hgd : act.tmps[49]?.getD undef = .bool true := hdep 9 _ (by kernel_rfl) rfl
              have hgd' := getD_bool hgd
              clear hdep hoff hg hstill HMZ HMX heq
              go_simp
              exact hK _ _ (grown_refl _ _) rfl
            · obtain rfl := Option.some.inj ho
              have e9 : act.tmps[49]?.getD undef = .bool true := hdep 9 _ (by kernel_rfl) rfl
              have e14 : act.tmps[54]?.getD undef = .bool true := hdep 14 _ (by kernel_rfl) rfl
              clear hdep hoff hg hstill HMZ HMX heq
              go_simp
              exact hK _ _ (grown_refl _ _) rfl
            · obtain rfl := Option.some.inj ho
              have e15 : act.tmps[55]?.getD undef = .bool true := hdep 15 _ (by kernel_rfl) rfl
              clear hdep hoff hg hstill HMZ HMX heq
              go_simp
              exact hK _ _ (grown_refl _ _) rfl
            · obtain rfl := Option.some.inj ho
              have t7 : act.tmps[7]?.getD undef = .int .i64 19 := hoff 7 (by kernel_rfl)
              have hgd : act.tmps[56]?.getD undef = .bool true := hdep 16 _ (by kernel_rfl) rfl
              have hgd' := getD_bool hgd
              clear hdep hoff hg hstill HMZ HMX heq
              go_simp
              exact hK _ _ (grown_refl _ _) rfl
            · obtain rfl := Option.some.inj ho
              have e17 : act.tmps[57]?.getD undef = .int .i64 19 := hdep 17 _ (by kernel_rfl) rfl
              have hgd : act.tmps[56]?.getD undef = .bool true := hdep 16 _ (by kernel_rfl) rfl
              have hgd' := getD_bool hgd
              clear hdep hoff hg hstill HMZ HMX heq
              go_simp
              exact hK _ _ (grown_refl _ _) rfl
            · obtain rfl := Option.some.inj ho
              have t9 : act.tmps[9]?.getD undef = .int .i64 19 := hoff 9 (by kernel_rfl)
              have hgd : act.tmps[56]?.getD undef = .bool true := hdep 16 _ (by kernel_rfl) rfl
              have hgd' := getD_bool hgd
              clear hdep hoff hg hstill HMZ HMX heq
              go_simp
              exact hK _ _ (grown_refl _ _) rfl
            · obtain rfl := Option.some.inj ho
              have e19 : act.tmps[59]?.getD undef = .int .i64 19 := hdep 19 _ (by kernel_rfl) rfl
              have hgd : act.tmps[56]?.getD undef = .bool true := hdep 16 _ (by kernel_rfl) rfl
              have hgd' := getD_bool hgd
              clear hdep hoff hg hstill HMZ HMX heq
              go_simp
              exact hK _ _ (grown_refl _ _) rfl
            · obtain rfl := Option.some.inj ho
              have e18 : act.tmps[58]?.getD undef = .bool true := hdep 18 _ (by kernel_rfl) rfl
              have e20 : act.tmps[60]?.getD undef = .bool true := hdep 20 _ (by kernel_rfl) rfl
              have hgd : act.tmps[56]?.getD undef = .bool true := hdep 16 _ (by kernel_rfl) rfl
              have hgd' := getD_bool hgd
              clear hdep hoff hg hstill HMZ HMX heq
              go_simp
              exact hK _ _ (grown_refl _ _) rfl
            · obtain rfl := Option.some.inj ho
              have e16 : act.tmps[56]?.getD undef = .bool true := hdep 16 _ (by kernel_rfl) rfl
              have e21 : act.tmps[61]?.getD undef = .bool true := hdep 21 _ (by kernel_rfl) rfl
              clear hdep hoff hg hstill HMZ HMX heq
              go_simp
              exact hK _ _ (grown_refl _ _) rfl
            · obtain rfl := Option.some.inj ho
              have e22 : act.tmps[62]?.getD undef = .bool true := hdep 22 _ (by kernel_rfl) rfl
              clear hdep hoff hg hstill HMZ HMX heq
              go_simp
              exact hK _ _ (grown_refl _ _) rfl
            · exact absurd ho (by simp)
          case fin =>
            intro V W hg hF
            have HB : Hid (Below w.heap.size w W) := (HL7.out.more (below_of_grown hg)).t.bel
            have v4 : V (some 4) = .bool true := hF 23 _ rfl
            clear hF hg HL7
            simp only [fillA, Act.put, List.setIfInBounds_toArray, List.set_cons_zero, List.set_cons_succ, v4]
            generalize V (some 40) = z40
            generalize V (some 41) = z41
            generalize V (some 42) = z42
            generalize V (some 43) = z43
            generalize V (some 44) = z44
            generalize V (some 45) = z45
            generalize V (some 46) = z46
            generalize V (some 47) = z47
            generalize V (some 48) = z48
            generalize V (some 49) = z49
            generalize V (some 50) = z50
            generalize V (some 51) = z51
            generalize V (some 52) = z52
            generalize V (some 53) = z53
            generalize V (some 54) = z54
            generalize V (some 55) = z55
            generalize V (some 56) = z56
            generalize V (some 57) = z57
            generalize V (some 58) = z58
            generalize V (some 59) = z59
            generalize V (some 60) = z60
            generalize V (some 61) = z61
            generalize V (some 62) = z62
            clear v4
            go_wp2_with fail
            go_ret
            exact ⟨rfl, HB.out⟩
        · have h191 : ¬ e1 = 19 := fun q => h19 (q19.1 q)
          clear q0 q19
          go_wp2_with fail
          refine facts_region none 99 (lc2F X0 Z a0 az c0 cz r0 w.heap.size gz dz e0 e1) (by kernel_rfl) (by kernel_rfl) (lc2F_stab X0 Z a0 az c0 cz r0 w.heap.size gz dz e0 e1) ?step ?fin
          case step =>
            intro i' o' ho act W hg hstill hoff hdep K hK
            have hb := below_of_grown hg
            have hW := HL7.out.more hb
            have xa0 := hW.t.c0
            have xa1 := hW.t.c1
            have xz0 : W.cell? ⟨gz, 0, none⟩ = some (.slice az Z.length cz) := hW.z.cell 0
            have xz1 : W.cell? ⟨gz, 1, none⟩ = some (.int .i64 ((X0.length : Int) - 1)) := hW.z.cell 1
            have HMX : Hid (Calls Tryd.prog 15 #[.agg #[.slice a0 X0.length c0, .int .i64 r0]] W fun e w' => e = .returned (.agg #[.int .i64 0, .int .i64 X0.length, .int .i64 (edg X0 : Nat), .int .i64 (dz : Nat), .int .i64 (txb X0 : Nat)]) ∧ Below W.heap.size W w') := measure_any X0 a0 c0 r0 dz W (HS.out.belS hW.t.bel) HSm.out HD.out
            have HMZ : Hid (Calls Tryd.prog 15 #[.agg #[.slice az Z.length cz, .int .i64 ((X0.length : Int) - 1)]] W fun e w' => e = .returned (.agg #[.int .i64 0, .int .i64 X0.length, .int .i64 (edg X0 : Nat), .int .i64 (dz : Nat), .int .i64 (txb X0 : Nat)]) ∧ Below W.heap.size W w') := by
              have := measure_any Z az cz ((X0.length : Int) - 1) dz W hW.sc HZ.out.2.1 HDz.out
              rw [HMC.out] at this
              exact this
            have heq : ∀ U : World, (binOp .eql 26 (.agg #[.int .i64 0, .int .i64 X0.length, .int .i64 (edg X0 : Nat), .int .i64 (dz : Nat), .int .i64 (txb X0 : Nat)]) (.agg #[.int .i64 0, .int .i64 X0.length, .int .i64 (edg X0 : Nat), .int .i64 (dz : Nat), .int .i64 (txb X0 : Nat)])).run Tryd.prog U = .ok (.bool true) U := fun U => by have := eql_lim (meL X0 dz) (meL X0 dz) U; rw [meL_self] at this; exact this
            clear hb hW HL7 HS HSm HD HZ HDz HMC HRn HR
            rcases i' with _|_|_|_|_|_|_|_|_|_|_|_|_|_|_|_|_|_|_|_|_|_|_|_|i'
            · obtain rfl := Option.some.inj ho
              have t6 : act.tmps[6]?.getD undef = .int .i64 0 := hoff 6 (by kernel_rfl)
              clear hdep hoff hg hstill HMZ HMX heq
              go_simp
              exact hK _ _ (grown_refl _ _) rfl
            · obtain rfl := Option.some.inj ho
              have e0 : act.tmps[40]?.getD undef = .int .i64 0 := hdep 0 _ (by kernel_rfl) rfl
              clear hdep hoff hg hstill HMZ HMX heq
              go_simp
              exact hK _ _ (grown_refl _ _) rfl
            · obtain rfl := Option.some.inj ho
              have e1 : act.tmps[41]?.getD undef = .bool true := hdep 1 _ (by kernel_rfl) rfl
              clear hdep hoff hg hstill HMZ HMX heq
              go_simp
              exact hK _ _ (grown_refl _ _) rfl
            · obtain rfl := Option.some.inj ho
              have t5 : act.tmps[5]?.getD undef = .pointer (some ⟨gz, 0, none⟩) := hoff 5 (by kernel_rfl)
              have hgd : act.tmps[42]?.getD undef = .bool true := hdep 2 _ (by kernel_rfl) rfl
              have hgd' := getD_bool hgd
              clear hdep hoff hg hstill HMZ HMX heq
              go_simp
              exact hK _ _ (grown_refl _ _) rfl
            · obtain rfl := Option.some.inj ho
              have e3 : act.tmps[43]?.getD undef = .agg #[.slice az Z.length cz, .int .i64 ((X0.length : Int) - 1)] := hdep 3 _ (by kernel_rfl) rfl
              have hgd : act.tmps[42]?.getD undef = .bool true := hdep 2 _ (by kernel_rfl) rfl
              have hgd' := getD_bool hgd
              clear hdep hoff hg hstill HMX heq
              go_simp
              refine Calls.mono (Hid.out HMZ) ?_
              rintro e w' ⟨rfl, hb⟩
              exact hK _ _ (grown_of_below hb _) rfl
            · obtain rfl := Option.some.inj ho
              have t2 : act.tmps[2]?.getD undef = .pointer (some ⟨w.heap.size, 0, none⟩) := hoff 2 (by kernel_rfl)
              have hgd : act.tmps[42]?.getD undef = .bool true := hdep 2 _ (by kernel_rfl) rfl
              have hgd' := getD_bool hgd
              clear hdep hoff hg hstill HMZ HMX heq
              go_simp
              exact hK _ _ (grown_refl _ _) rfl
            · obtain rfl := Option.some.inj ho
              have e5 : act.tmps[45]?.getD undef = .agg #[.slice a0 X0.length c0, .int .i64 r0] := hdep 5 _ (by kernel_rfl) rfl
              have hgd : act.tmps[42]?.getD undef = .bool true := hdep 2 _ (by kernel_rfl) rfl
              have hgd' := getD_bool hgd
              clear hdep hoff hg hstill HMZ heq
              go_simp
              refine Calls.mono (Hid.out HMX) ?_
              rintro e w' ⟨rfl, hb⟩
              exact hK _ _ (grown_of_below hb _) rfl
            · obtain rfl := Option.some.inj ho
              have e4 : act.tmps[44]?.getD undef = .agg #[.int .i64 0, .int .i64 X0.length, .int .i64 (edg X0 : Nat), .int .i64 (dz : Nat), .int .i64 (txb X0 : Nat)] := hdep 4 _ (by kernel_rfl) rfl
              have e6 : act.tmps[46]?.getD undef = .agg #[.int .i64 0, .int .i64 X0.length, .int .i64 (edg X0 : Nat), .int .i64 (dz : Nat), .int .i64 (txb X0 : Nat)] := hdep 6 _ (by kernel_rfl) rfl
              have hgd : act.tmps[42]?.getD undef = .bool true := hdep 2 _ (by kernel_rfl) rfl
              have hgd' := getD_bool hgd
              clear hdep hoff hg hstill HMZ HMX
              have heq1 := heq W
              go_simp
              exact hK _ _ (grown_refl _ _) rfl
            · obtain rfl := Option.some.inj ho
              have e2 : act.tmps[42]?.getD undef = .bool true := hdep 2 _ (by kernel_rfl) rfl
              have e7 : act.tmps[47]?.getD undef = .bool true := hdep 7 _ (by kernel_rfl) rfl
              clear hdep hoff hg hstill HMZ HMX heq
              go_simp
              exact hK _ _ (grown_refl _ _) rfl
            · obtain rfl := Option.some.inj ho
              have e8 : act.tmps[48]?.getD undef = .bool true := hdep 8 _ (by kernel_rfl) rfl
              clear hdep hoff hg hstill HMZ HMX heq
              go_simp
              exact hK _ _ (grown_refl _ _) rfl
            · obtain rfl := Option.some.inj ho
              have t7 : act.tmps[7]?.getD undef = .int .i64 e0 := hoff 7 (by kernel_rfl)
              have hgd : act.tmps[49]?.getD undef = .bool true := hdep 9 _ (by kernel_rfl) rfl
              have hgd' := getD_bool hgd
              clear hdep hoff hg hstill HMZ HMX heq
              go_simp
              exact hK _ _ (grown_refl _ _) rfl
            · obtain rfl := Option.some.inj ho
              have e10 : act.tmps[50]?.getD undef = .int .i64 e0 := hdep 10 _ (by kernel_rfl) rfl
              have hgd : act.tmps[49]?.getD undef = .bool true := hdep 9 _ (by kernel_rfl) rfl
              have hgd' := getD_bool hgd
              clear hdep hoff hg hstill HMZ HMX heq
              go_simp
              exact hK _ _ (grown_refl _ _) (by simp [lc2F, own1, h0])
            · obtain rfl := Option.some.inj ho
              have t9 : act.tmps[9]?.getD undef = .int .i64 e1 := hoff 9 (by kernel_rfl)
              have hgd : act.tmps[49]?.getD undef = .bool true := hdep 9 _ (by kernel_rfl) rfl
              have hgd' := getD_bool hgd
              clear hdep hoff hg hstill HMZ HMX heq
              go_simp
              exact hK _ _ (grown_refl _ _) rfl
            · obtain rfl := Option.some.inj ho
              have e12 : act.tmps[52]?.getD undef = .int .i64 e1 := hdep 12 _ (by kernel_rfl) rfl
              have hgd : act.tmps[49]?.getD undef = .bool true := hdep 9 _ (by kernel_rfl) rfl
              have hgd' := getD_bool hgd
              clear hdep hoff hg hstill HMZ HMX heq
              go_simp
              exact hK _ _ (grown_refl _ _) (by simp [lc2F, own1, h1])
            · obtain rfl := Option.some.inj ho
              have e11 : act.tmps[51]?.getD undef = .bool false := hdep 11 _ (by kernel_rfl) rfl
              have e13 : act.tmps[53]?.getD undef = .bool false := hdep 13 _ (by kernel_rfl) rfl
              have hgd : act.tmps[49]?.getD undef = .bool true := hdep 9 _ (by kernel_rfl) rfl
              have hgd' := getD_bool hgd
              clear hdep hoff hg hstill HMZ HMX heq
              go_simp
              exact hK _ _ (grown_refl _ _) rfl
            · obtain rfl := Option.some.inj ho
              have e9 : act.tmps[49]?.getD undef = .bool true := hdep 9 _ (by kernel_rfl) rfl
              have e14 : act.tmps[54]?.getD undef = .bool true := hdep 14 _ (by kernel_rfl) rfl
              clear hdep hoff hg hstill HMZ HMX heq
              go_simp
              exact hK _ _ (grown_refl _ _) rfl
            · obtain rfl := Option.some.inj ho
              have e15 : act.tmps[55]?.getD undef = .bool true := hdep 15 _ (by kernel_rfl) rfl
              clear hdep hoff hg hstill HMZ HMX heq
              go_simp
              exact hK _ _ (grown_refl _ _) rfl
            · obtain rfl := Option.some.inj ho
              have t7 : act.tmps[7]?.getD undef = .int .i64 e0 := hoff 7 (by kernel_rfl)
              have hgd : act.tmps[56]?.getD undef = .bool true := hdep 16 _ (by kernel_rfl) rfl
              have hgd' := getD_bool hgd
              clear hdep hoff hg hstill HMZ HMX heq
              go_simp
              exact hK _ _ (grown_refl _ _) rfl
            · obtain rfl := Option.some.inj ho
              have e17 : act.tmps[57]?.getD undef = .int .i64 e0 := hdep 17 _ (by kernel_rfl) rfl
              have hgd : act.tmps[56]?.getD undef = .bool true := hdep 16 _ (by kernel_rfl) rfl
              have hgd' := getD_bool hgd
              clear hdep hoff hg hstill HMZ HMX heq
              go_simp
              exact hK _ _ (grown_refl _ _) (by simp [lc2F, own1, h19])
            · obtain rfl := Option.some.inj ho
              have t9 : act.tmps[9]?.getD undef = .int .i64 e1 := hoff 9 (by kernel_rfl)
              have hgd : act.tmps[56]?.getD undef = .bool true := hdep 16 _ (by kernel_rfl) rfl
              have hgd' := getD_bool hgd
              clear hdep hoff hg hstill HMZ HMX heq
              go_simp
              exact hK _ _ (grown_refl _ _) rfl
            · obtain rfl := Option.some.inj ho
              have e19 : act.tmps[59]?.getD undef = .int .i64 e1 := hdep 19 _ (by kernel_rfl) rfl
              have hgd : act.tmps[56]?.getD undef = .bool true := hdep 16 _ (by kernel_rfl) rfl
              have hgd' := getD_bool hgd
              clear hdep hoff hg hstill HMZ HMX heq
              go_simp
              exact hK _ _ (grown_refl _ _) (by simp [lc2F, own1, h191])
            · obtain rfl := Option.some.inj ho
              have e18 : act.tmps[58]?.getD undef = .bool false := hdep 18 _ (by kernel_rfl) rfl
              have e20 : act.tmps[60]?.getD undef = .bool false := hdep 20 _ (by kernel_rfl) rfl
              have hgd : act.tmps[56]?.getD undef = .bool true := hdep 16 _ (by kernel_rfl) rfl
              have hgd' := getD_bool hgd
              clear hdep hoff hg hstill HMZ HMX heq
              go_simp
              exact hK _ _ (grown_refl _ _) rfl
            · obtain rfl := Option.some.inj ho
              have e16 : act.tmps[56]?.getD undef = .bool true := hdep 16 _ (by kernel_rfl) rfl
              have e21 : act.tmps[61]?.getD undef = .bool true := hdep 21 _ (by kernel_rfl) rfl
              clear hdep hoff hg hstill HMZ HMX heq
              go_simp
              exact hK _ _ (grown_refl _ _) rfl
            · obtain rfl := Option.some.inj ho
              have e22 : act.tmps[62]?.getD undef = .bool true := hdep 22 _ (by kernel_rfl) rfl
              clear hdep hoff hg hstill HMZ HMX heq
              go_simp
              exact hK _ _ (grown_refl _ _) rfl
            · exact absurd ho (by simp)
          case fin =>
            intro V W hg hF
            have HB : Hid (Below w.heap.size w W) := (HL7.out.more (below_of_grown hg)).t.bel
            have v4 : V (some 4) = .bool true := hF 23 _ rfl
            clear hF hg HL7
            simp only [fillA, Act.put, List.setIfInBounds_toArray, List.set_cons_zero, List.set_cons_succ, v4]
            generalize V (some 40) = z40
            generalize V (some 41) = z41
            generalize V (some 42) = z42
            generalize V (some 43) = z43
            generalize V (some 44) = z44
            generalize V (some 45) = z45
            generalize V (some 46) = z46
            generalize V (some 47) = z47
            generalize V (some 48) = z48
            generalize V (some 49) = z49
            generalize V (some 50) = z50
            generalize V (some 51) = z51
            generalize V (some 52) = z52
            generalize V (some 53) = z53
            generalize V (some 54) = z54
            generalize V (some 55) = z55
            generalize V (some 56) = z56
            generalize V (some 57) = z57
            generalize V (some 58) = z58
            generalize V (some 59) = z59
            generalize V (some 60) = z60
            generalize V (some 61) = z61
            generalize V (some 62) = z62
            clear v4
            go_wp2_with fail
            go_ret
            exact ⟨rfl, HB.out⟩

set_option maxRecDepth 100000 in
theorem lifted (os : Os) (started : os.Started) (H : Type) (enc : TypeId × Value → H) :
    ReturnsInHanded {} Tryd.checked os 6 .any (fun w args => (Rows.limitCanonSpec.pre enc Tryd.prog Tryd.f6 [] false w args ∧ laidMetH Tryd.prog laid2 w) ∧ sizedMet enc Tryd.prog Tryd.f6 (OpenSpec.ofChange Rows.limitCanonSpec) false w args)
      (Rows.limitCanonSpec.post enc Tryd.prog Tryd.f6 false true false false) := by
  refine returnsInHanded_of_change_and (C := Tryd.checked) (X := fun w _ => laidMetH Tryd.prog laid2 w) (fun _ _ _ hh h => h.of_heap hh) own started (by kernel_rfl) Tryd.func6
    (ChangeSpec.witness_shaped (enc := enc) (C := Tryd.checked) (os := os) (X := fun w _ => laidMetH Tryd.prog laid2 w) false (World.doorLaid Tryd.prog 400 os) #[.agg #[.slice none 0 0, .int .i64 0], .agg #[.int .i64 0, .int .i64 0, .int .i64 0, .int .i64 0, .int .i64 0]] 8 rfl (World.shaped_of_RefB (by kernel_rfl) (by kernel_rfl)) (by kernel_rfl) (by kernel_rfl) (by kernel_rfl) (door_met os _)) ?_
  intro W base args ds gs before hval0 hW _ _ hL _
  have hval : ∀ (j : Nat) t v, Tryd.f6.params[j]? = some t → args[j]? = some v → Value.okWide Tryd.prog W .any base t v := hval0
  have hW' := hW
  obtain ⟨p, q, hA0, hV, rfl, hfz, hnd⟩ := hW
  have hA : DataW.TrodAll enc Tryd.prog W 0 (fun _ => true) true Tryd.f6.params.toList args.toList ds p := hA0
  rw [Tryd.params6] at hA hval
  obtain ⟨v0, vs0, d0, ds0, p0, q0, hargs, rfl, rfl, h0, r0⟩ := trodAll_cons hA
  obtain ⟨v1, vs1, d1, ds1, p1, q1, rfl, rfl, rfl, h1, r1⟩ := trodAll_cons r0
  obtain ⟨rfl, rfl, rfl⟩ := trodAll_nil r1
  obtain rfl : args = #[v0, v1] := by cases args; simp_all
  obtain ⟨rfl, rfl⟩ := trodVars_none hV
  have K0 := h0
  have lt0 : ∀ x ∈ p0, x.block < W.heap.size := by obtain ⟨m, hm⟩ := K0; exact DataW.trod_lt m _ _ _ hm
  obtain ⟨X0, a0, c0, rt0, rfl, w0⟩ := open_scene Tryd.underlying24 (by kernel_rfl) (by kernel_rfl) Tryd.underlying22 Tryd.underlying3 Tryd.underlying50 (by kernel_rfl) rfl rfl rfl rfl (by kernel_rfl) (by kernel_rfl) (by kernel_rfl) (by kernel_rfl) Tryd.underlying3 Tryd.underlying46 Tryd.underlying47 Tryd.underlying48 Tryd.underlying2 Tryd.underlying9 Tryd.underlying3 (by kernel_rfl) (by kernel_rfl) (by kernel_rfl) (hval 0 24 v0 rfl rfl) h0
  have K1 := h1
  have lt1 : ∀ x ∈ p1, x.block < W.heap.size := by obtain ⟨m, hm⟩ := K1; exact DataW.trod_lt m _ _ _ hm
  obtain ⟨l1, rfl, w1⟩ := open_lim Tryd.underlying26 (by kernel_rfl) (by kernel_rfl) Tryd.underlying3 Tryd.underlying3 Tryd.underlying3 Tryd.underlying3 Tryd.underlying3 (hval 1 26 v1 rfl rfl) h1
  clear hA0 hval0
  refine (walk X0 a0 c0 rt0 l1 W w0 w1 (tabs_of hL)).mono fun e W' ⟨he, bel⟩ => ?_
  subst he
  exact ⟨_, rfl, _, _, _, [], _, [], hW', trodAll_mk1 (shut_bool Tryd.underlying4 _), (trodAll_cons_mk (Below.trod laidOut (by kernel_rfl) (of_decide_eq_true (by kernel_rfl)) K0 bel lt0) (trodAll_cons_mk (Below.trod laidOut (by kernel_rfl) (of_decide_eq_true (by kernel_rfl)) K1 bel lt1) trodAll_mk0)), rfl, bel.frame _, fun h => by cases h⟩

theorem row : Rows.limitCanonRow.holds Tryd.pinned (OpenSpec.ofChange Rows.limitCanonSpec) :=
  OpenClaim.holds_of_wide 6 Tryd.f6 rfl rfl rfl rfl rfl rfl rfl ⟨rfl, rfl, rfl, rfl, rfl⟩ rfl rfl rfl rfl rfl (by kernel_rfl) Tryd.func6 (by kernel_rfl)
    (of_decide_eq_true (by kernel_rfl)) (by unfold Func.isWrapper; first | (rw [if_pos (by decide +kernel)]; kernel_rfl) | (rw [if_neg (by decide +kernel)]; exact ⟨rfl, rfl⟩))
    (fun os started H enc _ => lifted os started H enc)

/-- No parameter wants a stand-in; the program's own looks are off: what the card asks. -/
theorem plain (f : FuncId) (fn : Func) (hf : Tryd.pinned.checked.prog.funcNamed Rows.limitCanonRow.func = some f) (hfn : Tryd.pinned.checked.prog.funcs[f]? = some fn) :
    false = Tryd.pinned.checked.prog.looks [] ∧ ∀ (j : Nat) t, fn.params[j]? = some t → Tryd.pinned.checked.prog.wantsStandIn t = false := by
  obtain rfl : f = 6 := Option.some.inj ((show Tryd.prog.funcNamed Rows.limitCanonRow.func = some 6 by kernel_rfl).symm.trans hf) |>.symm
  obtain rfl : fn = Tryd.f6 := (Option.some.inj (Tryd.func6.symm.trans hfn)).symm
  refine ⟨by kernel_rfl, fun j t ht => ?_⟩
  have hm := Array.mem_of_getElem? ht
  have hall : (Tryd.f6.params.toList.all fun u => !Tryd.prog.wantsStandIn u) = true := by kernel_rfl
  exact (show Tryd.prog.wantsStandIn t = false by simpa using List.all_eq_true.1 hall t (by simpa using hm))

/-- ████ THE CARD ████ -/
theorem over : Rows.LimitCanonCardSaid :=
  Claim7.holds_tied_plain_at .later [] _ _ _ _ row (fun _ h => by cases h) (by kernel_rfl) (fun _ h => by cases h) limitCanon_row_tie rfl ⟨rfl, rfl⟩ (by kernel_rfl) rfl plain (by kernel_rfl)

end Go.Proofs.YtdioecmpcppleaaDoor.limitCanon

namespace Go.Proofs.YtdioecmpcppleaaDoor
theorem limitCanon_holds : Rows.LimitCanonCardSaid := limitCanon.over
#print axioms limitCanon_holds
end Go.Proofs.YtdioecmpcppleaaDoor
