/- For every scene and all limits: the program's Measure tells how much the scene has as the document counts it, Right whether limits may be, and Within whether one is within another, just as the document says (scenes greater than the law plays with are let go by the law itself); the arguments read afterwards as before. The package schema's tables hold what the program's text lays into them when the call begins (the card ties them). -/
import Derived.Test.YtdioecmpcppleaaDoorRows
import Derived.Test.YtdioecmpcppleaaDoorCards
import Derived.Test.YtdioecmpcppleaaDoorTie
import Derived.WalkKit
import Derived.ProofKit
import Derived.OpenShut
import Derived.ShutString
import Derived.Below
import Derived.Test.YtdioecmpcppleaaDoorLSame
import Derived.Test.YtdioecmpcppleaaDoorLEq
import Derived.ChangeOld
import Derived.LaidMore
import Derived.SevenTiedAt
namespace Go.Proofs.YtdioecmpcppleaaDoor.limitMeasures
open Go.ChangeShapes Go.WideShapes Go.ChangeAt Go.RowKit
open Go.ChangeMaps (open_string shut_string)
set_option linter.unusedVariables false

theorem own : ownKnob Tryd.prog.godebug = none := by kernel_rfl
theorem laidOut : laidOutB Tryd.prog = true := by kernel_rfl

theorem meL_self (X : List Nx) (d : Nat) : sameL (meL X d) (meL X d) = true := decide_eq_true ⟨rfl, rfl, rfl, rfl, rfl⟩
/-- The facts of the region in which all is asked. -/
def lmF (X0 : List Nx) (a0 : Option Addr) (c0 : Nat) (r0 : Int) (l1 l2 : Lm) (bx d : Nat) (k q : Bool) : Nat → Value → World → Prop
  | 0, v, _ => v = .agg #[.slice a0 X0.length c0, .int .i64 r0]
  | 1, v, W => ∃ (Y : List Nx) (ay : Option Addr) (cy : Nat), v = .agg #[.slice ay Y.length cy, .int .i64 r0] ∧ Y.map Nx.nd = X0.map Nx.nd ∧ ScAt W ay Y
  | 2, v, _ => v = .agg #[.int .i64 0, .int .i64 X0.length, .int .i64 (edg X0 : Nat), .int .i64 (d : Nat), .int .i64 (txb X0 : Nat)]
  | 3, v, _ => v = .agg #[.slice a0 X0.length c0, .int .i64 r0]
  | 4, v, _ => v = .agg #[.int .i64 0, .int .i64 X0.length, .int .i64 (edg X0 : Nat), .int .i64 (d : Nat), .int .i64 (txb X0 : Nat)]
  | 5, v, _ => v = .bool true
  | 6, v, _ => v = .bool true
  | 7, v, _ => v = .agg #[.int .i64 l2.b, .int .i64 l2.n, .int .i64 l2.e, .int .i64 l2.d, .int .i64 l2.x]
  | 8, v, _ => v = .bool k
  | 9, v, _ => v = .agg #[.int .i64 l2.b, .int .i64 l2.n, .int .i64 l2.e, .int .i64 l2.d, .int .i64 l2.x]
  | 10, v, _ => v = .bool k
  | 11, v, _ => v = .bool true
  | 12, v, _ => v = .bool true
  | 13, v, _ => v = .bool true
  | 14, v, _ => v = .agg #[.int .i64 l1.b, .int .i64 l1.n, .int .i64 l1.e, .int .i64 l1.d, .int .i64 l1.x]
  | 15, v, _ => v = .agg #[.int .i64 l2.b, .int .i64 l2.n, .int .i64 l2.e, .int .i64 l2.d, .int .i64 l2.x]
  | 16, v, _ => v = .bool q
  | 17, v, _ => v = .agg #[.int .i64 l1.b, .int .i64 l1.n, .int .i64 l1.e, .int .i64 l1.d, .int .i64 l1.x]
  | 18, v, _ => v = .agg #[.int .i64 l2.b, .int .i64 l2.n, .int .i64 l2.e, .int .i64 l2.d, .int .i64 l2.x]
  | 19, v, _ => v = .bool q
  | 20, v, _ => v = .bool true
  | 21, v, _ => v = .bool true
  | 22, v, _ => v = .bool true
  | _, _, _ => True
theorem lmF_stab (X0 : List Nx) (a0 : Option Addr) (c0 : Nat) (r0 : Int) (l1 l2 : Lm) (bx d : Nat) (k q : Bool) : ∀ ix jx v w w', ix ≠ jx → World.grownBy w w' (if ix = 99 then none else none) → lmF X0 a0 c0 r0 l1 l2 bx d k q jx v w → lmF X0 a0 c0 r0 l1 l2 bx d k q jx v w' := by
  intro ix jx v w w' hne hg h
  have hb := below_of_grown (by simpa using hg)
  match jx, h with
  | 0, h | 2, h | 3, h | 4, h | 5, h | 6, h | 7, h | 8, h | 9, h | 10, h | 11, h | 12, h | 13, h | 14, h | 15, h | 16, h | 17, h | 18, h | 19, h | 20, h | 21, h | 22, h => exact h
  | 1, h => exact by obtain ⟨Y, ay, cy, h1, h2, h3⟩ := h; exact ⟨Y, ay, cy, h1, h2, h3.belowB hb⟩
  | n + 23, _ => trivial

set_option maxRecDepth 10000 in
set_option maxHeartbeats 4000000 in
theorem walk (X0 : List Nx) (a0 : Option Addr) (c0 : Nat) (r0 : Int) (l1 : Lm) (l2 : Lm) (w : World) (w0 : IsSc w a0 X0 r0) (w1 : LmR l1) (w2 : LmR l2) (hT : Tabs12 w) :
    Calls Tryd.prog 4 #[.agg #[.slice a0 X0.length c0, .int .i64 r0], .agg #[.int .i64 l1.b, .int .i64 l1.n, .int .i64 l1.e, .int .i64 l1.d, .int .i64 l1.x], .agg #[.int .i64 l2.b, .int .i64 l2.n, .int .i64 l2.e, .int .i64 l2.d, .int .i64 l2.x]] w fun e w' => e = .returned (.bool true) ∧ Below w.heap.size w w' := by
  have HA : Hid (∀ W, Tabs12 W → Calls Tryd.prog 8 #[] W fun e w' => e = .returned (.bool true) ∧ Below W.heap.size W w') := awake_any
  have HS : Hid (IsSc w a0 X0 r0) := w0
  have HL : Hid (L3 w (((w.alloc (.cells #[.slice a0 X0.length c0, .int .i64 r0] 24)).alloc (.cells (lmC l1) 26)).alloc (.cells (lmC l2) 26)) a0 X0 c0 r0 l1 l2) := L3.start hT
  clear w0 hT w1 w2
  go_enter Tryd.func4, Tryd.ntmps4
  go_wp2_with fail
  refine (HA.out _ HL.out.t.tab).mono ?_
  rintro e w2 ⟨rfl, hb2⟩
  have HL2 : Hid (L3 w w2 a0 X0 c0 r0 l1 l2) := HL.out.more hb2
  clear HL hb2
  have xa0 := HL2.out.t.c0
  have xa1 := HL2.out.t.c1
  have HG : Hid (Calls Tryd.prog 9 #[.agg #[.slice a0 X0.length c0, .int .i64 r0]] w2 fun e w' => GreatOut X0 w2 w' e) := sgreat_any X0 a0 c0 r0 w2 (HS.out.belS HL2.out.t.bel)
  go_wp2_with fail
  refine Calls.mono HG.out ?_
  rintro e w3 ⟨g, rfl, hg, hb3⟩
  have HL3 : Hid (L3 w w3 a0 X0 c0 r0 l1 l2) := HL2.out.more hb3
  clear HG HL2 hb3 xa0 xa1
  cases g with
  | true =>
    go_wp2_with fail
    refine (HA.out _ HL3.out.t.tab).mono ?_
    rintro e wz ⟨rfl, hbz⟩
    have HB : Hid (Below w.heap.size w wz) := (HL3.out.more hbz).t.bel
    clear HL3 hbz
    go_wp2_with fail
    go_ret
    exact ⟨rfl, HB.out⟩
  | false =>
    have HSm : Hid (Small X0) := (hg rfl).1
    obtain ⟨d, hd⟩ := depth_there X0 r0
    have HD : Hid (DepthIs X0 r0 d) := hd
    obtain ⟨k, hk⟩ : ∃ k, okL l2 = k := ⟨_, rfl⟩
    obtain ⟨q, hq⟩ : ∃ q, inL l1 l2 = q := ⟨_, rfl⟩
    have HK : Hid (okL l2 = k) := hk
    have HQ : Hid (inL l1 l2 = q) := hq
    clear hg hd hk hq HA
    go_wp2_with fail
    refine facts_region none 99 (lmF X0 a0 c0 r0 l1 l2 w.heap.size d k q) (by kernel_rfl) (by kernel_rfl) (lmF_stab X0 a0 c0 r0 l1 l2 w.heap.size d k q) ?step ?fin
    case step =>
      intro i' o' ho act W hg hstill hoff hdep K hK
      have hb := below_of_grown hg
      have hW := HL3.out.more hb
      have xa0 := hW.t.c0
      have xa1 := hW.t.c1
      have xl0 := hW.t.d0
      have xl1 := hW.t.d1
      have xl2 := hW.t.d2
      have xl3 := hW.t.d3
      have xl4 := hW.t.d4
      have xm0 := hW.e0
      have xm1 := hW.e1
      have xm2 := hW.e2
      have xm3 := hW.e3
      have xm4 := hW.e4
      have HCp : Hid (Calls Tryd.prog 11 #[.agg #[.slice a0 X0.length c0, .int .i64 r0]] W fun e w' => SCopyOut X0 r0 W w' e) := scopy_any X0 a0 c0 r0 W (HS.out.belS hW.t.bel) HSm.out
      have HM : Hid (∀ (Y : List Nx) (ay : Option Addr) (cy : Nat), Y.map Nx.nd = X0.map Nx.nd → ScAt W ay Y → Calls Tryd.prog 15 #[.agg #[.slice ay Y.length cy, .int .i64 r0]] W fun e w' => e = .returned (.agg #[.int .i64 0, .int .i64 X0.length, .int .i64 (edg X0 : Nat), .int .i64 (d : Nat), .int .i64 (txb X0 : Nat)]) ∧ Below W.heap.size W w') := fun Y ay cy h1 h2 => by
        have := measure_any Y ay cy r0 d W h2 (same_small h1 HSm.out) (same_depth h1.symm HD.out)
        rw [same_meC h1] at this
        exact this
      have HRM : Hid (Calls Tryd.prog 16 #[.agg #[.slice a0 X0.length c0, .int .i64 r0]] W fun e w' => e = .returned (.agg #[.int .i64 0, .int .i64 X0.length, .int .i64 (edg X0 : Nat), .int .i64 (d : Nat), .int .i64 (txb X0 : Nat)]) ∧ Below W.heap.size W w') := rmeasure_any X0 a0 c0 r0 d W (HS.out.belS hW.t.bel) HSm.out HD.out
      have HR : Hid (Calls Tryd.prog 17 #[.agg #[.int .i64 l2.b, .int .i64 l2.n, .int .i64 l2.e, .int .i64 l2.d, .int .i64 l2.x]] W fun e w' => e = .returned (.bool k) ∧ Below W.heap.size W w') := by have := okl_any l2 W; rw [HK.out] at this; exact this
      have HRR : Hid (Calls Tryd.prog 18 #[.agg #[.int .i64 l2.b, .int .i64 l2.n, .int .i64 l2.e, .int .i64 l2.d, .int .i64 l2.x]] W fun e w' => e = .returned (.bool k) ∧ Below W.heap.size W w') := by have := rokl_any l2 W; rw [HK.out] at this; exact this
      have HW : Hid (Calls Tryd.prog 19 #[.agg #[.int .i64 l1.b, .int .i64 l1.n, .int .i64 l1.e, .int .i64 l1.d, .int .i64 l1.x], .agg #[.int .i64 l2.b, .int .i64 l2.n, .int .i64 l2.e, .int .i64 l2.d, .int .i64 l2.x]] W fun e w' => e = .returned (.bool q) ∧ Below W.heap.size W w') := by have := within_any l1 l2 W; rw [HQ.out] at this; exact this
      have HRW : Hid (Calls Tryd.prog 20 #[.agg #[.int .i64 l1.b, .int .i64 l1.n, .int .i64 l1.e, .int .i64 l1.d, .int .i64 l1.x], .agg #[.int .i64 l2.b, .int .i64 l2.n, .int .i64 l2.e, .int .i64 l2.d, .int .i64 l2.x]] W fun e w' => e = .returned (.bool q) ∧ Below W.heap.size W w') := by have := rwithin_any l1 l2 W; rw [HQ.out] at this; exact this
      have heq : ∀ U : World, (binOp .eql 26 (.agg #[.int .i64 0, .int .i64 X0.length, .int .i64 (edg X0 : Nat), .int .i64 (d : Nat), .int .i64 (txb X0 : Nat)]) (.agg #[.int .i64 0, .int .i64 X0.length, .int .i64 (edg X0 : Nat), .int .i64 (d : Nat), .int .i64 (txb X0 : Nat)])).run Tryd.prog U = .ok (.bool true) U := fun U => by have := eql_lim (meL X0 d) (meL X0 d) U; rw [meL_self] at this; exact this
      clear hb hW HL3 HS HSm HD HK HQ
      rcases i' with _|_|_|_|_|_|_|_|_|_|_|_|_|_|_|_|_|_|_|_|_|_|_|i'
      · obtain rfl := Option.some.inj ho
        have t3 : act.tmps[3]?.getD undef = .pointer (some ⟨w.heap.size, 0, none⟩) := hoff 3 (by kernel_rfl)
        clear hdep hoff hg hstill HCp HM HRM HR HRR HW HRW heq
        go_simp
        exact hK _ _ (grown_refl _ _) rfl
      · obtain rfl := Option.some.inj ho
        have e0 : act.tmps[14]?.getD undef = .agg #[.slice a0 X0.length c0, .int .i64 r0] := hdep 0 _ (by kernel_rfl) rfl
        clear hdep hoff hg hstill HM HRM HR HRR HW HRW heq
        go_simp
        refine Calls.mono HCp.out ?_
        rintro e w' ⟨Y, ay, cy, rfl, h1, h2, hb⟩
        exact hK _ _ (grown_of_below hb _) ⟨Y, ay, cy, rfl, h1, h2⟩
      · obtain rfl := Option.some.inj ho
        have e1 : ∃ (Y : List Nx) (ay : Option Addr) (cy : Nat), act.tmps[15]?.getD undef = .agg #[.slice ay Y.length cy, .int .i64 r0] ∧ Y.map Nx.nd = X0.map Nx.nd ∧ ScAt W ay Y := hdep 1 _ (by kernel_rfl) rfl
        clear hdep hoff hg hstill HCp HRM HR HRR HW HRW heq
        obtain ⟨Y, ay, cy, e1, h1, h2⟩ := e1
        have HV : Hid _ := HM.out Y ay cy h1 h2
        clear h1 h2 HM
        go_simp
        refine Calls.mono (Hid.out HV) ?_
        rintro e w' ⟨rfl, hb⟩
        exact hK _ _ (grown_of_below hb _) rfl
      · obtain rfl := Option.some.inj ho
        have t3 : act.tmps[3]?.getD undef = .pointer (some ⟨w.heap.size, 0, none⟩) := hoff 3 (by kernel_rfl)
        clear hdep hoff hg hstill HCp HM HRM HR HRR HW HRW heq
        go_simp
        exact hK _ _ (grown_refl _ _) rfl
      · obtain rfl := Option.some.inj ho
        have e3 : act.tmps[17]?.getD undef = .agg #[.slice a0 X0.length c0, .int .i64 r0] := hdep 3 _ (by kernel_rfl) rfl
        clear hdep hoff hg hstill HCp HM HR HRR HW HRW heq
        go_simp
        refine Calls.mono (Hid.out HRM) ?_
        rintro e w' ⟨rfl, hb⟩
        exact hK _ _ (grown_of_below hb _) rfl
      · obtain rfl := Option.some.inj ho
        have e2 : act.tmps[16]?.getD undef = .agg #[.int .i64 0, .int .i64 X0.length, .int .i64 (edg X0 : Nat), .int .i64 (d : Nat), .int .i64 (txb X0 : Nat)] := hdep 2 _ (by kernel_rfl) rfl
        have e4 : act.tmps[18]?.getD undef = .agg #[.int .i64 0, .int .i64 X0.length, .int .i64 (edg X0 : Nat), .int .i64 (d : Nat), .int .i64 (txb X0 : Nat)] := hdep 4 _ (by kernel_rfl) rfl
        clear hdep hoff hg hstill HCp HM HRM HR HRR HW HRW
        have heq1 := heq W
        go_simp
        exact hK _ _ (grown_refl _ _) rfl
      · obtain rfl := Option.some.inj ho
        have e5 : act.tmps[19]?.getD undef = .bool true := hdep 5 _ (by kernel_rfl) rfl
        clear hdep hoff hg hstill HCp HM HRM HR HRR HW HRW heq
        go_simp
        exact hK _ _ (grown_refl _ _) rfl
      · obtain rfl := Option.some.inj ho
        have t5 : act.tmps[5]?.getD undef = .pointer (some ⟨w.heap.size + 1 + 1, 0, none⟩) := hoff 5 (by kernel_rfl)
        have hgd : act.tmps[20]?.getD undef = .bool true := hdep 6 _ (by kernel_rfl) rfl
        have hgd' := getD_bool hgd
        clear hdep hoff hg hstill HCp HM HRM HR HRR HW HRW heq
        go_simp
        exact hK _ _ (grown_refl _ _) rfl
      · obtain rfl := Option.some.inj ho
        have e7 : act.tmps[21]?.getD undef = .agg #[.int .i64 l2.b, .int .i64 l2.n, .int .i64 l2.e, .int .i64 l2.d, .int .i64 l2.x] := hdep 7 _ (by kernel_rfl) rfl
        have hgd : act.tmps[20]?.getD undef = .bool true := hdep 6 _ (by kernel_rfl) rfl
        have hgd' := getD_bool hgd
        clear hdep hoff hg hstill HCp HM HRM HRR HW HRW heq
        go_simp
        refine Calls.mono (Hid.out HR) ?_
        rintro e w' ⟨rfl, hb⟩
        exact hK _ _ (grown_of_below hb _) rfl
      · obtain rfl := Option.some.inj ho
        have t5 : act.tmps[5]?.getD undef = .pointer (some ⟨w.heap.size + 1 + 1, 0, none⟩) := hoff 5 (by kernel_rfl)
        have hgd : act.tmps[20]?.getD undef = .bool true := hdep 6 _ (by kernel_rfl) rfl
        have hgd' := getD_bool hgd
        clear hdep hoff hg hstill HCp HM HRM HR HRR HW HRW heq
        go_simp
        exact hK _ _ (grown_refl _ _) rfl
      · obtain rfl := Option.some.inj ho
        have e9 : act.tmps[23]?.getD undef = .agg #[.int .i64 l2.b, .int .i64 l2.n, .int .i64 l2.e, .int .i64 l2.d, .int .i64 l2.x] := hdep 9 _ (by kernel_rfl) rfl
        have hgd : act.tmps[20]?.getD undef = .bool true := hdep 6 _ (by kernel_rfl) rfl
        have hgd' := getD_bool hgd
        clear hdep hoff hg hstill HCp HM HRM HR HW HRW heq
        go_simp
        refine Calls.mono (Hid.out HRR) ?_
        rintro e w' ⟨rfl, hb⟩
        exact hK _ _ (grown_of_below hb _) rfl
      · obtain rfl := Option.some.inj ho
        have e8 : act.tmps[22]?.getD undef = .bool k := hdep 8 _ (by kernel_rfl) rfl
        have e10 : act.tmps[24]?.getD undef = .bool k := hdep 10 _ (by kernel_rfl) rfl
        have hgd : act.tmps[20]?.getD undef = .bool true := hdep 6 _ (by kernel_rfl) rfl
        have hgd' := getD_bool hgd
        clear hdep hoff hg hstill HCp HM HRM HR HRR HW HRW heq
        go_simp
        exact hK _ _ (grown_refl _ _) (by simp [lmF, own1])
      · obtain rfl := Option.some.inj ho
        have e6 : act.tmps[20]?.getD undef = .bool true := hdep 6 _ (by kernel_rfl) rfl
        have e11 : act.tmps[25]?.getD undef = .bool true := hdep 11 _ (by kernel_rfl) rfl
        clear hdep hoff hg hstill HCp HM HRM HR HRR HW HRW heq
        go_simp
        exact hK _ _ (grown_refl _ _) rfl
      · obtain rfl := Option.some.inj ho
        have e12 : act.tmps[26]?.getD undef = .bool true := hdep 12 _ (by kernel_rfl) rfl
        clear hdep hoff hg hstill HCp HM HRM HR HRR HW HRW heq
        go_simp
        exact hK _ _ (grown_refl _ _) rfl
      · obtain rfl := Option.some.inj ho
        have t4 : act.tmps[4]?.getD undef = .pointer (some ⟨w.heap.size + 1, 0, none⟩) := hoff 4 (by kernel_rfl)
        have hgd : act.tmps[27]?.getD undef = .bool true := hdep 13 _ (by kernel_rfl) rfl
        have hgd' := getD_bool hgd
        clear hdep hoff hg hstill HCp HM HRM HR HRR HW HRW heq
        go_simp
        exact hK _ _ (grown_refl _ _) rfl
      · obtain rfl := Option.some.inj ho
        have t5 : act.tmps[5]?.getD undef = .pointer (some ⟨w.heap.size + 1 + 1, 0, none⟩) := hoff 5 (by kernel_rfl)
        have hgd : act.tmps[27]?.getD undef = .bool true := hdep 13 _ (by kernel_rfl) rfl
        have hgd' := getD_bool hgd
        clear hdep hoff hg hstill HCp HM HRM HR HRR HW HRW heq
        go_simp
        exact hK _ _ (grown_refl _ _) rfl
      · obtain rfl := Option.some.inj ho
        have e14 : act.tmps[28]?.getD undef = .agg #[.int .i64 l1.b, .int .i64 l1.n, .int .i64 l1.e, .int .i64 l1.d, .int .i64 l1.x] := hdep 14 _ (by kernel_rfl) rfl
        have e15 : act.tmps[29]?.getD undef = .agg #[.int .i64 l2.b, .int .i64 l2.n, .int .i64 l2.e, .int .i64 l2.d, .int .i64 l2.x] := hdep 15 _ (by kernel_rfl) rfl
        have hgd : act.tmps[27]?.getD undef = .bool true := hdep 13 _ (by kernel_rfl) rfl
        have hgd' := getD_bool hgd
        clear hdep hoff hg hstill HCp HM HRM HR HRR HRW heq
        go_simp
        refine Calls.mono (Hid.out HW) ?_
        rintro e w' ⟨rfl, hb⟩
        exact hK _ _ (grown_of_below hb _) rfl
      · obtain rfl := Option.some.inj ho
        have t4 : act.tmps[4]?.getD undef = .pointer (some ⟨w.heap.size + 1, 0, none⟩) := hoff 4 (by kernel_rfl)
        have hgd : act.tmps[27]?.getD undef = .bool true := hdep 13 _ (by kernel_rfl) rfl
        have hgd' := getD_bool hgd
        clear hdep hoff hg hstill HCp HM HRM HR HRR HW HRW heq
        go_simp
        exact hK _ _ (grown_refl _ _) rfl
      · obtain rfl := Option.some.inj ho
        have t5 : act.tmps[5]?.getD undef = .pointer (some ⟨w.heap.size + 1 + 1, 0, none⟩) := hoff 5 (by kernel_rfl)
        have hgd : act.tmps[27]?.getD undef = .bool true := hdep 13 _ (by kernel_rfl) rfl
        have hgd' := getD_bool hgd
        clear hdep hoff hg hstill HCp HM HRM HR HRR HW HRW heq
        go_simp
        exact hK _ _ (grown_refl _ _) rfl
      · obtain rfl := Option.some.inj ho
        have e17 : act.tmps[31]?.getD undef = .agg #[.int .i64 l1.b, .int .i64 l1.n, .int .i64 l1.e, .int .i64 l1.d, .int .i64 l1.x] := hdep 17 _ (by kernel_rfl) rfl
        have e18 : act.tmps[32]?.getD undef = .agg #[.int .i64 l2.b, .int .i64 l2.n, .int .i64 l2.e, .int .i64 l2.d, .int .i64 l2.x] := hdep 18 _ (by kernel_rfl) rfl
        have hgd : act.tmps[27]?.getD undef = .bool true := hdep 13 _ (by kernel_rfl) rfl
        have hgd' := getD_bool hgd
        clear hdep hoff hg hstill HCp HM HRM HR HRR HW heq
        go_simp
        refine Calls.mono (Hid.out HRW) ?_
        rintro e w' ⟨rfl, hb⟩
        exact hK _ _ (grown_of_below hb _) rfl
      · obtain rfl := Option.some.inj ho
        have e16 : act.tmps[30]?.getD undef = .bool q := hdep 16 _ (by kernel_rfl) rfl
        have e19 : act.tmps[33]?.getD undef = .bool q := hdep 19 _ (by kernel_rfl) rfl
        have hgd : act.tmps[27]?.getD undef = .bool true := hdep 13 _ (by kernel_rfl) rfl
        have hgd' := getD_bool hgd
        clear hdep hoff hg hstill HCp HM HRM HR HRR HW HRW heq
        go_simp
        exact hK _ _ (grown_refl _ _) (by simp [lmF, own1])
      · obtain rfl := Option.some.inj ho
        have e13 : act.tmps[27]?.getD undef = .bool true := hdep 13 _ (by kernel_rfl) rfl
        have e20 : act.tmps[34]?.getD undef = .bool true := hdep 20 _ (by kernel_rfl) rfl
        clear hdep hoff hg hstill HCp HM HRM HR HRR HW HRW heq
        go_simp
        exact hK _ _ (grown_refl _ _) rfl
      · obtain rfl := Option.some.inj ho
        have e21 : act.tmps[35]?.getD undef = .bool true := hdep 21 _ (by kernel_rfl) rfl
        clear hdep hoff hg hstill HCp HM HRM HR HRR HW HRW heq
        go_simp
        exact hK _ _ (grown_refl _ _) rfl
      · exact absurd ho (by simp)
    case fin =>
      intro V W hg hF
      have HB : Hid (Below w.heap.size w W) := (HL3.out.more (below_of_grown hg)).t.bel
      have v6 : V (some 6) = .bool true := hF 22 _ rfl
      clear hF hg HL3
      simp only [fillA, Act.put, List.setIfInBounds_toArray, List.set_cons_zero, List.set_cons_succ, v6]
      generalize V (some 14) = z14
      generalize V (some 15) = z15
      generalize V (some 16) = z16
      generalize V (some 17) = z17
      generalize V (some 18) = z18
      generalize V (some 19) = z19
      generalize V (some 20) = z20
      generalize V (some 21) = z21
      generalize V (some 22) = z22
      generalize V (some 23) = z23
      generalize V (some 24) = z24
      generalize V (some 25) = z25
      generalize V (some 26) = z26
      generalize V (some 27) = z27
      generalize V (some 28) = z28
      generalize V (some 29) = z29
      generalize V (some 30) = z30
      generalize V (some 31) = z31
      generalize V (some 32) = z32
      generalize V (some 33) = z33
      generalize V (some 34) = z34
      generalize V (some 35) = z35
      clear v6
      go_wp2_with fail
      go_ret
      exact ⟨rfl, HB.out⟩

set_option maxRecDepth 100000 in
theorem lifted (os : Os) (started : os.Started) (H : Type) (enc : TypeId × Value → H) :
    ReturnsInHanded {} Tryd.checked os 4 .any (fun w args => (Rows.limitMeasuresSpec.pre enc Tryd.prog Tryd.f4 [] false w args ∧ laidMetH Tryd.prog laid2 w) ∧ sizedMet enc Tryd.prog Tryd.f4 (OpenSpec.ofChange Rows.limitMeasuresSpec) false w args)
      (Rows.limitMeasuresSpec.post enc Tryd.prog Tryd.f4 false true false false) := by
  refine returnsInHanded_of_change_and (C := Tryd.checked) (X := fun w _ => laidMetH Tryd.prog laid2 w) (fun _ _ _ hh h => h.of_heap hh) own started (by kernel_rfl) Tryd.func4
    (ChangeSpec.witness_shaped (enc := enc) (C := Tryd.checked) (os := os) (X := fun w _ => laidMetH Tryd.prog laid2 w) false (World.doorLaid Tryd.prog 400 os) #[.agg #[.slice none 0 0, .int .i64 0], .agg #[.int .i64 0, .int .i64 0, .int .i64 0, .int .i64 0, .int .i64 0], .agg #[.int .i64 0, .int .i64 0, .int .i64 0, .int .i64 0, .int .i64 0]] 8 rfl (World.shaped_of_RefB (by kernel_rfl) (by kernel_rfl)) (by kernel_rfl) (by kernel_rfl) (by kernel_rfl) (door_met os _)) ?_
  intro W base args ds gs before hval0 hW _ _ hL _
  have hval : ∀ (j : Nat) t v, Tryd.f4.params[j]? = some t → args[j]? = some v → Value.okWide Tryd.prog W .any base t v := hval0
  have hW' := hW
  obtain ⟨p, q, hA0, hV, rfl, hfz, hnd⟩ := hW
  have hA : DataW.TrodAll enc Tryd.prog W 0 (fun _ => true) true Tryd.f4.params.toList args.toList ds p := hA0
  rw [Tryd.params4] at hA hval
  obtain ⟨v0, vs0, d0, ds0, p0, q0, hargs, rfl, rfl, h0, r0⟩ := trodAll_cons hA
  obtain ⟨v1, vs1, d1, ds1, p1, q1, rfl, rfl, rfl, h1, r1⟩ := trodAll_cons r0
  obtain ⟨v2, vs2, d2, ds2, p2, q2, rfl, rfl, rfl, h2, r2⟩ := trodAll_cons r1
  obtain ⟨rfl, rfl, rfl⟩ := trodAll_nil r2
  obtain rfl : args = #[v0, v1, v2] := by cases args; simp_all
  obtain ⟨rfl, rfl⟩ := trodVars_none hV
  have K0 := h0
  have lt0 : ∀ x ∈ p0, x.block < W.heap.size := by obtain ⟨m, hm⟩ := K0; exact DataW.trod_lt m _ _ _ hm
  obtain ⟨X0, a0, c0, rt0, rfl, w0⟩ := open_scene Tryd.underlying24 (by kernel_rfl) (by kernel_rfl) Tryd.underlying22 Tryd.underlying3 Tryd.underlying50 (by kernel_rfl) rfl rfl rfl rfl (by kernel_rfl) (by kernel_rfl) (by kernel_rfl) (by kernel_rfl) Tryd.underlying3 Tryd.underlying46 Tryd.underlying47 Tryd.underlying48 Tryd.underlying2 Tryd.underlying9 Tryd.underlying3 (by kernel_rfl) (by kernel_rfl) (by kernel_rfl) (hval 0 24 v0 rfl rfl) h0
  have K1 := h1
  have lt1 : ∀ x ∈ p1, x.block < W.heap.size := by obtain ⟨m, hm⟩ := K1; exact DataW.trod_lt m _ _ _ hm
  obtain ⟨l1, rfl, w1⟩ := open_lim Tryd.underlying26 (by kernel_rfl) (by kernel_rfl) Tryd.underlying3 Tryd.underlying3 Tryd.underlying3 Tryd.underlying3 Tryd.underlying3 (hval 1 26 v1 rfl rfl) h1
  have K2 := h2
  have lt2 : ∀ x ∈ p2, x.block < W.heap.size := by obtain ⟨m, hm⟩ := K2; exact DataW.trod_lt m _ _ _ hm
  obtain ⟨l2, rfl, w2⟩ := open_lim Tryd.underlying26 (by kernel_rfl) (by kernel_rfl) Tryd.underlying3 Tryd.underlying3 Tryd.underlying3 Tryd.underlying3 Tryd.underlying3 (hval 2 26 v2 rfl rfl) h2
  clear hA0 hval0
  refine (walk X0 a0 c0 rt0 l1 l2 W w0 w1 w2 (tabs_of hL)).mono fun e W' ⟨he, bel⟩ => ?_
  subst he
  exact ⟨_, rfl, _, _, _, [], _, [], hW', trodAll_mk1 (shut_bool Tryd.underlying4 _), (trodAll_cons_mk (Below.trod laidOut (by kernel_rfl) (of_decide_eq_true (by kernel_rfl)) K0 bel lt0) (trodAll_cons_mk (Below.trod laidOut (by kernel_rfl) (of_decide_eq_true (by kernel_rfl)) K1 bel lt1) (trodAll_cons_mk (Below.trod laidOut (by kernel_rfl) (of_decide_eq_true (by kernel_rfl)) K2 bel lt2) trodAll_mk0))), rfl, bel.frame _, fun h => by cases h⟩

theorem row : Rows.limitMeasuresRow.holds Tryd.pinned (OpenSpec.ofChange Rows.limitMeasuresSpec) :=
  OpenClaim.holds_of_wide 4 Tryd.f4 rfl rfl rfl rfl rfl rfl rfl ⟨rfl, rfl, rfl, rfl, rfl⟩ rfl rfl rfl rfl rfl (by kernel_rfl) Tryd.func4 (by kernel_rfl)
    (of_decide_eq_true (by kernel_rfl)) (by unfold Func.isWrapper; first | (rw [if_pos (by decide +kernel)]; kernel_rfl) | (rw [if_neg (by decide +kernel)]; exact ⟨rfl, rfl⟩))
    (fun os started H enc _ => lifted os started H enc)

/-- No parameter wants a stand-in; the program's own looks are off: what the card asks. -/
theorem plain (f : FuncId) (fn : Func) (hf : Tryd.pinned.checked.prog.funcNamed Rows.limitMeasuresRow.func = some f) (hfn : Tryd.pinned.checked.prog.funcs[f]? = some fn) :
    false = Tryd.pinned.checked.prog.looks [] ∧ ∀ (j : Nat) t, fn.params[j]? = some t → Tryd.pinned.checked.prog.wantsStandIn t = false := by
  obtain rfl : f = 4 := Option.some.inj ((show Tryd.prog.funcNamed Rows.limitMeasuresRow.func = some 4 by kernel_rfl).symm.trans hf) |>.symm
  obtain rfl : fn = Tryd.f4 := (Option.some.inj (Tryd.func4.symm.trans hfn)).symm
  refine ⟨by kernel_rfl, fun j t ht => ?_⟩
  have hm := Array.mem_of_getElem? ht
  have hall : (Tryd.f4.params.toList.all fun u => !Tryd.prog.wantsStandIn u) = true := by kernel_rfl
  exact (show Tryd.prog.wantsStandIn t = false by simpa using List.all_eq_true.1 hall t (by simpa using hm))

/-- ████ THE CARD ████ -/
theorem over : Rows.LimitMeasuresCardSaid :=
  Claim7.holds_tied_plain_at .later [] _ _ _ _ row (fun _ h => by cases h) (by kernel_rfl) (fun _ h => by cases h) limitMeasures_row_tie rfl ⟨rfl, rfl⟩ (by kernel_rfl) rfl plain (by kernel_rfl)

end Go.Proofs.YtdioecmpcppleaaDoor.limitMeasures

namespace Go.Proofs.YtdioecmpcppleaaDoor
theorem limitMeasures_holds : Rows.LimitMeasuresCardSaid := limitMeasures.over
#print axioms limitMeasures_holds
end Go.Proofs.YtdioecmpcppleaaDoor
