/- For every scene: the program's Check tells what is wrong with how its nodes lead to each other, and at which, as the document says, or that nothing is; and its Edges counts the kids (scenes greater than the law plays with are let go by the law itself); the argument reads afterwards as before. -/
import Derived.Test.YtlfibkfjklggeaaRows
import Derived.WalkKit
import Derived.ProofKit
import Derived.OpenShut
import Derived.ShutString
import Derived.Below
import Derived.Test.YtlfibkfjklggeaaGLaw
import Derived.ChangeOld
namespace Go.Proofs.Ytlfibkfjklggeaa.graphChecks
open Go.ChangeShapes Go.WideShapes Go.ChangeAt Go.RowKit
open Go.ChangeMaps (open_string shut_string)
set_option linter.unusedVariables false

theorem own : ownKnob Try.prog.godebug = none := by kernel_rfl
theorem laidOut : laidOutB Try.prog = true := by kernel_rfl

set_option maxRecDepth 10000 in
set_option maxHeartbeats 400000 in
theorem walk (X0 : List Nx) (a0 : Option Addr) (c0 : Nat) (r0 : Int) (w : World) (w0 : IsSc w a0 X0 r0) :
    Calls Try.prog 3 #[.agg #[.slice a0 X0.length c0, .int .i64 r0]] w fun e w' => e = .returned (.bool true) ∧ Below w.heap.size w w' := by
  have HA : Hid (∀ W, Calls Try.prog 8 #[] W fun e w' => e = .returned (.bool true) ∧ Below W.heap.size W w') := awake_any
  have HS : Hid (IsSc w a0 X0 r0) := w0
  have HL : Hid (Lw w (w.alloc (.cells #[.slice a0 X0.length c0, .int .i64 r0] 24)) a0 X0 c0 r0) := Lw.start w a0 X0 c0 r0
  clear w0
  go_enter Try.func3, Try.ntmps3
  go_wp2_with fail
  refine (HA.out _).mono ?_
  rintro e w1 ⟨rfl, hb1⟩
  have HL1 : Hid (Lw w w1 a0 X0 c0 r0) := HL.out.more hb1
  have x0 := HL1.out.c0
  have x1 := HL1.out.c1
  have HG : Hid (Calls Try.prog 9 #[.agg #[.slice a0 X0.length c0, .int .i64 r0]] w1 fun e w' => GreatOut X0 w1 w' e) := sgreat_any X0 a0 c0 r0 w1 (HL1.out.sc HS.out)
  clear HL hb1
  go_wp2_with fail
  refine Calls.mono HG.out ?_
  rintro e w2 ⟨g, rfl, hg, hb2⟩
  have HL2 : Hid (Lw w w2 a0 X0 c0 r0) := HL1.out.more hb2
  clear HG HL1 hb2 x0 x1
  cases g with
  | true =>
    go_wp2_with fail
    refine (HA.out _).mono ?_
    rintro e w3 ⟨rfl, hb3⟩
    have HB : Hid (Below w.heap.size w w3) := (HL2.out.more hb3).bel
    clear HL2 hb3
    go_wp2_with fail
    go_ret
    exact ⟨rfl, HB.out⟩
  | false =>
    have hsm : Small X0 := hg rfl
    have HSm : Hid (Small X0) := hsm
    have x0 := HL2.out.c0
    have x1 := HL2.out.c1
    have HC : Hid (Calls Try.prog 11 #[.agg #[.slice a0 X0.length c0, .int .i64 r0]] w2 fun e w' => SCopyOut X0 r0 w2 w' e) := scopy_any X0 a0 c0 r0 w2 (HL2.out.sc HS.out) hsm
    clear hg hsm HA
    go_wp2_with fail
    refine Calls.mono HC.out ?_
    rintro e w3 ⟨Y, ay, cy, rfl, hY, hs3, hb3⟩
    have HL3 : Hid (Lw w w3 a0 X0 c0 r0) := HL2.out.more hb3
    have HCk : Hid (Calls Try.prog 10 #[.agg #[.slice ay Y.length cy, .int .i64 r0]] w3 fun e w' => CheckOut Y r0 w3 w' e) := check_any Y ay cy r0 w3 hs3 (same_small hY HSm.out)
    have HY : Hid (Y.map Nx.nd = X0.map Nx.nd) := hY
    clear HC HL2 hs3 hb3 x0 x1 hY
    go_wp2_with fail
    refine Calls.mono HCk.out ?_
    rintro e w4 ⟨n, z, rfl, hck, hb4⟩
    have HL4 : Hid (Lw w w4 a0 X0 c0 r0) := HL3.out.more hb4
    have HX : Hid (CheckIs X0 r0 n z) := same_check HY.out hck
    have HR : Hid (Calls Try.prog 12 #[.agg #[.slice a0 X0.length c0, .int .i64 r0]] w4 fun e w' => CheckOut X0 r0 w4 w' e) := rcheck_any X0 a0 c0 r0 w4 (HL4.out.sc HS.out) HSm.out
    have x0 := HL4.out.c0
    have x1 := HL4.out.c1
    clear HCk HL3 hck hb4 HY
    go_wp2_with fail
    refine Calls.mono HR.out ?_
    rintro e w5 ⟨n', z', rfl, hck, hb5⟩
    obtain ⟨rfl, rfl⟩ := HX.out.uniq hck
    have HL5 : Hid (Lw w w5 a0 X0 c0 r0) := HL4.out.more hb5
    clear HR HL4 hck hb5 HX x0 x1
    have x0 := HL5.out.c0
    have x1 := HL5.out.c1
    have m0 := fun d os => cell_regrown x0 d os
    have m1 := fun d os => cell_regrown x1 d os
    have cE := fun d os => Calls.regrown_of (edges_any X0 a0 c0 r0 (Sort.grow (redrawn w5 d) os) ((HL5.out.sc HS.out).belowB (below_regrown w5 d os)) HSm.out)
    have cR := fun d os => Calls.regrown_of (redges_few X0 a0 c0 r0 (Sort.grow (redrawn w5 d) os) ((HL5.out.sc HS.out).belowB (below_regrown w5 d os)) HSm.out)
    generalize edg X0 = E at *
    clear x0 x1 HSm HS
    go_wp2_with fail
    refine wp_region_quiet_below (by kernel_rfl) (by kernel_rfl) ?_
    repeat (first | go_big_quiet_step (first | (go_at_call 13; exact cE _ _) | (go_at_call 14; exact cR _ _)) | quiet_step (first | (go_at_call 13; exact cE _ _) | (go_at_call 14; exact cR _ _)))
    refine wpQuiet_nil ?_
    intro _ hw'
    obtain ⟨⟨dq, osq⟩, hw''⟩ := hw'
    subst hw''
    have HB : Hid (Below w.heap.size w (Sort.grow (redrawn w5 dq) osq)) := (HL5.out.more (below_regrown w5 dq osq)).bel
    clear HL5 m0 m1 cE cR
    go_wp2_with fail
    go_ret
    exact ⟨rfl, HB.out⟩

set_option maxRecDepth 100000 in
theorem lifted (os : Os) (started : os.Started) (H : Type) (enc : TypeId × Value → H) :
    ReturnsInHanded {} Try.checked os 3 .any (Rows.graphChecksSpec.pre6 enc Try.prog Try.f3 Rows.graphChecksRow.domain false) (Rows.graphChecksSpec.post enc Try.prog Try.f3 false true false false) := by
  refine returnsInHanded_of_change (C := Try.checked) own started (by kernel_rfl) Try.func3
    (ChangeSpec.witness6 (enc := enc) (C := Try.checked) false ⟨#[], #[.agg #[.slice none 0 0, .int .i64 0]], []⟩ 8 (by kernel_rfl) (by kernel_rfl) (by kernel_rfl) (by kernel_rfl)) ?_
  intro W base args ds gs before hval0 hW hcnd _
  have hval : ∀ (j : Nat) t v, Try.f3.params[j]? = some t → args[j]? = some v → Value.okWide Try.prog W .any base t v := hval0
  have hW' := hW
  obtain ⟨p, q, hA0, hV, rfl, hfz, hnd⟩ := hW
  have hA : DataW.TrodAll enc Try.prog W 0 (fun _ => true) true Try.f3.params.toList args.toList ds p := hA0
  rw [Try.params3] at hA hval
  obtain ⟨v0, vs0, d0, ds0, p0, q0, hargs, rfl, rfl, h0, r0⟩ := trodAll_cons hA
  obtain ⟨rfl, rfl, rfl⟩ := trodAll_nil r0
  obtain rfl : args = #[v0] := by cases args; simp_all
  obtain ⟨rfl, rfl⟩ := trodVars_none hV
  have K0 := h0
  have lt0 : ∀ x ∈ p0, x.block < W.heap.size := by obtain ⟨m, hm⟩ := K0; exact DataW.trod_lt m _ _ _ hm
  obtain ⟨X0, a0, c0, rt0, rfl, w0⟩ := open_scene Try.underlying24 (by kernel_rfl) (by kernel_rfl) Try.underlying22 Try.underlying3 Try.underlying45 (by kernel_rfl) rfl rfl rfl rfl (by kernel_rfl) (by kernel_rfl) (by kernel_rfl) (by kernel_rfl) Try.underlying3 Try.underlying42 Try.underlying43 Try.underlying34 Try.underlying2 Try.underlying9 Try.underlying3 (by kernel_rfl) (by kernel_rfl) (by kernel_rfl) (hval 0 24 v0 rfl rfl) h0
  clear hA0 hval0
  refine (walk X0 a0 c0 rt0 W w0).mono fun e W' ⟨he, bel⟩ => ?_
  subst he
  exact ⟨_, rfl, _, _, _, [], _, [], hW', trodAll_mk1 (shut_bool Try.underlying4 _), (trodAll_cons_mk (Below.trod laidOut (by kernel_rfl) (of_decide_eq_true (by kernel_rfl)) K0 bel lt0) trodAll_mk0), rfl, bel.frame _, fun h => by cases h⟩

theorem over : Rows.graphChecksRow.holds Try.pinned (OpenSpec.ofChange Rows.graphChecksSpec) :=
  OpenClaim.holds_of_wide 3 Try.f3 rfl rfl rfl rfl rfl rfl rfl ⟨rfl, rfl, rfl, rfl, rfl⟩ rfl rfl rfl rfl rfl (by kernel_rfl) Try.func3 (by kernel_rfl)
    (of_decide_eq_true (by kernel_rfl)) (by unfold Func.isWrapper; first | (rw [if_pos (by decide +kernel)]; kernel_rfl) | (rw [if_neg (by decide +kernel)]; exact ⟨rfl, rfl⟩))
    (fun os started H enc _ => lifted os started H enc)

end Go.Proofs.Ytlfibkfjklggeaa.graphChecks

namespace Go.Proofs.Ytlfibkfjklggeaa
theorem graphChecks_holds : Rows.GraphChecksSaid := graphChecks.over
#print axioms graphChecks_holds
end Go.Proofs.Ytlfibkfjklggeaa
