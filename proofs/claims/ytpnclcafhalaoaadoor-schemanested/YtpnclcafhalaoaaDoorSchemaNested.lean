/- For every number: it is of the class of any numbers; what is fixed is not below the widest; what is a size is fixed, what is a byte is a size, what is a bool is a byte; nothing that came in is changed. The package's tables hold what the program's text lays into them when the call begins (the card ties that). -/
import Derived.Test.YtpnclcafhalaoaaDoorRows
import Derived.Test.YtpnclcafhalaoaaDoorCards
import Derived.Test.YtpnclcafhalaoaaDoorTie
import Derived.WalkKit
import Derived.ProofKit
import Derived.OpenShut
import Derived.ShutString
import Derived.Below
import Derived.Test.YtpnclcafhalaoaaDoorSLaid
import Derived.ChangeOld
import Derived.LaidMore
import Derived.SevenTiedAt
namespace Go.Proofs.YtpnclcafhalaoaaDoor.schemaNested
open Go.ChangeShapes Go.WideShapes Go.ChangeAt Go.RowKit
open Go.ChangeMaps (open_string shut_string)
set_option linter.unusedVariables false

theorem own : ownKnob Tryd.prog.godebug = none := by kernel_rfl
theorem laidOut : laidOutB Tryd.prog = true := by kernel_rfl

theorem wf_lit {n : Int} (h : (Lit.int .i64 n).wf = true) : -9223372036854775808 ≤ n ∧ n ≤ 9223372036854775807 := by
  simp only [Lit.wf, Bool.and_eq_true, decide_eq_true_eq] at h
  exact h

set_option maxRecDepth 10000 in
set_option maxHeartbeats 400000 in
theorem walk0 (a0 : Int) (w : World) (hw : -9223372036854775808 ≤ a0 ∧ a0 ≤ 9223372036854775807) (hT : Tabs w) (h : 0 ≤ a0 ∧ a0 ≤ 1) :
    Calls Tryd.prog 5 #[.int .i64 a0] w fun e w' => e = .returned (.bool true) ∧ Below w.heap.size w w' := by
  have HT : Hid _ := hT
  have H : Hid (∀ (c : Int) (b : Bool) (W : World), TabAt W 2 spansC → in7 c a0 = b → Calls Tryd.prog 12 #[.int .i64 c, .int .i64 a0] W fun e w' => e = .returned (.bool b) ∧ w' = W) := fun c b W hW hb => in_c c a0 b W hW hw.1 hw.2 hb
  clear hT
  have h' : -140737488355328 ≤ a0 := by omega
  go_enter Tryd.func5, Tryd.ntmps5
  go_wp2_with fail
  refine (awake_any w HT.out).mono ?_
  rintro e w1 ⟨rfl, B1⟩
  have T1 : Hid _ := HT.out.below B1
  clear HT
  go_wp2_with fail
  refine (H.out 1 true _ T1.out.s (decide_eq_true (by omega))).mono ?_
  rintro e w2 ⟨rfl, rfl⟩
  go_wp2_with fail
  refine (H.out 2 true _ T1.out.s (decide_eq_true (by omega))).mono ?_
  rintro e w2 ⟨rfl, rfl⟩
  go_wp2_with fail
  refine (H.out 3 true _ T1.out.s (decide_eq_true (by omega))).mono ?_
  rintro e w2 ⟨rfl, rfl⟩
  go_wp2_with fail
  refine (H.out 2 true _ T1.out.s (decide_eq_true (by omega))).mono ?_
  rintro e w2 ⟨rfl, rfl⟩
  go_wp2_with fail
  refine (H.out 4 true _ T1.out.s (decide_eq_true (by omega))).mono ?_
  rintro e w2 ⟨rfl, rfl⟩
  go_wp2_with fail
  refine (H.out 3 true _ T1.out.s (decide_eq_true (by omega))).mono ?_
  rintro e w2 ⟨rfl, rfl⟩
  go_wp2_with fail
  refine (H.out 5 true _ T1.out.s (decide_eq_true (by omega))).mono ?_
  rintro e w2 ⟨rfl, rfl⟩
  go_wp2_with fail
  refine (H.out 4 true _ T1.out.s (decide_eq_true (by omega))).mono ?_
  rintro e w2 ⟨rfl, rfl⟩
  go_wp2_with fail
  go_ret
  exact ⟨rfl, B1⟩

set_option maxRecDepth 10000 in
set_option maxHeartbeats 400000 in
theorem walk1 (a0 : Int) (w : World) (hw : -9223372036854775808 ≤ a0 ∧ a0 ≤ 9223372036854775807) (hT : Tabs w) (h : 2 ≤ a0 ∧ a0 ≤ 255) :
    Calls Tryd.prog 5 #[.int .i64 a0] w fun e w' => e = .returned (.bool true) ∧ Below w.heap.size w w' := by
  have HT : Hid _ := hT
  have H : Hid (∀ (c : Int) (b : Bool) (W : World), TabAt W 2 spansC → in7 c a0 = b → Calls Tryd.prog 12 #[.int .i64 c, .int .i64 a0] W fun e w' => e = .returned (.bool b) ∧ w' = W) := fun c b W hW hb => in_c c a0 b W hW hw.1 hw.2 hb
  clear hT
  have h' : -140737488355328 ≤ a0 := by omega
  go_enter Tryd.func5, Tryd.ntmps5
  go_wp2_with fail
  refine (awake_any w HT.out).mono ?_
  rintro e w1 ⟨rfl, B1⟩
  have T1 : Hid _ := HT.out.below B1
  clear HT
  go_wp2_with fail
  refine (H.out 1 true _ T1.out.s (decide_eq_true (by omega))).mono ?_
  rintro e w2 ⟨rfl, rfl⟩
  go_wp2_with fail
  refine (H.out 2 true _ T1.out.s (decide_eq_true (by omega))).mono ?_
  rintro e w2 ⟨rfl, rfl⟩
  go_wp2_with fail
  refine (H.out 3 true _ T1.out.s (decide_eq_true (by omega))).mono ?_
  rintro e w2 ⟨rfl, rfl⟩
  go_wp2_with fail
  refine (H.out 2 true _ T1.out.s (decide_eq_true (by omega))).mono ?_
  rintro e w2 ⟨rfl, rfl⟩
  go_wp2_with fail
  refine (H.out 4 true _ T1.out.s (decide_eq_true (by omega))).mono ?_
  rintro e w2 ⟨rfl, rfl⟩
  go_wp2_with fail
  refine (H.out 3 true _ T1.out.s (decide_eq_true (by omega))).mono ?_
  rintro e w2 ⟨rfl, rfl⟩
  go_wp2_with fail
  refine (H.out 5 false _ T1.out.s (decide_eq_false (by omega))).mono ?_
  rintro e w2 ⟨rfl, rfl⟩
  go_wp2_with fail
  go_ret
  exact ⟨rfl, B1⟩

set_option maxRecDepth 10000 in
set_option maxHeartbeats 400000 in
theorem walk2 (a0 : Int) (w : World) (hw : -9223372036854775808 ≤ a0 ∧ a0 ≤ 9223372036854775807) (hT : Tabs w) (h : 256 ≤ a0 ∧ a0 ≤ 140737488355328) :
    Calls Tryd.prog 5 #[.int .i64 a0] w fun e w' => e = .returned (.bool true) ∧ Below w.heap.size w w' := by
  have HT : Hid _ := hT
  have H : Hid (∀ (c : Int) (b : Bool) (W : World), TabAt W 2 spansC → in7 c a0 = b → Calls Tryd.prog 12 #[.int .i64 c, .int .i64 a0] W fun e w' => e = .returned (.bool b) ∧ w' = W) := fun c b W hW hb => in_c c a0 b W hW hw.1 hw.2 hb
  clear hT
  have h' : -140737488355328 ≤ a0 := by omega
  go_enter Tryd.func5, Tryd.ntmps5
  go_wp2_with fail
  refine (awake_any w HT.out).mono ?_
  rintro e w1 ⟨rfl, B1⟩
  have T1 : Hid _ := HT.out.below B1
  clear HT
  go_wp2_with fail
  refine (H.out 1 true _ T1.out.s (decide_eq_true (by omega))).mono ?_
  rintro e w2 ⟨rfl, rfl⟩
  go_wp2_with fail
  refine (H.out 2 true _ T1.out.s (decide_eq_true (by omega))).mono ?_
  rintro e w2 ⟨rfl, rfl⟩
  go_wp2_with fail
  refine (H.out 3 true _ T1.out.s (decide_eq_true (by omega))).mono ?_
  rintro e w2 ⟨rfl, rfl⟩
  go_wp2_with fail
  refine (H.out 2 true _ T1.out.s (decide_eq_true (by omega))).mono ?_
  rintro e w2 ⟨rfl, rfl⟩
  go_wp2_with fail
  refine (H.out 4 false _ T1.out.s (decide_eq_false (by omega))).mono ?_
  rintro e w2 ⟨rfl, rfl⟩
  go_wp2_with fail
  refine (H.out 5 false _ T1.out.s (decide_eq_false (by omega))).mono ?_
  rintro e w2 ⟨rfl, rfl⟩
  go_wp2_with fail
  go_ret
  exact ⟨rfl, B1⟩

set_option maxRecDepth 10000 in
set_option maxHeartbeats 400000 in
theorem walk3 (a0 : Int) (w : World) (hw : -9223372036854775808 ≤ a0 ∧ a0 ≤ 9223372036854775807) (hT : Tabs w) (h : -140737488355328 ≤ a0 ∧ a0 ≤ -1) :
    Calls Tryd.prog 5 #[.int .i64 a0] w fun e w' => e = .returned (.bool true) ∧ Below w.heap.size w w' := by
  have HT : Hid _ := hT
  have H : Hid (∀ (c : Int) (b : Bool) (W : World), TabAt W 2 spansC → in7 c a0 = b → Calls Tryd.prog 12 #[.int .i64 c, .int .i64 a0] W fun e w' => e = .returned (.bool b) ∧ w' = W) := fun c b W hW hb => in_c c a0 b W hW hw.1 hw.2 hb
  clear hT
  have h' : -140737488355328 ≤ a0 := by omega
  go_enter Tryd.func5, Tryd.ntmps5
  go_wp2_with fail
  refine (awake_any w HT.out).mono ?_
  rintro e w1 ⟨rfl, B1⟩
  have T1 : Hid _ := HT.out.below B1
  clear HT
  go_wp2_with fail
  refine (H.out 1 true _ T1.out.s (decide_eq_true (by omega))).mono ?_
  rintro e w2 ⟨rfl, rfl⟩
  go_wp2_with fail
  refine (H.out 2 true _ T1.out.s (decide_eq_true (by omega))).mono ?_
  rintro e w2 ⟨rfl, rfl⟩
  go_wp2_with fail
  refine (H.out 3 false _ T1.out.s (decide_eq_false (by omega))).mono ?_
  rintro e w2 ⟨rfl, rfl⟩
  go_wp2_with fail
  refine (H.out 4 false _ T1.out.s (decide_eq_false (by omega))).mono ?_
  rintro e w2 ⟨rfl, rfl⟩
  go_wp2_with fail
  refine (H.out 5 false _ T1.out.s (decide_eq_false (by omega))).mono ?_
  rintro e w2 ⟨rfl, rfl⟩
  go_wp2_with fail
  go_ret
  exact ⟨rfl, B1⟩

set_option maxRecDepth 10000 in
set_option maxHeartbeats 400000 in
theorem walk4 (a0 : Int) (w : World) (hw : -9223372036854775808 ≤ a0 ∧ a0 ≤ 9223372036854775807) (hT : Tabs w) (h : a0 < -140737488355328 ∨ 140737488355328 < a0) :
    Calls Tryd.prog 5 #[.int .i64 a0] w fun e w' => e = .returned (.bool true) ∧ Below w.heap.size w w' := by
  have HT : Hid _ := hT
  have H : Hid (∀ (c : Int) (b : Bool) (W : World), TabAt W 2 spansC → in7 c a0 = b → Calls Tryd.prog 12 #[.int .i64 c, .int .i64 a0] W fun e w' => e = .returned (.bool b) ∧ w' = W) := fun c b W hW hb => in_c c a0 b W hW hw.1 hw.2 hb
  clear hT
  go_enter Tryd.func5, Tryd.ntmps5
  go_wp2_with fail
  refine (awake_any w HT.out).mono ?_
  rintro e w1 ⟨rfl, B1⟩
  have T1 : Hid _ := HT.out.below B1
  clear HT
  go_wp2_with fail
  refine (H.out 1 true _ T1.out.s (decide_eq_true (by omega))).mono ?_
  rintro e w2 ⟨rfl, rfl⟩
  go_wp2_with fail
  refine (H.out 2 false _ T1.out.s (decide_eq_false (by omega))).mono ?_
  rintro e w2 ⟨rfl, rfl⟩
  go_wp2_with fail
  refine (H.out 3 false _ T1.out.s (decide_eq_false (by omega))).mono ?_
  rintro e w2 ⟨rfl, rfl⟩
  go_wp2_with fail
  refine (H.out 4 false _ T1.out.s (decide_eq_false (by omega))).mono ?_
  rintro e w2 ⟨rfl, rfl⟩
  go_wp2_with fail
  refine (H.out 5 false _ T1.out.s (decide_eq_false (by omega))).mono ?_
  rintro e w2 ⟨rfl, rfl⟩
  go_wp2_with fail
  go_ret
  exact ⟨rfl, B1⟩

set_option maxRecDepth 10000 in
set_option maxHeartbeats 400000 in
theorem walk (a0 : Int) (w : World) (w0 : (Lit.int .i64 a0).wf = true) (hT : Tabs w) :
    Calls Tryd.prog 5 #[.int .i64 a0] w fun e w' => e = .returned (.bool true) ∧ Below w.heap.size w w' := by
  have hw := wf_lit w0
  rcases (by omega : (0 ≤ a0 ∧ a0 ≤ 1) ∨ (2 ≤ a0 ∧ a0 ≤ 255) ∨ (256 ≤ a0 ∧ a0 ≤ 140737488355328) ∨ (-140737488355328 ≤ a0 ∧ a0 ≤ -1) ∨ (a0 < -140737488355328 ∨ 140737488355328 < a0)) with h | h | h | h | h
  · exact walk0 a0 w hw hT h
  · exact walk1 a0 w hw hT h
  · exact walk2 a0 w hw hT h
  · exact walk3 a0 w hw hT h
  · exact walk4 a0 w hw hT h

set_option maxRecDepth 100000 in
theorem lifted (os : Os) (started : os.Started) (H : Type) (enc : TypeId × Value → H) :
    ReturnsInHanded {} Tryd.checked os 5 .any (fun w args => (Rows.schemaNestedSpec.pre enc Tryd.prog Tryd.f5 [] false w args ∧ laidMetH Tryd.prog laid4 w) ∧ sizedMet enc Tryd.prog Tryd.f5 (OpenSpec.ofChange Rows.schemaNestedSpec) false w args)
      (Rows.schemaNestedSpec.post enc Tryd.prog Tryd.f5 false true false false) := by
  refine returnsInHanded_of_change_and (C := Tryd.checked) (X := fun w _ => laidMetH Tryd.prog laid4 w) (fun _ _ _ hh h => h.of_heap hh) own started (by kernel_rfl) Tryd.func5
    (ChangeSpec.witness_shaped (enc := enc) (C := Tryd.checked) (os := os) (X := fun w _ => laidMetH Tryd.prog laid4 w) false (World.doorLaid Tryd.prog 400 os) #[.int .i64 0] 8 rfl (World.shaped_of_RefB (by kernel_rfl) (by kernel_rfl)) (by kernel_rfl) (by kernel_rfl) (by kernel_rfl) (door_met os _)) ?_
  intro W base args ds gs before hval0 hW _ _ hL _
  have hval : ∀ (j : Nat) t v, Tryd.f5.params[j]? = some t → args[j]? = some v → Value.okWide Tryd.prog W .any base t v := hval0
  have hW' := hW
  obtain ⟨p, q, hA0, hV, rfl, hfz, hnd⟩ := hW
  have hA : DataW.TrodAll enc Tryd.prog W 0 (fun _ => true) true Tryd.f5.params.toList args.toList ds p := hA0
  rw [Tryd.params5] at hA hval
  obtain ⟨v0, vs0, d0, ds0, p0, q0, hargs, rfl, rfl, h0, r0⟩ := trodAll_cons hA
  obtain ⟨rfl, rfl, rfl⟩ := trodAll_nil r0
  obtain rfl : args = #[v0] := by cases args; simp_all
  obtain ⟨rfl, rfl⟩ := trodVars_none hV
  obtain ⟨a0, rfl, rfl, rfl, w0⟩ := open_int Tryd.underlying2 (hval 0 2 v0 rfl rfl) h0
  clear hA0 hval0
  refine (walk a0 W w0 (tabs_of hL)).mono fun e W' ⟨he, bel⟩ => ?_
  subst he
  exact ⟨_, rfl, _, _, _, [], _, [], hW', trodAll_mk1 (shut_bool Tryd.underlying4 _), (trodAll_cons_mk (shut_int Tryd.underlying2 w0) trodAll_mk0), rfl, bel.frame _, fun h => by cases h⟩

theorem row : Rows.schemaNestedRow.holds Tryd.pinned (OpenSpec.ofChange Rows.schemaNestedSpec) :=
  OpenClaim.holds_of_wide 5 Tryd.f5 rfl rfl rfl rfl rfl rfl rfl ⟨rfl, rfl, rfl, rfl, rfl⟩ rfl rfl rfl rfl rfl (by kernel_rfl) Tryd.func5 (by kernel_rfl)
    (of_decide_eq_true (by kernel_rfl)) (by unfold Func.isWrapper; first | (rw [if_pos (by decide +kernel)]; kernel_rfl) | (rw [if_neg (by decide +kernel)]; exact ⟨rfl, rfl⟩))
    (fun os started H enc _ => lifted os started H enc)

/-- No parameter wants a stand-in; the program's own looks are off: what the card asks. -/
theorem plain (f : FuncId) (fn : Func) (hf : Tryd.pinned.checked.prog.funcNamed Rows.schemaNestedRow.func = some f) (hfn : Tryd.pinned.checked.prog.funcs[f]? = some fn) :
    false = Tryd.pinned.checked.prog.looks [] ∧ ∀ (j : Nat) t, fn.params[j]? = some t → Tryd.pinned.checked.prog.wantsStandIn t = false := by
  obtain rfl : f = 5 := Option.some.inj ((show Tryd.prog.funcNamed Rows.schemaNestedRow.func = some 5 by kernel_rfl).symm.trans hf) |>.symm
  obtain rfl : fn = Tryd.f5 := (Option.some.inj (Tryd.func5.symm.trans hfn)).symm
  refine ⟨by kernel_rfl, fun j t ht => ?_⟩
  have hm := Array.mem_of_getElem? ht
  have hall : (Tryd.f5.params.toList.all fun u => !Tryd.prog.wantsStandIn u) = true := by kernel_rfl
  exact (show Tryd.prog.wantsStandIn t = false by simpa using List.all_eq_true.1 hall t (by simpa using hm))

/-- ████ THE CARD ████ -/
theorem over : Rows.SchemaNestedCardSaid :=
  Claim7.holds_tied_plain_at .later [] _ _ _ _ row (fun _ h => by cases h) (by kernel_rfl) (fun _ h => by cases h) schemaNested_row_tie rfl ⟨rfl, rfl⟩ (by kernel_rfl) rfl plain (by kernel_rfl)

end Go.Proofs.YtpnclcafhalaoaaDoor.schemaNested

namespace Go.Proofs.YtpnclcafhalaoaaDoor
theorem schemaNested_holds : Rows.SchemaNestedCardSaid := schemaNested.over
#print axioms schemaNested_holds
end Go.Proofs.YtpnclcafhalaoaaDoor
