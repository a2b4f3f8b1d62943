/- For every scene and every number: the program's Size tells as many nodes as the document says, at most as many as are asked for, and 0 of a scene that is wrong; of a right one no fewer than it has nodes, if so many are asked for (scenes greater than the law plays with, and numbers above 1<<30, are let go by the law itself); nothing that came in is changed. The library's table of powers of ten holds what its text lays into it when the call begins (the card ties that). -/
import Derived.Test.YtcdpjaaiojpelaaDoorRows
import Derived.Test.YtcdpjaaiojpelaaDoorCards
import Derived.Test.YtcdpjaaiojpelaaDoorTie
import Derived.WalkKit
import Derived.ProofKit
import Derived.OpenShut
import Derived.ShutString
import Derived.Below
import Derived.Test.YtcdpjaaiojpelaaDoorVRsz
import Derived.ChangeOld
import Derived.LaidMore
import Derived.SevenTiedAt
namespace Go.Proofs.YtcdpjaaiojpelaaDoor.unfoldSizes
open Go.ChangeShapes Go.WideShapes Go.ChangeAt Go.RowKit
open Go.ChangeMaps (open_string shut_string)
set_option linter.unusedVariables false

theorem own : ownKnob Tryd.prog.godebug = none := by kernel_rfl
theorem laidOut : laidOutB Tryd.prog = true := by kernel_rfl

set_option maxRecDepth 10000 in
set_option maxHeartbeats 4000000 in
theorem walk (X0 : List Nx) (a0 : Option Addr) (c0 : Nat) (r0 : Int) (a1 : Int) (w : World) (w0 : IsSc w a0 X0 r0) (w1 : (Lit.int .i64 a1).wf = true) (hT : Tab w) :
    Calls Tryd.prog 4 #[.agg #[.slice a0 X0.length c0, .int .i64 r0], .int .i64 a1] w fun e w' => e = .returned (.bool true) ∧ Below w.heap.size w w' := by
  have HA : Hid (∀ W, Tab W → Calls Tryd.prog 8 #[] W fun e w' => e = .returned (.bool true) ∧ Below W.heap.size W w') := awake_any
  have HS : Hid (IsSc w a0 X0 r0) := w0
  have HL : Hid (L1 w (w.alloc (.cells #[.slice a0 X0.length c0, .int .i64 r0] 24)) a0 X0 c0 r0) := L1.start w a0 X0 c0 r0 hT
  clear w0 hT w1
  go_enter Tryd.func4, Tryd.ntmps4
  go_wp2_with fail
  refine (HA.out _ HL.out.tab).mono ?_
  rintro e w2 ⟨rfl, hb2⟩
  have HL2 : Hid (L1 w w2 a0 X0 c0 r0) := HL.out.more hb2
  clear HL hb2
  have xa0 := HL2.out.c0
  have xa1 := HL2.out.c1
  have xla := HL2.out.at_.lt
  have HG : Hid (Calls Tryd.prog 9 #[.agg #[.slice a0 X0.length c0, .int .i64 r0]] w2 fun e w' => GreatOut X0 w2 w' e) := sgreat_any X0 a0 c0 r0 w2 (HS.out.bel HL2.out.bel)
  go_wp2_with fail
  refine Calls.mono HG.out ?_
  rintro e w3 ⟨g, rfl, hg, hb3⟩
  have HL3 : Hid (L1 w w3 a0 X0 c0 r0) := HL2.out.more hb3
  clear HG HL2 hb3
  clear xa0 xa1 xla
  cases g with
  | true =>
    go_wp2_with fail
    refine (HA.out _ HL3.out.tab).mono ?_
    rintro e wz ⟨rfl, hbz⟩
    have HB : Hid (Below w.heap.size w wz) := (HL3.out.more hbz).bel
    clear HL3 hbz
    go_wp2_with fail
    go_ret
    exact ⟨rfl, HB.out⟩
  | false =>
    have HSa : Hid (Small X0) := (hg rfl).1
    clear hg
    by_cases hm : 1073741824 < a1
    · go_wp2_with fail
      refine (HA.out _ HL3.out.tab).mono ?_
      rintro e wz ⟨rfl, hbz⟩
      have HB : Hid (Below w.heap.size w wz) := (HL3.out.more hbz).bel
      clear HL3 hbz
      go_wp2_with fail
      go_ret
      exact ⟨rfl, HB.out⟩
    · have hm' : a1 ≤ 1073741824 := by omega
      have xa0 := HL3.out.c0
      have xa1 := HL3.out.c1
      have xla := HL3.out.at_.lt
      have HCp : Hid (Calls Tryd.prog 11 #[.agg #[.slice a0 X0.length c0, .int .i64 r0]] w3 fun e w' => SCopyOut X0 r0 w3 w' e) := scopy_any X0 a0 c0 r0 w3 (HS.out.bel HL3.out.bel) HSa.out
      go_wp2_with fail
      refine Calls.mono HCp.out ?_
      rintro e w4 ⟨Y, a', c', rfl, hY, sY, hb4⟩
      have HL4 : Hid (L1 w w4 a0 X0 c0 r0) := HL3.out.more hb4
      have HSz : Hid (Calls Tryd.prog 14 #[.agg #[.slice a' Y.length c', .int .i64 r0], .int .i64 a1] w4 fun e w' => ∃ n : Nat, e = .returned (.int .i64 (n : Int)) ∧ (RightIs X0 r0 → n = cap a1.toNat ((szL (cX X0 r0)).getD (X0.length - 1) 0)) ∧ (¬ RightIs X0 r0 → n = 0) ∧ Below w4.heap.size w4 w') := by
        refine Calls.mono (usize_any Y a' c' r0 a1 w4 sY (same_small hY HSa.out) hm') ?_
        rintro e w' ⟨h1, h2, h3⟩
        by_cases hR : RightIs X0 r0
        · refine ⟨_, h1 ((same_right hY).2 hR), fun _ => ?_, fun q => absurd hR q, h3⟩
          rw [same_cX hY hR, same_len hY]
        · exact ⟨0, h2 (fun q => hR ((same_right hY).1 q)), fun q => absurd q hR, fun _ => rfl, h3⟩
      clear HCp HL3 hb4 hY sY HA
      clear xa0 xa1 xla
      go_wp2_with fail
      refine Calls.mono HSz.out ?_
      rintro e w5 ⟨n, rfl, hn1, hn2, hb5⟩
      have HL5 : Hid (L1 w w5 a0 X0 c0 r0) := HL4.out.more hb5
      have HN1 : Hid _ := hn1
      have HN2 : Hid _ := hn2
      clear HSz HL4 hb5 hn1 hn2
      have xa0 := HL5.out.c0
      have xa1 := HL5.out.c1
      have xla := HL5.out.at_.lt
      have HG : Hid (Calls Tryd.prog 12 #[.agg #[.slice a0 X0.length c0, .int .i64 r0]] w5 fun e w' => RightOut X0 r0 w5 w' e) := right_any X0 a0 c0 r0 w5 (HS.out.bel HL5.out.bel) HSa.out
      go_wp2_with fail
      refine Calls.mono HG.out ?_
      rintro e w6 ⟨g, rfl, hg, hb⟩
      have HL6 : Hid (L1 w w6 a0 X0 c0 r0) := HL5.out.more hb
      clear HG HL5 hb
      clear xa0 xa1 xla
      cases g with
      | false =>
        obtain rfl : n = 0 := HN2.out (fun q => by have := hg.2 q; cases this)
        have HB : Hid (Below w.heap.size w w6) := HL6.out.bel
        clear HL6 HN1 HN2 hg
        go_wp2_with fail
        go_ret
        exact ⟨rfl, HB.out⟩
      | true =>
        have HRa : Hid (RightIs X0 r0) := hg.1 rfl
        have HRS : Hid (Calls Tryd.prog 15 #[.agg #[.slice a0 X0.length c0, .int .i64 r0], .int .i64 a1] w6 fun e w' => e = .returned (.int .i64 (n : Int)) ∧ Below w6.heap.size w6 w') := by
          have := rsize_any X0 a0 c0 r0 a1 w6 (HS.out.bel HL6.out.bel) HSa.out HRa.out hm'
          rw [← HN1.out HRa.out] at this
          exact this
        have hge : ¬ a1 < X0.length → (X0.length : Int) ≤ n := fun q => by
          have h1 := sz_ge (cX_cn HRa.out)
          rw [cX_len HRa.out] at h1
          have h2 := HN1.out HRa.out
          unfold cap at h2
          omega
        clear hg HN1 HN2 HRa HS HSa
        have xa0 := HL6.out.c0
        have xa1 := HL6.out.c1
        have xla := HL6.out.at_.lt
        go_wp2_with fail
        refine Calls.mono HRS.out ?_
        rintro e w7 ⟨rfl, hb7⟩
        have HL7 : Hid (L1 w w7 a0 X0 c0 r0) := HL6.out.more hb7
        have HB : Hid (Below w.heap.size w w7) := HL7.out.bel
        clear HRS HL6 hb7 xa0 xa1 xla
        have xa0 := HL7.out.c0
        have xa1 := HL7.out.c1
        have xla := HL7.out.at_.lt
        by_cases hlt : a1 < (X0.length : Int)
        · clear hge
          go_wp2_with fail
          go_ret
          exact ⟨rfl, HB.out⟩
        · have hge' := hge (by omega)
          clear hge
          go_wp2_with fail
          go_ret
          exact ⟨rfl, HB.out⟩

set_option maxRecDepth 100000 in
theorem lifted (os : Os) (started : os.Started) (H : Type) (enc : TypeId × Value → H) :
    ReturnsInHanded {} Tryd.checked os 4 .any (fun w args => (Rows.unfoldSizesSpec.pre enc Tryd.prog Tryd.f4 [] false w args ∧ laidMetH Tryd.prog laid3 w) ∧ sizedMet enc Tryd.prog Tryd.f4 (OpenSpec.ofChange Rows.unfoldSizesSpec) false w args)
      (Rows.unfoldSizesSpec.post enc Tryd.prog Tryd.f4 false true false false) := by
  refine returnsInHanded_of_change_and (C := Tryd.checked) (X := fun w _ => laidMetH Tryd.prog laid3 w) (fun _ _ _ hh h => h.of_heap hh) own started (by kernel_rfl) Tryd.func4
    (ChangeSpec.witness_shaped (enc := enc) (C := Tryd.checked) (os := os) (X := fun w _ => laidMetH Tryd.prog laid3 w) false (World.doorLaid Tryd.prog 400 os) #[.agg #[.slice none 0 0, .int .i64 0], .int .i64 0] 8 rfl (World.shaped_of_RefB (by kernel_rfl) (by kernel_rfl)) (by kernel_rfl) (by kernel_rfl) (by kernel_rfl) (door_met os _)) ?_
  intro W base args ds gs before hval0 hW _ _ hL _
  have hval : ∀ (j : Nat) t v, Tryd.f4.params[j]? = some t → args[j]? = some v → Value.okWide Tryd.prog W .any base t v := hval0
  have hW' := hW
  obtain ⟨p, q, hA0, hV, rfl, hfz, hnd⟩ := hW
  have hA : DataW.TrodAll enc Tryd.prog W 0 (fun _ => true) true Tryd.f4.params.toList args.toList ds p := hA0
  rw [Tryd.params4] at hA hval
  obtain ⟨v0, vs0, d0, ds0, p0, q0, hargs, rfl, rfl, h0, r0⟩ := trodAll_cons hA
  obtain ⟨v1, vs1, d1, ds1, p1, q1, rfl, rfl, rfl, h1, r1⟩ := trodAll_cons r0
  obtain ⟨rfl, rfl, rfl⟩ := trodAll_nil r1
  obtain rfl : args = #[v0, v1] := by cases args; simp_all
  obtain ⟨rfl, rfl⟩ := trodVars_none hV
  have K0 := h0
  have lt0 : ∀ x ∈ p0, x.block < W.heap.size := by obtain ⟨m, hm⟩ := K0; exact DataW.trod_lt m _ _ _ hm
  obtain ⟨X0, a0, c0, rt0, rfl, w0⟩ := open_scene Tryd.underlying24 (by kernel_rfl) (by kernel_rfl) Tryd.underlying22 Tryd.underlying3 Tryd.underlying42 (by kernel_rfl) rfl rfl rfl rfl (by kernel_rfl) (by kernel_rfl) (by kernel_rfl) (by kernel_rfl) Tryd.underlying3 Tryd.underlying39 Tryd.underlying40 Tryd.underlying38 Tryd.underlying2 Tryd.underlying9 Tryd.underlying3 (by kernel_rfl) (by kernel_rfl) (by kernel_rfl) (hval 0 24 v0 rfl rfl) h0
  obtain ⟨a1, rfl, rfl, rfl, w1⟩ := open_int Tryd.underlying3 (hval 1 3 v1 rfl rfl) h1
  clear hA0 hval0
  refine (walk X0 a0 c0 rt0 a1 W w0 w1 (tab_of11 hL)).mono fun e W' ⟨he, bel⟩ => ?_
  subst he
  exact ⟨_, rfl, _, _, _, [], _, [], hW', trodAll_mk1 (shut_bool Tryd.underlying4 _), (trodAll_cons_mk (Below.trod laidOut (by kernel_rfl) (of_decide_eq_true (by kernel_rfl)) K0 bel lt0) (trodAll_cons_mk (shut_int Tryd.underlying3 w1) trodAll_mk0)), rfl, bel.frame _, fun h => by cases h⟩

theorem row : Rows.unfoldSizesRow.holds Tryd.pinned (OpenSpec.ofChange Rows.unfoldSizesSpec) :=
  OpenClaim.holds_of_wide 4 Tryd.f4 rfl rfl rfl rfl rfl rfl rfl ⟨rfl, rfl, rfl, rfl, rfl⟩ rfl rfl rfl rfl rfl (by kernel_rfl) Tryd.func4 (by kernel_rfl)
    (of_decide_eq_true (by kernel_rfl)) (by unfold Func.isWrapper; first | (rw [if_pos (by decide +kernel)]; kernel_rfl) | (rw [if_neg (by decide +kernel)]; exact ⟨rfl, rfl⟩))
    (fun os started H enc _ => lifted os started H enc)

/-- No parameter wants a stand-in; the program's own looks are off: what the card asks. -/
theorem plain (f : FuncId) (fn : Func) (hf : Tryd.pinned.checked.prog.funcNamed Rows.unfoldSizesRow.func = some f) (hfn : Tryd.pinned.checked.prog.funcs[f]? = some fn) :
    false = Tryd.pinned.checked.prog.looks [] ∧ ∀ (j : Nat) t, fn.params[j]? = some t → Tryd.pinned.checked.prog.wantsStandIn t = false := by
  obtain rfl : f = 4 := Option.some.inj ((show Tryd.prog.funcNamed Rows.unfoldSizesRow.func = some 4 by kernel_rfl).symm.trans hf) |>.symm
  obtain rfl : fn = Tryd.f4 := (Option.some.inj (Tryd.func4.symm.trans hfn)).symm
  refine ⟨by kernel_rfl, fun j t ht => ?_⟩
  have hm := Array.mem_of_getElem? ht
  have hall : (Tryd.f4.params.toList.all fun u => !Tryd.prog.wantsStandIn u) = true := by kernel_rfl
  exact (show Tryd.prog.wantsStandIn t = false by simpa using List.all_eq_true.1 hall t (by simpa using hm))

/-- ████ THE CARD ████ -/
theorem over : Rows.UnfoldSizesCardSaid :=
  Claim7.holds_tied_plain_at .later [] _ _ _ _ row (fun _ h => by cases h) (by kernel_rfl) (fun _ h => by cases h) unfoldSizes_row_tie rfl ⟨rfl, rfl⟩ (by kernel_rfl) rfl plain (by kernel_rfl)

end Go.Proofs.YtcdpjaaiojpelaaDoor.unfoldSizes

namespace Go.Proofs.YtcdpjaaiojpelaaDoor
theorem unfoldSizes_holds : Rows.UnfoldSizesCardSaid := unfoldSizes.over
#print axioms unfoldSizes_holds
end Go.Proofs.YtcdpjaaiojpelaaDoor
