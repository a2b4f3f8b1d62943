/- For every scene that the program tells to be forward: nothing is wrong with how its nodes lead to each other, made flat it is forward still and has as many nodes, and no node leads to its root (scenes greater than the law plays with are let go by the law itself); the argument reads afterwards as before. The package schema's tables hold what the program's text lays into them when the call begins (the card ties them). -/
import Derived.Test.YtkcaeajhbeenbaaDoorRows
import Derived.Test.YtkcaeajhbeenbaaDoorCards
import Derived.Test.YtkcaeajhbeenbaaDoorTie
import Derived.WalkKit
import Derived.ProofKit
import Derived.OpenShut
import Derived.ShutString
import Derived.Below
import Derived.Deep.RegionHeld3
import Derived.Test.YtkcaeajhbeenbaaDoorOAw
import Derived.ChangeOld
import Derived.LaidMore
import Derived.SevenTiedAt
namespace Go.Proofs.YtkcaeajhbeenbaaDoor.oldForward
open Go.ChangeShapes Go.WideShapes Go.ChangeAt Go.RowKit
open Go.ChangeMaps (open_string shut_string)
set_option linter.unusedVariables false

theorem own : ownKnob Tryd.prog.godebug = none := by kernel_rfl
theorem laidOut : laidOutB Tryd.prog = true := by kernel_rfl

set_option maxRecDepth 10000 in
set_option maxHeartbeats 4000000 in
theorem walk (X0 : List Nx) (a0 : Option Addr) (c0 : Nat) (r0 : Int) (w : World) (w0 : IsSc w a0 X0 r0) (hT : Tabs16 w) :
    Calls Tryd.prog 7 #[.agg #[.slice a0 X0.length c0, .int .i64 r0]] w fun e w' => e = .returned (.bool true) ∧ Below w.heap.size w w' := by
  have HA : Hid (∀ W, Below w.heap.size w W → Calls Tryd.prog 8 #[] W fun e w' => e = .returned (.bool true) ∧ Below W.heap.size W w') := fun W hb => awake_any W (hT.on hb)
  have HS : Hid (IsSc w a0 X0 r0) := w0
  have HL : Hid (Lw w (w.alloc (.cells #[.slice a0 X0.length c0, .int .i64 r0] 24)) a0 X0 c0 r0) := Lw.start w a0 X0 c0 r0
  clear w0 hT
  go_enter Tryd.func7, Tryd.ntmps7
  go_wp2_with fail
  refine (HA.out _ HL.out.bel).mono ?_
  rintro e w1 ⟨rfl, hb1⟩
  have HL1 : Hid (Lw w w1 a0 X0 c0 r0) := HL.out.more hb1
  have x0 := HL1.out.c0
  have x1 := HL1.out.c1
  have HG : Hid (Calls Tryd.prog 9 #[.agg #[.slice a0 X0.length c0, .int .i64 r0]] w1 fun e w' => GreatOut X0 w1 w' e) := sgreat_any X0 a0 c0 r0 w1 (HL1.out.sc HS.out)
  clear HL hb1
  go_wp2_with fail
  refine Calls.mono HG.out ?_
  rintro e w2 ⟨g, rfl, hg, hb2⟩
  have HL2 : Hid (Lw w w2 a0 X0 c0 r0) := HL1.out.more hb2
  clear HG HL1 hb2 x0 x1
  cases g with
  | true =>
    go_wp2_with fail
    refine (HA.out _ HL2.out.bel).mono ?_
    rintro e w3 ⟨rfl, hb3⟩
    have HB : Hid (Below w.heap.size w w3) := (HL2.out.more hb3).bel
    clear HL2 hb3
    go_wp2_with fail
    go_ret
    exact ⟨rfl, HB.out⟩
  | false =>
    have HSm : Hid (Small X0) := (hg rfl).1
    have x0 := HL2.out.c0
    have x1 := HL2.out.c1
    have HCp : Hid (Calls Tryd.prog 11 #[.agg #[.slice a0 X0.length c0, .int .i64 r0]] w2 fun e w' => SCopyOut X0 r0 w2 w' e) := scopy_any X0 a0 c0 r0 w2 (HL2.out.sc HS.out) HSm.out
    clear hg
    go_wp2_with fail
    refine Calls.mono HCp.out ?_
    rintro e w3 ⟨Y, ay, cy, rfl, hY, hs3, hb3⟩
    have HL3 : Hid (Lw w w3 a0 X0 c0 r0) := HL2.out.more hb3
    have HI : Hid (Calls Tryd.prog 16 #[.agg #[.slice ay Y.length cy, .int .i64 r0]] w3 fun e w' => ∃ b, e = .returned (.bool b) ∧ (b = true ↔ FowIs X0 r0) ∧ Below w3.heap.size w3 w') := by
      refine Calls.mono (ois_any Y ay cy r0 w3 hs3 (same_small hY HSm.out)) ?_
      rintro e w' ⟨q, rfl, hq, hB⟩
      exact ⟨q, rfl, by rw [hq, same_fw hY], hB⟩
    clear HCp HL2 hb3 hs3 hY x0 x1
    go_wp2_with fail
    refine Calls.mono HI.out ?_
    rintro e w4 ⟨q, rfl, hq, hb4⟩
    have HL4 : Hid (Lw w w4 a0 X0 c0 r0) := HL3.out.more hb4
    have HQ : Hid (q = true ↔ FowIs X0 r0) := hq
    clear HI HL3 hb4 hq
    cases q with
    | false =>
      clear HQ HSm
      go_wp2_with fail
      refine (HA.out _ HL4.out.bel).mono ?_
      rintro e w5 ⟨rfl, hb5⟩
      have HB : Hid (Below w.heap.size w w5) := (HL4.out.more hb5).bel
      clear HL4 hb5
      go_wp2_with fail
      go_ret
      exact ⟨rfl, HB.out⟩
    | true =>
      have HF : Hid (FowIs X0 r0) := HQ.out.1 rfl
      have x0 := HL4.out.c0
      have x1 := HL4.out.c1
      have HCk : Hid (Calls Tryd.prog 26 #[.agg #[.slice a0 X0.length c0, .int .i64 r0]] w4 fun e w' => CheckOut X0 r0 w4 w' e) := check_any X0 a0 c0 r0 w4 (HL4.out.sc HS.out) HSm.out
      clear HQ HA
      go_wp2_with fail
      refine Calls.mono HCk.out ?_
      rintro e w5 ⟨n, y, rfl, hc, hb5⟩
      obtain rfl := hc.right.2 HF.out.1
      have HL5 : Hid (Lw w w5 a0 X0 c0 r0) := HL4.out.more hb5
      clear HCk HL4 hb5 hc x0 x1
      have x0 := HL5.out.c0
      have x1 := HL5.out.c1
      have HFl : Hid (Calls Tryd.prog 15 #[.agg #[.slice a0 X0.length c0, .int .i64 r0]] w5 fun e w' => OFlatOut X0 r0 w5 w' e) := oflat_any X0 a0 c0 r0 w5 (HL5.out.sc HS.out) HSm.out
      go_wp2_with fail
      refine Calls.mono HFl.out ?_
      rintro e w6 ⟨hf1, -, hb6⟩
      obtain ⟨T, aT, cT, rfl, hT, hlT, hs6⟩ := hf1 HF.out.1
      rw [hlT]
      have HFt : Hid (FowIs T 0 ∧ Small T ∧ T.length = X0.length) := ⟨(flt_of HSm.out HF.out.1 hT).fw, (flt_of HSm.out HF.out.1 hT).small HSm.out, hlT⟩
      have HW7 : Hid (∀ o : Obj, o = .cells #[.slice aT X0.length cT, .int .i64 0] 24 → AtN 24 (w6.alloc o) w6.heap.size #[.slice aT X0.length cT, .int .i64 0] ∧ ScAt (w6.alloc o) aT T ∧ Lw w (w6.alloc o) a0 X0 c0 r0) := by
        rintro _ rfl
        exact ⟨AtN.new w6 24 _, hs6.alloc _, (HL5.out.more hb6).more ((Below.refl w6.heap.size w6).alloc (Nat.le_refl _) _)⟩
      have x0 : ∀ o, (w6.alloc o).cell? ⟨w.heap.size, 0, none⟩ = some (.slice a0 X0.length c0) := fun o => ((HL5.out.more hb6).at_.alloc o).cell 0
      clear HFl HL5 hf1 hb6 hs6 hT hlT x1
      go_wp2_with fail
      obtain ⟨hz7, hs7, hl7⟩ := HW7.out _ rfl
      clear HW7 x0
      generalize (w6.alloc (.cells #[.slice aT X0.length cT, .int .i64 0] 24)) = w7 at *
      have HT7 : Hid (∀ W, Below w7.heap.size w7 W → AtN 24 W w6.heap.size #[.slice aT X0.length cT, .int .i64 0] ∧ ScAt W aT T ∧ Lw w W a0 X0 c0 r0 ∧ ScAt W a0 X0) := fun W hW => ⟨hz7.belowAll hW, hs7.belowB hW, hl7.more hW, (hl7.more hW).sc HS.out⟩
      have HB7 : Hid (Below w7.heap.size w7 w7) := Below.refl _ _
      have HX : Hid (Small X0 ∧ FowIs X0 r0) := ⟨HSm.out, HF.out⟩
      have hn := HSm.out.1
      clear hz7 hs7 hl7 HS HSm HF
      go_loopw [37] (fun iv wr => ∃ i : Nat, iv = .int .i64 i ∧ i ≤ X0.length ∧ Hid (Below w7.heap.size w7 wr)) (fun iv _ => X0.length - (intOf iv).toNat)
      case atStart => exact ⟨0, rfl, by omega, HB7⟩
      case round =>
        clear HB7
        obtain ⟨i, rfl, hi, HB⟩ := hrel
        by_cases hlt : i < X0.length
        · have hlt' : (i : Int) < X0.length := by omega
          have hk : (X0.getD i noNx).nd.kids.length ≤ 3000 := HX.out.1.kids hlt
          obtain ⟨b, o, rfl, hbl, d0, d1, d2, d3⟩ := (HT7.out wr HB.out).2.2.2.node hlt
          have HE : Hid (∀ W, Below w7.heap.size w7 W → LsAt W (X0.getD i noNx).a3 (iV (X0.getD i noNx).nd.kids)) := fun W hW => ((HT7.out W hW).2.2.2.each i hlt).k
          have HO : Hid (∀ z ∈ (X0.getD i noNx).nd.kids, z ≠ 0) := HX.out.2.none i hlt
          generalize X0.getD i noNx = N at *
          have HB0 : Hid (∀ o, Below w7.heap.size w7 (wr.alloc o)) := fun o => HB.out.alloc HB.out.size o
          clear HB
          go_wp2_with fail
          go_loopw [44] (fun jv wr2 => ∃ j : Nat, jv = .int .i64 j ∧ j ≤ N.nd.kids.length ∧ Hid (Below w7.heap.size w7 wr2)) (fun jv _ => N.nd.kids.length - (intOf jv).toNat)
          case atStart => exact ⟨0, rfl, by omega, HB0.out _⟩
          case round =>
            clear HB0 d0 d1 d2 d3 hbl
            obtain ⟨j, rfl, hj, HB⟩ := hrel
            by_cases hjl : j < N.nd.kids.length
            · have hjl' : (j : Int) < N.nd.kids.length := by omega
              obtain ⟨b2, o2, e2, hb2, d4⟩ := (LsAt.at (HE.out wr HB.out) (iV_at _ j hjl))
              have hz : ¬ N.nd.kids.getD j 0 = 0 := HO.out _ (by rw [List.getD_eq_getElem?_getD, List.getElem?_eq_getElem hjl]; exact List.getElem_mem hjl)
              generalize N.nd.kids.getD j 0 = K at *
              rw [e2]
              clear HE HO
              go_wp2_with fail
              go_roundw
              case rel => exact ⟨j + 1, by go_num, by omega, HB⟩
              case measure => simp [intOf]; omega
            · have hjl' : ¬ (j : Int) < N.nd.kids.length := by omega
              clear HE HO
              go_wp2_with fail
              go_roundw
              case rel => exact ⟨i + 1, by go_num, by omega, HB⟩
              case measure => simp [intOf]; omega
        · have hlt' : ¬ (i : Int) < X0.length := by omega
          obtain ⟨hz7, hs7, hl7, -⟩ := HT7.out wr HB.out
          have HL8 : Hid (Lw w wr a0 X0 c0 r0) := hl7
          have HZ8 : Hid (AtN 24 wr w6.heap.size #[.slice aT X0.length cT, .int .i64 0]) := hz7
          have hi8 := fow_yes hs7 HFt.out.2.1 HFt.out.1 (c := cT)
          rw [HFt.out.2.2] at hi8
          have HI8 : Hid _ := hi8
          have z0 : wr.cell? ⟨w6.heap.size, 0, none⟩ = some (.slice aT X0.length cT) := hz7.cell 0
          have z1 : wr.cell? ⟨w6.heap.size, 1, none⟩ = some (.int .i64 0) := hz7.cell 1
          clear HT7 HB HX hz7 hs7 hl7 HFt hi8
          go_wp2_with fail
          refine Calls.mono (Hid.out HI8) ?_
          rintro e w9 ⟨rfl, hb9⟩
          have HL9 : Hid (Lw w w9 a0 X0 c0 r0) := HL8.out.more hb9
          have z0 : w9.cell? ⟨w6.heap.size, 0, none⟩ = some (.slice aT X0.length cT) := (HZ8.out.belowAll hb9).cell 0
          have x0 : w9.cell? ⟨w.heap.size, 0, none⟩ = some (.slice a0 X0.length c0) := HL9.out.c0
          clear HI8 HL8 HZ8 hb9 z1
          go_wp2_with fail
          go_ret
          exact ⟨by simp, HL9.out.bel⟩

set_option maxRecDepth 100000 in
theorem lifted (os : Os) (started : os.Started) (H : Type) (enc : TypeId × Value → H) :
    ReturnsInHanded {} Tryd.checked os 7 .any (fun w args => (Rows.oldForwardSpec.pre enc Tryd.prog Tryd.f7 [] false w args ∧ laidMetH Tryd.prog laid16 w) ∧ sizedMet enc Tryd.prog Tryd.f7 (OpenSpec.ofChange Rows.oldForwardSpec) false w args)
      (Rows.oldForwardSpec.post enc Tryd.prog Tryd.f7 false true false false) := by
  refine returnsInHanded_of_change_and (C := Tryd.checked) (X := fun w _ => laidMetH Tryd.prog laid16 w) (fun _ _ _ hh h => h.of_heap hh) own started (by kernel_rfl) Tryd.func7
    (ChangeSpec.witness_shaped (enc := enc) (C := Tryd.checked) (os := os) (X := fun w _ => laidMetH Tryd.prog laid16 w) false (World.doorLaid Tryd.prog 400 os) #[.agg #[.slice none 0 0, .int .i64 0]] 8 rfl (World.shaped_of_RefB (by kernel_rfl) (by kernel_rfl)) (by kernel_rfl) (by kernel_rfl) (by kernel_rfl) (door16 os _)) ?_
  intro W base args ds gs before hval0 hW _ _ hL _
  have hval : ∀ (j : Nat) t v, Tryd.f7.params[j]? = some t → args[j]? = some v → Value.okWide Tryd.prog W .any base t v := hval0
  have hW' := hW
  obtain ⟨p, q, hA0, hV, rfl, hfz, hnd⟩ := hW
  have hA : DataW.TrodAll enc Tryd.prog W 0 (fun _ => true) true Tryd.f7.params.toList args.toList ds p := hA0
  rw [Tryd.params7] at hA hval
  obtain ⟨v0, vs0, d0, ds0, p0, q0, hargs, rfl, rfl, h0, r0⟩ := trodAll_cons hA
  obtain ⟨rfl, rfl, rfl⟩ := trodAll_nil r0
  obtain rfl : args = #[v0] := by cases args; simp_all
  obtain ⟨rfl, rfl⟩ := trodVars_none hV
  have K0 := h0
  have lt0 : ∀ x ∈ p0, x.block < W.heap.size := by obtain ⟨m, hm⟩ := K0; exact DataW.trod_lt m _ _ _ hm
  obtain ⟨X0, a0, c0, rt0, rfl, w0⟩ := open_scene Tryd.underlying24 (by kernel_rfl) (by kernel_rfl) Tryd.underlying22 Tryd.underlying3 Tryd.underlying48 (by kernel_rfl) rfl rfl rfl rfl (by kernel_rfl) (by kernel_rfl) (by kernel_rfl) (by kernel_rfl) Tryd.underlying3 Tryd.underlying44 Tryd.underlying45 Tryd.underlying46 Tryd.underlying2 Tryd.underlying9 Tryd.underlying3 (by kernel_rfl) (by kernel_rfl) (by kernel_rfl) (hval 0 24 v0 rfl rfl) h0
  clear hA0 hval0
  refine (walk X0 a0 c0 rt0 W w0 (tabs16_of hL)).mono fun e W' ⟨he, bel⟩ => ?_
  subst he
  exact ⟨_, rfl, _, _, _, [], _, [], hW', trodAll_mk1 (shut_bool Tryd.underlying4 _), (trodAll_cons_mk (Below.trod laidOut (by kernel_rfl) (of_decide_eq_true (by kernel_rfl)) K0 bel lt0) trodAll_mk0), rfl, bel.frame _, fun h => by cases h⟩

theorem row : Rows.oldForwardRow.holds Tryd.pinned (OpenSpec.ofChange Rows.oldForwardSpec) :=
  OpenClaim.holds_of_wide 7 Tryd.f7 rfl rfl rfl rfl rfl rfl rfl ⟨rfl, rfl, rfl, rfl, rfl⟩ rfl rfl rfl rfl rfl (by kernel_rfl) Tryd.func7 (by kernel_rfl)
    (of_decide_eq_true (by kernel_rfl)) (by unfold Func.isWrapper; first | (rw [if_pos (by decide +kernel)]; kernel_rfl) | (rw [if_neg (by decide +kernel)]; exact ⟨rfl, rfl⟩))
    (fun os started H enc _ => lifted os started H enc)

/-- No parameter wants a stand-in; the program's own looks are as the card says. -/
theorem plain (f : FuncId) (fn : Func) (hf : Tryd.pinned.checked.prog.funcNamed Rows.oldForwardRow.func = some f) (hfn : Tryd.pinned.checked.prog.funcs[f]? = some fn) :
    false = Tryd.pinned.checked.prog.looks [] ∧ ∀ (j : Nat) t, fn.params[j]? = some t → Tryd.pinned.checked.prog.wantsStandIn t = false := by
  obtain rfl : f = 7 := Option.some.inj ((show Tryd.prog.funcNamed Rows.oldForwardRow.func = some 7 by kernel_rfl).symm.trans hf) |>.symm
  obtain rfl : fn = Tryd.f7 := (Option.some.inj (Tryd.func7.symm.trans hfn)).symm
  refine ⟨by kernel_rfl, fun j t ht => ?_⟩
  have hm := Array.mem_of_getElem? ht
  have hall : (Tryd.f7.params.toList.all fun u => !Tryd.prog.wantsStandIn u) = true := by kernel_rfl
  exact (show Tryd.prog.wantsStandIn t = false by simpa using List.all_eq_true.1 hall t (by simpa using hm))

/-- ████ THE CARD ████ -/
theorem over : Rows.OldForwardCardSaid :=
  Claim7.holds_tied_plain_at .later [] _ _ _ _ row (fun _ h => by cases h) (by kernel_rfl) (fun _ h => by cases h) oldForward_row_tie rfl ⟨rfl, rfl⟩ (by kernel_rfl) rfl plain (by kernel_rfl)

end Go.Proofs.YtkcaeajhbeenbaaDoor.oldForward

namespace Go.Proofs.YtkcaeajhbeenbaaDoor
theorem oldForward_holds : Rows.OldForwardCardSaid := oldForward.over
#print axioms oldForward_holds
end Go.Proofs.YtkcaeajhbeenbaaDoor
