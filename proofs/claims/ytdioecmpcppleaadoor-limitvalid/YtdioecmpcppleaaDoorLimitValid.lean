/- For every scene and all limits: the program's Valid, and its Typed, tell what the document says: what is wrong, and at which node, or that nothing is (scenes greater than the law plays with are let go by the law itself); the arguments read afterwards as before. The package schema's tables hold what the program's text lays into them when the call begins (the card ties them). -/
import Derived.Test.YtdioecmpcppleaaDoorRows
import Derived.Test.YtdioecmpcppleaaDoorCards
import Derived.Test.YtdioecmpcppleaaDoorTie
import Derived.WalkKit
import Derived.ProofKit
import Derived.OpenShut
import Derived.ShutString
import Derived.Below
import Derived.Test.YtdioecmpcppleaaDoorLSame
import Derived.ChangeOld
import Derived.LaidMore
import Derived.SevenTiedAt
namespace Go.Proofs.YtdioecmpcppleaaDoor.limitValid
open Go.ChangeShapes Go.WideShapes Go.ChangeAt Go.RowKit
open Go.ChangeMaps (open_string shut_string)
set_option linter.unusedVariables false

theorem own : ownKnob Tryd.prog.godebug = none := by kernel_rfl
theorem laidOut : laidOutB Tryd.prog = true := by kernel_rfl

/-- The facts of the region in which a copy is asked. -/
def lvF (X0 : List Nx) (a0 : Option Addr) (c0 : Nat) (r0 : Int) (l1 : Lm) (bx : Nat) (e0 z0 : Int) : Nat → Value → World → Prop
  | 0, v, _ => v = .agg #[.slice a0 X0.length c0, .int .i64 r0]
  | 1, v, W => ∃ (Y : List Nx) (ay : Option Addr) (cy : Nat), v = .agg #[.slice ay Y.length cy, .int .i64 r0] ∧ Y.map Nx.nd = X0.map Nx.nd ∧ ScAt W ay Y
  | 2, v, _ => v = .agg #[.int .i64 l1.b, .int .i64 l1.n, .int .i64 l1.e, .int .i64 l1.d, .int .i64 l1.x]
  | 3, v, _ => v = .tuple #[.int .i64 e0, .int .i64 z0]
  | 4, v, _ => v = .tuple #[.int .i64 e0, .int .i64 z0]
  | 5, v, _ => v = .int .i64 e0
  | 6, v, _ => v = .int .i64 z0
  | 7, v, _ => v = .int .i64 e0
  | 8, v, _ => v = .int .i64 z0
  | _, _, _ => True
theorem lvF_stab (X0 : List Nx) (a0 : Option Addr) (c0 : Nat) (r0 : Int) (l1 : Lm) (bx : Nat) (e0 z0 : Int) : ∀ ix jx v w w', ix ≠ jx → World.grownBy w w' (if ix = 99 then none else none) → lvF X0 a0 c0 r0 l1 bx e0 z0 jx v w → lvF X0 a0 c0 r0 l1 bx e0 z0 jx v w' := by
  intro ix jx v w w' hne hg h
  have hb := below_of_grown (by simpa using hg)
  match jx, h with
  | 0, h | 2, h | 3, h | 4, h | 5, h | 6, h | 7, h | 8, h => exact h
  | 1, h => exact by obtain ⟨Y, ay, cy, h1, h2, h3⟩ := h; exact ⟨Y, ay, cy, h1, h2, h3.belowB hb⟩
  | n + 9, _ => trivial

set_option maxRecDepth 10000 in
set_option maxHeartbeats 4000000 in
theorem walk (X0 : List Nx) (a0 : Option Addr) (c0 : Nat) (r0 : Int) (l1 : Lm) (w : World) (w0 : IsSc w a0 X0 r0) (w1 : LmR l1) (hT : Tabs12 w) :
    Calls Tryd.prog 3 #[.agg #[.slice a0 X0.length c0, .int .i64 r0], .agg #[.int .i64 l1.b, .int .i64 l1.n, .int .i64 l1.e, .int .i64 l1.d, .int .i64 l1.x]] w fun e w' => e = .returned (.bool true) ∧ Below w.heap.size w w' := by
  have HA : Hid (∀ W, Tabs12 W → Calls Tryd.prog 8 #[] W fun e w' => e = .returned (.bool true) ∧ Below W.heap.size W w') := awake_any
  have HS : Hid (IsSc w a0 X0 r0) := w0
  have HL : Hid (L2 w ((w.alloc (.cells #[.slice a0 X0.length c0, .int .i64 r0] 24)).alloc (.cells (lmC l1) 26)) a0 X0 c0 r0 l1) := L2.start hT
  clear w0 hT w1
  go_enter Tryd.func3, Tryd.ntmps3
  go_wp2_with fail
  refine (HA.out _ HL.out.tab).mono ?_
  rintro e w2 ⟨rfl, hb2⟩
  have HL2 : Hid (L2 w w2 a0 X0 c0 r0 l1) := HL.out.more hb2
  clear HL hb2
  have xa0 := HL2.out.c0
  have xa1 := HL2.out.c1
  have HG : Hid (Calls Tryd.prog 9 #[.agg #[.slice a0 X0.length c0, .int .i64 r0]] w2 fun e w' => GreatOut X0 w2 w' e) := sgreat_any X0 a0 c0 r0 w2 (HS.out.belS HL2.out.bel)
  go_wp2_with fail
  refine Calls.mono HG.out ?_
  rintro e w3 ⟨g, rfl, hg, hb3⟩
  have HL3 : Hid (L2 w w3 a0 X0 c0 r0 l1) := HL2.out.more hb3
  clear HG HL2 hb3 xa0 xa1
  cases g with
  | true =>
    go_wp2_with fail
    refine (HA.out _ HL3.out.tab).mono ?_
    rintro e wz ⟨rfl, hbz⟩
    have HB : Hid (Below w.heap.size w wz) := (HL3.out.more hbz).bel
    clear HL3 hbz
    go_wp2_with fail
    go_ret
    exact ⟨rfl, HB.out⟩
  | false =>
    have HSm : Hid (Small X0) := (hg rfl).1
    obtain ⟨d, hd⟩ := depth_there X0 r0
    have HD : Hid (DepthIs X0 r0 d) := hd
    obtain ⟨e0, z0, hez⟩ := va_fix X0 r0 l1 d
    have HEZ : Hid (∀ e z, VaIs X0 r0 l1 d e z → e = e0 ∧ z = z0) := hez
    have HVY : Hid (∀ W, L2 w W a0 X0 c0 r0 l1 → ∀ (Y : List Nx) (ay : Option Addr) (cy : Nat), Y.map Nx.nd = X0.map Nx.nd → ScAt W ay Y → Calls Tryd.prog 10 #[.agg #[.slice ay Y.length cy, .int .i64 r0], .agg #[.int .i64 l1.b, .int .i64 l1.n, .int .i64 l1.e, .int .i64 l1.d, .int .i64 l1.x]] W fun e w' => e = .returned (.tuple #[.int .i64 e0, .int .i64 z0]) ∧ Below W.heap.size W w') := fun W hW Y ay cy h1 h2 => by
      refine Calls.mono (valid_any Y ay cy r0 l1 d W h2 (same_small h1 HSm.out) (same_fn h1 HS.out.fn) hW.tab (same_depth h1.symm HD.out)) ?_
      rintro e w' ⟨n, z, rfl, hv, hb⟩
      obtain ⟨rfl, rfl⟩ := HEZ.out n z (same_va h1 hv)
      exact ⟨rfl, hb⟩
    have HTY : Hid (∀ W, L2 w W a0 X0 c0 r0 l1 → ∀ (Y : List Nx) (ay : Option Addr) (cy : Nat), Y.map Nx.nd = X0.map Nx.nd → ScAt W ay Y → Calls Tryd.prog 13 #[.agg #[.slice ay Y.length cy, .int .i64 r0]] W fun e w' => e = .returned (.tuple #[.int .i64 (tyE X0), .int .i64 (tyZ X0)]) ∧ Below W.heap.size W w') := fun W hW Y ay cy h1 h2 => by
      have := typed_any Y ay cy r0 W h2 (same_small h1 HSm.out) (same_fn h1 HS.out.fn) hW.tab
      rw [same_tyE h1, same_tyZ h1] at this
      exact this
    have HRV : Hid (∀ W, L2 w W a0 X0 c0 r0 l1 → Calls Tryd.prog 12 #[.agg #[.slice a0 X0.length c0, .int .i64 r0], .agg #[.int .i64 l1.b, .int .i64 l1.n, .int .i64 l1.e, .int .i64 l1.d, .int .i64 l1.x]] W fun e w' => e = .returned (.tuple #[.int .i64 e0, .int .i64 z0]) ∧ Below W.heap.size W w') := fun W hW => by
      refine Calls.mono (rvalid_any X0 a0 c0 r0 l1 d W (HS.out.belS hW.bel) HSm.out HS.out.fn HD.out) ?_
      rintro e w' ⟨n, z, rfl, hv, hb⟩
      obtain ⟨rfl, rfl⟩ := HEZ.out n z hv
      exact ⟨rfl, hb⟩
    have HRT : Hid (∀ W, L2 w W a0 X0 c0 r0 l1 → Calls Tryd.prog 14 #[.agg #[.slice a0 X0.length c0, .int .i64 r0], .int .i64 2] W fun e w' => e = .returned (.tuple #[.int .i64 (tyE X0), .int .i64 (tyZ X0)]) ∧ Below W.heap.size W w') := fun W hW => rtyped_any X0 a0 c0 r0 W (HS.out.belS hW.bel) HSm.out HS.out.fn
    have HCP : Hid (∀ W, L2 w W a0 X0 c0 r0 l1 → Calls Tryd.prog 11 #[.agg #[.slice a0 X0.length c0, .int .i64 r0]] W fun e w' => SCopyOut X0 r0 W w' e) := fun W hW => scopy_any X0 a0 c0 r0 W (HS.out.belS hW.bel) HSm.out
    clear hg hd hez HA HS HSm HD HEZ
    generalize tyE X0 = te at *
    generalize tyZ X0 = tz at *
    go_wp2_with fail
    refine facts_region none 99 (lvF X0 a0 c0 r0 l1 w.heap.size e0 z0) (by kernel_rfl) (by kernel_rfl) (lvF_stab X0 a0 c0 r0 l1 w.heap.size e0 z0) ?step ?fin
    case step =>
      intro i' o' ho act W hg hstill hoff hdep K hK
      have hb := below_of_grown hg
      have hW := HL3.out.more hb
      have xa0 := hW.c0
      have xa1 := hW.c1
      have xl0 := hW.d0
      have xl1 := hW.d1
      have xl2 := hW.d2
      have xl3 := hW.d3
      have xl4 := hW.d4
      have HCp : Hid _ := HCP.out W hW
      have HVV : Hid _ := HVY.out W hW
      clear hb hW HCP HVY HTY HRV HRT HL3
      rcases i' with _|_|_|_|_|_|_|_|_|i'
      · obtain rfl := Option.some.inj ho
        have t2 : act.tmps[2]?.getD undef = .pointer (some ⟨w.heap.size, 0, none⟩) := hoff 2 (by kernel_rfl)
        clear hdep hoff hg hstill HCp HVV
        go_simp
        exact hK _ _ (grown_refl _ _) rfl
      · obtain rfl := Option.some.inj ho
        have e0 : act.tmps[21]?.getD undef = .agg #[.slice a0 X0.length c0, .int .i64 r0] := hdep 0 _ (by kernel_rfl) rfl
        clear hdep hoff hg hstill HVV
        go_simp
        refine Calls.mono HCp.out ?_
        rintro e w' ⟨Y, ay, cy, rfl, h1, h2, hb⟩
        exact hK _ _ (grown_of_below hb _) ⟨Y, ay, cy, rfl, h1, h2⟩
      · obtain rfl := Option.some.inj ho
        have t3 : act.tmps[3]?.getD undef = .pointer (some ⟨w.heap.size + 1, 0, none⟩) := hoff 3 (by kernel_rfl)
        clear hdep hoff hg hstill HCp HVV
        go_simp
        exact hK _ _ (grown_refl _ _) rfl
      · obtain rfl := Option.some.inj ho
        have e1 : ∃ (Y : List Nx) (ay : Option Addr) (cy : Nat), act.tmps[22]?.getD undef = .agg #[.slice ay Y.length cy, .int .i64 r0] ∧ Y.map Nx.nd = X0.map Nx.nd ∧ ScAt W ay Y := hdep 1 _ (by kernel_rfl) rfl
        have e2 : act.tmps[23]?.getD undef = .agg #[.int .i64 l1.b, .int .i64 l1.n, .int .i64 l1.e, .int .i64 l1.d, .int .i64 l1.x] := hdep 2 _ (by kernel_rfl) rfl
        clear hdep hoff hg hstill HCp
        obtain ⟨Y, ay, cy, e1, h1, h2⟩ := e1
        have HV : Hid _ := HVV.out Y ay cy h1 h2
        clear h1 h2 HVV
        go_simp
        refine Calls.mono (Hid.out HV) ?_
        rintro e w' ⟨rfl, hb⟩
        exact hK _ _ (grown_of_below hb _) rfl
      · obtain rfl := Option.some.inj ho
        have e3 : act.tmps[24]?.getD undef = .tuple #[.int .i64 e0, .int .i64 z0] := hdep 3 _ (by kernel_rfl) rfl
        clear hdep hoff hg hstill HCp HVV
        go_simp
        exact hK _ _ (grown_refl _ _) rfl
      · obtain rfl := Option.some.inj ho
        have e4 : act.tmps[20]?.getD undef = .tuple #[.int .i64 e0, .int .i64 z0] := hdep 4 _ (by kernel_rfl) rfl
        clear hdep hoff hg hstill HCp HVV
        go_simp
        exact hK _ _ (grown_refl _ _) rfl
      · obtain rfl := Option.some.inj ho
        have e4 : act.tmps[20]?.getD undef = .tuple #[.int .i64 e0, .int .i64 z0] := hdep 4 _ (by kernel_rfl) rfl
        clear hdep hoff hg hstill HCp HVV
        go_simp
        exact hK _ _ (grown_refl _ _) rfl
      · obtain rfl := Option.some.inj ho
        have e5 : act.tmps[25]?.getD undef = .int .i64 e0 := hdep 5 _ (by kernel_rfl) rfl
        clear hdep hoff hg hstill HCp HVV
        go_simp
        exact hK _ _ (grown_refl _ _) rfl
      · obtain rfl := Option.some.inj ho
        have e6 : act.tmps[26]?.getD undef = .int .i64 z0 := hdep 6 _ (by kernel_rfl) rfl
        clear hdep hoff hg hstill HCp HVV
        go_simp
        exact hK _ _ (grown_refl _ _) rfl
      · exact absurd ho (by simp)
    case fin =>
      intro V W hg hF
      have HL4 : Hid (L2 w W a0 X0 c0 r0 l1) := HL3.out.more (below_of_grown hg)
      have v5 : V (some 5) = .int .i64 e0 := hF 7 _ rfl
      have v6 : V (some 6) = .int .i64 z0 := hF 8 _ rfl
      clear hF hg HL3 HVY
      simp only [fillA, Act.put, List.setIfInBounds_toArray, List.set_cons_zero, List.set_cons_succ, v5, v6]
      generalize V (some 20) = z20
      generalize V (some 21) = z21
      generalize V (some 22) = z22
      generalize V (some 23) = z23
      generalize V (some 24) = z24
      generalize V (some 25) = z25
      generalize V (some 26) = z26
      clear v5 v6
      have xa0 := HL4.out.c0
      have xa1 := HL4.out.c1
      have xl0 := HL4.out.d0
      have xl1 := HL4.out.d1
      have xl2 := HL4.out.d2
      have xl3 := HL4.out.d3
      have xl4 := HL4.out.d4
      have HC1 : Hid _ := HRV.out W HL4.out
      go_wp2_with fail
      refine Calls.mono (Hid.out HC1) ?_
      rintro e w5 ⟨rfl, hb5⟩
      have HL5 : Hid (L2 w w5 a0 X0 c0 r0 l1) := HL4.out.more hb5
      clear HC1 HL4 hb5 xa0 xa1 xl0 xl1 xl2 xl3 xl4 HRV
      have xa0 := HL5.out.c0
      have xa1 := HL5.out.c1
      have HC2 : Hid (Calls Tryd.prog 11 #[.agg #[.slice a0 X0.length c0, .int .i64 r0]] w5 fun e w' => SCopyOut X0 r0 w5 w' e) := HCP.out w5 HL5.out
      go_wp2_with fail
      refine Calls.mono HC2.out ?_
      rintro e w6 ⟨Y, ay, cy, rfl, h1, h2, hb6⟩
      have HL6 : Hid (L2 w w6 a0 X0 c0 r0 l1) := HL5.out.more hb6
      have HC3 : Hid _ := HTY.out w6 HL6.out Y ay cy h1 h2
      clear HC2 HL5 hb6 xa0 xa1 h1 h2 HCP HTY
      go_wp2_with fail
      refine Calls.mono (Hid.out HC3) ?_
      rintro e w7 ⟨rfl, hb7⟩
      have HL7 : Hid (L2 w w7 a0 X0 c0 r0 l1) := HL6.out.more hb7
      clear HC3 HL6 hb7
      have xa0 := HL7.out.c0
      have xa1 := HL7.out.c1
      have HC4 : Hid _ := HRT.out w7 HL7.out
      go_wp2_with fail
      refine Calls.mono (Hid.out HC4) ?_
      rintro e w8 ⟨rfl, hb8⟩
      have HB : Hid (Below w.heap.size w w8) := (HL7.out.more hb8).bel
      clear HC4 HL7 hb8 xa0 xa1 HRT
      go_wp2_with fail
      go_ret
      exact ⟨rfl, HB.out⟩

set_option maxRecDepth 100000 in
theorem lifted (os : Os) (started : os.Started) (H : Type) (enc : TypeId × Value → H) :
    ReturnsInHanded {} Tryd.checked os 3 .any (fun w args => (Rows.limitValidSpec.pre enc Tryd.prog Tryd.f3 [] false w args ∧ laidMetH Tryd.prog laid2 w) ∧ sizedMet enc Tryd.prog Tryd.f3 (OpenSpec.ofChange Rows.limitValidSpec) false w args)
      (Rows.limitValidSpec.post enc Tryd.prog Tryd.f3 false true false false) := by
  refine returnsInHanded_of_change_and (C := Tryd.checked) (X := fun w _ => laidMetH Tryd.prog laid2 w) (fun _ _ _ hh h => h.of_heap hh) own started (by kernel_rfl) Tryd.func3
    (ChangeSpec.witness_shaped (enc := enc) (C := Tryd.checked) (os := os) (X := fun w _ => laidMetH Tryd.prog laid2 w) false (World.doorLaid Tryd.prog 400 os) #[.agg #[.slice none 0 0, .int .i64 0], .agg #[.int .i64 0, .int .i64 0, .int .i64 0, .int .i64 0, .int .i64 0]] 8 rfl (World.shaped_of_RefB (by kernel_rfl) (by kernel_rfl)) (by kernel_rfl) (by kernel_rfl) (by kernel_rfl) (door_met os _)) ?_
  intro W base args ds gs before hval0 hW _ _ hL _
  have hval : ∀ (j : Nat) t v, Tryd.f3.params[j]? = some t → args[j]? = some v → Value.okWide Tryd.prog W .any base t v := hval0
  have hW' := hW
  obtain ⟨p, q, hA0, hV, rfl, hfz, hnd⟩ := hW
  have hA : DataW.TrodAll enc Tryd.prog W 0 (fun _ => true) true Tryd.f3.params.toList args.toList ds p := hA0
  rw [Tryd.params3] at hA hval
  obtain ⟨v0, vs0, d0, ds0, p0, q0, hargs, rfl, rfl, h0, r0⟩ := trodAll_cons hA
  obtain ⟨v1, vs1, d1, ds1, p1, q1, rfl, rfl, rfl, h1, r1⟩ := trodAll_cons r0
  obtain ⟨rfl, rfl, rfl⟩ := trodAll_nil r1
  obtain rfl : args = #[v0, v1] := by cases args; simp_all
  obtain ⟨rfl, rfl⟩ := trodVars_none hV
  have K0 := h0
  have lt0 : ∀ x ∈ p0, x.block < W.heap.size := by obtain ⟨m, hm⟩ := K0; exact DataW.trod_lt m _ _ _ hm
  obtain ⟨X0, a0, c0, rt0, rfl, w0⟩ := open_scene Tryd.underlying24 (by kernel_rfl) (by kernel_rfl) Tryd.underlying22 Tryd.underlying3 Tryd.underlying50 (by kernel_rfl) rfl rfl rfl rfl (by kernel_rfl) (by kernel_rfl) (by kernel_rfl) (by kernel_rfl) Tryd.underlying3 Tryd.underlying46 Tryd.underlying47 Tryd.underlying48 Tryd.underlying2 Tryd.underlying9 Tryd.underlying3 (by kernel_rfl) (by kernel_rfl) (by kernel_rfl) (hval 0 24 v0 rfl rfl) h0
  have K1 := h1
  have lt1 : ∀ x ∈ p1, x.block < W.heap.size := by obtain ⟨m, hm⟩ := K1; exact DataW.trod_lt m _ _ _ hm
  obtain ⟨l1, rfl, w1⟩ := open_lim Tryd.underlying26 (by kernel_rfl) (by kernel_rfl) Tryd.underlying3 Tryd.underlying3 Tryd.underlying3 Tryd.underlying3 Tryd.underlying3 (hval 1 26 v1 rfl rfl) h1
  clear hA0 hval0
  refine (walk X0 a0 c0 rt0 l1 W w0 w1 (tabs_of hL)).mono fun e W' ⟨he, bel⟩ => ?_
  subst he
  exact ⟨_, rfl, _, _, _, [], _, [], hW', trodAll_mk1 (shut_bool Tryd.underlying4 _), (trodAll_cons_mk (Below.trod laidOut (by kernel_rfl) (of_decide_eq_true (by kernel_rfl)) K0 bel lt0) (trodAll_cons_mk (Below.trod laidOut (by kernel_rfl) (of_decide_eq_true (by kernel_rfl)) K1 bel lt1) trodAll_mk0)), rfl, bel.frame _, fun h => by cases h⟩

theorem row : Rows.limitValidRow.holds Tryd.pinned (OpenSpec.ofChange Rows.limitValidSpec) :=
  OpenClaim.holds_of_wide 3 Tryd.f3 rfl rfl rfl rfl rfl rfl rfl ⟨rfl, rfl, rfl, rfl, rfl⟩ rfl rfl rfl rfl rfl (by kernel_rfl) Tryd.func3 (by kernel_rfl)
    (of_decide_eq_true (by kernel_rfl)) (by unfold Func.isWrapper; first | (rw [if_pos (by decide +kernel)]; kernel_rfl) | (rw [if_neg (by decide +kernel)]; exact ⟨rfl, rfl⟩))
    (fun os started H enc _ => lifted os started H enc)

/-- No parameter wants a stand-in; the program's own looks are off: what the card asks. -/
theorem plain (f : FuncId) (fn : Func) (hf : Tryd.pinned.checked.prog.funcNamed Rows.limitValidRow.func = some f) (hfn : Tryd.pinned.checked.prog.funcs[f]? = some fn) :
    false = Tryd.pinned.checked.prog.looks [] ∧ ∀ (j : Nat) t, fn.params[j]? = some t → Tryd.pinned.checked.prog.wantsStandIn t = false := by
  obtain rfl : f = 3 := Option.some.inj ((show Tryd.prog.funcNamed Rows.limitValidRow.func = some 3 by kernel_rfl).symm.trans hf) |>.symm
  obtain rfl : fn = Tryd.f3 := (Option.some.inj (Tryd.func3.symm.trans hfn)).symm
  refine ⟨by kernel_rfl, fun j t ht => ?_⟩
  have hm := Array.mem_of_getElem? ht
  have hall : (Tryd.f3.params.toList.all fun u => !Tryd.prog.wantsStandIn u) = true := by kernel_rfl
  exact (show Tryd.prog.wantsStandIn t = false by simpa using List.all_eq_true.1 hall t (by simpa using hm))

/-- ████ THE CARD ████ -/
theorem over : Rows.LimitValidCardSaid :=
  Claim7.holds_tied_plain_at .later [] _ _ _ _ row (fun _ h => by cases h) (by kernel_rfl) (fun _ h => by cases h) limitValid_row_tie rfl ⟨rfl, rfl⟩ (by kernel_rfl) rfl plain (by kernel_rfl)

end Go.Proofs.YtdioecmpcppleaaDoor.limitValid

namespace Go.Proofs.YtdioecmpcppleaaDoor
theorem limitValid_holds : Rows.LimitValidCardSaid := limitValid.over
#print axioms limitValid_holds
end Go.Proofs.YtdioecmpcppleaaDoor
