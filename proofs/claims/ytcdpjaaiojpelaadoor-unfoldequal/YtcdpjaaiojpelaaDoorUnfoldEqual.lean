/- For every two scenes: the program's Equal tells that they are the same tree just if the document says so, either way round, and never of one that is wrong (scenes greater than the law plays with are let go by the law itself); nothing that came in is changed. The library's table of powers of ten holds what its text lays into it when the call begins (the card ties that). -/
import Derived.Test.YtcdpjaaiojpelaaDoorRows
import Derived.Test.YtcdpjaaiojpelaaDoorCards
import Derived.Test.YtcdpjaaiojpelaaDoorTie
import Derived.WalkKit
import Derived.ProofKit
import Derived.OpenShut
import Derived.ShutString
import Derived.Below
import Derived.Test.YtcdpjaaiojpelaaDoorVReq
import Derived.ChangeOld
import Derived.LaidMore
import Derived.SevenTiedAt
namespace Go.Proofs.YtcdpjaaiojpelaaDoor.unfoldEqual
open Go.ChangeShapes Go.WideShapes Go.ChangeAt Go.RowKit
open Go.ChangeMaps (open_string shut_string)
set_option linter.unusedVariables false

theorem own : ownKnob Tryd.prog.godebug = none := by kernel_rfl
theorem laidOut : laidOutB Tryd.prog = true := by kernel_rfl

set_option maxRecDepth 10000 in
set_option maxHeartbeats 4000000 in
theorem walk (X0 : List Nx) (a0 : Option Addr) (c0 : Nat) (r0 : Int) (X1 : List Nx) (a1 : Option Addr) (c1 : Nat) (r1 : Int) (w : World) (w0 : IsSc w a0 X0 r0) (w1 : IsSc w a1 X1 r1) (hT : Tab w) :
    Calls Tryd.prog 3 #[.agg #[.slice a0 X0.length c0, .int .i64 r0], .agg #[.slice a1 X1.length c1, .int .i64 r1]] w fun e w' => e = .returned (.bool true) ∧ Below w.heap.size w w' := by
  have HA : Hid (∀ W, Tab W → Calls Tryd.prog 8 #[] W fun e w' => e = .returned (.bool true) ∧ Below W.heap.size W w') := awake_any
  have HS : Hid (IsSc w a0 X0 r0 ∧ IsSc w a1 X1 r1) := ⟨w0, w1⟩
  have HL : Hid (L2 w ((w.alloc (.cells #[.slice a0 X0.length c0, .int .i64 r0] 24)).alloc (.cells #[.slice a1 X1.length c1, .int .i64 r1] 24)) a0 X0 c0 r0 a1 X1 c1 r1) := L2.start w a0 X0 c0 r0 a1 X1 c1 r1 hT
  clear w0 w1 hT
  go_enter Tryd.func3, Tryd.ntmps3
  go_wp2_with fail
  refine (HA.out _ HL.out.tab).mono ?_
  rintro e w2 ⟨rfl, hb2⟩
  have HL2 : Hid (L2 w w2 a0 X0 c0 r0 a1 X1 c1 r1) := HL.out.more hb2
  clear HL hb2
  have xa0 := HL2.out.a0
  have xa1 := HL2.out.a1
  have xb0 := HL2.out.b0
  have xb1 := HL2.out.b1
  have xla := HL2.out.a_.lt
  have xlb := HL2.out.b_.lt
  have HG : Hid (Calls Tryd.prog 9 #[.agg #[.slice a0 X0.length c0, .int .i64 r0]] w2 fun e w' => GreatOut X0 w2 w' e) := sgreat_any X0 a0 c0 r0 w2 (HS.out.1.bel HL2.out.bel)
  go_wp2_with fail
  refine Calls.mono HG.out ?_
  rintro e w3 ⟨g, rfl, hg, hb3⟩
  have HL3 : Hid (L2 w w3 a0 X0 c0 r0 a1 X1 c1 r1) := HL2.out.more hb3
  clear HG HL2 hb3
  clear xa0 xa1 xb0 xb1 xla xlb
  cases g with
  | true =>
    go_wp2_with fail
    refine (HA.out _ HL3.out.tab).mono ?_
    rintro e wz ⟨rfl, hbz⟩
    have HB : Hid (Below w.heap.size w wz) := (HL3.out.more hbz).bel
    clear HL3 hbz
    go_wp2_with fail
    go_ret
    exact ⟨rfl, HB.out⟩
  | false =>
    have HSa : Hid (Small X0) := (hg rfl).1
    clear hg
    have xa0 := HL3.out.a0
    have xa1 := HL3.out.a1
    have xb0 := HL3.out.b0
    have xb1 := HL3.out.b1
    have xla := HL3.out.a_.lt
    have xlb := HL3.out.b_.lt
    have HG : Hid (Calls Tryd.prog 9 #[.agg #[.slice a1 X1.length c1, .int .i64 r1]] w3 fun e w' => GreatOut X1 w3 w' e) := sgreat_any X1 a1 c1 r1 w3 (HS.out.2.bel HL3.out.bel)
    go_wp2_with fail
    refine Calls.mono HG.out ?_
    rintro e w4 ⟨g, rfl, hg, hb4⟩
    have HL4 : Hid (L2 w w4 a0 X0 c0 r0 a1 X1 c1 r1) := HL3.out.more hb4
    clear HG HL3 hb4
    clear xa0 xa1 xb0 xb1 xla xlb
    cases g with
    | true =>
      go_wp2_with fail
      refine (HA.out _ HL4.out.tab).mono ?_
      rintro e wz ⟨rfl, hbz⟩
      have HB : Hid (Below w.heap.size w wz) := (HL4.out.more hbz).bel
      clear HL4 hbz
      go_wp2_with fail
      go_ret
      exact ⟨rfl, HB.out⟩
    | false =>
      have HSb : Hid (Small X1) := (hg rfl).1
      clear hg
      have xa0 := HL4.out.a0
      have xa1 := HL4.out.a1
      have xb0 := HL4.out.b0
      have xb1 := HL4.out.b1
      have xla := HL4.out.a_.lt
      have xlb := HL4.out.b_.lt
      obtain ⟨q, hq⟩ := bool_of (RightIs X0 r0 ∧ RightIs X1 r1 ∧ SameT X0 X1 r0 r1)
      have Hq : Hid (q = true ↔ RightIs X0 r0 ∧ RightIs X1 r1 ∧ SameT X0 X1 r0 r1) := hq
      have HCa : Hid (∀ W, Below w4.heap.size w4 W → Calls Tryd.prog 11 #[.agg #[.slice a0 X0.length c0, .int .i64 r0]] W fun e w' => SCopyOut X0 r0 W w' e) := fun W hW => scopy_any X0 a0 c0 r0 W ((HS.out.1.bel HL4.out.bel).belowB hW) HSa.out
      have HCb : Hid (∀ W, Below w4.heap.size w4 W → Calls Tryd.prog 11 #[.agg #[.slice a1 X1.length c1, .int .i64 r1]] W fun e w' => SCopyOut X1 r1 W w' e) := fun W hW => scopy_any X1 a1 c1 r1 W ((HS.out.2.bel HL4.out.bel).belowB hW) HSb.out
      have HE : Hid (∀ (W : World) (Y Z : List Nx) (a' b' : Option Addr) (c' d' : Nat), Below w4.heap.size w4 W → Y.map Nx.nd = X0.map Nx.nd → ScAt W a' Y → Z.map Nx.nd = X1.map Nx.nd → ScAt W b' Z → Calls Tryd.prog 10 #[.agg #[.slice a' Y.length c', .int .i64 r0], .agg #[.slice b' Z.length d', .int .i64 r1]] W fun e w' => e = .returned (.bool q) ∧ Below W.heap.size W w') := fun W Y Z a' b' c' d' hW hY hs hZ hz => by
        refine uequal_is (same_small hY HSa.out) (same_small hZ HSb.out) (HS.out.1.rgx.same hY) (HS.out.2.rgx.same hZ) ?_ hs hz (HL4.out.tab.on hW)
        rw [hq, same_right hY, same_right hZ]
        unfold SameT
        rw [hY, hZ]
      clear hq HA
      go_wp2_with fail
      refine facts_region6 (fun W => Below w4.heap.size w4 W) (fun ix v W => match ix with | 0 => v = .agg #[.slice a0 X0.length c0, .int .i64 r0] | 1 => ∃ (Y : List Nx) (a' : Option Addr) (c' : Nat), v = .agg #[.slice a' Y.length c', .int .i64 r0] ∧ Y.map Nx.nd = X0.map Nx.nd ∧ ScAt W a' Y | 2 => v = .agg #[.slice a1 X1.length c1, .int .i64 r1] | 3 => ∃ (Y : List Nx) (a' : Option Addr) (c' : Nat), v = .agg #[.slice a' Y.length c', .int .i64 r1] ∧ Y.map Nx.nd = X1.map Nx.nd ∧ ScAt W a' Y | 4 => v = .bool q | 5 => v = .bool q | _ => True) (by kernel_rfl) (by kernel_rfl) (Below.refl _ _).drew ?step ?fin
      case step =>
        intro i' o' ho act W hG hoff hdep K hQ hK
        rcases i' with _|_|_|_|_|_|i'
        · obtain rfl := Option.some.inj ho
          have t2 : act.tmps[2]?.getD undef = .pointer (some ⟨w.heap.size, 0, none⟩) := hoff 2 (by kernel_rfl)
          have p0 := (hG.cell (p := ⟨w.heap.size, 0, none⟩) xla).trans xa0
          have p1 := (hG.cell (p := ⟨w.heap.size, 1, none⟩) xla).trans xa1
          clear hdep hoff hG
          go_simp
          exact hQ _ (rfl)
        · obtain rfl := Option.some.inj ho
          have e0 : act.tmps[17]?.getD undef = .agg #[.slice a0 X0.length c0, .int .i64 r0] := hdep 0 _ (by kernel_rfl) rfl
          clear hdep hoff
          have HG : Hid (Below w4.heap.size w4 W) := hG
          have HC : Hid _ := HCa.out W hG
          clear hG
          go_simp
          refine Calls.mono HC.out ?_
          rintro e w' ⟨Y, a', c', rfl, hY, hs, hb⟩
          exact hK _ _ (HG.out.trans (hb.mono HG.out.size)) (fun j u hj h => by
              rcases j with _|_|_|_|_|_|j
              · exact h
              · exact absurd rfl hj
              · exact h
              · obtain ⟨Y, a', c', h1, h2, h3⟩ := h; exact ⟨Y, a', c', h1, h2, h3.belowB hb⟩
              · exact h
              · exact h
              · trivial) (⟨Y, a', c', rfl, hY, hs⟩)
        · obtain rfl := Option.some.inj ho
          have t3 : act.tmps[3]?.getD undef = .pointer (some ⟨w.heap.size + 1, 0, none⟩) := hoff 3 (by kernel_rfl)
          have p0 := (hG.cell (p := ⟨w.heap.size + 1, 0, none⟩) xlb).trans xb0
          have p1 := (hG.cell (p := ⟨w.heap.size + 1, 1, none⟩) xlb).trans xb1
          clear hdep hoff hG
          go_simp
          exact hQ _ (rfl)
        · obtain rfl := Option.some.inj ho
          have e2 : act.tmps[19]?.getD undef = .agg #[.slice a1 X1.length c1, .int .i64 r1] := hdep 2 _ (by kernel_rfl) rfl
          clear hdep hoff
          have HG : Hid (Below w4.heap.size w4 W) := hG
          have HC : Hid _ := HCb.out W hG
          clear hG
          go_simp
          refine Calls.mono HC.out ?_
          rintro e w' ⟨Y, a', c', rfl, hY, hs, hb⟩
          exact hK _ _ (HG.out.trans (hb.mono HG.out.size)) (fun j u hj h => by
              rcases j with _|_|_|_|_|_|j
              · exact h
              · obtain ⟨Y, a', c', h1, h2, h3⟩ := h; exact ⟨Y, a', c', h1, h2, h3.belowB hb⟩
              · exact h
              · exact absurd rfl hj
              · exact h
              · exact h
              · trivial) (⟨Y, a', c', rfl, hY, hs⟩)
        · obtain rfl := Option.some.inj ho
          have e1 : ∃ (Y : List Nx) (a' : Option Addr) (c' : Nat), act.tmps[18]?.getD undef = .agg #[.slice a' Y.length c', .int .i64 r0] ∧ Y.map Nx.nd = X0.map Nx.nd ∧ ScAt W a' Y := hdep 1 _ (by kernel_rfl) rfl
          have e3 : ∃ (Y : List Nx) (a' : Option Addr) (c' : Nat), act.tmps[20]?.getD undef = .agg #[.slice a' Y.length c', .int .i64 r1] ∧ Y.map Nx.nd = X1.map Nx.nd ∧ ScAt W a' Y := hdep 3 _ (by kernel_rfl) rfl
          clear hdep hoff
          obtain ⟨Y, a', c', e1', hY, hs⟩ := e1
          obtain ⟨Z, b', d', e3', hZ, hz⟩ := e3
          have HG : Hid (Below w4.heap.size w4 W) := hG
          have HC : Hid _ := HE.out W Y Z a' b' c' d' hG hY hs hZ hz
          clear hG
          go_simp
          refine Calls.mono HC.out ?_
          rintro e w' ⟨rfl, hb⟩
          exact hK _ _ (HG.out.trans (hb.mono HG.out.size)) (fun j u hj h => by
              rcases j with _|_|_|_|_|_|j
              · exact h
              · obtain ⟨Y, a', c', h1, h2, h3⟩ := h; exact ⟨Y, a', c', h1, h2, h3.belowB hb⟩
              · exact h
              · obtain ⟨Y, a', c', h1, h2, h3⟩ := h; exact ⟨Y, a', c', h1, h2, h3.belowB hb⟩
              · exact absurd rfl hj
              · exact h
              · trivial) (rfl)
        · obtain rfl := Option.some.inj ho
          have e4 : act.tmps[21]?.getD undef = .bool q := hdep 4 _ (by kernel_rfl) rfl
          clear hdep hoff hG
          go_simp
          exact hQ _ (rfl)
        · exact absurd ho (by simp)
      case fin =>
        intro V W hG hF
        have y5 : V (some 5) = .bool q := hF 5 _ rfl
        have HL5 : Hid (L2 w W a0 X0 c0 r0 a1 X1 c1 r1) := HL4.out.more hG
        clear hF hG HL4 xa0 xa1 xb0 xb1 xla xlb HCa HCb
        simp only [fillA, Act.put, List.setIfInBounds_toArray, List.set_cons_zero, List.set_cons_succ, y5]
        generalize V (some 17) = z17
        generalize V (some 18) = z18
        generalize V (some 19) = z19
        generalize V (some 20) = z20
        generalize V (some 21) = z21
        clear y5
        have xa0 := HL5.out.a0
        have xa1 := HL5.out.a1
        have xb0 := HL5.out.b0
        have xb1 := HL5.out.b1
        have xla := HL5.out.a_.lt
        have xlb := HL5.out.b_.lt
        have HG : Hid (Calls Tryd.prog 12 #[.agg #[.slice a0 X0.length c0, .int .i64 r0]] W fun e w' => RightOut X0 r0 W w' e) := right_any X0 a0 c0 r0 W (HS.out.1.bel HL5.out.bel) HSa.out
        go_wp2_with fail
        refine Calls.mono HG.out ?_
        rintro e w6 ⟨g, rfl, hg, hb⟩
        have HL6 : Hid (L2 w w6 a0 X0 c0 r0 a1 X1 c1 r1) := HL5.out.more hb
        clear HG HL5 hb
        clear xa0 xa1 xb0 xb1 xla xlb
        cases g with
        | false =>
          obtain rfl : q = false := by
            cases q with
            | false => rfl
            | true => exact absurd (hg.2 (Hq.out.1 rfl).1) (by simp)
          have HB : Hid (Below w.heap.size w w6) := HL6.out.bel
          clear HL6 hg HE Hq
          go_wp2_with fail
          go_ret
          exact ⟨rfl, HB.out⟩
        | true =>
          have HRa : Hid (RightIs X0 r0) := hg.1 rfl
          clear hg
          have xa0 := HL6.out.a0
          have xa1 := HL6.out.a1
          have xb0 := HL6.out.b0
          have xb1 := HL6.out.b1
          have xla := HL6.out.a_.lt
          have xlb := HL6.out.b_.lt
          have HG : Hid (Calls Tryd.prog 12 #[.agg #[.slice a1 X1.length c1, .int .i64 r1]] w6 fun e w' => RightOut X1 r1 w6 w' e) := right_any X1 a1 c1 r1 w6 (HS.out.2.bel HL6.out.bel) HSb.out
          go_wp2_with fail
          refine Calls.mono HG.out ?_
          rintro e w7 ⟨g, rfl, hg, hb⟩
          have HL7 : Hid (L2 w w7 a0 X0 c0 r0 a1 X1 c1 r1) := HL6.out.more hb
          clear HG HL6 hb
          clear xa0 xa1 xb0 xb1 xla xlb
          cases g with
          | false =>
            obtain rfl : q = false := by
              cases q with
              | false => rfl
              | true => exact absurd (hg.2 (Hq.out.1 rfl).2.1) (by simp)
            have HB : Hid (Below w.heap.size w w7) := HL7.out.bel
            clear HL7 hg HE Hq
            go_wp2_with fail
            go_ret
            exact ⟨rfl, HB.out⟩
          | true =>
            have HRb : Hid (RightIs X1 r1) := hg.1 rfl
            have hqs : q = true ↔ SameT X0 X1 r0 r1 := by
              rw [Hq.out]
              exact ⟨fun h => h.2.2, fun h => ⟨HRa.out, HRb.out, h⟩⟩
            have HRE : Hid _ := requal_any X0 X1 a0 a1 c0 c1 r0 r1 w7 q (HS.out.1.bel HL7.out.bel) (HS.out.2.bel HL7.out.bel) HSa.out HSb.out HRa.out HRb.out hqs
            have HE2 : Hid (∀ W, L2 w W a0 X0 c0 r0 a1 X1 c1 r1 → Calls Tryd.prog 10 #[.agg #[.slice a1 X1.length c1, .int .i64 r1], .agg #[.slice a0 X0.length c0, .int .i64 r0]] W fun e w' => e = .returned (.bool q) ∧ Below W.heap.size W w') := fun W hW =>
              uequal_is HSb.out HSa.out HS.out.2.rgx HS.out.1.rgx (by rw [hqs]; exact ⟨fun h => ⟨HRb.out, HRa.out, h.symm⟩, fun h => h.2.2.symm⟩) (HS.out.2.bel hW.bel) (HS.out.1.bel hW.bel) hW.tab
            clear hg HE Hq hqs HS HSa HSb HRa HRb
            have xa0 := HL7.out.a0
            have xa1 := HL7.out.a1
            have xb0 := HL7.out.b0
            have xb1 := HL7.out.b1
            have xla := HL7.out.a_.lt
            have xlb := HL7.out.b_.lt
            go_wp2_with fail
            refine Calls.mono HRE.out ?_
            rintro e w8 ⟨rfl, hb8⟩
            have HL8 : Hid (L2 w w8 a0 X0 c0 r0 a1 X1 c1 r1) := HL7.out.more hb8
            clear HRE HL7 hb8
            clear xa0 xa1 xb0 xb1 xla xlb
            have xa0 := HL8.out.a0
            have xa1 := HL8.out.a1
            have xb0 := HL8.out.b0
            have xb1 := HL8.out.b1
            have xla := HL8.out.a_.lt
            have xlb := HL8.out.b_.lt
            go_wp2_with fail
            refine Calls.mono (HE2.out _ HL8.out) ?_
            rintro e w9 ⟨rfl, hb9⟩
            have HB : Hid (Below w.heap.size w w9) := (HL8.out.more hb9).bel
            clear HE2 HL8 hb9
            clear xa0 xa1 xb0 xb1 xla xlb
            go_wp2_with fail
            go_ret
            exact ⟨rfl, HB.out⟩

set_option maxRecDepth 100000 in
theorem lifted (os : Os) (started : os.Started) (H : Type) (enc : TypeId × Value → H) :
    ReturnsInHanded {} Tryd.checked os 3 .any (fun w args => (Rows.unfoldEqualSpec.pre enc Tryd.prog Tryd.f3 [] false w args ∧ laidMetH Tryd.prog laid3 w) ∧ sizedMet enc Tryd.prog Tryd.f3 (OpenSpec.ofChange Rows.unfoldEqualSpec) false w args)
      (Rows.unfoldEqualSpec.post enc Tryd.prog Tryd.f3 false true false false) := by
  refine returnsInHanded_of_change_and (C := Tryd.checked) (X := fun w _ => laidMetH Tryd.prog laid3 w) (fun _ _ _ hh h => h.of_heap hh) own started (by kernel_rfl) Tryd.func3
    (ChangeSpec.witness_shaped (enc := enc) (C := Tryd.checked) (os := os) (X := fun w _ => laidMetH Tryd.prog laid3 w) false (World.doorLaid Tryd.prog 400 os) #[.agg #[.slice none 0 0, .int .i64 0], .agg #[.slice none 0 0, .int .i64 0]] 8 rfl (World.shaped_of_RefB (by kernel_rfl) (by kernel_rfl)) (by kernel_rfl) (by kernel_rfl) (by kernel_rfl) (door_met os _)) ?_
  intro W base args ds gs before hval0 hW _ _ hL _
  have hval : ∀ (j : Nat) t v, Tryd.f3.params[j]? = some t → args[j]? = some v → Value.okWide Tryd.prog W .any base t v := hval0
  have hW' := hW
  obtain ⟨p, q, hA0, hV, rfl, hfz, hnd⟩ := hW
  have hA : DataW.TrodAll enc Tryd.prog W 0 (fun _ => true) true Tryd.f3.params.toList args.toList ds p := hA0
  rw [Tryd.params3] at hA hval
  obtain ⟨v0, vs0, d0, ds0, p0, q0, hargs, rfl, rfl, h0, r0⟩ := trodAll_cons hA
  obtain ⟨v1, vs1, d1, ds1, p1, q1, rfl, rfl, rfl, h1, r1⟩ := trodAll_cons r0
  obtain ⟨rfl, rfl, rfl⟩ := trodAll_nil r1
  obtain rfl : args = #[v0, v1] := by cases args; simp_all
  obtain ⟨rfl, rfl⟩ := trodVars_none hV
  have K0 := h0
  have lt0 : ∀ x ∈ p0, x.block < W.heap.size := by obtain ⟨m, hm⟩ := K0; exact DataW.trod_lt m _ _ _ hm
  obtain ⟨X0, a0, c0, rt0, rfl, w0⟩ := open_scene Tryd.underlying24 (by kernel_rfl) (by kernel_rfl) Tryd.underlying22 Tryd.underlying3 Tryd.underlying42 (by kernel_rfl) rfl rfl rfl rfl (by kernel_rfl) (by kernel_rfl) (by kernel_rfl) (by kernel_rfl) Tryd.underlying3 Tryd.underlying39 Tryd.underlying40 Tryd.underlying38 Tryd.underlying2 Tryd.underlying9 Tryd.underlying3 (by kernel_rfl) (by kernel_rfl) (by kernel_rfl) (hval 0 24 v0 rfl rfl) h0
  have K1 := h1
  have lt1 : ∀ x ∈ p1, x.block < W.heap.size := by obtain ⟨m, hm⟩ := K1; exact DataW.trod_lt m _ _ _ hm
  obtain ⟨X1, a1, c1, rt1, rfl, w1⟩ := open_scene Tryd.underlying24 (by kernel_rfl) (by kernel_rfl) Tryd.underlying22 Tryd.underlying3 Tryd.underlying42 (by kernel_rfl) rfl rfl rfl rfl (by kernel_rfl) (by kernel_rfl) (by kernel_rfl) (by kernel_rfl) Tryd.underlying3 Tryd.underlying39 Tryd.underlying40 Tryd.underlying38 Tryd.underlying2 Tryd.underlying9 Tryd.underlying3 (by kernel_rfl) (by kernel_rfl) (by kernel_rfl) (hval 1 24 v1 rfl rfl) h1
  clear hA0 hval0
  refine (walk X0 a0 c0 rt0 X1 a1 c1 rt1 W w0 w1 (tab_of11 hL)).mono fun e W' ⟨he, bel⟩ => ?_
  subst he
  exact ⟨_, rfl, _, _, _, [], _, [], hW', trodAll_mk1 (shut_bool Tryd.underlying4 _), (trodAll_cons_mk (Below.trod laidOut (by kernel_rfl) (of_decide_eq_true (by kernel_rfl)) K0 bel lt0) (trodAll_cons_mk (Below.trod laidOut (by kernel_rfl) (of_decide_eq_true (by kernel_rfl)) K1 bel lt1) trodAll_mk0)), rfl, bel.frame _, fun h => by cases h⟩

theorem row : Rows.unfoldEqualRow.holds Tryd.pinned (OpenSpec.ofChange Rows.unfoldEqualSpec) :=
  OpenClaim.holds_of_wide 3 Tryd.f3 rfl rfl rfl rfl rfl rfl rfl ⟨rfl, rfl, rfl, rfl, rfl⟩ rfl rfl rfl rfl rfl (by kernel_rfl) Tryd.func3 (by kernel_rfl)
    (of_decide_eq_true (by kernel_rfl)) (by unfold Func.isWrapper; first | (rw [if_pos (by decide +kernel)]; kernel_rfl) | (rw [if_neg (by decide +kernel)]; exact ⟨rfl, rfl⟩))
    (fun os started H enc _ => lifted os started H enc)

/-- No parameter wants a stand-in; the program's own looks are off: what the card asks. -/
theorem plain (f : FuncId) (fn : Func) (hf : Tryd.pinned.checked.prog.funcNamed Rows.unfoldEqualRow.func = some f) (hfn : Tryd.pinned.checked.prog.funcs[f]? = some fn) :
    false = Tryd.pinned.checked.prog.looks [] ∧ ∀ (j : Nat) t, fn.params[j]? = some t → Tryd.pinned.checked.prog.wantsStandIn t = false := by
  obtain rfl : f = 3 := Option.some.inj ((show Tryd.prog.funcNamed Rows.unfoldEqualRow.func = some 3 by kernel_rfl).symm.trans hf) |>.symm
  obtain rfl : fn = Tryd.f3 := (Option.some.inj (Tryd.func3.symm.trans hfn)).symm
  refine ⟨by kernel_rfl, fun j t ht => ?_⟩
  have hm := Array.mem_of_getElem? ht
  have hall : (Tryd.f3.params.toList.all fun u => !Tryd.prog.wantsStandIn u) = true := by kernel_rfl
  exact (show Tryd.prog.wantsStandIn t = false by simpa using List.all_eq_true.1 hall t (by simpa using hm))

/-- ████ THE CARD ████ -/
theorem over : Rows.UnfoldEqualCardSaid :=
  Claim7.holds_tied_plain_at .later [] _ _ _ _ row (fun _ h => by cases h) (by kernel_rfl) (fun _ h => by cases h) unfoldEqual_row_tie rfl ⟨rfl, rfl⟩ (by kernel_rfl) rfl plain (by kernel_rfl)

end Go.Proofs.YtcdpjaaiojpelaaDoor.unfoldEqual

namespace Go.Proofs.YtcdpjaaiojpelaaDoor
theorem unfoldEqual_holds : Rows.UnfoldEqualCardSaid := unfoldEqual.over
#print axioms unfoldEqual_holds
end Go.Proofs.YtcdpjaaiojpelaaDoor
