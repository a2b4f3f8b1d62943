/- For every two scenes that are right: the program's Equal tells that they are the same tree just if their Shares are the same scene (scenes greater than the law plays with are let go by the law itself); nothing that came in is changed. The library's table of powers of ten holds what its text lays into it when the call begins (the card ties that). -/
import Derived.Test.YtcdpjaaiojpelaaDoorRows
import Derived.Test.YtcdpjaaiojpelaaDoorCards
import Derived.Test.YtcdpjaaiojpelaaDoorTie
import Derived.WalkKit
import Derived.ProofKit
import Derived.OpenShut
import Derived.ShutString
import Derived.Below
import Derived.Test.YtcdpjaaiojpelaaDoorVLaw
import Derived.ChangeOld
import Derived.LaidMore
import Derived.SevenTiedAt
namespace Go.Proofs.YtcdpjaaiojpelaaDoor.unfoldFields
open Go.ChangeShapes Go.WideShapes Go.ChangeAt Go.RowKit
open Go.ChangeMaps (open_string shut_string)
set_option linter.unusedVariables false

theorem own : ownKnob Tryd.prog.godebug = none := by kernel_rfl
theorem laidOut : laidOutB Tryd.prog = true := by kernel_rfl

set_option maxRecDepth 10000 in
set_option maxHeartbeats 4000000 in
theorem walk (X0 : List Nx) (a0 : Option Addr) (c0 : Nat) (r0 : Int) (X1 : List Nx) (a1 : Option Addr) (c1 : Nat) (r1 : Int) (w : World) (w0 : IsSc w a0 X0 r0) (w1 : IsSc w a1 X1 r1) (hT : Tab w) :
    Calls Tryd.prog 7 #[.agg #[.slice a0 X0.length c0, .int .i64 r0], .agg #[.slice a1 X1.length c1, .int .i64 r1]] w fun e w' => e = .returned (.bool true) ∧ Below w.heap.size w w' := by
  have HA : Hid (∀ W, Tab W → Calls Tryd.prog 8 #[] W fun e w' => e = .returned (.bool true) ∧ Below W.heap.size W w') := awake_any
  have HS : Hid (IsSc w a0 X0 r0 ∧ IsSc w a1 X1 r1) := ⟨w0, w1⟩
  have HL : Hid (L2 w ((w.alloc (.cells #[.slice a0 X0.length c0, .int .i64 r0] 24)).alloc (.cells #[.slice a1 X1.length c1, .int .i64 r1] 24)) a0 X0 c0 r0 a1 X1 c1 r1) := L2.start w a0 X0 c0 r0 a1 X1 c1 r1 hT
  clear w0 w1 hT
  go_enter Tryd.func7, Tryd.ntmps7
  go_wp2_with fail
  refine (HA.out _ HL.out.tab).mono ?_
  rintro e w2 ⟨rfl, hb2⟩
  have HL2 : Hid (L2 w w2 a0 X0 c0 r0 a1 X1 c1 r1) := HL.out.more hb2
  clear HL hb2
  have xa0 := HL2.out.a0
  have xa1 := HL2.out.a1
  have xb0 := HL2.out.b0
  have xb1 := HL2.out.b1
  have xla := HL2.out.a_.lt
  have xlb := HL2.out.b_.lt
  have HG : Hid (Calls Tryd.prog 9 #[.agg #[.slice a0 X0.length c0, .int .i64 r0]] w2 fun e w' => GreatOut X0 w2 w' e) := sgreat_any X0 a0 c0 r0 w2 (HS.out.1.bel HL2.out.bel)
  go_wp2_with fail
  refine Calls.mono HG.out ?_
  rintro e w3 ⟨g, rfl, hg, hb3⟩
  have HL3 : Hid (L2 w w3 a0 X0 c0 r0 a1 X1 c1 r1) := HL2.out.more hb3
  clear HG HL2 hb3
  clear xa0 xa1 xb0 xb1 xla xlb
  cases g with
  | true =>
    go_wp2_with fail
    refine (HA.out _ HL3.out.tab).mono ?_
    rintro e wz ⟨rfl, hbz⟩
    have HB : Hid (Below w.heap.size w wz) := (HL3.out.more hbz).bel
    clear HL3 hbz
    go_wp2_with fail
    go_ret
    exact ⟨rfl, HB.out⟩
  | false =>
    have HSa : Hid (Small X0) := (hg rfl).1
    clear hg
    have xa0 := HL3.out.a0
    have xa1 := HL3.out.a1
    have xb0 := HL3.out.b0
    have xb1 := HL3.out.b1
    have xla := HL3.out.a_.lt
    have xlb := HL3.out.b_.lt
    have HG : Hid (Calls Tryd.prog 9 #[.agg #[.slice a1 X1.length c1, .int .i64 r1]] w3 fun e w' => GreatOut X1 w3 w' e) := sgreat_any X1 a1 c1 r1 w3 (HS.out.2.bel HL3.out.bel)
    go_wp2_with fail
    refine Calls.mono HG.out ?_
    rintro e w4 ⟨g, rfl, hg, hb4⟩
    have HL4 : Hid (L2 w w4 a0 X0 c0 r0 a1 X1 c1 r1) := HL3.out.more hb4
    clear HG HL3 hb4
    clear xa0 xa1 xb0 xb1 xla xlb
    cases g with
    | true =>
      go_wp2_with fail
      refine (HA.out _ HL4.out.tab).mono ?_
      rintro e wz ⟨rfl, hbz⟩
      have HB : Hid (Below w.heap.size w wz) := (HL4.out.more hbz).bel
      clear HL4 hbz
      go_wp2_with fail
      go_ret
      exact ⟨rfl, HB.out⟩
    | false =>
      have HSb : Hid (Small X1) := (hg rfl).1
      clear hg
      have xa0 := HL4.out.a0
      have xa1 := HL4.out.a1
      have xb0 := HL4.out.b0
      have xb1 := HL4.out.b1
      have xla := HL4.out.a_.lt
      have xlb := HL4.out.b_.lt
      have HG : Hid (Calls Tryd.prog 12 #[.agg #[.slice a0 X0.length c0, .int .i64 r0]] w4 fun e w' => RightOut X0 r0 w4 w' e) := right_any X0 a0 c0 r0 w4 (HS.out.1.bel HL4.out.bel) HSa.out
      go_wp2_with fail
      refine Calls.mono HG.out ?_
      rintro e w5 ⟨g, rfl, hg, hb⟩
      have HL5 : Hid (L2 w w5 a0 X0 c0 r0 a1 X1 c1 r1) := HL4.out.more hb
      clear HG HL4 hb
      clear xa0 xa1 xb0 xb1 xla xlb
      cases g with
      | false =>
        go_wp2_with fail
        refine (HA.out _ HL5.out.tab).mono ?_
        rintro e wz ⟨rfl, hbz⟩
        have HB : Hid (Below w.heap.size w wz) := (HL5.out.more hbz).bel
        clear HL5 hbz
        go_wp2_with fail
        go_ret
        exact ⟨rfl, HB.out⟩
      | true =>
        have HRa : Hid (RightIs X0 r0) := hg.1 rfl
        clear hg
        have xa0 := HL5.out.a0
        have xa1 := HL5.out.a1
        have xb0 := HL5.out.b0
        have xb1 := HL5.out.b1
        have xla := HL5.out.a_.lt
        have xlb := HL5.out.b_.lt
        have HG : Hid (Calls Tryd.prog 12 #[.agg #[.slice a1 X1.length c1, .int .i64 r1]] w5 fun e w' => RightOut X1 r1 w5 w' e) := right_any X1 a1 c1 r1 w5 (HS.out.2.bel HL5.out.bel) HSb.out
        go_wp2_with fail
        refine Calls.mono HG.out ?_
        rintro e w6 ⟨g, rfl, hg, hb⟩
        have HL6 : Hid (L2 w w6 a0 X0 c0 r0 a1 X1 c1 r1) := HL5.out.more hb
        clear HG HL5 hb
        clear xa0 xa1 xb0 xb1 xla xlb
        cases g with
        | false =>
          go_wp2_with fail
          refine (HA.out _ HL6.out.tab).mono ?_
          rintro e wz ⟨rfl, hbz⟩
          have HB : Hid (Below w.heap.size w wz) := (HL6.out.more hbz).bel
          clear HL6 hbz
          go_wp2_with fail
          go_ret
          exact ⟨rfl, HB.out⟩
        | true =>
          have HRb : Hid (RightIs X1 r1) := hg.1 rfl
          clear hg HA
          have xa0 := HL6.out.a0
          have xa1 := HL6.out.a1
          have xb0 := HL6.out.b0
          have xb1 := HL6.out.b1
          have xla := HL6.out.a_.lt
          have xlb := HL6.out.b_.lt
          have HC : Hid _ := ushare_yes (c := c0) HSa.out HS.out.1.rgx HRa.out (HS.out.1.bel HL6.out.bel) HL6.out.tab
          go_wp2_with fail
          refine Calls.mono HC.out ?_
          rintro e w7 ⟨L, al, cl, rfl, hL, hsL, hb7⟩
          have HW7 : Hid (∀ o : Obj, o = .cells #[.slice al L.length cl, .int .i64 ((L.length : Int) - 1)] 24 → AtN 24 (w7.alloc o) w7.heap.size #[.slice al L.length cl, .int .i64 ((L.length : Int) - 1)] ∧ ScAt (w7.alloc o) al L ∧ L2 w (w7.alloc o) a0 X0 c0 r0 a1 X1 c1 r1) := by
            rintro _ rfl
            exact ⟨AtN.new w7 24 _, hsL.alloc _, (HL6.out.more hb7).more ((Below.refl w7.heap.size w7).alloc (Nat.le_refl _) _)⟩
          have HF : Hid (ShF X0 L r0 ∧ L.map Nx.nd = shL (cX X0 r0)) := ⟨sh_facts HRa.out HSa.out HS.out.1.rgx hL, hL⟩
          have HL7 : Hid (L2 w w7 a0 X0 c0 r0 a1 X1 c1 r1) := HL6.out.more hb7
          clear HC HL6 hL hsL hb7
          clear xa0 xa1 xb0 xb1 xla xlb
          have xa0 := HL7.out.a0
          have xa1 := HL7.out.a1
          have xb0 := HL7.out.b0
          have xb1 := HL7.out.b1
          have xla := HL7.out.a_.lt
          have xlb := HL7.out.b_.lt
          have HC : Hid (∀ o : Obj, o = .cells #[.slice al L.length cl, .int .i64 ((L.length : Int) - 1)] 24 → Calls Tryd.prog 16 #[.agg #[.slice a1 X1.length c1, .int .i64 r1]] (w7.alloc o) fun e w' => ∃ L a' c', e = .returned (.tuple #[.agg #[.slice a' (List.length L) c', .int .i64 ((List.length L : Int) - 1)], .int .i64 0]) ∧ L.map Nx.nd = shL (cX X1 r1) ∧ ScAt w' a' L ∧ Below (w7.alloc o).heap.size (w7.alloc o) w') := fun o ho => by
            obtain ⟨_, _, h3⟩ := HW7.out o ho
            exact ushare_yes (c := c1) HSb.out HS.out.2.rgx HRb.out (HS.out.2.bel h3.bel) h3.tab
          go_wp2_with fail
          refine Calls.mono (HC.out _ rfl) ?_
          rintro e w8 ⟨M, am, cm, rfl, hM, hsM, hb8⟩
          obtain ⟨q1, q2, q3⟩ := HW7.out _ rfl
          have HW8 : Hid (∀ o : Obj, o = .cells #[.slice am M.length cm, .int .i64 ((M.length : Int) - 1)] 24 → AtN 24 (w8.alloc o) w7.heap.size #[.slice al L.length cl, .int .i64 ((L.length : Int) - 1)] ∧ ScAt (w8.alloc o) al L ∧ AtN 24 (w8.alloc o) w8.heap.size #[.slice am M.length cm, .int .i64 ((M.length : Int) - 1)] ∧ ScAt (w8.alloc o) am M ∧ L2 w (w8.alloc o) a0 X0 c0 r0 a1 X1 c1 r1) := by
            rintro _ rfl
            exact ⟨(q1.belowAll hb8).alloc _, (q2.belowB hb8).alloc _, AtN.new w8 24 _, hsM.alloc _, (q3.more hb8).more ((Below.refl w8.heap.size w8).alloc (Nat.le_refl _) _)⟩
          have HFm : Hid (ShF X1 M r1 ∧ M.map Nx.nd = shL (cX X1 r1)) := ⟨sh_facts HRb.out HSb.out HS.out.2.rgx hM, hM⟩
          clear HC HW7 HL7 hM hsM hb8 q1 q2 q3
          clear xa0 xa1 xb0 xb1 xla xlb
          obtain ⟨q, hq⟩ := bool_of (SameT X0 X1 r0 r1)
          go_wp2_with fail
          obtain ⟨k1, k2, k3, k4, k5⟩ := HW8.out _ rfl
          have HK : Hid _ := And.intro k1 (And.intro k2 (And.intro k3 (And.intro k4 k5)))
          clear HW8 k1 k2 k3 k4 k5
          generalize w8.alloc (.cells #[.slice am M.length cm, .int .i64 ((M.length : Int) - 1)] 24) = w9 at *
          have HE : Hid (∀ W, Below w9.heap.size w9 W → Calls Tryd.prog 10 #[.agg #[.slice a0 X0.length c0, .int .i64 r0], .agg #[.slice a1 X1.length c1, .int .i64 r1]] W fun e w' => e = .returned (.bool q) ∧ Below W.heap.size W w') := fun W hW => by
            have h5 := HK.out.2.2.2.2.more hW
            exact uequal_is HSa.out HSb.out HS.out.1.rgx HS.out.2.rgx (by rw [hq]; exact ⟨fun h => ⟨HRa.out, HRb.out, h⟩, fun h => h.2.2⟩) (HS.out.1.bel h5.bel) (HS.out.2.bel h5.bel) h5.tab
          have HM : Hid (∀ W, Below w9.heap.size w9 W → Calls Tryd.prog 18 #[.agg #[.slice al L.length cl, .int .i64 ((L.length : Int) - 1)], .agg #[.slice am M.length cm, .int .i64 ((M.length : Int) - 1)]] W fun e w' => e = .returned (.bool q) ∧ Below W.heap.size W w') := fun W hW => by
            refine Calls.mono (ssame_any L M al am cl cm _ _ W (HK.out.2.1.belowB hW) (HK.out.2.2.2.1.belowB hW) HF.out.1.small) ?_
            rintro e w' ⟨q', rfl, hq', hb⟩
            have : q' = q := by
              rw [Bool.eq_iff_iff, hq', hq, sameT_sh HRa.out HRb.out, HF.out.2, HFm.out.2]
              constructor
              · exact fun h => h.2.symm
              · intro h
                refine ⟨?_, h.symm⟩
                have h1 := congrArg List.length HF.out.2
                have h2 := congrArg List.length HFm.out.2
                rw [List.length_map] at h1 h2
                rw [h1, h2, h]
            rw [this]
            exact ⟨rfl, hb⟩
          have xa0 := HK.out.2.2.2.2.a0
          have xa1 := HK.out.2.2.2.2.a1
          have xb0 := HK.out.2.2.2.2.b0
          have xb1 := HK.out.2.2.2.2.b1
          have y0 : w9.cell? ⟨w7.heap.size, 0, none⟩ = some (.slice al L.length cl) := HK.out.1.cell 0
          have y1 : w9.cell? ⟨w7.heap.size, 1, none⟩ = some (.int .i64 ((L.length : Int) - 1)) := HK.out.1.cell 1
          have z0 : w9.cell? ⟨w8.heap.size, 0, none⟩ = some (.slice am M.length cm) := HK.out.2.2.1.cell 0
          have z1 : w9.cell? ⟨w8.heap.size, 1, none⟩ = some (.int .i64 ((M.length : Int) - 1)) := HK.out.2.2.1.cell 1
          have la := HK.out.2.2.2.2.a_.lt
          have lb := HK.out.2.2.2.2.b_.lt
          have ly := HK.out.1.lt
          have lz := HK.out.2.2.1.lt
          have HB9 : Hid (Below w.heap.size w w9) := HK.out.2.2.2.2.bel
          clear HK HF HFm HRa HRb HSa HSb HS hq
          refine facts_region6 (fun W => Below w9.heap.size w9 W) (fun ix v W => match ix with | 0 => v = .agg #[.slice a0 X0.length c0, .int .i64 r0] | 1 => v = .agg #[.slice a1 X1.length c1, .int .i64 r1] | 2 => v = .bool q | 3 => v = .agg #[.slice al L.length cl, .int .i64 ((L.length : Int) - 1)] | 4 => v = .agg #[.slice am M.length cm, .int .i64 ((M.length : Int) - 1)] | 5 => v = .bool q | 6 => v = .bool true | 7 => v = .bool true | _ => True) (by kernel_rfl) (by kernel_rfl) (Below.refl _ _).drew ?step ?fin
          case step =>
            intro i' o' ho act W hG hoff hdep K hQ hK
            rcases i' with _|_|_|_|_|_|_|_|i'
            · obtain rfl := Option.some.inj ho
              have t2 : act.tmps[2]?.getD undef = .pointer (some ⟨w.heap.size, 0, none⟩) := hoff 2 (by kernel_rfl)
              have p0 := (hG.cell (p := ⟨w.heap.size, 0, none⟩) la).trans xa0
              have p1 := (hG.cell (p := ⟨w.heap.size, 1, none⟩) la).trans xa1
              clear hdep hoff hG
              go_simp
              exact hQ _ (rfl)
            · obtain rfl := Option.some.inj ho
              have t3 : act.tmps[3]?.getD undef = .pointer (some ⟨w.heap.size + 1, 0, none⟩) := hoff 3 (by kernel_rfl)
              have p0 := (hG.cell (p := ⟨w.heap.size + 1, 0, none⟩) lb).trans xb0
              have p1 := (hG.cell (p := ⟨w.heap.size + 1, 1, none⟩) lb).trans xb1
              clear hdep hoff hG
              go_simp
              exact hQ _ (rfl)
            · obtain rfl := Option.some.inj ho
              have e0 : act.tmps[40]?.getD undef = .agg #[.slice a0 X0.length c0, .int .i64 r0] := hdep 0 _ (by kernel_rfl) rfl
              have e1 : act.tmps[41]?.getD undef = .agg #[.slice a1 X1.length c1, .int .i64 r1] := hdep 1 _ (by kernel_rfl) rfl
              clear hdep hoff
              have HG : Hid (Below w9.heap.size w9 W) := hG
              have HC : Hid _ := HE.out W hG
              clear hG
              go_simp
              refine Calls.mono HC.out ?_
              rintro e w' ⟨rfl, hb⟩
              exact hK _ _ (HG.out.trans (hb.mono HG.out.size)) (fun j u hj h => by
                  rcases j with _|_|_|_|_|_|_|_|j
                  · exact h
                  · exact h
                  · exact absurd rfl hj
                  · exact h
                  · exact h
                  · exact h
                  · exact h
                  · exact h
                  · trivial) (rfl)
            · obtain rfl := Option.some.inj ho
              have t5 : act.tmps[5]?.getD undef = .pointer (some ⟨w7.heap.size, 0, none⟩) := hoff 5 (by kernel_rfl)
              have p0 := (hG.cell (p := ⟨w7.heap.size, 0, none⟩) ly).trans y0
              have p1 := (hG.cell (p := ⟨w7.heap.size, 1, none⟩) ly).trans y1
              clear hdep hoff hG
              go_simp
              exact hQ _ (rfl)
            · obtain rfl := Option.some.inj ho
              have t7 : act.tmps[7]?.getD undef = .pointer (some ⟨w8.heap.size, 0, none⟩) := hoff 7 (by kernel_rfl)
              have p0 := (hG.cell (p := ⟨w8.heap.size, 0, none⟩) lz).trans z0
              have p1 := (hG.cell (p := ⟨w8.heap.size, 1, none⟩) lz).trans z1
              clear hdep hoff hG
              go_simp
              exact hQ _ (rfl)
            · obtain rfl := Option.some.inj ho
              have e3 : act.tmps[43]?.getD undef = .agg #[.slice al L.length cl, .int .i64 ((L.length : Int) - 1)] := hdep 3 _ (by kernel_rfl) rfl
              have e4 : act.tmps[44]?.getD undef = .agg #[.slice am M.length cm, .int .i64 ((M.length : Int) - 1)] := hdep 4 _ (by kernel_rfl) rfl
              clear hdep hoff
              have HG : Hid (Below w9.heap.size w9 W) := hG
              have HC : Hid _ := HM.out W hG
              clear hG
              go_simp
              refine Calls.mono HC.out ?_
              rintro e w' ⟨rfl, hb⟩
              exact hK _ _ (HG.out.trans (hb.mono HG.out.size)) (fun j u hj h => by
                  rcases j with _|_|_|_|_|_|_|_|j
                  · exact h
                  · exact h
                  · exact h
                  · exact h
                  · exact h
                  · exact absurd rfl hj
                  · exact h
                  · exact h
                  · trivial) (rfl)
            · obtain rfl := Option.some.inj ho
              have e2 : act.tmps[42]?.getD undef = .bool q := hdep 2 _ (by kernel_rfl) rfl
              have e5 : act.tmps[45]?.getD undef = .bool q := hdep 5 _ (by kernel_rfl) rfl
              clear hdep hoff hG
              go_simp
              exact hQ _ (rfl)
            · obtain rfl := Option.some.inj ho
              have e6 : act.tmps[46]?.getD undef = .bool true := hdep 6 _ (by kernel_rfl) rfl
              clear hdep hoff hG
              go_simp
              exact hQ _ (rfl)
            · exact absurd ho (by simp)
          case fin =>
            intro V W hG hF
            have y7 : V (some 4) = .bool true := hF 7 _ rfl
            have HB : Hid (Below w.heap.size w W) := HB9.out.trans (hG.mono HB9.out.size)
            clear hF hG
            simp only [fillA, Act.put, List.setIfInBounds_toArray, List.set_cons_zero, List.set_cons_succ, y7]
            generalize V (some 40) = z40
            generalize V (some 41) = z41
            generalize V (some 42) = z42
            generalize V (some 43) = z43
            generalize V (some 44) = z44
            generalize V (some 45) = z45
            generalize V (some 46) = z46
            clear y7
            go_wp2_with fail
            go_ret
            exact ⟨rfl, HB.out⟩

set_option maxRecDepth 100000 in
theorem lifted (os : Os) (started : os.Started) (H : Type) (enc : TypeId × Value → H) :
    ReturnsInHanded {} Tryd.checked os 7 .any (fun w args => (Rows.unfoldFieldsSpec.pre enc Tryd.prog Tryd.f7 [] false w args ∧ laidMetH Tryd.prog laid3 w) ∧ sizedMet enc Tryd.prog Tryd.f7 (OpenSpec.ofChange Rows.unfoldFieldsSpec) false w args)
      (Rows.unfoldFieldsSpec.post enc Tryd.prog Tryd.f7 false true false false) := by
  refine returnsInHanded_of_change_and (C := Tryd.checked) (X := fun w _ => laidMetH Tryd.prog laid3 w) (fun _ _ _ hh h => h.of_heap hh) own started (by kernel_rfl) Tryd.func7
    (ChangeSpec.witness_shaped (enc := enc) (C := Tryd.checked) (os := os) (X := fun w _ => laidMetH Tryd.prog laid3 w) false (World.doorLaid Tryd.prog 400 os) #[.agg #[.slice none 0 0, .int .i64 0], .agg #[.slice none 0 0, .int .i64 0]] 8 rfl (World.shaped_of_RefB (by kernel_rfl) (by kernel_rfl)) (by kernel_rfl) (by kernel_rfl) (by kernel_rfl) (door_met os _)) ?_
  intro W base args ds gs before hval0 hW _ _ hL _
  have hval : ∀ (j : Nat) t v, Tryd.f7.params[j]? = some t → args[j]? = some v → Value.okWide Tryd.prog W .any base t v := hval0
  have hW' := hW
  obtain ⟨p, q, hA0, hV, rfl, hfz, hnd⟩ := hW
  have hA : DataW.TrodAll enc Tryd.prog W 0 (fun _ => true) true Tryd.f7.params.toList args.toList ds p := hA0
  rw [Tryd.params7] at hA hval
  obtain ⟨v0, vs0, d0, ds0, p0, q0, hargs, rfl, rfl, h0, r0⟩ := trodAll_cons hA
  obtain ⟨v1, vs1, d1, ds1, p1, q1, rfl, rfl, rfl, h1, r1⟩ := trodAll_cons r0
  obtain ⟨rfl, rfl, rfl⟩ := trodAll_nil r1
  obtain rfl : args = #[v0, v1] := by cases args; simp_all
  obtain ⟨rfl, rfl⟩ := trodVars_none hV
  have K0 := h0
  have lt0 : ∀ x ∈ p0, x.block < W.heap.size := by obtain ⟨m, hm⟩ := K0; exact DataW.trod_lt m _ _ _ hm
  obtain ⟨X0, a0, c0, rt0, rfl, w0⟩ := open_scene Tryd.underlying24 (by kernel_rfl) (by kernel_rfl) Tryd.underlying22 Tryd.underlying3 Tryd.underlying42 (by kernel_rfl) rfl rfl rfl rfl (by kernel_rfl) (by kernel_rfl) (by kernel_rfl) (by kernel_rfl) Tryd.underlying3 Tryd.underlying39 Tryd.underlying40 Tryd.underlying38 Tryd.underlying2 Tryd.underlying9 Tryd.underlying3 (by kernel_rfl) (by kernel_rfl) (by kernel_rfl) (hval 0 24 v0 rfl rfl) h0
  have K1 := h1
  have lt1 : ∀ x ∈ p1, x.block < W.heap.size := by obtain ⟨m, hm⟩ := K1; exact DataW.trod_lt m _ _ _ hm
  obtain ⟨X1, a1, c1, rt1, rfl, w1⟩ := open_scene Tryd.underlying24 (by kernel_rfl) (by kernel_rfl) Tryd.underlying22 Tryd.underlying3 Tryd.underlying42 (by kernel_rfl) rfl rfl rfl rfl (by kernel_rfl) (by kernel_rfl) (by kernel_rfl) (by kernel_rfl) Tryd.underlying3 Tryd.underlying39 Tryd.underlying40 Tryd.underlying38 Tryd.underlying2 Tryd.underlying9 Tryd.underlying3 (by kernel_rfl) (by kernel_rfl) (by kernel_rfl) (hval 1 24 v1 rfl rfl) h1
  clear hA0 hval0
  refine (walk X0 a0 c0 rt0 X1 a1 c1 rt1 W w0 w1 (tab_of11 hL)).mono fun e W' ⟨he, bel⟩ => ?_
  subst he
  exact ⟨_, rfl, _, _, _, [], _, [], hW', trodAll_mk1 (shut_bool Tryd.underlying4 _), (trodAll_cons_mk (Below.trod laidOut (by kernel_rfl) (of_decide_eq_true (by kernel_rfl)) K0 bel lt0) (trodAll_cons_mk (Below.trod laidOut (by kernel_rfl) (of_decide_eq_true (by kernel_rfl)) K1 bel lt1) trodAll_mk0)), rfl, bel.frame _, fun h => by cases h⟩

theorem row : Rows.unfoldFieldsRow.holds Tryd.pinned (OpenSpec.ofChange Rows.unfoldFieldsSpec) :=
  OpenClaim.holds_of_wide 7 Tryd.f7 rfl rfl rfl rfl rfl rfl rfl ⟨rfl, rfl, rfl, rfl, rfl⟩ rfl rfl rfl rfl rfl (by kernel_rfl) Tryd.func7 (by kernel_rfl)
    (of_decide_eq_true (by kernel_rfl)) (by unfold Func.isWrapper; first | (rw [if_pos (by decide +kernel)]; kernel_rfl) | (rw [if_neg (by decide +kernel)]; exact ⟨rfl, rfl⟩))
    (fun os started H enc _ => lifted os started H enc)

/-- No parameter wants a stand-in; the program's own looks are off: what the card asks. -/
theorem plain (f : FuncId) (fn : Func) (hf : Tryd.pinned.checked.prog.funcNamed Rows.unfoldFieldsRow.func = some f) (hfn : Tryd.pinned.checked.prog.funcs[f]? = some fn) :
    false = Tryd.pinned.checked.prog.looks [] ∧ ∀ (j : Nat) t, fn.params[j]? = some t → Tryd.pinned.checked.prog.wantsStandIn t = false := by
  obtain rfl : f = 7 := Option.some.inj ((show Tryd.prog.funcNamed Rows.unfoldFieldsRow.func = some 7 by kernel_rfl).symm.trans hf) |>.symm
  obtain rfl : fn = Tryd.f7 := (Option.some.inj (Tryd.func7.symm.trans hfn)).symm
  refine ⟨by kernel_rfl, fun j t ht => ?_⟩
  have hm := Array.mem_of_getElem? ht
  have hall : (Tryd.f7.params.toList.all fun u => !Tryd.prog.wantsStandIn u) = true := by kernel_rfl
  exact (show Tryd.prog.wantsStandIn t = false by simpa using List.all_eq_true.1 hall t (by simpa using hm))

/-- ████ THE CARD ████ -/
theorem over : Rows.UnfoldFieldsCardSaid :=
  Claim7.holds_tied_plain_at .later [] _ _ _ _ row (fun _ h => by cases h) (by kernel_rfl) (fun _ h => by cases h) unfoldFields_row_tie rfl ⟨rfl, rfl⟩ (by kernel_rfl) rfl plain (by kernel_rfl)

end Go.Proofs.YtcdpjaaiojpelaaDoor.unfoldFields

namespace Go.Proofs.YtcdpjaaiojpelaaDoor
theorem unfoldFields_holds : Rows.UnfoldFieldsCardSaid := unfoldFields.over
#print axioms unfoldFields_holds
end Go.Proofs.YtcdpjaaiojpelaaDoor
