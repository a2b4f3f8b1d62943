/- For every scene: the program's Share tells, if it is right, the scene that the document says, with the same tree, canonical, of no more nodes, and Shared again the same; if it isn't, none, for the reason that the document says (scenes greater than the law plays with are let go by the law itself); nothing that came in is changed. The library's table of powers of ten holds what its text lays into it when the call begins (the card ties that). -/
import Derived.Test.YtcdpjaaiojpelaaDoorRows
import Derived.Test.YtcdpjaaiojpelaaDoorCards
import Derived.Test.YtcdpjaaiojpelaaDoorTie
import Derived.WalkKit
import Derived.ProofKit
import Derived.OpenShut
import Derived.ShutString
import Derived.Below
import Derived.Test.YtcdpjaaiojpelaaDoorVRsh
import Derived.ChangeOld
import Derived.LaidMore
import Derived.SevenTiedAt
namespace Go.Proofs.YtcdpjaaiojpelaaDoor.unfoldShares
open Go.ChangeShapes Go.WideShapes Go.ChangeAt Go.RowKit
open Go.ChangeMaps (open_string shut_string)
set_option linter.unusedVariables false

theorem own : ownKnob Tryd.prog.godebug = none := by kernel_rfl
theorem laidOut : laidOutB Tryd.prog = true := by kernel_rfl

set_option maxRecDepth 10000 in
set_option maxHeartbeats 8000000 in
theorem walk (X0 : List Nx) (a0 : Option Addr) (c0 : Nat) (r0 : Int) (w : World) (w0 : IsSc w a0 X0 r0) (hT : Tab w) :
    Calls Tryd.prog 5 #[.agg #[.slice a0 X0.length c0, .int .i64 r0]] w fun e w' => e = .returned (.bool true) ∧ Below w.heap.size w w' := by
  have HA : Hid (∀ W, Tab W → Calls Tryd.prog 8 #[] W fun e w' => e = .returned (.bool true) ∧ Below W.heap.size W w') := awake_any
  have HS : Hid (IsSc w a0 X0 r0) := w0
  have HL : Hid (L1 w (w.alloc (.cells #[.slice a0 X0.length c0, .int .i64 r0] 24)) a0 X0 c0 r0) := L1.start w a0 X0 c0 r0 hT
  clear w0 hT
  go_enter Tryd.func5, Tryd.ntmps5
  go_wp2_with fail
  refine (HA.out _ HL.out.tab).mono ?_
  rintro e w2 ⟨rfl, hb2⟩
  have HL2 : Hid (L1 w w2 a0 X0 c0 r0) := HL.out.more hb2
  clear HL hb2
  have xa0 := HL2.out.c0
  have xa1 := HL2.out.c1
  have xla := HL2.out.at_.lt
  have HG : Hid (Calls Tryd.prog 9 #[.agg #[.slice a0 X0.length c0, .int .i64 r0]] w2 fun e w' => GreatOut X0 w2 w' e) := sgreat_any X0 a0 c0 r0 w2 (HS.out.bel HL2.out.bel)
  go_wp2_with fail
  refine Calls.mono HG.out ?_
  rintro e w3 ⟨g, rfl, hg, hb3⟩
  have HL3 : Hid (L1 w w3 a0 X0 c0 r0) := HL2.out.more hb3
  clear HG HL2 hb3
  clear xa0 xa1 xla
  cases g with
  | true =>
    go_wp2_with fail
    refine (HA.out _ HL3.out.tab).mono ?_
    rintro e wz ⟨rfl, hbz⟩
    have HB : Hid (Below w.heap.size w wz) := (HL3.out.more hbz).bel
    clear HL3 hbz
    go_wp2_with fail
    go_ret
    exact ⟨rfl, HB.out⟩
  | false =>
    have HSa : Hid (Small X0) := (hg rfl).1
    clear hg HA
    have xa0 := HL3.out.c0
    have xa1 := HL3.out.c1
    have xla := HL3.out.at_.lt
    have HCp : Hid (Calls Tryd.prog 11 #[.agg #[.slice a0 X0.length c0, .int .i64 r0]] w3 fun e w' => SCopyOut X0 r0 w3 w' e) := scopy_any X0 a0 c0 r0 w3 (HS.out.bel HL3.out.bel) HSa.out
    go_wp2_with fail
    refine Calls.mono HCp.out ?_
    rintro e w4 ⟨Y, a', c', rfl, hY, sY, hb4⟩
    have HL4 : Hid (L1 w w4 a0 X0 c0 r0) := HL3.out.more hb4
    clear HCp HL3 hb4
    clear xa0 xa1 xla
    by_cases hR : RightIs X0 r0
    · have HR : Hid (RightIs X0 r0) := hR
      have HSh : Hid (Calls Tryd.prog 16 #[.agg #[.slice a' Y.length c', .int .i64 r0]] w4 fun e w' => ∃ L al cl, e = .returned (.tuple #[.agg #[.slice al (List.length L) cl, .int .i64 ((List.length L : Int) - 1)], .int .i64 0]) ∧ L.map Nx.nd = shL (cX X0 r0) ∧ ScAt w' al L ∧ Below w4.heap.size w4 w') := by
        have := ushare_yes (c := c') (same_small hY HSa.out) (HS.out.rgx.same hY) ((same_right hY).2 hR) sY HL4.out.tab
        rw [same_cX hY hR] at this
        exact this
      clear hR hY sY
      go_wp2_with fail
      refine Calls.mono HSh.out ?_
      rintro e w5 ⟨L, al, cl, rfl, hL, sL, hb5⟩
      have HF : Hid (ShF X0 L r0 ∧ L.map Nx.nd = shL (cX X0 r0)) := ⟨sh_facts HR.out HSa.out HS.out.rgx hL, hL⟩
      have HL5 : Hid (L1 w w5 a0 X0 c0 r0) := HL4.out.more hb5
      have HW5 : Hid (∀ o : Obj, o = .cells #[.slice al L.length cl, .int .i64 ((L.length : Int) - 1)] 24 → AtN 24 (w5.alloc o) w5.heap.size #[.slice al L.length cl, .int .i64 ((L.length : Int) - 1)] ∧ ScAt (w5.alloc o) al L ∧ L1 w (w5.alloc o) a0 X0 c0 r0 ∧ Calls Tryd.prog 17 #[.agg #[.slice a0 X0.length c0, .int .i64 r0]] (w5.alloc o) fun e w' => e = .returned (.tuple #[.int .i64 0, .int .i64 0]) ∧ Below (w5.alloc o).heap.size (w5.alloc o) w') := by
        rintro _ rfl
        have hl := HL5.out.more ((Below.refl w5.heap.size w5).alloc (Nat.le_refl _) (.cells #[.slice al L.length cl, .int .i64 ((L.length : Int) - 1)] 24))
        refine ⟨AtN.new w5 24 _, sL.alloc _, hl, ?_⟩
        refine Calls.mono (rcheck_any X0 a0 c0 r0 _ (HS.out.bel hl.bel) HSa.out) ?_
        rintro e w' ⟨n, z, rfl, hc, hb⟩
        obtain ⟨rfl, rfl⟩ := hc.zero HR.out
        exact ⟨rfl, hb⟩
      clear HSh HL4 hb5 hL sL
      have xa0 := HL5.out.c0
      have xa1 := HL5.out.c1
      have xla := HL5.out.at_.lt
      go_wp2_with fail
      obtain ⟨k1, k2, k3, k4⟩ := HW5.out _ rfl
      refine Calls.mono k4 ?_
      rintro e w6 ⟨rfl, hb6⟩
      have HK : Hid (AtN 24 w6 w5.heap.size #[.slice al L.length cl, .int .i64 ((L.length : Int) - 1)] ∧ ScAt w6 al L ∧ L1 w w6 a0 X0 c0 r0) := ⟨k1.belowAll hb6, k2.belowB hb6, k3.more hb6⟩
      clear HW5 HL5 k1 k2 k3 k4 hb6 xa0 xa1 xla
      have HRS : Hid (∀ W, Below w6.heap.size w6 W → Calls Tryd.prog 19 #[.agg #[.slice a0 X0.length c0, .int .i64 r0]] W fun e w' => RShOut X0 r0 W w' e) := fun W hW => rshare_any X0 a0 c0 r0 W (HS.out.bel (HK.out.2.2.more hW).bel) HSa.out HS.out.rgx HR.out
      have HM : Hid (∀ (W : World) (Z : List Nx) (az : Option Addr) (cz : Nat), Below w6.heap.size w6 W → Z.map Nx.nd = shL (cX X0 r0) → ScAt W az Z → Calls Tryd.prog 18 #[.agg #[.slice al L.length cl, .int .i64 ((L.length : Int) - 1)], .agg #[.slice az Z.length cz, .int .i64 ((Z.length : Int) - 1)]] W fun e w' => e = .returned (.bool true) ∧ Below W.heap.size W w') := fun W Z az cz hW hZ hs => by
        have hl : Z.length = L.length := by
          have h1 := congrArg List.length hZ
          have h2 := congrArg List.length HF.out.2
          rw [List.length_map] at h1 h2
          rw [h1, h2]
        rw [show ((Z.length : Int) - 1) = ((L.length : Int) - 1) by rw [hl]]
        exact ssame_yes L Z al az cl cz _ W (HK.out.2.1.belowB hW) hs HF.out.1.small (by rw [hZ, HF.out.2])
      have HIs : Hid (∀ W, Below w6.heap.size w6 W → Calls Tryd.prog 20 #[.agg #[.slice al L.length cl, .int .i64 ((L.length : Int) - 1)]] W fun e w' => e = .returned (.bool true) ∧ Below W.heap.size W w') := fun W hW => by
        refine Calls.mono (is_any L al cl _ W (HK.out.2.1.belowB hW) HF.out.1.small) ?_
        rintro e w' ⟨q, rfl, hq, hb⟩
        rw [hq.2 HF.out.1.can]
        exact ⟨rfl, hb⟩
      have HE : Hid (∀ W, Below w6.heap.size w6 W → Calls Tryd.prog 10 #[.agg #[.slice a0 X0.length c0, .int .i64 r0], .agg #[.slice al L.length cl, .int .i64 ((L.length : Int) - 1)]] W fun e w' => e = .returned (.bool true) ∧ Below W.heap.size W w') := fun W hW => by
        have h5 := HK.out.2.2.more hW
        exact uequal_is HSa.out HF.out.1.small HS.out.rgx HF.out.1.rg ⟨fun _ => ⟨HR.out, HF.out.1.can.1, HF.out.1.tree⟩, fun _ => rfl⟩ (HS.out.bel h5.bel) (HK.out.2.1.belowB hW) h5.tab
      have hfew : ¬ X0.length < L.length := by have := HF.out.1.few; omega
      have xa0 := HK.out.2.2.c0
      have xa1 := HK.out.2.2.c1
      have xla := HK.out.2.2.at_.lt
      have y0 : w6.cell? ⟨w5.heap.size, 0, none⟩ = some (.slice al L.length cl) := HK.out.1.cell 0
      have y1 : w6.cell? ⟨w5.heap.size, 1, none⟩ = some (.int .i64 ((L.length : Int) - 1)) := HK.out.1.cell 1
      have ly := HK.out.1.lt
      clear HS HSa HR
      go_wp2_with fail
      refine facts_region6 (fun W => Below w6.heap.size w6 W) (fun ix v W => match ix with | 0 => v = .int .i64 0 | 1 => v = .bool false | 2 => v = .bool false | 3 => v = .agg #[.slice al L.length cl, .int .i64 ((L.length : Int) - 1)] | 4 => v = .agg #[.slice a0 X0.length c0, .int .i64 r0] | 5 => ∃ (Z : List Nx) (az : Option Addr) (cz : Nat), v = .agg #[.slice az Z.length cz, .int .i64 ((Z.length : Int) - 1)] ∧ Z.map Nx.nd = shL (cX X0 r0) ∧ ScAt W az Z | 6 => v = .bool true | 7 => v = .bool false | 8 => v = .bool false | 9 => v = .bool false | 10 => v = .agg #[.slice al L.length cl, .int .i64 ((L.length : Int) - 1)] | 11 => v = .bool true | 12 => v = .bool false | 13 => v = .bool false | 14 => v = .bool false | 15 => v = .agg #[.slice a0 X0.length c0, .int .i64 r0] | 16 => v = .agg #[.slice al L.length cl, .int .i64 ((L.length : Int) - 1)] | 17 => v = .bool true | 18 => v = .bool false | 19 => v = .bool false | 20 => v = .bool false | 21 => v = .pointer (some ⟨w5.heap.size, 0, none⟩) | 22 => v = .slice al L.length cl | 23 => v = .int .i64 (L.length : Int) | 24 => v = .pointer (some ⟨w.heap.size, 0, none⟩) | 25 => v = .slice a0 X0.length c0 | 26 => v = .int .i64 (X0.length : Int) | 27 => v = .bool false | 28 => v = .bool false | _ => True) (by kernel_rfl) (by kernel_rfl) (Below.refl _ _).drew ?step ?fin
      case step =>
        intro i' o' ho act W hG hoff hdep K hQ hK
        rcases i' with _|_|_|_|_|_|_|_|_|_|_|_|_|_|_|_|_|_|_|_|_|_|_|_|_|_|_|_|_|i'
        · obtain rfl := Option.some.inj ho
          have t4 : act.tmps[4]?.getD undef = .int .i64 0 := hoff 4 (by kernel_rfl)
          clear hdep hoff hG
          go_simp
          exact hQ _ (rfl)
        · obtain rfl := Option.some.inj ho
          have e0 : act.tmps[38]?.getD undef = .int .i64 0 := hdep 0 _ (by kernel_rfl) rfl
          clear hdep hoff hG
          go_simp
          exact hQ _ (rfl)
        · obtain rfl := Option.some.inj ho
          have e1 : act.tmps[39]?.getD undef = .bool false := hdep 1 _ (by kernel_rfl) rfl
          clear hdep hoff hG
          go_simp
          exact hQ _ (rfl)
        · obtain rfl := Option.some.inj ho
          have hgd : act.tmps[40]?.getD undef = .bool false := hdep 2 _ (by kernel_rfl) rfl
          have hgd' := getD_bool hgd
          have t3 : act.tmps[3]?.getD undef = .pointer (some ⟨w5.heap.size, 0, none⟩) := hoff 3 (by kernel_rfl)
          have p0 := (hG.cell (p := ⟨w5.heap.size, 0, none⟩) ly).trans y0
          have p1 := (hG.cell (p := ⟨w5.heap.size, 1, none⟩) ly).trans y1
          clear hdep hoff hG
          go_simp
          exact hQ _ (rfl)
        · obtain rfl := Option.some.inj ho
          have hgd : act.tmps[40]?.getD undef = .bool false := hdep 2 _ (by kernel_rfl) rfl
          have hgd' := getD_bool hgd
          have t1 : act.tmps[1]?.getD undef = .pointer (some ⟨w.heap.size, 0, none⟩) := hoff 1 (by kernel_rfl)
          have p0 := (hG.cell (p := ⟨w.heap.size, 0, none⟩) xla).trans xa0
          have p1 := (hG.cell (p := ⟨w.heap.size, 1, none⟩) xla).trans xa1
          clear hdep hoff hG
          go_simp
          exact hQ _ (rfl)
        · obtain rfl := Option.some.inj ho
          have hgd : act.tmps[40]?.getD undef = .bool false := hdep 2 _ (by kernel_rfl) rfl
          have hgd' := getD_bool hgd
          have e4 : act.tmps[42]?.getD undef = .agg #[.slice a0 X0.length c0, .int .i64 r0] := hdep 4 _ (by kernel_rfl) rfl
          clear hdep hoff
          have HG : Hid (Below w6.heap.size w6 W) := hG
          have HC : Hid _ := HRS.out W hG
          clear hG
          go_simp
          refine Calls.mono HC.out ?_
          rintro e w' ⟨Z, az, cz, rfl, hZ, hs, hb⟩
          exact hK _ _ (HG.out.trans (hb.mono HG.out.size)) (fun j u hj h => by
              rcases j with _|_|_|_|_|_|_|_|_|_|_|_|_|_|_|_|_|_|_|_|_|_|_|_|_|_|_|_|_|j
              · exact h
              · exact h
              · exact h
              · exact h
              · exact h
              · exact absurd rfl hj
              · exact h
              · exact h
              · exact h
              · exact h
              · exact h
              · exact h
              · exact h
              · exact h
              · exact h
              · exact h
              · exact h
              · exact h
              · exact h
              · exact h
              · exact h
              · exact h
              · exact h
              · exact h
              · exact h
              · exact h
              · exact h
              · exact h
              · exact h
              · trivial) (⟨Z, az, cz, rfl, hZ, hs⟩)
        · obtain rfl := Option.some.inj ho
          have hgd : act.tmps[40]?.getD undef = .bool false := hdep 2 _ (by kernel_rfl) rfl
          have hgd' := getD_bool hgd
          have e3 : act.tmps[41]?.getD undef = .agg #[.slice al L.length cl, .int .i64 ((L.length : Int) - 1)] := hdep 3 _ (by kernel_rfl) rfl
          have e5 : ∃ (Z : List Nx) (az : Option Addr) (cz : Nat), act.tmps[43]?.getD undef = .agg #[.slice az Z.length cz, .int .i64 ((Z.length : Int) - 1)] ∧ Z.map Nx.nd = shL (cX X0 r0) ∧ ScAt W az Z := hdep 5 _ (by kernel_rfl) rfl
          clear hdep hoff
          obtain ⟨Z, az, cz, e5', hZ, hs⟩ := e5
          have HG : Hid (Below w6.heap.size w6 W) := hG
          have HC : Hid _ := HM.out W Z az cz hG hZ hs
          clear hG
          go_simp
          refine Calls.mono HC.out ?_
          rintro e w' ⟨rfl, hb⟩
          exact hK _ _ (HG.out.trans (hb.mono HG.out.size)) (fun j u hj h => by
              rcases j with _|_|_|_|_|_|_|_|_|_|_|_|_|_|_|_|_|_|_|_|_|_|_|_|_|_|_|_|_|j
              · exact h
              · exact h
              · exact h
              · exact h
              · exact h
              · obtain ⟨Z, az, cz, h1, h2, h3⟩ := h; exact ⟨Z, az, cz, h1, h2, h3.belowB hb⟩
              · exact absurd rfl hj
              · exact h
              · exact h
              · exact h
              · exact h
              · exact h
              · exact h
              · exact h
              · exact h
              · exact h
              · exact h
              · exact h
              · exact h
              · exact h
              · exact h
              · exact h
              · exact h
              · exact h
              · exact h
              · exact h
              · exact h
              · exact h
              · exact h
              · trivial) (rfl)
        · obtain rfl := Option.some.inj ho
          have hgd : act.tmps[40]?.getD undef = .bool false := hdep 2 _ (by kernel_rfl) rfl
          have hgd' := getD_bool hgd
          have e6 : act.tmps[44]?.getD undef = .bool true := hdep 6 _ (by kernel_rfl) rfl
          clear hdep hoff hG
          go_simp
          exact hQ _ (rfl)
        · obtain rfl := Option.some.inj ho
          have e2 : act.tmps[40]?.getD undef = .bool false := hdep 2 _ (by kernel_rfl) rfl
          have e7 : act.tmps[45]?.getD undef = .bool false := hdep 7 _ (by kernel_rfl) rfl
          clear hdep hoff hG
          go_simp
          exact hQ _ (rfl)
        · obtain rfl := Option.some.inj ho
          have e8 : act.tmps[46]?.getD undef = .bool false := hdep 8 _ (by kernel_rfl) rfl
          clear hdep hoff hG
          go_simp
          exact hQ _ (rfl)
        · obtain rfl := Option.some.inj ho
          have hgd : act.tmps[47]?.getD undef = .bool false := hdep 9 _ (by kernel_rfl) rfl
          have hgd' := getD_bool hgd
          have t3 : act.tmps[3]?.getD undef = .pointer (some ⟨w5.heap.size, 0, none⟩) := hoff 3 (by kernel_rfl)
          have p0 := (hG.cell (p := ⟨w5.heap.size, 0, none⟩) ly).trans y0
          have p1 := (hG.cell (p := ⟨w5.heap.size, 1, none⟩) ly).trans y1
          clear hdep hoff hG
          go_simp
          exact hQ _ (rfl)
        · obtain rfl := Option.some.inj ho
          have hgd : act.tmps[47]?.getD undef = .bool false := hdep 9 _ (by kernel_rfl) rfl
          have hgd' := getD_bool hgd
          have e10 : act.tmps[48]?.getD undef = .agg #[.slice al L.length cl, .int .i64 ((L.length : Int) - 1)] := hdep 10 _ (by kernel_rfl) rfl
          clear hdep hoff
          have HG : Hid (Below w6.heap.size w6 W) := hG
          have HC : Hid _ := HIs.out W hG
          clear hG
          go_simp
          refine Calls.mono HC.out ?_
          rintro e w' ⟨rfl, hb⟩
          exact hK _ _ (HG.out.trans (hb.mono HG.out.size)) (fun j u hj h => by
              rcases j with _|_|_|_|_|_|_|_|_|_|_|_|_|_|_|_|_|_|_|_|_|_|_|_|_|_|_|_|_|j
              · exact h
              · exact h
              · exact h
              · exact h
              · exact h
              · obtain ⟨Z, az, cz, h1, h2, h3⟩ := h; exact ⟨Z, az, cz, h1, h2, h3.belowB hb⟩
              · exact h
              · exact h
              · exact h
              · exact h
              · exact h
              · exact absurd rfl hj
              · exact h
              · exact h
              · exact h
              · exact h
              · exact h
              · exact h
              · exact h
              · exact h
              · exact h
              · exact h
              · exact h
              · exact h
              · exact h
              · exact h
              · exact h
              · exact h
              · exact h
              · trivial) (rfl)
        · obtain rfl := Option.some.inj ho
          have hgd : act.tmps[47]?.getD undef = .bool false := hdep 9 _ (by kernel_rfl) rfl
          have hgd' := getD_bool hgd
          have e11 : act.tmps[49]?.getD undef = .bool true := hdep 11 _ (by kernel_rfl) rfl
          clear hdep hoff hG
          go_simp
          exact hQ _ (rfl)
        · obtain rfl := Option.some.inj ho
          have e9 : act.tmps[47]?.getD undef = .bool false := hdep 9 _ (by kernel_rfl) rfl
          have e12 : act.tmps[50]?.getD undef = .bool false := hdep 12 _ (by kernel_rfl) rfl
          clear hdep hoff hG
          go_simp
          exact hQ _ (rfl)
        · obtain rfl := Option.some.inj ho
          have e13 : act.tmps[51]?.getD undef = .bool false := hdep 13 _ (by kernel_rfl) rfl
          clear hdep hoff hG
          go_simp
          exact hQ _ (rfl)
        · obtain rfl := Option.some.inj ho
          have hgd : act.tmps[52]?.getD undef = .bool false := hdep 14 _ (by kernel_rfl) rfl
          have hgd' := getD_bool hgd
          have t1 : act.tmps[1]?.getD undef = .pointer (some ⟨w.heap.size, 0, none⟩) := hoff 1 (by kernel_rfl)
          have p0 := (hG.cell (p := ⟨w.heap.size, 0, none⟩) xla).trans xa0
          have p1 := (hG.cell (p := ⟨w.heap.size, 1, none⟩) xla).trans xa1
          clear hdep hoff hG
          go_simp
          exact hQ _ (rfl)
        · obtain rfl := Option.some.inj ho
          have hgd : act.tmps[52]?.getD undef = .bool false := hdep 14 _ (by kernel_rfl) rfl
          have hgd' := getD_bool hgd
          have t3 : act.tmps[3]?.getD undef = .pointer (some ⟨w5.heap.size, 0, none⟩) := hoff 3 (by kernel_rfl)
          have p0 := (hG.cell (p := ⟨w5.heap.size, 0, none⟩) ly).trans y0
          have p1 := (hG.cell (p := ⟨w5.heap.size, 1, none⟩) ly).trans y1
          clear hdep hoff hG
          go_simp
          exact hQ _ (rfl)
        · obtain rfl := Option.some.inj ho
          have hgd : act.tmps[52]?.getD undef = .bool false := hdep 14 _ (by kernel_rfl) rfl
          have hgd' := getD_bool hgd
          have e15 : act.tmps[53]?.getD undef = .agg #[.slice a0 X0.length c0, .int .i64 r0] := hdep 15 _ (by kernel_rfl) rfl
          have e16 : act.tmps[54]?.getD undef = .agg #[.slice al L.length cl, .int .i64 ((L.length : Int) - 1)] := hdep 16 _ (by kernel_rfl) rfl
          clear hdep hoff
          have HG : Hid (Below w6.heap.size w6 W) := hG
          have HC : Hid _ := HE.out W hG
          clear hG
          go_simp
          refine Calls.mono HC.out ?_
          rintro e w' ⟨rfl, hb⟩
          exact hK _ _ (HG.out.trans (hb.mono HG.out.size)) (fun j u hj h => by
              rcases j with _|_|_|_|_|_|_|_|_|_|_|_|_|_|_|_|_|_|_|_|_|_|_|_|_|_|_|_|_|j
              · exact h
              · exact h
              · exact h
              · exact h
              · exact h
              · obtain ⟨Z, az, cz, h1, h2, h3⟩ := h; exact ⟨Z, az, cz, h1, h2, h3.belowB hb⟩
              · exact h
              · exact h
              · exact h
              · exact h
              · exact h
              · exact h
              · exact h
              · exact h
              · exact h
              · exact h
              · exact h
              · exact absurd rfl hj
              · exact h
              · exact h
              · exact h
              · exact h
              · exact h
              · exact h
              · exact h
              · exact h
              · exact h
              · exact h
              · exact h
              · trivial) (rfl)
        · obtain rfl := Option.some.inj ho
          have hgd : act.tmps[52]?.getD undef = .bool false := hdep 14 _ (by kernel_rfl) rfl
          have hgd' := getD_bool hgd
          have e17 : act.tmps[55]?.getD undef = .bool true := hdep 17 _ (by kernel_rfl) rfl
          clear hdep hoff hG
          go_simp
          exact hQ _ (rfl)
        · obtain rfl := Option.some.inj ho
          have e14 : act.tmps[52]?.getD undef = .bool false := hdep 14 _ (by kernel_rfl) rfl
          have e18 : act.tmps[56]?.getD undef = .bool false := hdep 18 _ (by kernel_rfl) rfl
          clear hdep hoff hG
          go_simp
          exact hQ _ (rfl)
        · obtain rfl := Option.some.inj ho
          have e19 : act.tmps[57]?.getD undef = .bool false := hdep 19 _ (by kernel_rfl) rfl
          clear hdep hoff hG
          go_simp
          exact hQ _ (rfl)
        · obtain rfl := Option.some.inj ho
          have hgd : act.tmps[58]?.getD undef = .bool false := hdep 20 _ (by kernel_rfl) rfl
          have hgd' := getD_bool hgd
          have t3 : act.tmps[3]?.getD undef = .pointer (some ⟨w5.heap.size, 0, none⟩) := hoff 3 (by kernel_rfl)
          clear hdep hoff hG
          go_simp
          exact hQ _ (rfl)
        · obtain rfl := Option.some.inj ho
          have hgd : act.tmps[58]?.getD undef = .bool false := hdep 20 _ (by kernel_rfl) rfl
          have hgd' := getD_bool hgd
          have e21 : act.tmps[59]?.getD undef = .pointer (some ⟨w5.heap.size, 0, none⟩) := hdep 21 _ (by kernel_rfl) rfl
          have p0 := (hG.cell (p := ⟨w5.heap.size, 0, none⟩) ly).trans y0
          have p1 := (hG.cell (p := ⟨w5.heap.size, 1, none⟩) ly).trans y1
          clear hdep hoff hG
          go_simp
          exact hQ _ (rfl)
        · obtain rfl := Option.some.inj ho
          have hgd : act.tmps[58]?.getD undef = .bool false := hdep 20 _ (by kernel_rfl) rfl
          have hgd' := getD_bool hgd
          have e22 : act.tmps[60]?.getD undef = .slice al L.length cl := hdep 22 _ (by kernel_rfl) rfl
          clear hdep hoff hG
          go_simp
          exact hQ _ (rfl)
        · obtain rfl := Option.some.inj ho
          have hgd : act.tmps[58]?.getD undef = .bool false := hdep 20 _ (by kernel_rfl) rfl
          have hgd' := getD_bool hgd
          have t1 : act.tmps[1]?.getD undef = .pointer (some ⟨w.heap.size, 0, none⟩) := hoff 1 (by kernel_rfl)
          clear hdep hoff hG
          go_simp
          exact hQ _ (rfl)
        · obtain rfl := Option.some.inj ho
          have hgd : act.tmps[58]?.getD undef = .bool false := hdep 20 _ (by kernel_rfl) rfl
          have hgd' := getD_bool hgd
          have e24 : act.tmps[62]?.getD undef = .pointer (some ⟨w.heap.size, 0, none⟩) := hdep 24 _ (by kernel_rfl) rfl
          have p0 := (hG.cell (p := ⟨w.heap.size, 0, none⟩) xla).trans xa0
          have p1 := (hG.cell (p := ⟨w.heap.size, 1, none⟩) xla).trans xa1
          clear hdep hoff hG
          go_simp
          exact hQ _ (rfl)
        · obtain rfl := Option.some.inj ho
          have hgd : act.tmps[58]?.getD undef = .bool false := hdep 20 _ (by kernel_rfl) rfl
          have hgd' := getD_bool hgd
          have e25 : act.tmps[63]?.getD undef = .slice a0 X0.length c0 := hdep 25 _ (by kernel_rfl) rfl
          clear hdep hoff hG
          go_simp
          exact hQ _ (rfl)
        · obtain rfl := Option.some.inj ho
          have hgd : act.tmps[58]?.getD undef = .bool false := hdep 20 _ (by kernel_rfl) rfl
          have hgd' := getD_bool hgd
          have e23 : act.tmps[61]?.getD undef = .int .i64 (L.length : Int) := hdep 23 _ (by kernel_rfl) rfl
          have e26 : act.tmps[64]?.getD undef = .int .i64 (X0.length : Int) := hdep 26 _ (by kernel_rfl) rfl
          clear hdep hoff hG
          go_simp
          exact hQ _ (rfl)
        · obtain rfl := Option.some.inj ho
          have e20 : act.tmps[58]?.getD undef = .bool false := hdep 20 _ (by kernel_rfl) rfl
          have e27 : act.tmps[65]?.getD undef = .bool false := hdep 27 _ (by kernel_rfl) rfl
          clear hdep hoff hG
          go_simp
          exact hQ _ (rfl)
        · exact absurd ho (by simp)
      case fin =>
        intro V W hG hF
        have y28 : V (some 66) = .bool false := hF 28 _ rfl
        have HK2 : Hid (AtN 24 W w5.heap.size #[.slice al L.length cl, .int .i64 ((L.length : Int) - 1)] ∧ ScAt W al L ∧ L1 w W a0 X0 c0 r0) := ⟨HK.out.1.belowAll hG, HK.out.2.1.belowB hG, HK.out.2.2.more hG⟩
        clear hF hG HK HRS HM HIs HE xa0 xa1 xla y0 y1 ly hfew
        simp only [fillA, Act.put, List.setIfInBounds_toArray, List.set_cons_zero, List.set_cons_succ, y28]
        generalize V (some 38) = z38
        generalize V (some 39) = z39
        generalize V (some 40) = z40
        generalize V (some 41) = z41
        generalize V (some 42) = z42
        generalize V (some 43) = z43
        generalize V (some 44) = z44
        generalize V (some 45) = z45
        generalize V (some 46) = z46
        generalize V (some 47) = z47
        generalize V (some 48) = z48
        generalize V (some 49) = z49
        generalize V (some 50) = z50
        generalize V (some 51) = z51
        generalize V (some 52) = z52
        generalize V (some 53) = z53
        generalize V (some 54) = z54
        generalize V (some 55) = z55
        generalize V (some 56) = z56
        generalize V (some 57) = z57
        generalize V (some 58) = z58
        generalize V (some 59) = z59
        generalize V (some 60) = z60
        generalize V (some 61) = z61
        generalize V (some 62) = z62
        generalize V (some 63) = z63
        generalize V (some 64) = z64
        generalize V (some 65) = z65
        clear y28
        have y0 : W.cell? ⟨w5.heap.size, 0, none⟩ = some (.slice al L.length cl) := HK2.out.1.cell 0
        have y1 : W.cell? ⟨w5.heap.size, 1, none⟩ = some (.int .i64 ((L.length : Int) - 1)) := HK2.out.1.cell 1
        have HC2 : Hid _ := ushare_yes (c := cl) HF.out.1.small HF.out.1.rg HF.out.1.can.1 HK2.out.2.1 HK2.out.2.2.tab
        rw [HF.out.1.sh] at HC2
        go_wp2_with fail
        refine Calls.mono HC2.out ?_
        rintro e w7 ⟨M, am, cm, rfl, hM, sM, hb7⟩
        have hMl : M.length = L.length := by simpa using congrArg List.length hM
        rw [show ((M.length : Int) - 1) = ((L.length : Int) - 1) by rw [hMl]]
        have HW7 : Hid (∀ o : Obj, o = .cells #[.slice am M.length cm, .int .i64 ((L.length : Int) - 1)] 24 → AtN 24 (w7.alloc o) w5.heap.size #[.slice al L.length cl, .int .i64 ((L.length : Int) - 1)] ∧ Below w.heap.size w (w7.alloc o) ∧ Calls Tryd.prog 18 #[.agg #[.slice al L.length cl, .int .i64 ((L.length : Int) - 1)], .agg #[.slice am M.length cm, .int .i64 ((L.length : Int) - 1)]] (w7.alloc o) fun e w' => e = .returned (.bool true) ∧ Below (w7.alloc o).heap.size (w7.alloc o) w') := by
          rintro _ rfl
          have hbw := HK2.out.2.2.bel.trans (hb7.mono HK2.out.2.2.bel.size)
          exact ⟨(HK2.out.1.belowAll hb7).alloc _, hbw.alloc hbw.size _, ssame_yes L M al am cl cm _ _ ((HK2.out.2.1.belowB hb7).alloc _) (sM.alloc _) HF.out.1.small hM⟩
        have q0 : w7.cell? ⟨w5.heap.size, 0, none⟩ = some (.slice al L.length cl) := (HK2.out.1.belowAll hb7).cell 0
        have q1 : w7.cell? ⟨w5.heap.size, 1, none⟩ = some (.int .i64 ((L.length : Int) - 1)) := (HK2.out.1.belowAll hb7).cell 1
        have ql := (HK2.out.1.belowAll hb7).lt
        clear HC2 HK2 hM sM hb7 HF hMl y0 y1
        go_wp2_with fail
        obtain ⟨g1, g2, g3⟩ := HW7.out _ rfl
        refine Calls.mono g3 ?_
        rintro e w8 ⟨rfl, hb8⟩
        have HB : Hid (Below w.heap.size w w8) := g2.trans (hb8.mono g2.size)
        clear HW7 g1 g2 g3 hb8 q0 q1 ql
        go_wp2_with fail
        go_ret
        exact ⟨rfl, HB.out⟩
    · have HSh : Hid (Calls Tryd.prog 16 #[.agg #[.slice a' Y.length c', .int .i64 r0]] w4 fun e w' => ∃ n z, e = .returned (.tuple #[.agg #[.slice none 0 0, .int .i64 0], .int .i64 n]) ∧ CheckIs X0 r0 n z ∧ n ≠ 0 ∧ Below w4.heap.size w4 w') := by
        refine Calls.mono (ushare_any Y a' c' r0 w4 sY (same_small hY HSa.out) (HS.out.rgx.same hY) HL4.out.tab) ?_
        rintro e w' ⟨-, h2, hb⟩
        obtain ⟨n, z, q1, q2, q3⟩ := h2 (fun q => hR ((same_right hY).1 q))
        exact ⟨n, z, q1, same_check hY q2, q3, hb⟩
      clear hR hY sY
      go_wp2_with fail
      refine Calls.mono HSh.out ?_
      rintro e w5 ⟨n, z, rfl, hck, hn0, hb5⟩
      have HL5 : Hid (L1 w w5 a0 X0 c0 r0) := HL4.out.more hb5
      have HW5 : Hid (∀ o : Obj, o = .cells #[.slice none 0 0, .int .i64 0] 24 → AtN 24 (w5.alloc o) w5.heap.size #[.slice none 0 0, .int .i64 0] ∧ L1 w (w5.alloc o) a0 X0 c0 r0 ∧ Calls Tryd.prog 17 #[.agg #[.slice a0 X0.length c0, .int .i64 r0]] (w5.alloc o) fun e w' => e = .returned (.tuple #[.int .i64 n, .int .i64 z]) ∧ Below (w5.alloc o).heap.size (w5.alloc o) w') := by
        rintro _ rfl
        have hl := HL5.out.more ((Below.refl w5.heap.size w5).alloc (Nat.le_refl _) (.cells #[.slice none 0 0, .int .i64 0] 24))
        refine ⟨AtN.new w5 24 _, hl, ?_⟩
        refine Calls.mono (rcheck_any X0 a0 c0 r0 _ (HS.out.bel hl.bel) HSa.out) ?_
        rintro e w' ⟨n', z', rfl, hc, hb⟩
        obtain ⟨rfl, rfl⟩ := hck.uniq hc
        exact ⟨rfl, hb⟩
      clear HSh HL4 hb5 hck
      have xa0 := HL5.out.c0
      have xa1 := HL5.out.c1
      have xla := HL5.out.at_.lt
      go_wp2_with fail
      obtain ⟨k1, k2, k3⟩ := HW5.out _ rfl
      refine Calls.mono k3 ?_
      rintro e w6 ⟨rfl, hb6⟩
      have y0 : w6.cell? ⟨w5.heap.size, 0, none⟩ = some (.slice none 0 0) := (k1.belowAll hb6).cell 0
      have HB : Hid (Below w.heap.size w w6) := (k2.more hb6).bel
      clear HW5 HL5 k1 k2 k3 hb6 xa0 xa1 xla
      go_wp2_with fail
      go_ret
      exact ⟨rfl, HB.out⟩

set_option maxRecDepth 100000 in
theorem lifted (os : Os) (started : os.Started) (H : Type) (enc : TypeId × Value → H) :
    ReturnsInHanded {} Tryd.checked os 5 .any (fun w args => (Rows.unfoldSharesSpec.pre enc Tryd.prog Tryd.f5 [] false w args ∧ laidMetH Tryd.prog laid3 w) ∧ sizedMet enc Tryd.prog Tryd.f5 (OpenSpec.ofChange Rows.unfoldSharesSpec) false w args)
      (Rows.unfoldSharesSpec.post enc Tryd.prog Tryd.f5 false true false false) := by
  refine returnsInHanded_of_change_and (C := Tryd.checked) (X := fun w _ => laidMetH Tryd.prog laid3 w) (fun _ _ _ hh h => h.of_heap hh) own started (by kernel_rfl) Tryd.func5
    (ChangeSpec.witness_shaped (enc := enc) (C := Tryd.checked) (os := os) (X := fun w _ => laidMetH Tryd.prog laid3 w) false (World.doorLaid Tryd.prog 400 os) #[.agg #[.slice none 0 0, .int .i64 0]] 8 rfl (World.shaped_of_RefB (by kernel_rfl) (by kernel_rfl)) (by kernel_rfl) (by kernel_rfl) (by kernel_rfl) (door_met os _)) ?_
  intro W base args ds gs before hval0 hW _ _ hL _
  have hval : ∀ (j : Nat) t v, Tryd.f5.params[j]? = some t → args[j]? = some v → Value.okWide Tryd.prog W .any base t v := hval0
  have hW' := hW
  obtain ⟨p, q, hA0, hV, rfl, hfz, hnd⟩ := hW
  have hA : DataW.TrodAll enc Tryd.prog W 0 (fun _ => true) true Tryd.f5.params.toList args.toList ds p := hA0
  rw [Tryd.params5] at hA hval
  obtain ⟨v0, vs0, d0, ds0, p0, q0, hargs, rfl, rfl, h0, r0⟩ := trodAll_cons hA
  obtain ⟨rfl, rfl, rfl⟩ := trodAll_nil r0
  obtain rfl : args = #[v0] := by cases args; simp_all
  obtain ⟨rfl, rfl⟩ := trodVars_none hV
  have K0 := h0
  have lt0 : ∀ x ∈ p0, x.block < W.heap.size := by obtain ⟨m, hm⟩ := K0; exact DataW.trod_lt m _ _ _ hm
  obtain ⟨X0, a0, c0, rt0, rfl, w0⟩ := open_scene Tryd.underlying24 (by kernel_rfl) (by kernel_rfl) Tryd.underlying22 Tryd.underlying3 Tryd.underlying42 (by kernel_rfl) rfl rfl rfl rfl (by kernel_rfl) (by kernel_rfl) (by kernel_rfl) (by kernel_rfl) Tryd.underlying3 Tryd.underlying39 Tryd.underlying40 Tryd.underlying38 Tryd.underlying2 Tryd.underlying9 Tryd.underlying3 (by kernel_rfl) (by kernel_rfl) (by kernel_rfl) (hval 0 24 v0 rfl rfl) h0
  clear hA0 hval0
  refine (walk X0 a0 c0 rt0 W w0 (tab_of11 hL)).mono fun e W' ⟨he, bel⟩ => ?_
  subst he
  exact ⟨_, rfl, _, _, _, [], _, [], hW', trodAll_mk1 (shut_bool Tryd.underlying4 _), (trodAll_cons_mk (Below.trod laidOut (by kernel_rfl) (of_decide_eq_true (by kernel_rfl)) K0 bel lt0) trodAll_mk0), rfl, bel.frame _, fun h => by cases h⟩

theorem row : Rows.unfoldSharesRow.holds Tryd.pinned (OpenSpec.ofChange Rows.unfoldSharesSpec) :=
  OpenClaim.holds_of_wide 5 Tryd.f5 rfl rfl rfl rfl rfl rfl rfl ⟨rfl, rfl, rfl, rfl, rfl⟩ rfl rfl rfl rfl rfl (by kernel_rfl) Tryd.func5 (by kernel_rfl)
    (of_decide_eq_true (by kernel_rfl)) (by unfold Func.isWrapper; first | (rw [if_pos (by decide +kernel)]; kernel_rfl) | (rw [if_neg (by decide +kernel)]; exact ⟨rfl, rfl⟩))
    (fun os started H enc _ => lifted os started H enc)

/-- No parameter wants a stand-in; the program's own looks are off: what the card asks. -/
theorem plain (f : FuncId) (fn : Func) (hf : Tryd.pinned.checked.prog.funcNamed Rows.unfoldSharesRow.func = some f) (hfn : Tryd.pinned.checked.prog.funcs[f]? = some fn) :
    false = Tryd.pinned.checked.prog.looks [] ∧ ∀ (j : Nat) t, fn.params[j]? = some t → Tryd.pinned.checked.prog.wantsStandIn t = false := by
  obtain rfl : f = 5 := Option.some.inj ((show Tryd.prog.funcNamed Rows.unfoldSharesRow.func = some 5 by kernel_rfl).symm.trans hf) |>.symm
  obtain rfl : fn = Tryd.f5 := (Option.some.inj (Tryd.func5.symm.trans hfn)).symm
  refine ⟨by kernel_rfl, fun j t ht => ?_⟩
  have hm := Array.mem_of_getElem? ht
  have hall : (Tryd.f5.params.toList.all fun u => !Tryd.prog.wantsStandIn u) = true := by kernel_rfl
  exact (show Tryd.prog.wantsStandIn t = false by simpa using List.all_eq_true.1 hall t (by simpa using hm))

/-- ████ THE CARD ████ -/
theorem over : Rows.UnfoldSharesCardSaid :=
  Claim7.holds_tied_plain_at .later [] _ _ _ _ row (fun _ h => by cases h) (by kernel_rfl) (fun _ h => by cases h) unfoldShares_row_tie rfl ⟨rfl, rfl⟩ (by kernel_rfl) rfl plain (by kernel_rfl)

end Go.Proofs.YtcdpjaaiojpelaaDoor.unfoldShares

namespace Go.Proofs.YtcdpjaaiojpelaaDoor
theorem unfoldShares_holds : Rows.UnfoldSharesCardSaid := unfoldShares.over
#print axioms unfoldShares_holds
end Go.Proofs.YtcdpjaaiojpelaaDoor
