/- For every scene: if the document says that nothing is wrong with how its nodes lead to each other, the program's Flat tells the document's flat scene, else the document's error and an empty scene; and the program's Is tells of it what the document says (scenes greater than the law plays with are let go by the law itself); the argument reads afterwards as before. The package schema's tables hold what the program's text lays into them when the call begins (the card ties them). -/
import Derived.Test.YtkcaeajhbeenbaaDoorRows
import Derived.Test.YtkcaeajhbeenbaaDoorCards
import Derived.Test.YtkcaeajhbeenbaaDoorTie
import Derived.WalkKit
import Derived.ProofKit
import Derived.OpenShut
import Derived.ShutString
import Derived.Below
import Derived.Deep.RegionHeld3
import Derived.Test.YtkcaeajhbeenbaaDoorOAw
import Derived.ChangeOld
import Derived.LaidMore
import Derived.SevenTiedAt
namespace Go.Proofs.YtkcaeajhbeenbaaDoor.oldFlat
open Go.ChangeShapes Go.WideShapes Go.ChangeAt Go.RowKit
open Go.ChangeMaps (open_string shut_string)
set_option linter.unusedVariables false

theorem own : ownKnob Tryd.prog.godebug = none := by kernel_rfl
theorem laidOut : laidOutB Tryd.prog = true := by kernel_rfl

set_option maxRecDepth 10000 in
set_option maxHeartbeats 4000000 in
theorem walk (X0 : List Nx) (a0 : Option Addr) (c0 : Nat) (r0 : Int) (w : World) (w0 : IsSc w a0 X0 r0) (hT : Tabs16 w) :
    Calls Tryd.prog 4 #[.agg #[.slice a0 X0.length c0, .int .i64 r0]] w fun e w' => e = .returned (.bool true) ∧ Below w.heap.size w w' := by
  have HA : Hid (∀ W, Below w.heap.size w W → Calls Tryd.prog 8 #[] W fun e w' => e = .returned (.bool true) ∧ Below W.heap.size W w') := fun W hb => awake_any W (hT.on hb)
  have HS : Hid (IsSc w a0 X0 r0) := w0
  have HL : Hid (Lw w (w.alloc (.cells #[.slice a0 X0.length c0, .int .i64 r0] 24)) a0 X0 c0 r0) := Lw.start w a0 X0 c0 r0
  clear w0 hT
  go_enter Tryd.func4, Tryd.ntmps4
  go_wp2_with fail
  refine (HA.out _ HL.out.bel).mono ?_
  rintro e w1 ⟨rfl, hb1⟩
  have HL1 : Hid (Lw w w1 a0 X0 c0 r0) := HL.out.more hb1
  have x0 := HL1.out.c0
  have x1 := HL1.out.c1
  have HG : Hid (Calls Tryd.prog 9 #[.agg #[.slice a0 X0.length c0, .int .i64 r0]] w1 fun e w' => GreatOut X0 w1 w' e) := sgreat_any X0 a0 c0 r0 w1 (HL1.out.sc HS.out)
  clear HL hb1
  go_wp2_with fail
  refine Calls.mono HG.out ?_
  rintro e w2 ⟨g, rfl, hg, hb2⟩
  have HL2 : Hid (Lw w w2 a0 X0 c0 r0) := HL1.out.more hb2
  clear HG HL1 hb2 x0 x1
  cases g with
  | true =>
    go_wp2_with fail
    refine (HA.out _ HL2.out.bel).mono ?_
    rintro e w3 ⟨rfl, hb3⟩
    have HB : Hid (Below w.heap.size w w3) := (HL2.out.more hb3).bel
    clear HL2 hb3
    go_wp2_with fail
    go_ret
    exact ⟨rfl, HB.out⟩
  | false =>
    have HSm : Hid (Small X0) := (hg rfl).1
    have x0 := HL2.out.c0
    have x1 := HL2.out.c1
    have HCp : Hid (∀ W, Lw w W a0 X0 c0 r0 → Calls Tryd.prog 11 #[.agg #[.slice a0 X0.length c0, .int .i64 r0]] W fun e w' => SCopyOut X0 r0 W w' e) := fun W hW => scopy_any X0 a0 c0 r0 W (hW.sc HS.out) HSm.out
    have HC : Hid _ := HCp.out w2 HL2.out
    clear hg HA
    go_wp2_with fail
    refine Calls.mono HC.out ?_
    rintro e w3 ⟨Y, ay, cy, rfl, hY, hs3, hb3⟩
    have HL3 : Hid (Lw w w3 a0 X0 c0 r0) := HL2.out.more hb3
    have HFl : Hid (Calls Tryd.prog 15 #[.agg #[.slice ay Y.length cy, .int .i64 r0]] w3 fun e w' => ∃ (T : List Nx) (a' : Option Addr) (c' : Nat) (n : Int), e = .returned (.tuple #[.agg #[.slice a' T.length c', .int .i64 0], .int .i64 n]) ∧ FlIs X0 r0 T n ∧ ScAt w' a' T ∧ Below w3.heap.size w3 w') := by
      refine Calls.mono (oflat2_any Y ay cy r0 w3 hs3 (same_small hY HSm.out)) ?_
      rintro e w' ⟨T, a', c', n, rfl, h1, h2, h3⟩
      exact ⟨T, a', c', n, rfl, h1.same hY, h2, h3⟩
    clear HC HL2 hs3 hb3 hY x0 x1
    go_wp2_with fail
    refine Calls.mono HFl.out ?_
    rintro e w4 ⟨T, aT, cT, n, rfl, hfl, hs4, hb4⟩
    have HF : Hid (FlIs X0 r0 T n) := hfl
    have HW5 : Hid (∀ o : Obj, o = .cells #[.slice aT T.length cT, .int .i64 0] 24 → AtN 24 (w4.alloc o) w4.heap.size #[.slice aT T.length cT, .int .i64 0] ∧ ScAt (w4.alloc o) aT T ∧ Lw w (w4.alloc o) a0 X0 c0 r0) := by
      rintro _ rfl
      exact ⟨AtN.new w4 24 _, hs4.alloc _, (HL3.out.more hb4).more ((Below.refl w4.heap.size w4).alloc (Nat.le_refl _) _)⟩
    obtain ⟨b, hb⟩ := bool_of (FowIs X0 r0)
    have HIp : Hid (∀ W (Y : List Nx) (ay : Option Addr) (cy : Nat), Y.map Nx.nd = X0.map Nx.nd → ScAt W ay Y → Calls Tryd.prog 16 #[.agg #[.slice ay Y.length cy, .int .i64 r0]] W fun e w' => e = .returned (.bool b) ∧ Below W.heap.size W w') := fun W Y ay cy h1 h2 => by
      refine Calls.mono (ois_any Y ay cy r0 W h2 (same_small h1 HSm.out)) ?_
      rintro e w' ⟨q, rfl, hq, hB⟩
      rw [show q = b by rw [Bool.eq_iff_iff, hq, hb, same_fw h1]]
      exact ⟨rfl, hB⟩
    have HIr : Hid (∀ W, Lw w W a0 X0 c0 r0 → Calls Tryd.prog 17 #[.agg #[.slice a0 X0.length c0, .int .i64 r0]] W fun e w' => e = .returned (.bool b) ∧ Below W.heap.size W w') := fun W hW => by
      refine Calls.mono (ris16_any X0 a0 c0 r0 W (hW.sc HS.out) HSm.out) ?_
      rintro e w' ⟨q, rfl, hq, hB⟩
      rw [show q = b by rw [Bool.eq_iff_iff, hq, hb]]
      exact ⟨rfl, hB⟩
    have HCk : Hid (∀ W, Lw w W a0 X0 c0 r0 → Calls Tryd.prog 18 #[.agg #[.slice a0 X0.length c0, .int .i64 r0]] W fun e w' => CheckOut X0 r0 W w' e) := fun W hW => rcheck_any X0 a0 c0 r0 W (hW.sc HS.out) HSm.out
    have HRf : Hid (RightIs X0 r0 → ∀ W, Lw w W a0 X0 c0 r0 → Calls Tryd.prog 20 #[.agg #[.slice a0 X0.length c0, .int .i64 r0]] W fun e w' => RFlatOut X0 r0 W w' e) := fun hR W hW => rflat_any X0 a0 c0 r0 W (hW.sc HS.out) HSm.out hR
    have x0 : ∀ o, (w4.alloc o).cell? ⟨w.heap.size, 0, none⟩ = some (.slice a0 X0.length c0) := fun o => ((HL3.out.more hb4).at_.alloc o).cell 0
    have x1 : ∀ o, (w4.alloc o).cell? ⟨w.heap.size, 1, none⟩ = some (.int .i64 r0) := fun o => ((HL3.out.more hb4).at_.alloc o).cell 1
    clear HFl HL3 hs4 hb4 hfl hb
    go_wp2_with fail
    obtain ⟨hz5, hs5, hl5⟩ := HW5.out _ rfl
    clear HW5 x0 x1
    generalize (w4.alloc (.cells #[.slice aT T.length cT, .int .i64 0] 24)) = w5 at *
    have HT5 : Hid (AtN 24 w5 w4.heap.size #[.slice aT T.length cT, .int .i64 0] ∧ ScAt w5 aT T) := ⟨hz5, hs5⟩
    have HL5 : Hid (Lw w w5 a0 X0 c0 r0) := hl5
    have HLd : Hid (Lw w w5.drew a0 X0 c0 r0) := hl5.more (bel_drew w5)
    have K0 : w5.cell? ⟨w.heap.size, 0, none⟩ = some (.slice a0 X0.length c0) ∧ w5.cell? ⟨w.heap.size, 1, none⟩ = some (.int .i64 r0) := ⟨hl5.c0, hl5.c1⟩
    have Kd : w5.drew.cell? ⟨w.heap.size, 0, none⟩ = some (.slice a0 X0.length c0) ∧ w5.drew.cell? ⟨w.heap.size, 1, none⟩ = some (.int .i64 r0) := K0
    clear hz5 hs5 hl5
    go_region_held3 (fun W => W.cell? ⟨w.heap.size, 0, none⟩ = some (.slice a0 X0.length c0) ∧ W.cell? ⟨w.heap.size, 1, none⟩ = some (.int .i64 r0)) (first | exact K8 | exact K7 | exact K6 | exact Kd | exact K0)
      ((first | (go_at_call 17; refine Calls.mono (HIr.out _ H7.out) ?_; rintro e w8 ⟨rfl, hb8⟩; have H8 : Hid (Lw w w8 a0 X0 c0 r0) := H7.out.more hb8; have K8 : w8.cell? ⟨w.heap.size, 0, none⟩ = some (.slice a0 X0.length c0) ∧ w8.cell? ⟨w.heap.size, 1, none⟩ = some (.int .i64 r0) := ⟨H8.out.c0, H8.out.c1⟩) | (go_at_call 16; refine Calls.mono (HIp.out _ Y6 a6 c6 hY6 hs6) ?_; rintro e w7 ⟨rfl, hb7⟩; have H7 : Hid (Lw w w7 a0 X0 c0 r0) := H6.out.more hb7; have K7 : w7.cell? ⟨w.heap.size, 0, none⟩ = some (.slice a0 X0.length c0) ∧ w7.cell? ⟨w.heap.size, 1, none⟩ = some (.int .i64 r0) := ⟨H7.out.c0, H7.out.c1⟩) | (go_at_call 11; refine Calls.mono (HCp.out _ HLd.out) ?_; rintro e w6 ⟨Y6, a6, c6, rfl, hY6, hs6, hb6⟩; have H6 : Hid (Lw w w6 a0 X0 c0 r0) := HLd.out.more hb6; have K6 : w6.cell? ⟨w.heap.size, 0, none⟩ = some (.slice a0 X0.length c0) ∧ w6.cell? ⟨w.heap.size, 1, none⟩ = some (.int .i64 r0) := ⟨H6.out.c0, H6.out.c1⟩)))
    have HT8 : Hid (AtN 24 w8 w4.heap.size #[.slice aT T.length cT, .int .i64 0] ∧ ScAt w8 aT T) := by
      have q1 := bel_drew w5
      have q2 := q1.trans (hb6.mono q1.size)
      have q3 := q2.trans (hb7.mono q2.size)
      have q4 := q3.trans (hb8.mono q3.size)
      exact ⟨HT5.out.1.belowAll q4, HT5.out.2.belowB q4⟩
    obtain ⟨x0, x1⟩ := K8
    have HCc : Hid _ := HCk.out w8 H8.out
    clear HT5 HL5 HLd K0 Kd H6 H7 K6 K7 hb6 hb7 hb8 hY6 hs6 HIp HIr HCp HCk
    go_wp2_with fail
    refine Calls.mono HCc.out ?_
    rintro e w9 ⟨m, z, rfl, hck, hb9⟩
    obtain rfl := HF.out.err hck
    have HL9 : Hid (Lw w w9 a0 X0 c0 r0) := H8.out.more hb9
    have HT9 : Hid (AtN 24 w9 w4.heap.size #[.slice aT T.length cT, .int .i64 0] ∧ ScAt w9 aT T) := ⟨HT8.out.1.belowAll hb9, HT8.out.2.belowB hb9⟩
    have z0 : w9.cell? ⟨w4.heap.size, 0, none⟩ = some (.slice aT T.length cT) := HT9.out.1.cell 0
    have z1 : w9.cell? ⟨w4.heap.size, 1, none⟩ = some (.int .i64 0) := HT9.out.1.cell 1
    clear HCc H8 HT8 hck hb9 x0 x1
    rcases HF.out.2 with ⟨hm, hR, hT⟩ | ⟨hm, hT⟩
    · subst hm
      have hFt := flt_of HSm.out hR hT
      have HRf' : ∀ W, Below w9.heap.size w9 W → Calls Tryd.prog 20 #[.agg #[.slice a0 X0.length c0, .int .i64 r0]] W fun e w' => RFlatOut X0 r0 W w' e := fun W hW => HRf.out hR W (HL9.out.more hW)
      have HSm' : ∀ W, Below w9.heap.size w9 W → ∀ (U : List Nx) (a' : Option Addr) (c' : Nat), U.map Nx.nd = fX X0 r0 → ScAt W a' U → Calls Tryd.prog 19 #[.agg #[.slice aT T.length cT, .int .i64 0], .agg #[.slice a' U.length c', .int .i64 0]] W fun e w' => e = .returned (.bool true) ∧ Below W.heap.size W w' := fun W hW U a' c' hU hs => ssame_yes T U aT a' cT c' 0 W (HT9.out.2.belowB hW) hs (hFt.small HSm.out) (hU.trans hT.symm)
      have x0 := HL9.out.c0
      have x1 := HL9.out.c1
      have hgx := HL9.out.at_.lt
      have hgz := HT9.out.1.lt
      clear HF HT9 HS HSm hR hT hFt
      clear HRf
      have HRf : Hid _ := HRf'
      have HSm : Hid _ := HSm'
      clear HRf' HSm'
      go_wp2_with fail
      refine facts_region6 (fun W => Below w9.heap.size w9 W) (fun ix v W => match ix with | 0 => v = .int .i64 0 | 1 => v = .bool true | 2 => v = .bool true | 3 => v = .agg #[.slice aT T.length cT, .int .i64 0] | 4 => v = .agg #[.slice a0 X0.length c0, .int .i64 r0] | 5 => ∃ (U : List Nx) (a' : Option Addr) (c' : Nat), v = .agg #[.slice a' U.length c', .int .i64 0] ∧ U.map Nx.nd = fX X0 r0 ∧ ScAt W a' U | 6 => v = .bool true | 7 => v = .bool true | 8 => v = .bool true | _ => True) (by kernel_rfl) (by kernel_rfl) (Below.refl _ _).drew ?step ?fin
      case step =>
        intro i' o' ho act W hG hoff hdep K hQ hK
        rcases i' with _|_|_|_|_|_|_|_|_|i'
        · obtain rfl := Option.some.inj ho
          have t4 : act.tmps[4]?.getD undef = .int .i64 0 := hoff 4 (by kernel_rfl)
          clear hdep hoff hG
          go_simp
          exact hQ _ (rfl)
        · obtain rfl := Option.some.inj ho
          have e0 : act.tmps[42]?.getD undef = .int .i64 0 := hdep 0 _ (by kernel_rfl) rfl
          clear hdep hoff hG
          go_simp
          exact hQ _ (rfl)
        · obtain rfl := Option.some.inj ho
          have e1 : act.tmps[43]?.getD undef = .bool true := hdep 1 _ (by kernel_rfl) rfl
          clear hdep hoff hG
          go_simp
          exact hQ _ (rfl)
        · obtain rfl := Option.some.inj ho
          have hgd : act.tmps[44]?.getD undef = .bool true := hdep 2 _ (by kernel_rfl) rfl
          have hgd' := getD_bool hgd
          have t3 : act.tmps[3]?.getD undef = .pointer (some ⟨w4.heap.size, 0, none⟩) := hoff 3 (by kernel_rfl)
          have z0W := (hG.cell (p := ⟨w4.heap.size, 0, none⟩) hgz).trans z0
          have z1W := (hG.cell (p := ⟨w4.heap.size, 1, none⟩) hgz).trans z1
          clear hdep hoff hG
          go_simp
          exact hQ _ (rfl)
        · obtain rfl := Option.some.inj ho
          have hgd : act.tmps[44]?.getD undef = .bool true := hdep 2 _ (by kernel_rfl) rfl
          have hgd' := getD_bool hgd
          have t1 : act.tmps[1]?.getD undef = .pointer (some ⟨w.heap.size, 0, none⟩) := hoff 1 (by kernel_rfl)
          have x0W := (hG.cell (p := ⟨w.heap.size, 0, none⟩) hgx).trans x0
          have x1W := (hG.cell (p := ⟨w.heap.size, 1, none⟩) hgx).trans x1
          clear hdep hoff hG
          go_simp
          exact hQ _ (rfl)
        · obtain rfl := Option.some.inj ho
          have hgd : act.tmps[44]?.getD undef = .bool true := hdep 2 _ (by kernel_rfl) rfl
          have hgd' := getD_bool hgd
          have e4 : act.tmps[46]?.getD undef = .agg #[.slice a0 X0.length c0, .int .i64 r0] := hdep 4 _ (by kernel_rfl) rfl
          clear hdep hoff
          have HG : Hid (Below w9.heap.size w9 W) := hG
          have HC : Hid _ := HRf.out W hG
          clear hG
          go_simp
          refine Calls.mono HC.out ?_
          rintro e w' ⟨U, a', c', rfl, hU, hl, hs, hb⟩
          exact hK _ _ (HG.out.trans (hb.mono HG.out.size)) (fun j u hj h => by
              rcases j with _|_|_|_|_|_|_|_|_|j
              · exact h
              · exact h
              · exact h
              · exact h
              · exact h
              · exact absurd rfl hj
              · exact h
              · exact h
              · exact h
              · trivial) (⟨U, a', c', rfl, hU, hs⟩)
        · obtain rfl := Option.some.inj ho
          have hgd : act.tmps[44]?.getD undef = .bool true := hdep 2 _ (by kernel_rfl) rfl
          have hgd' := getD_bool hgd
          have e3 : act.tmps[45]?.getD undef = .agg #[.slice aT T.length cT, .int .i64 0] := hdep 3 _ (by kernel_rfl) rfl
          have e5 : ∃ (U : List Nx) (a' : Option Addr) (c' : Nat), act.tmps[47]?.getD undef = .agg #[.slice a' U.length c', .int .i64 0] ∧ U.map Nx.nd = fX X0 r0 ∧ ScAt W a' U := hdep 5 _ (by kernel_rfl) rfl
          clear hdep hoff
          obtain ⟨U, a', c', e5', hU, hs⟩ := e5
          have HG : Hid (Below w9.heap.size w9 W) := hG
          have HC : Hid _ := HSm.out W hG U a' c' hU hs
          clear hG
          go_simp
          refine Calls.mono HC.out ?_
          rintro e w' ⟨rfl, hb⟩
          exact hK _ _ (HG.out.trans (hb.mono HG.out.size)) (fun j u hj h => by
              rcases j with _|_|_|_|_|_|_|_|_|j
              · exact h
              · exact h
              · exact h
              · exact h
              · exact h
              · obtain ⟨U, a', c', h1, h2, h3⟩ := h; exact ⟨U, a', c', h1, h2, h3.belowB hb⟩
              · exact absurd rfl hj
              · exact h
              · exact h
              · trivial) (rfl)
        · obtain rfl := Option.some.inj ho
          have e2 : act.tmps[44]?.getD undef = .bool true := hdep 2 _ (by kernel_rfl) rfl
          have e6 : act.tmps[48]?.getD undef = .bool true := hdep 6 _ (by kernel_rfl) rfl
          clear hdep hoff hG
          go_simp
          exact hQ _ (rfl)
        · obtain rfl := Option.some.inj ho
          have e7 : act.tmps[49]?.getD undef = .bool true := hdep 7 _ (by kernel_rfl) rfl
          clear hdep hoff hG
          go_simp
          exact hQ _ (rfl)
        · exact absurd ho (by simp)
      case fin =>
        intro V W hG hF
        have yz : V (some 2) = .bool true := hF 8 _ rfl
        have HB : Hid (Below w.heap.size w W) := (HL9.out.more hG).bel
        clear hF hG HL9
        simp only [fillA, Act.put, List.setIfInBounds_toArray, List.set_cons_zero, List.set_cons_succ, yz]
        generalize V (some 42) = z42
        generalize V (some 43) = z43
        generalize V (some 44) = z44
        generalize V (some 45) = z45
        generalize V (some 46) = z46
        generalize V (some 47) = z47
        generalize V (some 48) = z48
        generalize V (some 49) = z49
        clear yz
        go_wp2_with fail
        go_ret
        exact ⟨rfl, HB.out⟩
    · subst hT
      have HB : Hid (Below w.heap.size w w9) := HL9.out.bel
      clear HF HRf HL9 HT9 HS HSm
      go_wp2_with fail
      go_ret
      exact ⟨by simp, HB.out⟩

set_option maxRecDepth 100000 in
theorem lifted (os : Os) (started : os.Started) (H : Type) (enc : TypeId × Value → H) :
    ReturnsInHanded {} Tryd.checked os 4 .any (fun w args => (Rows.oldFlatSpec.pre enc Tryd.prog Tryd.f4 [] false w args ∧ laidMetH Tryd.prog laid16 w) ∧ sizedMet enc Tryd.prog Tryd.f4 (OpenSpec.ofChange Rows.oldFlatSpec) false w args)
      (Rows.oldFlatSpec.post enc Tryd.prog Tryd.f4 false true false false) := by
  refine returnsInHanded_of_change_and (C := Tryd.checked) (X := fun w _ => laidMetH Tryd.prog laid16 w) (fun _ _ _ hh h => h.of_heap hh) own started (by kernel_rfl) Tryd.func4
    (ChangeSpec.witness_shaped (enc := enc) (C := Tryd.checked) (os := os) (X := fun w _ => laidMetH Tryd.prog laid16 w) false (World.doorLaid Tryd.prog 400 os) #[.agg #[.slice none 0 0, .int .i64 0]] 8 rfl (World.shaped_of_RefB (by kernel_rfl) (by kernel_rfl)) (by kernel_rfl) (by kernel_rfl) (by kernel_rfl) (door16 os _)) ?_
  intro W base args ds gs before hval0 hW _ _ hL _
  have hval : ∀ (j : Nat) t v, Tryd.f4.params[j]? = some t → args[j]? = some v → Value.okWide Tryd.prog W .any base t v := hval0
  have hW' := hW
  obtain ⟨p, q, hA0, hV, rfl, hfz, hnd⟩ := hW
  have hA : DataW.TrodAll enc Tryd.prog W 0 (fun _ => true) true Tryd.f4.params.toList args.toList ds p := hA0
  rw [Tryd.params4] at hA hval
  obtain ⟨v0, vs0, d0, ds0, p0, q0, hargs, rfl, rfl, h0, r0⟩ := trodAll_cons hA
  obtain ⟨rfl, rfl, rfl⟩ := trodAll_nil r0
  obtain rfl : args = #[v0] := by cases args; simp_all
  obtain ⟨rfl, rfl⟩ := trodVars_none hV
  have K0 := h0
  have lt0 : ∀ x ∈ p0, x.block < W.heap.size := by obtain ⟨m, hm⟩ := K0; exact DataW.trod_lt m _ _ _ hm
  obtain ⟨X0, a0, c0, rt0, rfl, w0⟩ := open_scene Tryd.underlying24 (by kernel_rfl) (by kernel_rfl) Tryd.underlying22 Tryd.underlying3 Tryd.underlying48 (by kernel_rfl) rfl rfl rfl rfl (by kernel_rfl) (by kernel_rfl) (by kernel_rfl) (by kernel_rfl) Tryd.underlying3 Tryd.underlying44 Tryd.underlying45 Tryd.underlying46 Tryd.underlying2 Tryd.underlying9 Tryd.underlying3 (by kernel_rfl) (by kernel_rfl) (by kernel_rfl) (hval 0 24 v0 rfl rfl) h0
  clear hA0 hval0
  refine (walk X0 a0 c0 rt0 W w0 (tabs16_of hL)).mono fun e W' ⟨he, bel⟩ => ?_
  subst he
  exact ⟨_, rfl, _, _, _, [], _, [], hW', trodAll_mk1 (shut_bool Tryd.underlying4 _), (trodAll_cons_mk (Below.trod laidOut (by kernel_rfl) (of_decide_eq_true (by kernel_rfl)) K0 bel lt0) trodAll_mk0), rfl, bel.frame _, fun h => by cases h⟩

theorem row : Rows.oldFlatRow.holds Tryd.pinned (OpenSpec.ofChange Rows.oldFlatSpec) :=
  OpenClaim.holds_of_wide 4 Tryd.f4 rfl rfl rfl rfl rfl rfl rfl ⟨rfl, rfl, rfl, rfl, rfl⟩ rfl rfl rfl rfl rfl (by kernel_rfl) Tryd.func4 (by kernel_rfl)
    (of_decide_eq_true (by kernel_rfl)) (by unfold Func.isWrapper; first | (rw [if_pos (by decide +kernel)]; kernel_rfl) | (rw [if_neg (by decide +kernel)]; exact ⟨rfl, rfl⟩))
    (fun os started H enc _ => lifted os started H enc)

/-- No parameter wants a stand-in; the program's own looks are as the card says. -/
theorem plain (f : FuncId) (fn : Func) (hf : Tryd.pinned.checked.prog.funcNamed Rows.oldFlatRow.func = some f) (hfn : Tryd.pinned.checked.prog.funcs[f]? = some fn) :
    false = Tryd.pinned.checked.prog.looks [] ∧ ∀ (j : Nat) t, fn.params[j]? = some t → Tryd.pinned.checked.prog.wantsStandIn t = false := by
  obtain rfl : f = 4 := Option.some.inj ((show Tryd.prog.funcNamed Rows.oldFlatRow.func = some 4 by kernel_rfl).symm.trans hf) |>.symm
  obtain rfl : fn = Tryd.f4 := (Option.some.inj (Tryd.func4.symm.trans hfn)).symm
  refine ⟨by kernel_rfl, fun j t ht => ?_⟩
  have hm := Array.mem_of_getElem? ht
  have hall : (Tryd.f4.params.toList.all fun u => !Tryd.prog.wantsStandIn u) = true := by kernel_rfl
  exact (show Tryd.prog.wantsStandIn t = false by simpa using List.all_eq_true.1 hall t (by simpa using hm))

/-- ████ THE CARD ████ -/
theorem over : Rows.OldFlatCardSaid :=
  Claim7.holds_tied_plain_at .later [] _ _ _ _ row (fun _ h => by cases h) (by kernel_rfl) (fun _ h => by cases h) oldFlat_row_tie rfl ⟨rfl, rfl⟩ (by kernel_rfl) rfl plain (by kernel_rfl)

end Go.Proofs.YtkcaeajhbeenbaaDoor.oldFlat

namespace Go.Proofs.YtkcaeajhbeenbaaDoor
theorem oldFlat_holds : Rows.OldFlatCardSaid := oldFlat.over
#print axioms oldFlat_holds
end Go.Proofs.YtkcaeajhbeenbaaDoor
