/- For every scene of which the document says that nothing is wrong with how its nodes lead to each other, and all limits: made flat by the program it has the same measure and the same depth, and is valid in version 1 just if the scene is (scenes greater than the law plays with are let go by the law itself); the arguments read afterwards as before. The package schema's tables hold what the program's text lays into them when the call begins (the card ties them). -/
import Derived.Test.YtkcaeajhbeenbaaDoorRows
import Derived.Test.YtkcaeajhbeenbaaDoorCards
import Derived.Test.YtkcaeajhbeenbaaDoorTie
import Derived.WalkKit
import Derived.ProofKit
import Derived.OpenShut
import Derived.ShutString
import Derived.Below
import Derived.Test.YtkcaeajhbeenbaaDoorOAw
import Derived.Test.YtkcaeajhbeenbaaDoorLEq
import Derived.ChangeOld
import Derived.LaidMore
import Derived.SevenTiedAt
namespace Go.Proofs.YtkcaeajhbeenbaaDoor.oldMeasure
open Go.ChangeShapes Go.WideShapes Go.ChangeAt Go.RowKit
open Go.ChangeMaps (open_string shut_string)
set_option linter.unusedVariables false

theorem own : ownKnob Tryd.prog.godebug = none := by kernel_rfl
theorem laidOut : laidOutB Tryd.prog = true := by kernel_rfl

theorem meL_self (X : List Nx) (d : Nat) : sameL (meL X d) (meL X d) = true := decide_eq_true ⟨rfl, rfl, rfl, rfl, rfl⟩

set_option maxRecDepth 10000 in
set_option maxHeartbeats 4000000 in
theorem walk (X0 : List Nx) (a0 : Option Addr) (c0 : Nat) (r0 : Int) (l1 : Lm) (w : World) (w0 : IsSc w a0 X0 r0) (w1 : LmR l1) (hT : Tabs16 w) :
    Calls Tryd.prog 6 #[.agg #[.slice a0 X0.length c0, .int .i64 r0], .agg #[.int .i64 l1.b, .int .i64 l1.n, .int .i64 l1.e, .int .i64 l1.d, .int .i64 l1.x]] w fun e w' => e = .returned (.bool true) ∧ Below w.heap.size w w' := by
  have HA : Hid (∀ W, Below w.heap.size w W → Calls Tryd.prog 8 #[] W fun e w' => e = .returned (.bool true) ∧ Below W.heap.size W w') := fun W hb => awake_any W (hT.on hb)
  have HT : Hid (Tabs16 w) := hT
  have HS : Hid (IsSc w a0 X0 r0) := w0
  have HL := L5.start w a0 X0 c0 r0 l1
  have HL : Hid (L5 w _ a0 X0 c0 r0 l1) := HL
  clear w0 hT w1
  go_enter Tryd.func6, Tryd.ntmps6
  go_wp2_with fail
  refine Calls.mono (HA.out _ HL.out.bel) ?_
  rintro e w2 ⟨rfl, hb2⟩
  have HL2 : Hid (L5 w w2 a0 X0 c0 r0 l1) := HL.out.more hb2
  clear HL hb2
  obtain ⟨xa0, xa1, -⟩ := HL2.out.all
  have HG : Hid (Calls Tryd.prog 9 #[.agg #[.slice a0 X0.length c0, .int .i64 r0]] w2 fun e w' => GreatOut X0 w2 w' e) := sgreat_any X0 a0 c0 r0 w2 (HL2.out.sc HS.out)
  go_wp2_with fail
  refine Calls.mono HG.out ?_
  rintro e w3 ⟨g, rfl, hg, hb3⟩
  have HL3 : Hid (L5 w w3 a0 X0 c0 r0 l1) := HL2.out.more hb3
  clear HG HL2 hb3 xa0 xa1
  cases g with
  | true =>
    go_wp2_with fail
    refine Calls.mono (HA.out _ HL3.out.bel) ?_
    rintro e wz ⟨rfl, hbz⟩
    have HB : Hid (Below w.heap.size w wz) := (HL3.out.more hbz).bel
    clear HL3 hbz
    go_wp2_with fail
    go_ret
    exact ⟨rfl, HB.out⟩
  | false =>
    have HSm : Hid (Small X0) := (hg rfl).1
    have HFn : Hid (FnX X0) := HS.out.fn
    obtain ⟨xa0, xa1, -⟩ := HL3.out.all
    have HRt : Hid (Calls Tryd.prog 21 #[.agg #[.slice a0 X0.length c0, .int .i64 r0]] w3 fun e w' => RightOut X0 r0 w3 w' e) := right_any X0 a0 c0 r0 w3 (HL3.out.sc HS.out) HSm.out
    clear hg
    go_wp2_with fail
    refine Calls.mono HRt.out ?_
    rintro e wr ⟨q, rfl, hq, hbr⟩
    have HLr : Hid (L5 w wr a0 X0 c0 r0 l1) := HL3.out.more hbr
    have HQ : Hid (q = true ↔ RightIs X0 r0) := hq
    clear HRt HL3 hbr hq xa0 xa1
    cases q with
    | false =>
      clear HQ HSm HFn
      go_wp2_with fail
      refine Calls.mono (HA.out _ HLr.out.bel) ?_
      rintro e wz ⟨rfl, hbz⟩
      have HB : Hid (Below w.heap.size w wz) := (HLr.out.more hbz).bel
      clear HLr hbz
      go_wp2_with fail
      go_ret
      exact ⟨rfl, HB.out⟩
    | true =>
      have HR : Hid (RightIs X0 r0) := HQ.out.1 rfl
      obtain ⟨xa0, xa1, -⟩ := HLr.out.all
      have HFl : Hid (Calls Tryd.prog 15 #[.agg #[.slice a0 X0.length c0, .int .i64 r0]] wr fun e w' => OFlatOut X0 r0 wr w' e) := oflat_any X0 a0 c0 r0 wr (HLr.out.sc HS.out) HSm.out
      clear HQ HA
      go_wp2_with fail
      refine Calls.mono HFl.out ?_
      rintro e w4 ⟨hf1, -, hb4⟩
      obtain ⟨T, aT, cT, rfl, hT, hlT, hs4⟩ := hf1 HR.out
      rw [hlT]
      have HF : Hid (Flt X0 T r0) := flt_of HSm.out HR.out hT
      obtain ⟨d, hd⟩ := depth_there X0 r0
      obtain ⟨dT, hdT⟩ := depth_there T 0
      obtain rfl : dT = d := HF.out.depth d dT hd hdT
      have HD : Hid (DepthIs X0 r0 dT ∧ DepthIs T 0 dT) := ⟨hd, hdT⟩
      have HW5 : Hid (∀ o : Obj, o = .cells #[.slice aT X0.length cT, .int .i64 0] 24 → AtN 24 (w4.alloc o) w4.heap.size #[.slice aT X0.length cT, .int .i64 0] ∧ ScAt (w4.alloc o) aT T ∧ L5 w (w4.alloc o) a0 X0 c0 r0 l1) := by
        rintro _ rfl
        exact ⟨AtN.new w4 24 _, hs4.alloc _, (HLr.out.more hb4).more ((Below.refl w4.heap.size w4).alloc (Nat.le_refl _) _)⟩
      have HVs : Hid (∀ W, L5 w W a0 X0 c0 r0 l1 → Calls Tryd.prog 10 #[.agg #[.slice a0 X0.length c0, .int .i64 r0], .agg #[.int .i64 l1.b, .int .i64 l1.n, .int .i64 l1.e, .int .i64 l1.d, .int .i64 l1.x]] W fun e w' => VoOut X0 r0 l1 dT W w' e) := fun W hW => ovalid_any X0 a0 c0 r0 l1 dT W (hW.sc HS.out) HSm.out HFn.out (HT.out.on hW.bel) HD.out.1
      have HVt : Hid (∀ W, L5 w W a0 X0 c0 r0 l1 → ScAt W aT T → Calls Tryd.prog 10 #[.agg #[.slice aT X0.length cT, .int .i64 0], .agg #[.int .i64 l1.b, .int .i64 l1.n, .int .i64 l1.e, .int .i64 l1.d, .int .i64 l1.x]] W fun e w' => VoOut T 0 l1 dT W w' e) := fun W hW hs => by
        have := ovalid_any T aT cT 0 l1 dT W hs (HF.out.small HSm.out) (HF.out.fnx HFn.out) (HT.out.on hW.bel) HD.out.2
        rw [HF.out.len] at this
        exact this
      have x0 : ∀ o, (w4.alloc o).cell? ⟨w.heap.size, 0, none⟩ = some (.slice a0 X0.length c0) := fun o => ((HLr.out.more hb4).s.alloc o).cell 0
      have x1 : ∀ o, (w4.alloc o).cell? ⟨w.heap.size, 1, none⟩ = some (.int .i64 r0) := fun o => ((HLr.out.more hb4).s.alloc o).cell 1
      have y0 : ∀ o, (w4.alloc o).cell? ⟨w.heap.size + 1, 0, none⟩ = some (.int .i64 l1.b) := fun o => ((HLr.out.more hb4).l.alloc o).cell 0
      have y1 : ∀ o, (w4.alloc o).cell? ⟨w.heap.size + 1, 1, none⟩ = some (.int .i64 l1.n) := fun o => ((HLr.out.more hb4).l.alloc o).cell 1
      have y2 : ∀ o, (w4.alloc o).cell? ⟨w.heap.size + 1, 2, none⟩ = some (.int .i64 l1.e) := fun o => ((HLr.out.more hb4).l.alloc o).cell 2
      have y3 : ∀ o, (w4.alloc o).cell? ⟨w.heap.size + 1, 3, none⟩ = some (.int .i64 l1.d) := fun o => ((HLr.out.more hb4).l.alloc o).cell 3
      have y4 : ∀ o, (w4.alloc o).cell? ⟨w.heap.size + 1, 4, none⟩ = some (.int .i64 l1.x) := fun o => ((HLr.out.more hb4).l.alloc o).cell 4
      clear HFl HLr hf1 hb4 hs4 hT hlT hd hdT HT xa0 xa1
      go_wp2_with fail
      obtain ⟨hz5, hs5, hl5⟩ := HW5.out _ rfl
      clear HW5 x0 x1 y0 y1 y2 y3 y4
      generalize (w4.alloc (.cells #[.slice aT X0.length cT, .int .i64 0] 24)) = w5 at *
      have HT5 : Hid (AtN 24 w5 w4.heap.size #[.slice aT X0.length cT, .int .i64 0] ∧ ScAt w5 aT T ∧ L5 w w5 a0 X0 c0 r0 l1) := ⟨hz5, hs5, hl5⟩
      clear hz5 hs5 hl5
      refine Calls.mono (HVs.out _ HT5.out.2.2) ?_
      rintro e w5a ⟨f, fz, rfl, hv1, hb5⟩
      have HT5a : Hid (AtN 24 w5a w4.heap.size #[.slice aT X0.length cT, .int .i64 0] ∧ ScAt w5a aT T ∧ L5 w w5a a0 X0 c0 r0 l1) := ⟨HT5.out.1.belowAll hb5, HT5.out.2.1.belowB hb5, HT5.out.2.2.more hb5⟩
      have HV1 : Hid (VoIs X0 r0 l1 dT f fz) := hv1
      have t0 : w5a.cell? ⟨w4.heap.size, 0, none⟩ = some (.slice aT X0.length cT) := HT5a.out.1.cell 0
      have t1 : w5a.cell? ⟨w4.heap.size, 1, none⟩ = some (.int .i64 0) := HT5a.out.1.cell 1
      obtain ⟨xa0, xa1, ya0, ya1, ya2, ya3, ya4⟩ := HT5a.out.2.2.all
      have HVc : Hid _ := HVt.out w5a HT5a.out.2.2 HT5a.out.2.1
      clear HT5 HVs HVt hv1 hb5
      go_wp2_with fail
      refine Calls.mono HVc.out ?_
      rintro e w6 ⟨f2, fz2, rfl, hv2, hb6⟩
      have hz6 := HT5a.out.1.belowAll hb6
      have hs6 := HT5a.out.2.1.belowB hb6
      have HL6 : Hid (L5 w w6 a0 X0 c0 r0 l1) := HT5a.out.2.2.more hb6
      have hff : f2 = 0 ↔ f = 0 := HF.out.vo HR.out HD.out.1 HD.out.2 HV1.out hv2
      obtain ⟨q, hq⟩ : ∃ q, (f == 0) = q := ⟨_, rfl⟩
      have HQ1 : Hid ((f == 0) = q) := hq
      have HQ2 : Hid ((f2 == 0) = q) := by
        show _ = _
        rw [← hq, Bool.eq_iff_iff]
        simp [hff]
      clear hff hq t0 t1 xa0 xa1 ya0 ya1 ya2 ya3 ya4
      have HM1 : Hid (∀ W, Below w6.heap.size w6 W → Calls Tryd.prog 24 #[.agg #[.slice aT X0.length cT, .int .i64 0]] W fun e w' => e = .returned (.agg #[.int .i64 0, .int .i64 X0.length, .int .i64 (edg X0 : Nat), .int .i64 (dT : Nat), .int .i64 (txb X0 : Nat)]) ∧ Below W.heap.size W w') := fun W hW => by
        have := measure_any T aT cT 0 dT W (hs6.belowB hW) (HF.out.small HSm.out) HD.out.2
        unfold meC at this
        rw [HF.out.edg, HF.out.txb, HF.out.len] at this
        exact this
      have HM2 : Hid (∀ W, Below w6.heap.size w6 W → Calls Tryd.prog 24 #[.agg #[.slice a0 X0.length c0, .int .i64 r0]] W fun e w' => e = .returned (.agg #[.int .i64 0, .int .i64 X0.length, .int .i64 (edg X0 : Nat), .int .i64 (dT : Nat), .int .i64 (txb X0 : Nat)]) ∧ Below W.heap.size W w') := fun W hW => measure_any X0 a0 c0 r0 dT W ((HL6.out.sc HS.out).belowB hW) HSm.out HD.out.1
      have HD1 : Hid (∀ W, Below w6.heap.size w6 W → Calls Tryd.prog 25 #[.agg #[.slice aT X0.length cT, .int .i64 0]] W fun e w' => e = .returned (.int .i64 (dT : Nat)) ∧ Below W.heap.size W w') := fun W hW => by
        have hdp := depth_any T aT cT 0 W (hs6.belowB hW) (HF.out.small HSm.out)
        rw [HF.out.len] at hdp
        refine Calls.mono hdp ?_
        rintro e w' ⟨d', rfl, h1, h2⟩
        rw [h1.only HD.out.2]
        exact ⟨rfl, h2⟩
      have HD2 : Hid (∀ W, Below w6.heap.size w6 W → Calls Tryd.prog 25 #[.agg #[.slice a0 X0.length c0, .int .i64 r0]] W fun e w' => e = .returned (.int .i64 (dT : Nat)) ∧ Below W.heap.size W w') := fun W hW => by
        refine Calls.mono (depth_any X0 a0 c0 r0 W ((HL6.out.sc HS.out).belowB hW) HSm.out) ?_
        rintro e w' ⟨d', rfl, h1, h2⟩
        rw [h1.only HD.out.1]
        exact ⟨rfl, h2⟩
      have HEq : Hid (∀ U : World, (binOp .eql 26 (.agg #[.int .i64 0, .int .i64 X0.length, .int .i64 (edg X0 : Nat), .int .i64 (dT : Nat), .int .i64 (txb X0 : Nat)]) (.agg #[.int .i64 0, .int .i64 X0.length, .int .i64 (edg X0 : Nat), .int .i64 (dT : Nat), .int .i64 (txb X0 : Nat)])).run Tryd.prog U = .ok (.bool true) U) := fun U => by
        have := eql_lim (meL X0 dT) (meL X0 dT) U
        rw [meL_self] at this
        exact this
      obtain ⟨x0, x1, -⟩ := HL6.out.all
      have t0 : w6.cell? ⟨w4.heap.size, 0, none⟩ = some (.slice aT X0.length cT) := hz6.cell 0
      have t1 : w6.cell? ⟨w4.heap.size, 1, none⟩ = some (.int .i64 0) := hz6.cell 1
      have hgx := HL6.out.s.lt
      have hgt := hz6.lt
      clear HT5a HVc HV1 hv2 hb6 hz6 hs6 HF HD HR HS HSm HFn
      go_wp2_with fail
      refine facts_region6 (fun W => Below w6.heap.size w6 W) (fun ix v W => match ix with | 0 => v = .int .i64 0 | 1 => v = .bool true | 2 => v = .bool true | 3 => v = .agg #[.slice aT X0.length cT, .int .i64 0] | 4 => v = .agg #[.int .i64 0, .int .i64 X0.length, .int .i64 (edg X0 : Nat), .int .i64 (dT : Nat), .int .i64 (txb X0 : Nat)] | 5 => v = .agg #[.slice a0 X0.length c0, .int .i64 r0] | 6 => v = .agg #[.int .i64 0, .int .i64 X0.length, .int .i64 (edg X0 : Nat), .int .i64 (dT : Nat), .int .i64 (txb X0 : Nat)] | 7 => v = .bool true | 8 => v = .bool true | 9 => v = .bool true | 10 => v = .agg #[.slice aT X0.length cT, .int .i64 0] | 11 => v = .int .i64 (dT : Nat) | 12 => v = .agg #[.slice a0 X0.length c0, .int .i64 r0] | 13 => v = .int .i64 (dT : Nat) | 14 => v = .bool true | 15 => v = .bool true | 16 => v = .bool true | 17 => v = .int .i64 f | 18 => v = .bool q | 19 => v = .int .i64 f2 | 20 => v = .bool q | 21 => v = .bool true | 22 => v = .bool true | 23 => v = .bool true | _ => True) (by kernel_rfl) (by kernel_rfl) (Below.refl _ _).drew ?step ?fin
      case step =>
        intro i' o' ho act W hG hoff hdep K hQ hK
        rcases i' with _|_|_|_|_|_|_|_|_|_|_|_|_|_|_|_|_|_|_|_|_|_|_|_|i'
        · obtain rfl := Option.some.inj ho
          have t6 : act.tmps[6]?.getD undef = .int .i64 0 := hoff 6 (by kernel_rfl)
          clear hdep hoff hG
          go_simp
          exact hQ _ (rfl)
        · obtain rfl := Option.some.inj ho
          have e0 : act.tmps[40]?.getD undef = .int .i64 0 := hdep 0 _ (by kernel_rfl) rfl
          clear hdep hoff hG
          go_simp
          exact hQ _ (rfl)
        · obtain rfl := Option.some.inj ho
          have e1 : act.tmps[41]?.getD undef = .bool true := hdep 1 _ (by kernel_rfl) rfl
          clear hdep hoff hG
          go_simp
          exact hQ _ (rfl)
        · obtain rfl := Option.some.inj ho
          have hgd : act.tmps[42]?.getD undef = .bool true := hdep 2 _ (by kernel_rfl) rfl
          have hgd' := getD_bool hgd
          have t5 : act.tmps[5]?.getD undef = .pointer (some ⟨w4.heap.size, 0, none⟩) := hoff 5 (by kernel_rfl)
          have t0W := (hG.cell (p := ⟨w4.heap.size, 0, none⟩) hgt).trans t0
          have t1W := (hG.cell (p := ⟨w4.heap.size, 1, none⟩) hgt).trans t1
          clear hdep hoff hG
          go_simp
          exact hQ _ (rfl)
        · obtain rfl := Option.some.inj ho
          have hgd : act.tmps[42]?.getD undef = .bool true := hdep 2 _ (by kernel_rfl) rfl
          have hgd' := getD_bool hgd
          have e3 : act.tmps[43]?.getD undef = .agg #[.slice aT X0.length cT, .int .i64 0] := hdep 3 _ (by kernel_rfl) rfl
          clear hdep hoff
          have HG : Hid (Below w6.heap.size w6 W) := hG
          have HC : Hid _ := HM1.out W hG
          clear hG
          go_simp
          refine Calls.mono HC.out ?_
          rintro e w' ⟨rfl, hb⟩
          exact hK _ _ (HG.out.trans (hb.mono HG.out.size)) (fun j u hj h => by
              rcases j with _|_|_|_|_|_|_|_|_|_|_|_|_|_|_|_|_|_|_|_|_|_|_|_|j
              · exact h
              · exact h
              · exact h
              · exact h
              · exact absurd rfl hj
              · exact h
              · exact h
              · exact h
              · exact h
              · exact h
              · exact h
              · exact h
              · exact h
              · exact h
              · exact h
              · exact h
              · exact h
              · exact h
              · exact h
              · exact h
              · exact h
              · exact h
              · exact h
              · exact h
              · trivial) (rfl)
        · obtain rfl := Option.some.inj ho
          have hgd : act.tmps[42]?.getD undef = .bool true := hdep 2 _ (by kernel_rfl) rfl
          have hgd' := getD_bool hgd
          have t2 : act.tmps[2]?.getD undef = .pointer (some ⟨w.heap.size, 0, none⟩) := hoff 2 (by kernel_rfl)
          have x0W := (hG.cell (p := ⟨w.heap.size, 0, none⟩) hgx).trans x0
          have x1W := (hG.cell (p := ⟨w.heap.size, 1, none⟩) hgx).trans x1
          clear hdep hoff hG
          go_simp
          exact hQ _ (rfl)
        · obtain rfl := Option.some.inj ho
          have hgd : act.tmps[42]?.getD undef = .bool true := hdep 2 _ (by kernel_rfl) rfl
          have hgd' := getD_bool hgd
          have e5 : act.tmps[45]?.getD undef = .agg #[.slice a0 X0.length c0, .int .i64 r0] := hdep 5 _ (by kernel_rfl) rfl
          clear hdep hoff
          have HG : Hid (Below w6.heap.size w6 W) := hG
          have HC : Hid _ := HM2.out W hG
          clear hG
          go_simp
          refine Calls.mono HC.out ?_
          rintro e w' ⟨rfl, hb⟩
          exact hK _ _ (HG.out.trans (hb.mono HG.out.size)) (fun j u hj h => by
              rcases j with _|_|_|_|_|_|_|_|_|_|_|_|_|_|_|_|_|_|_|_|_|_|_|_|j
              · exact h
              · exact h
              · exact h
              · exact h
              · exact h
              · exact h
              · exact absurd rfl hj
              · exact h
              · exact h
              · exact h
              · exact h
              · exact h
              · exact h
              · exact h
              · exact h
              · exact h
              · exact h
              · exact h
              · exact h
              · exact h
              · exact h
              · exact h
              · exact h
              · exact h
              · trivial) (rfl)
        · obtain rfl := Option.some.inj ho
          have hgd : act.tmps[42]?.getD undef = .bool true := hdep 2 _ (by kernel_rfl) rfl
          have hgd' := getD_bool hgd
          have e4 : act.tmps[44]?.getD undef = .agg #[.int .i64 0, .int .i64 X0.length, .int .i64 (edg X0 : Nat), .int .i64 (dT : Nat), .int .i64 (txb X0 : Nat)] := hdep 4 _ (by kernel_rfl) rfl
          have e6 : act.tmps[46]?.getD undef = .agg #[.int .i64 0, .int .i64 X0.length, .int .i64 (edg X0 : Nat), .int .i64 (dT : Nat), .int .i64 (txb X0 : Nat)] := hdep 6 _ (by kernel_rfl) rfl
          have hEq := HEq.out W
          clear hdep hoff hG
          go_simp
          exact hQ _ (rfl)
        · obtain rfl := Option.some.inj ho
          have e2 : act.tmps[42]?.getD undef = .bool true := hdep 2 _ (by kernel_rfl) rfl
          have e7 : act.tmps[47]?.getD undef = .bool true := hdep 7 _ (by kernel_rfl) rfl
          clear hdep hoff hG
          go_simp
          exact hQ _ (rfl)
        · obtain rfl := Option.some.inj ho
          have e8 : act.tmps[48]?.getD undef = .bool true := hdep 8 _ (by kernel_rfl) rfl
          clear hdep hoff hG
          go_simp
          exact hQ _ (rfl)
        · obtain rfl := Option.some.inj ho
          have hgd : act.tmps[49]?.getD undef = .bool true := hdep 9 _ (by kernel_rfl) rfl
          have hgd' := getD_bool hgd
          have t5 : act.tmps[5]?.getD undef = .pointer (some ⟨w4.heap.size, 0, none⟩) := hoff 5 (by kernel_rfl)
          have t0W := (hG.cell (p := ⟨w4.heap.size, 0, none⟩) hgt).trans t0
          have t1W := (hG.cell (p := ⟨w4.heap.size, 1, none⟩) hgt).trans t1
          clear hdep hoff hG
          go_simp
          exact hQ _ (rfl)
        · obtain rfl := Option.some.inj ho
          have hgd : act.tmps[49]?.getD undef = .bool true := hdep 9 _ (by kernel_rfl) rfl
          have hgd' := getD_bool hgd
          have e10 : act.tmps[50]?.getD undef = .agg #[.slice aT X0.length cT, .int .i64 0] := hdep 10 _ (by kernel_rfl) rfl
          clear hdep hoff
          have HG : Hid (Below w6.heap.size w6 W) := hG
          have HC : Hid _ := HD1.out W hG
          clear hG
          go_simp
          refine Calls.mono HC.out ?_
          rintro e w' ⟨rfl, hb⟩
          exact hK _ _ (HG.out.trans (hb.mono HG.out.size)) (fun j u hj h => by
              rcases j with _|_|_|_|_|_|_|_|_|_|_|_|_|_|_|_|_|_|_|_|_|_|_|_|j
              · exact h
              · exact h
              · exact h
              · exact h
              · exact h
              · exact h
              · exact h
              · exact h
              · exact h
              · exact h
              · exact h
              · exact absurd rfl hj
              · exact h
              · exact h
              · exact h
              · exact h
              · exact h
              · exact h
              · exact h
              · exact h
              · exact h
              · exact h
              · exact h
              · exact h
              · trivial) (rfl)
        · obtain rfl := Option.some.inj ho
          have hgd : act.tmps[49]?.getD undef = .bool true := hdep 9 _ (by kernel_rfl) rfl
          have hgd' := getD_bool hgd
          have t2 : act.tmps[2]?.getD undef = .pointer (some ⟨w.heap.size, 0, none⟩) := hoff 2 (by kernel_rfl)
          have x0W := (hG.cell (p := ⟨w.heap.size, 0, none⟩) hgx).trans x0
          have x1W := (hG.cell (p := ⟨w.heap.size, 1, none⟩) hgx).trans x1
          clear hdep hoff hG
          go_simp
          exact hQ _ (rfl)
        · obtain rfl := Option.some.inj ho
          have hgd : act.tmps[49]?.getD undef = .bool true := hdep 9 _ (by kernel_rfl) rfl
          have hgd' := getD_bool hgd
          have e12 : act.tmps[52]?.getD undef = .agg #[.slice a0 X0.length c0, .int .i64 r0] := hdep 12 _ (by kernel_rfl) rfl
          clear hdep hoff
          have HG : Hid (Below w6.heap.size w6 W) := hG
          have HC : Hid _ := HD2.out W hG
          clear hG
          go_simp
          refine Calls.mono HC.out ?_
          rintro e w' ⟨rfl, hb⟩
          exact hK _ _ (HG.out.trans (hb.mono HG.out.size)) (fun j u hj h => by
              rcases j with _|_|_|_|_|_|_|_|_|_|_|_|_|_|_|_|_|_|_|_|_|_|_|_|j
              · exact h
              · exact h
              · exact h
              · exact h
              · exact h
              · exact h
              · exact h
              · exact h
              · exact h
              · exact h
              · exact h
              · exact h
              · exact h
              · exact absurd rfl hj
              · exact h
              · exact h
              · exact h
              · exact h
              · exact h
              · exact h
              · exact h
              · exact h
              · exact h
              · exact h
              · trivial) (rfl)
        · obtain rfl := Option.some.inj ho
          have hgd : act.tmps[49]?.getD undef = .bool true := hdep 9 _ (by kernel_rfl) rfl
          have hgd' := getD_bool hgd
          have e11 : act.tmps[51]?.getD undef = .int .i64 (dT : Nat) := hdep 11 _ (by kernel_rfl) rfl
          have e13 : act.tmps[53]?.getD undef = .int .i64 (dT : Nat) := hdep 13 _ (by kernel_rfl) rfl
          clear hdep hoff hG
          go_simp
          exact hQ _ (rfl)
        · obtain rfl := Option.some.inj ho
          have e9 : act.tmps[49]?.getD undef = .bool true := hdep 9 _ (by kernel_rfl) rfl
          have e14 : act.tmps[54]?.getD undef = .bool true := hdep 14 _ (by kernel_rfl) rfl
          clear hdep hoff hG
          go_simp
          exact hQ _ (rfl)
        · obtain rfl := Option.some.inj ho
          have e15 : act.tmps[55]?.getD undef = .bool true := hdep 15 _ (by kernel_rfl) rfl
          clear hdep hoff hG
          go_simp
          exact hQ _ (rfl)
        · obtain rfl := Option.some.inj ho
          have hgd : act.tmps[56]?.getD undef = .bool true := hdep 16 _ (by kernel_rfl) rfl
          have hgd' := getD_bool hgd
          have t7 : act.tmps[7]?.getD undef = .int .i64 f := hoff 7 (by kernel_rfl)
          clear hdep hoff hG
          go_simp
          exact hQ _ (rfl)
        · obtain rfl := Option.some.inj ho
          have hgd : act.tmps[56]?.getD undef = .bool true := hdep 16 _ (by kernel_rfl) rfl
          have hgd' := getD_bool hgd
          have e17 : act.tmps[57]?.getD undef = .int .i64 f := hdep 17 _ (by kernel_rfl) rfl
          clear hdep hoff hG
          go_simp
          exact hQ _ (congrArg Value.bool HQ1.out)
        · obtain rfl := Option.some.inj ho
          have hgd : act.tmps[56]?.getD undef = .bool true := hdep 16 _ (by kernel_rfl) rfl
          have hgd' := getD_bool hgd
          have t9 : act.tmps[9]?.getD undef = .int .i64 f2 := hoff 9 (by kernel_rfl)
          clear hdep hoff hG
          go_simp
          exact hQ _ (rfl)
        · obtain rfl := Option.some.inj ho
          have hgd : act.tmps[56]?.getD undef = .bool true := hdep 16 _ (by kernel_rfl) rfl
          have hgd' := getD_bool hgd
          have e19 : act.tmps[59]?.getD undef = .int .i64 f2 := hdep 19 _ (by kernel_rfl) rfl
          clear hdep hoff hG
          go_simp
          exact hQ _ (congrArg Value.bool HQ2.out)
        · obtain rfl := Option.some.inj ho
          have hgd : act.tmps[56]?.getD undef = .bool true := hdep 16 _ (by kernel_rfl) rfl
          have hgd' := getD_bool hgd
          have e18 : act.tmps[58]?.getD undef = .bool q := hdep 18 _ (by kernel_rfl) rfl
          have e20 : act.tmps[60]?.getD undef = .bool q := hdep 20 _ (by kernel_rfl) rfl
          clear hdep hoff hG
          go_simp
          exact hQ _ (rfl)
        · obtain rfl := Option.some.inj ho
          have e16 : act.tmps[56]?.getD undef = .bool true := hdep 16 _ (by kernel_rfl) rfl
          have e21 : act.tmps[61]?.getD undef = .bool true := hdep 21 _ (by kernel_rfl) rfl
          clear hdep hoff hG
          go_simp
          exact hQ _ (rfl)
        · obtain rfl := Option.some.inj ho
          have e22 : act.tmps[62]?.getD undef = .bool true := hdep 22 _ (by kernel_rfl) rfl
          clear hdep hoff hG
          go_simp
          exact hQ _ (rfl)
        · exact absurd ho (by simp)
      case fin =>
        intro V W hG hF
        have yz : V (some 4) = .bool true := hF 23 _ rfl
        have HB : Hid (Below w.heap.size w W) := (HL6.out.more hG).bel
        clear hF hG HL6
        simp only [fillA, Act.put, List.setIfInBounds_toArray, List.set_cons_zero, List.set_cons_succ, yz]
        generalize V (some 40) = z40
        generalize V (some 41) = z41
        generalize V (some 42) = z42
        generalize V (some 43) = z43
        generalize V (some 44) = z44
        generalize V (some 45) = z45
        generalize V (some 46) = z46
        generalize V (some 47) = z47
        generalize V (some 48) = z48
        generalize V (some 49) = z49
        generalize V (some 50) = z50
        generalize V (some 51) = z51
        generalize V (some 52) = z52
        generalize V (some 53) = z53
        generalize V (some 54) = z54
        generalize V (some 55) = z55
        generalize V (some 56) = z56
        generalize V (some 57) = z57
        generalize V (some 58) = z58
        generalize V (some 59) = z59
        generalize V (some 60) = z60
        generalize V (some 61) = z61
        generalize V (some 62) = z62
        clear yz
        go_wp2_with fail
        go_ret
        exact ⟨rfl, HB.out⟩

set_option maxRecDepth 100000 in
theorem lifted (os : Os) (started : os.Started) (H : Type) (enc : TypeId × Value → H) :
    ReturnsInHanded {} Tryd.checked os 6 .any (fun w args => (Rows.oldMeasureSpec.pre enc Tryd.prog Tryd.f6 [] false w args ∧ laidMetH Tryd.prog laid16 w) ∧ sizedMet enc Tryd.prog Tryd.f6 (OpenSpec.ofChange Rows.oldMeasureSpec) false w args)
      (Rows.oldMeasureSpec.post enc Tryd.prog Tryd.f6 false true false false) := by
  refine returnsInHanded_of_change_and (C := Tryd.checked) (X := fun w _ => laidMetH Tryd.prog laid16 w) (fun _ _ _ hh h => h.of_heap hh) own started (by kernel_rfl) Tryd.func6
    (ChangeSpec.witness_shaped (enc := enc) (C := Tryd.checked) (os := os) (X := fun w _ => laidMetH Tryd.prog laid16 w) false (World.doorLaid Tryd.prog 400 os) #[.agg #[.slice none 0 0, .int .i64 0], .agg #[.int .i64 0, .int .i64 0, .int .i64 0, .int .i64 0, .int .i64 0]] 8 rfl (World.shaped_of_RefB (by kernel_rfl) (by kernel_rfl)) (by kernel_rfl) (by kernel_rfl) (by kernel_rfl) (door16 os _)) ?_
  intro W base args ds gs before hval0 hW _ _ hL _
  have hval : ∀ (j : Nat) t v, Tryd.f6.params[j]? = some t → args[j]? = some v → Value.okWide Tryd.prog W .any base t v := hval0
  have hW' := hW
  obtain ⟨p, q, hA0, hV, rfl, hfz, hnd⟩ := hW
  have hA : DataW.TrodAll enc Tryd.prog W 0 (fun _ => true) true Tryd.f6.params.toList args.toList ds p := hA0
  rw [Tryd.params6] at hA hval
  obtain ⟨v0, vs0, d0, ds0, p0, q0, hargs, rfl, rfl, h0, r0⟩ := trodAll_cons hA
  obtain ⟨v1, vs1, d1, ds1, p1, q1, rfl, rfl, rfl, h1, r1⟩ := trodAll_cons r0
  obtain ⟨rfl, rfl, rfl⟩ := trodAll_nil r1
  obtain rfl : args = #[v0, v1] := by cases args; simp_all
  obtain ⟨rfl, rfl⟩ := trodVars_none hV
  have K0 := h0
  have lt0 : ∀ x ∈ p0, x.block < W.heap.size := by obtain ⟨m, hm⟩ := K0; exact DataW.trod_lt m _ _ _ hm
  obtain ⟨X0, a0, c0, rt0, rfl, w0⟩ := open_scene Tryd.underlying24 (by kernel_rfl) (by kernel_rfl) Tryd.underlying22 Tryd.underlying3 Tryd.underlying48 (by kernel_rfl) rfl rfl rfl rfl (by kernel_rfl) (by kernel_rfl) (by kernel_rfl) (by kernel_rfl) Tryd.underlying3 Tryd.underlying44 Tryd.underlying45 Tryd.underlying46 Tryd.underlying2 Tryd.underlying9 Tryd.underlying3 (by kernel_rfl) (by kernel_rfl) (by kernel_rfl) (hval 0 24 v0 rfl rfl) h0
  have K1 := h1
  have lt1 : ∀ x ∈ p1, x.block < W.heap.size := by obtain ⟨m, hm⟩ := K1; exact DataW.trod_lt m _ _ _ hm
  obtain ⟨l1, rfl, w1⟩ := open_lim Tryd.underlying26 (by kernel_rfl) (by kernel_rfl) Tryd.underlying3 Tryd.underlying3 Tryd.underlying3 Tryd.underlying3 Tryd.underlying3 (hval 1 26 v1 rfl rfl) h1
  clear hA0 hval0
  refine (walk X0 a0 c0 rt0 l1 W w0 w1 (tabs16_of hL)).mono fun e W' ⟨he, bel⟩ => ?_
  subst he
  exact ⟨_, rfl, _, _, _, [], _, [], hW', trodAll_mk1 (shut_bool Tryd.underlying4 _), (trodAll_cons_mk (Below.trod laidOut (by kernel_rfl) (of_decide_eq_true (by kernel_rfl)) K0 bel lt0) (trodAll_cons_mk (Below.trod laidOut (by kernel_rfl) (of_decide_eq_true (by kernel_rfl)) K1 bel lt1) trodAll_mk0)), rfl, bel.frame _, fun h => by cases h⟩

theorem row : Rows.oldMeasureRow.holds Tryd.pinned (OpenSpec.ofChange Rows.oldMeasureSpec) :=
  OpenClaim.holds_of_wide 6 Tryd.f6 rfl rfl rfl rfl rfl rfl rfl ⟨rfl, rfl, rfl, rfl, rfl⟩ rfl rfl rfl rfl rfl (by kernel_rfl) Tryd.func6 (by kernel_rfl)
    (of_decide_eq_true (by kernel_rfl)) (by unfold Func.isWrapper; first | (rw [if_pos (by decide +kernel)]; kernel_rfl) | (rw [if_neg (by decide +kernel)]; exact ⟨rfl, rfl⟩))
    (fun os started H enc _ => lifted os started H enc)

/-- No parameter wants a stand-in; the program's own looks are as the card says. -/
theorem plain (f : FuncId) (fn : Func) (hf : Tryd.pinned.checked.prog.funcNamed Rows.oldMeasureRow.func = some f) (hfn : Tryd.pinned.checked.prog.funcs[f]? = some fn) :
    false = Tryd.pinned.checked.prog.looks [] ∧ ∀ (j : Nat) t, fn.params[j]? = some t → Tryd.pinned.checked.prog.wantsStandIn t = false := by
  obtain rfl : f = 6 := Option.some.inj ((show Tryd.prog.funcNamed Rows.oldMeasureRow.func = some 6 by kernel_rfl).symm.trans hf) |>.symm
  obtain rfl : fn = Tryd.f6 := (Option.some.inj (Tryd.func6.symm.trans hfn)).symm
  refine ⟨by kernel_rfl, fun j t ht => ?_⟩
  have hm := Array.mem_of_getElem? ht
  have hall : (Tryd.f6.params.toList.all fun u => !Tryd.prog.wantsStandIn u) = true := by kernel_rfl
  exact (show Tryd.prog.wantsStandIn t = false by simpa using List.all_eq_true.1 hall t (by simpa using hm))

/-- ████ THE CARD ████ -/
theorem over : Rows.OldMeasureCardSaid :=
  Claim7.holds_tied_plain_at .later [] _ _ _ _ row (fun _ h => by cases h) (by kernel_rfl) (fun _ h => by cases h) oldMeasure_row_tie rfl ⟨rfl, rfl⟩ (by kernel_rfl) rfl plain (by kernel_rfl)

end Go.Proofs.YtkcaeajhbeenbaaDoor.oldMeasure

namespace Go.Proofs.YtkcaeajhbeenbaaDoor
theorem oldMeasure_holds : Rows.OldMeasureCardSaid := oldMeasure.over
#print axioms oldMeasure_holds
end Go.Proofs.YtkcaeajhbeenbaaDoor
