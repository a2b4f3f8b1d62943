/- For every scene: with its nodes in the other order the program's Check tells the same error, Depth is the same, and Edges is (scenes greater than the law plays with are let go by the law itself); the argument reads afterwards as before. -/
import Derived.Test.YtlfibkfjklggeaaRows
import Derived.WalkKit
import Derived.ProofKit
import Derived.OpenShut
import Derived.ShutString
import Derived.Below
import Derived.Test.YtlfibkfjklggeaaGTrn
import Derived.ChangeOld
namespace Go.Proofs.Ytlfibkfjklggeaa.graphTurned
open Go.ChangeShapes Go.WideShapes Go.ChangeAt Go.RowKit
open Go.ChangeMaps (open_string shut_string)
set_option linter.unusedVariables false

theorem own : ownKnob Try.prog.godebug = none := by kernel_rfl
theorem laidOut : laidOutB Try.prog = true := by kernel_rfl

/-- The facts of the region that holds the two scenes against each other. -/
def gtV (sv tv : Value) (e d E : Int) : Nat → Value → Prop
  | 0, v => v = .int .i64 e
  | 1, v => v = .int .i64 e
  | 4, v => v = sv
  | 5, v => v = .int .i64 d
  | 6, v => v = tv
  | 7, v => v = .int .i64 d
  | 11, v => v = sv
  | 12, v => v = .int .i64 E
  | 13, v => v = tv
  | 14, v => v = .int .i64 E
  | _, v => v = .bool true
def gtF (sv tv : Value) (e d E : Int) (i : Nat) (v : Value) (_ : World) : Prop := gtV sv tv e d E i v
theorem gtF_stab (sv tv : Value) (e d E : Int) : ∀ i j v w w', i ≠ j → World.grownBy w w' (if i = 99 then none else none) → gtF sv tv e d E j v w → gtF sv tv e d E j v w' := fun _ _ _ _ _ _ _ h => h
theorem getD_bool {o : Option Value} {b : Bool} (h : o.getD undef = .bool b) : o = some (.bool b) := by
  cases o with
  | none => exact absurd h (by unfold undef; simp)
  | some v => simpa using h

set_option maxRecDepth 10000 in
set_option maxHeartbeats 400000 in
theorem walk (X0 : List Nx) (a0 : Option Addr) (c0 : Nat) (r0 : Int) (w : World) (w0 : IsSc w a0 X0 r0) :
    Calls Try.prog 7 #[.agg #[.slice a0 X0.length c0, .int .i64 r0]] w fun e w' => e = .returned (.bool true) ∧ Below w.heap.size w w' := by
  have HA : Hid (∀ W, Calls Try.prog 8 #[] W fun e w' => e = .returned (.bool true) ∧ Below W.heap.size W w') := awake_any
  have HS : Hid (IsSc w a0 X0 r0) := w0
  have HL : Hid (Lw w (w.alloc (.cells #[.slice a0 X0.length c0, .int .i64 r0] 24)) a0 X0 c0 r0) := Lw.start w a0 X0 c0 r0
  clear w0
  go_enter Try.func7, Try.ntmps7
  go_wp2_with fail
  refine (HA.out _).mono ?_
  rintro e w1 ⟨rfl, hb1⟩
  have HL1 : Hid (Lw w w1 a0 X0 c0 r0) := HL.out.more hb1
  have x0 := HL1.out.c0
  have x1 := HL1.out.c1
  have HG : Hid (Calls Try.prog 9 #[.agg #[.slice a0 X0.length c0, .int .i64 r0]] w1 fun e w' => GreatOut X0 w1 w' e) := sgreat_any X0 a0 c0 r0 w1 (HL1.out.sc HS.out)
  clear HL hb1
  go_wp2_with fail
  refine Calls.mono HG.out ?_
  rintro e w2 ⟨g, rfl, hg, hb2⟩
  have HL2 : Hid (Lw w w2 a0 X0 c0 r0) := HL1.out.more hb2
  clear HG HL1 hb2 x0 x1
  cases g with
  | true =>
    go_wp2_with fail
    refine (HA.out _).mono ?_
    rintro e w3 ⟨rfl, hb3⟩
    have HB : Hid (Below w.heap.size w w3) := (HL2.out.more hb3).bel
    clear HL2 hb3
    go_wp2_with fail
    go_ret
    exact ⟨rfl, HB.out⟩
  | false =>
    have hsm : Small X0 := hg rfl
    have HSm : Hid (Small X0) := hsm
    have x0 := HL2.out.c0
    have x1 := HL2.out.c1
    have HC : Hid (Calls Try.prog 23 #[.agg #[.slice a0 X0.length c0, .int .i64 r0]] w2 fun e w' => STurnOut X0 r0 w2 w' e) := sturn_any X0 a0 c0 r0 w2 (HL2.out.sc HS.out) hsm
    clear hg hsm HA
    go_wp2_with fail
    refine Calls.mono HC.out ?_
    rintro e w3 ⟨T, aT, cT, rfl, hTl, hTn, hs3, hb3⟩
    have HTn : Hid (Tn X0 T r0 (trn X0.length r0)) := ⟨hTl, fun j hj => by rw [hTn j hj]; rfl, HSm.out.1, rfl, HS.out.root, HS.out.kids⟩
    have HTs : Hid (Small T) := Tn.small HSm.out hTl hTn
    obtain ⟨rT, hrT⟩ : ∃ rT, trn X0.length r0 = rT := ⟨_, rfl⟩
    rw [hrT] at HTn ⊢
    rw [hTl]
    have HTl : Hid (X0.length = T.length) := hTl.symm
    have HL3 : Hid (Lw w w3 a0 X0 c0 r0) := HL2.out.more hb3
    have HT3 : Hid (AtN 24 (w3.alloc (.cells #[.slice aT X0.length cT, .int .i64 rT] 24)) w3.heap.size #[.slice aT X0.length cT, .int .i64 rT] ∧ ScAt (w3.alloc (.cells #[.slice aT X0.length cT, .int .i64 rT] 24)) aT T) := ⟨AtN.new w3 24 _, hs3.alloc _⟩
    have HL4 : Hid (Lw w (w3.alloc (.cells #[.slice aT X0.length cT, .int .i64 rT] 24)) a0 X0 c0 r0) := HL3.out.more ((Below.refl w3.heap.size w3).alloc (Nat.le_refl _) _)
    clear HC HL2 hs3 hb3 x0 x1 hTl hTn HL3 hrT
    generalize hw4 : w3.alloc (.cells #[.slice aT X0.length cT, .int .i64 rT] 24) = w4 at HT3 HL4
    have x0 := HL4.out.c0
    have x1 := HL4.out.c1
    have HC : Hid (Calls Try.prog 10 #[.agg #[.slice a0 X0.length c0, .int .i64 r0]] w4 fun e w' => CheckOut X0 r0 w4 w' e) := check_any X0 a0 c0 r0 w4 (HL4.out.sc HS.out) HSm.out
    go_wp2_with fail
    clear hw4
    refine Calls.mono HC.out ?_
    rintro e w5 ⟨e1, z1, rfl, hc1, hb5⟩
    have HL5 : Hid (Lw w w5 a0 X0 c0 r0) := HL4.out.more hb5
    have HT5 : Hid (AtN 24 w5 w3.heap.size #[.slice aT X0.length cT, .int .i64 rT] ∧ ScAt w5 aT T) := ⟨AtN.belowAll HT3.out.1 hb5, HT3.out.2.belowB hb5⟩
    have Hc1 : Hid (CheckIs X0 r0 e1 z1) := hc1
    clear HC HL4 HT3 hb5 hc1 x0 x1
    have y0 : w5.cell? ⟨w3.heap.size, 0, none⟩ = some (.slice aT X0.length cT) := HT5.out.1.cell 0
    have y1 : w5.cell? ⟨w3.heap.size, 1, none⟩ = some (.int .i64 rT) := HT5.out.1.cell 1
    have HC : Hid (Calls Try.prog 10 #[.agg #[.slice aT X0.length cT, .int .i64 rT]] w5 fun e w' => CheckOut T rT w5 w' e) := by
      have := check_any T aT cT rT w5 HT5.out.2 HTs.out
      rw [← HTl.out] at this
      exact this
    go_wp2_with fail
    refine Calls.mono HC.out ?_
    rintro e w6 ⟨e2, z2, rfl, hc2, hb6⟩
    obtain rfl : e2 = e1 := HTn.out.code Hc1.out hc2
    have HL6 : Hid (Lw w w6 a0 X0 c0 r0) := HL5.out.more hb6
    have HT6 : Hid (AtN 24 w6 w3.heap.size #[.slice aT X0.length cT, .int .i64 rT] ∧ ScAt w6 aT T) := ⟨AtN.belowAll HT5.out.1 hb6, HT5.out.2.belowB hb6⟩
    obtain ⟨d, hd1, hd2⟩ := HTn.out.fix
    have HDs : Hid (∀ W, Lw w W a0 X0 c0 r0 → Calls Try.prog 20 #[.agg #[.slice a0 X0.length c0, .int .i64 r0]] W fun e w' => e = .returned (.int .i64 (d : Int)) ∧ Below W.heap.size W w') := fun W hW => by
      refine Calls.mono (depth_any X0 a0 c0 r0 W (hW.sc HS.out) HSm.out) ?_
      rintro e w' ⟨d2, rfl, h2, h3⟩
      rw [hd1 d2 h2]
      exact ⟨rfl, h3⟩
    have HDt : Hid (∀ W, ScAt W aT T → Calls Try.prog 20 #[.agg #[.slice aT X0.length cT, .int .i64 rT]] W fun e w' => e = .returned (.int .i64 (d : Int)) ∧ Below W.heap.size W w') := fun W hW => by
      rw [HTl.out]
      refine Calls.mono (depth_any T aT cT rT W hW HTs.out) ?_
      rintro e w' ⟨d2, rfl, h2, h3⟩
      rw [hd2 d2 h2]
      exact ⟨rfl, h3⟩
    have HEs : Hid (∀ W, Lw w W a0 X0 c0 r0 → Calls Try.prog 13 #[.agg #[.slice a0 X0.length c0, .int .i64 r0]] W fun e w' => e = .returned (.int .i64 ((edg X0 : Nat) : Int)) ∧ Below W.heap.size W w') := fun W hW => edges_any X0 a0 c0 r0 W (hW.sc HS.out) HSm.out
    have HEt : Hid (∀ W, ScAt W aT T → Calls Try.prog 13 #[.agg #[.slice aT X0.length cT, .int .i64 rT]] W fun e w' => e = .returned (.int .i64 ((edg X0 : Nat) : Int)) ∧ Below W.heap.size W w') := fun W hW => by
      have := edges_any T aT cT rT W hW HTs.out
      rw [HTn.out.edg, ← HTl.out] at this
      exact this
    generalize edg X0 = E at *
    clear HC HL5 HT5 hb6 hc2 Hc1 HTn HTs HTl y0 y1 hd1 hd2 HS HSm
    go_wp2_with fail
    refine facts_region none 99 (gtF (.agg #[.slice a0 X0.length c0, .int .i64 r0]) (.agg #[.slice aT X0.length cT, .int .i64 rT]) e2 d E) (by kernel_rfl) (by kernel_rfl) (gtF_stab (.agg #[.slice a0 X0.length c0, .int .i64 r0]) (.agg #[.slice aT X0.length cT, .int .i64 rT]) e2 d E) ?step ?fin
    case step =>
      intro i o ho a' W hg hstill hoff hdep K hK
      have t1 : a'.tmps[1]?.getD undef = .pointer (some ⟨w.heap.size, 0, none⟩) := hoff 1 (by kernel_rfl)
      have t3 : a'.tmps[3]?.getD undef = .pointer (some ⟨w3.heap.size, 0, none⟩) := hoff 3 (by kernel_rfl)
      have t4 : a'.tmps[4]?.getD undef = .int .i64 e2 := hoff 4 (by kernel_rfl)
      have t6 : a'.tmps[6]?.getD undef = .int .i64 e2 := hoff 6 (by kernel_rfl)
      have hLW : Lw w W a0 X0 c0 r0 := HL6.out.more (below_of_grown hg)
      have hTW : AtN 24 W w3.heap.size #[.slice aT X0.length cT, .int .i64 rT] := AtN.belowAll HT6.out.1 (below_of_grown hg)
      have x0 := hLW.c0
      have x1 := hLW.c1
      have y0 : W.cell? ⟨w3.heap.size, 0, none⟩ = some (.slice aT X0.length cT) := hTW.cell 0
      have y1 : W.cell? ⟨w3.heap.size, 1, none⟩ = some (.int .i64 rT) := hTW.cell 1
      have C1 := HDs.out W hLW
      have C2 := HDt.out W (HT6.out.2.belowB (below_of_grown hg))
      have C3 := HEs.out W hLW
      have C4 := HEt.out W (HT6.out.2.belowB (below_of_grown hg))
      clear hg hstill hoff hLW hTW HL6 HT6 HDs HDt HEs HEt
      rcases i with _|_|_|_|_|_|_|_|_|_|_|_|_|_|_|_|_|_|i
      · obtain rfl := Option.some.inj ho
        clear hdep C1 C2 C3 C4
        go_simp
        exact hK _ _ (grown_refl _ _) (by simp [gtF, gtV, own1])
      · obtain rfl := Option.some.inj ho
        clear hdep C1 C2 C3 C4
        go_simp
        exact hK _ _ (grown_refl _ _) (by simp [gtF, gtV, own1])
      · obtain rfl := Option.some.inj ho
        have e0 : a'.tmps[27]?.getD undef = .int .i64 e2 := hdep 0 _ (by kernel_rfl) rfl
        have e1 : a'.tmps[28]?.getD undef = .int .i64 e2 := hdep 1 _ (by kernel_rfl) rfl
        clear hdep C1 C2 C3 C4
        go_simp
        exact hK _ _ (grown_refl _ _) (by simp [gtF, gtV, own1])
      · obtain rfl := Option.some.inj ho
        have e0 : a'.tmps[29]?.getD undef = .bool true := hdep 2 _ (by kernel_rfl) rfl
        clear hdep C1 C2 C3 C4
        go_simp
        exact hK _ _ (grown_refl _ _) (by simp [gtF, gtV, own1])
      · obtain rfl := Option.some.inj ho
        have hgd : a'.tmps[30]?.getD undef = .bool true := hdep 3 _ (by kernel_rfl) rfl
        have hgd' := getD_bool hgd
        clear hdep C1 C2 C3 C4
        go_simp
        exact hK _ _ (grown_refl _ _) (by simp [gtF, gtV, own1])
      · obtain rfl := Option.some.inj ho
        have e0 : a'.tmps[31]?.getD undef = .agg #[.slice a0 X0.length c0, .int .i64 r0] := hdep 4 _ (by kernel_rfl) rfl
        have hgd : a'.tmps[30]?.getD undef = .bool true := hdep 3 _ (by kernel_rfl) rfl
        have hgd' := getD_bool hgd
        clear hdep C2 C3 C4
        go_simp
        refine Calls.mono C1 ?_
        rintro e w' ⟨rfl, h3⟩
        exact hK _ _ (grown_of_below h3 _) rfl
      · obtain rfl := Option.some.inj ho
        have hgd : a'.tmps[30]?.getD undef = .bool true := hdep 3 _ (by kernel_rfl) rfl
        have hgd' := getD_bool hgd
        clear hdep C1 C2 C3 C4
        go_simp
        exact hK _ _ (grown_refl _ _) (by simp [gtF, gtV, own1])
      · obtain rfl := Option.some.inj ho
        have e0 : a'.tmps[33]?.getD undef = .agg #[.slice aT X0.length cT, .int .i64 rT] := hdep 6 _ (by kernel_rfl) rfl
        have hgd : a'.tmps[30]?.getD undef = .bool true := hdep 3 _ (by kernel_rfl) rfl
        have hgd' := getD_bool hgd
        clear hdep C1 C3 C4
        go_simp
        refine Calls.mono C2 ?_
        rintro e w' ⟨rfl, h3⟩
        exact hK _ _ (grown_of_below h3 _) rfl
      · obtain rfl := Option.some.inj ho
        have e0 : a'.tmps[32]?.getD undef = .int .i64 (d : Int) := hdep 5 _ (by kernel_rfl) rfl
        have e1 : a'.tmps[34]?.getD undef = .int .i64 (d : Int) := hdep 7 _ (by kernel_rfl) rfl
        have hgd : a'.tmps[30]?.getD undef = .bool true := hdep 3 _ (by kernel_rfl) rfl
        have hgd' := getD_bool hgd
        clear hdep C1 C2 C3 C4
        go_simp
        exact hK _ _ (grown_refl _ _) (by simp [gtF, gtV, own1])
      · obtain rfl := Option.some.inj ho
        have e0 : a'.tmps[30]?.getD undef = .bool true := hdep 3 _ (by kernel_rfl) rfl
        have e1 : a'.tmps[35]?.getD undef = .bool true := hdep 8 _ (by kernel_rfl) rfl
        clear hdep C1 C2 C3 C4
        go_simp
        exact hK _ _ (grown_refl _ _) (by simp [gtF, gtV, own1])
      · obtain rfl := Option.some.inj ho
        have e0 : a'.tmps[36]?.getD undef = .bool true := hdep 9 _ (by kernel_rfl) rfl
        clear hdep C1 C2 C3 C4
        go_simp
        exact hK _ _ (grown_refl _ _) (by simp [gtF, gtV, own1])
      · obtain rfl := Option.some.inj ho
        have hgd : a'.tmps[37]?.getD undef = .bool true := hdep 10 _ (by kernel_rfl) rfl
        have hgd' := getD_bool hgd
        clear hdep C1 C2 C3 C4
        go_simp
        exact hK _ _ (grown_refl _ _) (by simp [gtF, gtV, own1])
      · obtain rfl := Option.some.inj ho
        have e0 : a'.tmps[38]?.getD undef = .agg #[.slice a0 X0.length c0, .int .i64 r0] := hdep 11 _ (by kernel_rfl) rfl
        have hgd : a'.tmps[37]?.getD undef = .bool true := hdep 10 _ (by kernel_rfl) rfl
        have hgd' := getD_bool hgd
        clear hdep C1 C2 C4
        go_simp
        refine Calls.mono C3 ?_
        rintro e w' ⟨rfl, h3⟩
        exact hK _ _ (grown_of_below h3 _) rfl
      · obtain rfl := Option.some.inj ho
        have hgd : a'.tmps[37]?.getD undef = .bool true := hdep 10 _ (by kernel_rfl) rfl
        have hgd' := getD_bool hgd
        clear hdep C1 C2 C3 C4
        go_simp
        exact hK _ _ (grown_refl _ _) (by simp [gtF, gtV, own1])
      · obtain rfl := Option.some.inj ho
        have e0 : a'.tmps[40]?.getD undef = .agg #[.slice aT X0.length cT, .int .i64 rT] := hdep 13 _ (by kernel_rfl) rfl
        have hgd : a'.tmps[37]?.getD undef = .bool true := hdep 10 _ (by kernel_rfl) rfl
        have hgd' := getD_bool hgd
        clear hdep C1 C2 C3
        go_simp
        refine Calls.mono C4 ?_
        rintro e w' ⟨rfl, h3⟩
        exact hK _ _ (grown_of_below h3 _) rfl
      · obtain rfl := Option.some.inj ho
        have e0 : a'.tmps[39]?.getD undef = .int .i64 (E : Int) := hdep 12 _ (by kernel_rfl) rfl
        have e1 : a'.tmps[41]?.getD undef = .int .i64 (E : Int) := hdep 14 _ (by kernel_rfl) rfl
        have hgd : a'.tmps[37]?.getD undef = .bool true := hdep 10 _ (by kernel_rfl) rfl
        have hgd' := getD_bool hgd
        clear hdep C1 C2 C3 C4
        go_simp
        exact hK _ _ (grown_refl _ _) (by simp [gtF, gtV, own1])
      · obtain rfl := Option.some.inj ho
        have e0 : a'.tmps[37]?.getD undef = .bool true := hdep 10 _ (by kernel_rfl) rfl
        have e1 : a'.tmps[42]?.getD undef = .bool true := hdep 15 _ (by kernel_rfl) rfl
        clear hdep C1 C2 C3 C4
        go_simp
        exact hK _ _ (grown_refl _ _) (by simp [gtF, gtV, own1])
      · obtain rfl := Option.some.inj ho
        have e0 : a'.tmps[43]?.getD undef = .bool true := hdep 16 _ (by kernel_rfl) rfl
        clear hdep C1 C2 C3 C4
        go_simp
        exact hK _ _ (grown_refl _ _) (by simp [gtF, gtV, own1])
      · exact absurd ho (by simp)
    case fin =>
      intro V W hg hF
      have y17 : V (some 2) = .bool true := hF 17 _ rfl
      have HB : Hid (Below w.heap.size w W) := (HL6.out.more (below_of_grown hg)).bel
      clear hF hg HL6 HT6 HDs HDt HEs HEt
      simp only [fillA, Act.put, List.setIfInBounds_toArray, List.set_cons_zero, List.set_cons_succ, y17]
      generalize V (some 27) = z27
      generalize V (some 28) = z28
      generalize V (some 29) = z29
      generalize V (some 30) = z30
      generalize V (some 31) = z31
      generalize V (some 32) = z32
      generalize V (some 33) = z33
      generalize V (some 34) = z34
      generalize V (some 35) = z35
      generalize V (some 36) = z36
      generalize V (some 37) = z37
      generalize V (some 38) = z38
      generalize V (some 39) = z39
      generalize V (some 40) = z40
      generalize V (some 41) = z41
      generalize V (some 42) = z42
      generalize V (some 43) = z43
      clear y17
      go_wp2_with fail
      go_ret
      exact ⟨rfl, HB.out⟩

set_option maxRecDepth 100000 in
theorem lifted (os : Os) (started : os.Started) (H : Type) (enc : TypeId × Value → H) :
    ReturnsInHanded {} Try.checked os 7 .any (Rows.graphTurnedSpec.pre6 enc Try.prog Try.f7 Rows.graphTurnedRow.domain false) (Rows.graphTurnedSpec.post enc Try.prog Try.f7 false true false false) := by
  refine returnsInHanded_of_change (C := Try.checked) own started (by kernel_rfl) Try.func7
    (ChangeSpec.witness6 (enc := enc) (C := Try.checked) false ⟨#[], #[.agg #[.slice none 0 0, .int .i64 0]], []⟩ 8 (by kernel_rfl) (by kernel_rfl) (by kernel_rfl) (by kernel_rfl)) ?_
  intro W base args ds gs before hval0 hW hcnd _
  have hval : ∀ (j : Nat) t v, Try.f7.params[j]? = some t → args[j]? = some v → Value.okWide Try.prog W .any base t v := hval0
  have hW' := hW
  obtain ⟨p, q, hA0, hV, rfl, hfz, hnd⟩ := hW
  have hA : DataW.TrodAll enc Try.prog W 0 (fun _ => true) true Try.f7.params.toList args.toList ds p := hA0
  rw [Try.params7] at hA hval
  obtain ⟨v0, vs0, d0, ds0, p0, q0, hargs, rfl, rfl, h0, r0⟩ := trodAll_cons hA
  obtain ⟨rfl, rfl, rfl⟩ := trodAll_nil r0
  obtain rfl : args = #[v0] := by cases args; simp_all
  obtain ⟨rfl, rfl⟩ := trodVars_none hV
  have K0 := h0
  have lt0 : ∀ x ∈ p0, x.block < W.heap.size := by obtain ⟨m, hm⟩ := K0; exact DataW.trod_lt m _ _ _ hm
  obtain ⟨X0, a0, c0, rt0, rfl, w0⟩ := open_scene Try.underlying24 (by kernel_rfl) (by kernel_rfl) Try.underlying22 Try.underlying3 Try.underlying45 (by kernel_rfl) rfl rfl rfl rfl (by kernel_rfl) (by kernel_rfl) (by kernel_rfl) (by kernel_rfl) Try.underlying3 Try.underlying42 Try.underlying43 Try.underlying34 Try.underlying2 Try.underlying9 Try.underlying3 (by kernel_rfl) (by kernel_rfl) (by kernel_rfl) (hval 0 24 v0 rfl rfl) h0
  clear hA0 hval0
  refine (walk X0 a0 c0 rt0 W w0).mono fun e W' ⟨he, bel⟩ => ?_
  subst he
  exact ⟨_, rfl, _, _, _, [], _, [], hW', trodAll_mk1 (shut_bool Try.underlying4 _), (trodAll_cons_mk (Below.trod laidOut (by kernel_rfl) (of_decide_eq_true (by kernel_rfl)) K0 bel lt0) trodAll_mk0), rfl, bel.frame _, fun h => by cases h⟩

theorem over : Rows.graphTurnedRow.holds Try.pinned (OpenSpec.ofChange Rows.graphTurnedSpec) :=
  OpenClaim.holds_of_wide 7 Try.f7 rfl rfl rfl rfl rfl rfl rfl ⟨rfl, rfl, rfl, rfl, rfl⟩ rfl rfl rfl rfl rfl (by kernel_rfl) Try.func7 (by kernel_rfl)
    (of_decide_eq_true (by kernel_rfl)) (by unfold Func.isWrapper; first | (rw [if_pos (by decide +kernel)]; kernel_rfl) | (rw [if_neg (by decide +kernel)]; exact ⟨rfl, rfl⟩))
    (fun os started H enc _ => lifted os started H enc)

end Go.Proofs.Ytlfibkfjklggeaa.graphTurned

namespace Go.Proofs.Ytlfibkfjklggeaa
theorem graphTurned_holds : Rows.GraphTurnedSaid := graphTurned.over
#print axioms graphTurned_holds
end Go.Proofs.Ytlfibkfjklggeaa
