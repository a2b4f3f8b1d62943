/- For every scene: the program's Depth tells how many nodes the longest way down has, as the document's rounds count them, at least 1 and at most all; 0 if something is wrong (scenes greater than the law plays with are let go by the law itself); the argument reads afterwards as before. -/
import Derived.Test.YtlfibkfjklggeaaRows
import Derived.WalkKit
import Derived.ProofKit
import Derived.OpenShut
import Derived.ShutString
import Derived.Below
import Derived.Test.YtlfibkfjklggeaaGLaw
import Derived.ChangeOld
namespace Go.Proofs.Ytlfibkfjklggeaa.graphDepth
open Go.ChangeShapes Go.WideShapes Go.ChangeAt Go.RowKit
open Go.ChangeMaps (open_string shut_string)
set_option linter.unusedVariables false

theorem own : ownKnob Try.prog.godebug = none := by kernel_rfl
theorem laidOut : laidOutB Try.prog = true := by kernel_rfl

/-- The facts of the region that holds a depth against the document's. -/
def gdF (X : List Nx) (a : Option Addr) (c rn d bx : Nat) : Nat → Value → World → Prop
  | 0, v, _ => v = .int .i64 (d : Int)
  | 1, v, _ => v = .agg #[.slice a X.length c, .int .i64 (rn : Int)]
  | 2, v, W => ∃ g out, v = .slice (some ⟨g, 0, none⟩) X.length X.length ∧ AtN 3 W g (fnV X.length out) ∧ out rn = d
  | 3, v, _ => v = .pointer (some ⟨bx, 1, none⟩)
  | 4, v, _ => v = .int .i64 (rn : Int)
  | 5, v, W => ∃ g, v = .pointer (some ⟨g, rn, none⟩) ∧ g < W.heap.size ∧ W.cell? ⟨g, rn, none⟩ = some (.int .i64 (d : Int))
  | 6, v, _ => v = .int .i64 (d : Int)
  | 7, v, _ => v = .bool true
  | 8, v, _ => v = .bool true
  | 9, v, _ => v = .int .i64 (d : Int)
  | 10, v, _ => v = .bool true
  | 11, v, _ => v = .bool true
  | 12, v, _ => v = .bool true
  | 13, v, _ => v = .int .i64 (d : Int)
  | 14, v, _ => v = .pointer (some ⟨bx, 0, none⟩)
  | 15, v, _ => v = .slice a X.length c
  | 16, v, _ => v = .int .i64 (X.length : Int)
  | 17, v, _ => v = .bool true
  | 18, v, _ => v = .bool true
  | 19, v, _ => v = .bool true
  | _, _, _ => True
theorem gdF_stab (X : List Nx) (a : Option Addr) (c rn d bx : Nat) : ∀ i j v w w', i ≠ j → World.grownBy w w' (if i = 99 then none else none) → gdF X a c rn d bx j v w → gdF X a c rn d bx j v w' := by
  intro i j v w w' hne hg h
  have hb := below_of_grown (by simpa using hg)
  match j, h with
  | 0, h | 1, h | 3, h | 4, h | 6, h | 7, h | 8, h | 9, h | 10, h | 11, h | 12, h | 13, h | 14, h | 15, h | 16, h | 17, h | 18, h | 19, h => exact h
  | 2, h =>
    obtain ⟨g, out, h1, h2, h3⟩ := h
    exact ⟨g, out, h1, h2.belowAll hb, h3⟩
  | 5, h =>
    obtain ⟨g, h1, h2, h3⟩ := h
    exact ⟨g, h1, Nat.lt_of_lt_of_le h2 hb.size, (hb.cell (p := ⟨g, rn, none⟩) h2).trans h3⟩
  | n + 20, _ => trivial
theorem getD_bool {o : Option Value} {b : Bool} (h : o.getD undef = .bool b) : o = some (.bool b) := by
  cases o with
  | none => exact absurd h (by unfold undef; simp)
  | some v => simpa using h

set_option maxRecDepth 10000 in
set_option maxHeartbeats 400000 in
theorem walk (X0 : List Nx) (a0 : Option Addr) (c0 : Nat) (r0 : Int) (w : World) (w0 : IsSc w a0 X0 r0) :
    Calls Try.prog 5 #[.agg #[.slice a0 X0.length c0, .int .i64 r0]] w fun e w' => e = .returned (.bool true) ∧ Below w.heap.size w w' := by
  have HA : Hid (∀ W, Calls Try.prog 8 #[] W fun e w' => e = .returned (.bool true) ∧ Below W.heap.size W w') := awake_any
  have HS : Hid (IsSc w a0 X0 r0) := w0
  have HL : Hid (Lw w (w.alloc (.cells #[.slice a0 X0.length c0, .int .i64 r0] 24)) a0 X0 c0 r0) := Lw.start w a0 X0 c0 r0
  clear w0
  go_enter Try.func5, Try.ntmps5
  go_wp2_with fail
  refine (HA.out _).mono ?_
  rintro e w1 ⟨rfl, hb1⟩
  have HL1 : Hid (Lw w w1 a0 X0 c0 r0) := HL.out.more hb1
  have x0 := HL1.out.c0
  have x1 := HL1.out.c1
  have HG : Hid (Calls Try.prog 9 #[.agg #[.slice a0 X0.length c0, .int .i64 r0]] w1 fun e w' => GreatOut X0 w1 w' e) := sgreat_any X0 a0 c0 r0 w1 (HL1.out.sc HS.out)
  clear HL hb1
  go_wp2_with fail
  refine Calls.mono HG.out ?_
  rintro e w2 ⟨g, rfl, hg, hb2⟩
  have HL2 : Hid (Lw w w2 a0 X0 c0 r0) := HL1.out.more hb2
  clear HG HL1 hb2 x0 x1
  cases g with
  | true =>
    go_wp2_with fail
    refine (HA.out _).mono ?_
    rintro e w3 ⟨rfl, hb3⟩
    have HB : Hid (Below w.heap.size w w3) := (HL2.out.more hb3).bel
    clear HL2 hb3
    go_wp2_with fail
    go_ret
    exact ⟨rfl, HB.out⟩
  | false =>
    have hsm : Small X0 := hg rfl
    have HSm : Hid (Small X0) := hsm
    have x0 := HL2.out.c0
    have x1 := HL2.out.c1
    have HC : Hid (Calls Try.prog 11 #[.agg #[.slice a0 X0.length c0, .int .i64 r0]] w2 fun e w' => SCopyOut X0 r0 w2 w' e) := scopy_any X0 a0 c0 r0 w2 (HL2.out.sc HS.out) hsm
    clear hg hsm HA
    go_wp2_with fail
    refine Calls.mono HC.out ?_
    rintro e w3 ⟨Y, ay, cy, rfl, hY, hs3, hb3⟩
    have HL3 : Hid (Lw w w3 a0 X0 c0 r0) := HL2.out.more hb3
    have HD : Hid (Calls Try.prog 20 #[.agg #[.slice ay Y.length cy, .int .i64 r0]] w3 fun e w' => DepthOut Y r0 w3 w' e) := depth_any Y ay cy r0 w3 hs3 (same_small hY HSm.out)
    have HY : Hid (Y.map Nx.nd = X0.map Nx.nd) := hY
    clear HC HL2 hs3 hb3 x0 x1 hY
    go_wp2_with fail
    refine Calls.mono HD.out ?_
    rintro e w4 ⟨d, rfl, hd, hb4⟩
    have HL4 : Hid (Lw w w4 a0 X0 c0 r0) := HL3.out.more hb4
    have HX : Hid (DepthIs X0 r0 d) := same_depth HY.out hd
    have HR : Hid (Calls Try.prog 21 #[.agg #[.slice a0 X0.length c0, .int .i64 r0]] w4 fun e w' => RightOut X0 r0 w4 w' e) := right_any X0 a0 c0 r0 w4 (HL4.out.sc HS.out) HSm.out
    have x0 := HL4.out.c0
    have x1 := HL4.out.c1
    clear HD HL3 hd hb4 HY
    go_wp2_with fail
    refine Calls.mono HR.out ?_
    rintro e w5 ⟨b, rfl, hbr, hb5⟩
    have HL5 : Hid (Lw w w5 a0 X0 c0 r0) := HL4.out.more hb5
    clear HR HL4 hb5 x0 x1
    cases b with
    | false =>
      have hd0 : d = 0 := HX.out.1 (fun q => by have := hbr.2 q; simp at this)
      subst hd0
      clear HX hbr
      go_wp2_with fail
      go_ret
      exact ⟨rfl, HL5.out.bel⟩
    | true =>
      have hri : RightIs X0 r0 := hbr.1 rfl
      obtain ⟨f, hf, hdf, hft⟩ := HX.out.2 hri
      obtain ⟨rn, hrn⟩ : ∃ rn : Nat, r0 = rn := ⟨r0.toNat, (Int.toNat_of_nonneg (isPb_iff.1 hri.1).1).symm⟩
      subst hrn
      have hrl : rn < X0.length := by have := isPb_iff.1 hri.1; omega
      have hrl' : (rn : Int) < X0.length := by omega
      have hd1 : 1 ≤ d ∧ d ≤ X0.length := by rw [hdf]; exact hft _ hrl
      have hd2 : ((1 : Int) ≤ d) := by omega
      have hd3 : ((d : Int) ≤ X0.length) := by omega
      have HDp : Hid (∀ W, Lw w W a0 X0 c0 rn → Calls Try.prog 22 #[.agg #[.slice a0 X0.length c0, .int .i64 (rn : Int)]] W fun e w' => DepsOut X0 f W w' e) := fun W hW => depths_any X0 a0 c0 rn W f (hW.sc HS.out) HSm.out hri.2.1 hf (fun x hx => (hft x hx).2)
      have Hdf : Hid (d = f rn) := hdf
      clear HX hbr hri hf hdf hft HS HSm hd1
      go_wp2_with fail
      refine facts_region none 99 (gdF X0 a0 c0 rn d w.heap.size) (by kernel_rfl) (by kernel_rfl) (gdF_stab X0 a0 c0 rn d w.heap.size) ?step ?fin
      case step =>
        intro i o ho a' W hg hstill hoff hdep K hK
        have t1 : a'.tmps[1]?.getD undef = .pointer (some ⟨w.heap.size, 0, none⟩) := hoff 1 (by kernel_rfl)
        have t3 : a'.tmps[3]?.getD undef = .int .i64 (d : Int) := hoff 3 (by kernel_rfl)
        have hLW : Lw w W a0 X0 c0 rn := HL5.out.more (below_of_grown hg)
        have x0 := hLW.c0
        have x1 := hLW.c1
        have HC : Hid (Calls Try.prog 22 #[.agg #[.slice a0 X0.length c0, .int .i64 (rn : Int)]] W fun e w' => DepsOut X0 f W w' e) := HDp.out W hLW
        clear hg hstill hoff hLW HL5 HDp
        rcases i with _|_|_|_|_|_|_|_|_|_|_|_|_|_|_|_|_|_|_|_|i
        · obtain rfl := Option.some.inj ho
          clear hdep HC
          go_simp
          exact hK _ _ (grown_refl _ _) rfl
        · obtain rfl := Option.some.inj ho
          clear hdep HC
          go_simp
          exact hK _ _ (grown_refl _ _) rfl
        · obtain rfl := Option.some.inj ho
          have e0 : a'.tmps[20]?.getD undef = .agg #[.slice a0 X0.length c0, .int .i64 (rn : Int)] := hdep 1 _ (by kernel_rfl) rfl
          clear hdep
          go_simp
          refine Calls.mono HC.out ?_
          rintro e w' ⟨g, out, rfl, h1, h2, h3⟩
          exact hK _ _ (grown_of_below h3 _) ⟨g, out, rfl, h1, (h2 rn hrl).trans Hdf.out.symm⟩
        · obtain rfl := Option.some.inj ho
          clear hdep HC
          go_simp
          exact hK _ _ (grown_refl _ _) rfl
        · obtain rfl := Option.some.inj ho
          have e0 : a'.tmps[22]?.getD undef = .pointer (some ⟨w.heap.size, 1, none⟩) := hdep 3 _ (by kernel_rfl) rfl
          clear hdep HC
          go_simp
          exact hK _ _ (grown_refl _ _) rfl
        · obtain rfl := Option.some.inj ho
          have e0 : ∃ g out, a'.tmps[21]?.getD undef = .slice (some ⟨g, 0, none⟩) X0.length X0.length ∧ AtN 3 W g (fnV X0.length out) ∧ out rn = d := hdep 2 _ (by kernel_rfl) rfl
          have e1 : a'.tmps[23]?.getD undef = .int .i64 (rn : Int) := hdep 4 _ (by kernel_rfl) rfl
          clear hdep HC
          obtain ⟨g, out, e2, e3, e4⟩ := e0
          have y0 : W.cell? ⟨g, rn, none⟩ = some (.int .i64 (d : Int)) := by rw [e3.cell, fnV_at _ _ _ hrl, e4]
          have y1 := e3.lt
          clear e3
          go_simp
          exact hK _ _ (grown_refl _ _) ⟨g, rfl, y1, y0⟩
        · obtain rfl := Option.some.inj ho
          have e0 : ∃ g, a'.tmps[24]?.getD undef = .pointer (some ⟨g, rn, none⟩) ∧ g < W.heap.size ∧ W.cell? ⟨g, rn, none⟩ = some (.int .i64 (d : Int)) := hdep 5 _ (by kernel_rfl) rfl
          clear hdep HC
          obtain ⟨g, e2, e3, e4⟩ := e0
          go_simp
          exact hK _ _ (grown_refl _ _) rfl
        · obtain rfl := Option.some.inj ho
          have e0 : a'.tmps[19]?.getD undef = .int .i64 (d : Int) := hdep 0 _ (by kernel_rfl) rfl
          have e1 : a'.tmps[25]?.getD undef = .int .i64 (d : Int) := hdep 6 _ (by kernel_rfl) rfl
          clear hdep HC
          go_simp
          exact hK _ _ (grown_refl _ _) rfl
        · obtain rfl := Option.some.inj ho
          have e0 : a'.tmps[26]?.getD undef = .bool true := hdep 7 _ (by kernel_rfl) rfl
          clear hdep HC
          go_simp
          exact hK _ _ (grown_refl _ _) rfl
        · obtain rfl := Option.some.inj ho
          have hgd : a'.tmps[27]?.getD undef = .bool true := hdep 8 _ (by kernel_rfl) rfl
          have hgd' := getD_bool hgd
          clear hdep HC
          go_simp
          exact hK _ _ (grown_refl _ _) rfl
        · obtain rfl := Option.some.inj ho
          have e0 : a'.tmps[28]?.getD undef = .int .i64 (d : Int) := hdep 9 _ (by kernel_rfl) rfl
          have hgd : a'.tmps[27]?.getD undef = .bool true := hdep 8 _ (by kernel_rfl) rfl
          have hgd' := getD_bool hgd
          clear hdep HC
          go_simp
          exact hK _ _ (grown_refl _ _) (by simp [gdF, own1])
        · obtain rfl := Option.some.inj ho
          have e0 : a'.tmps[27]?.getD undef = .bool true := hdep 8 _ (by kernel_rfl) rfl
          have e1 : a'.tmps[29]?.getD undef = .bool true := hdep 10 _ (by kernel_rfl) rfl
          clear hdep HC
          go_simp
          exact hK _ _ (grown_refl _ _) rfl
        · obtain rfl := Option.some.inj ho
          have e0 : a'.tmps[30]?.getD undef = .bool true := hdep 11 _ (by kernel_rfl) rfl
          clear hdep HC
          go_simp
          exact hK _ _ (grown_refl _ _) rfl
        · obtain rfl := Option.some.inj ho
          have hgd : a'.tmps[31]?.getD undef = .bool true := hdep 12 _ (by kernel_rfl) rfl
          have hgd' := getD_bool hgd
          clear hdep HC
          go_simp
          exact hK _ _ (grown_refl _ _) rfl
        · obtain rfl := Option.some.inj ho
          have hgd : a'.tmps[31]?.getD undef = .bool true := hdep 12 _ (by kernel_rfl) rfl
          have hgd' := getD_bool hgd
          clear hdep HC
          go_simp
          exact hK _ _ (grown_refl _ _) rfl
        · obtain rfl := Option.some.inj ho
          have e0 : a'.tmps[33]?.getD undef = .pointer (some ⟨w.heap.size, 0, none⟩) := hdep 14 _ (by kernel_rfl) rfl
          have hgd : a'.tmps[31]?.getD undef = .bool true := hdep 12 _ (by kernel_rfl) rfl
          have hgd' := getD_bool hgd
          clear hdep HC
          go_simp
          exact hK _ _ (grown_refl _ _) rfl
        · obtain rfl := Option.some.inj ho
          have e0 : a'.tmps[34]?.getD undef = .slice a0 X0.length c0 := hdep 15 _ (by kernel_rfl) rfl
          have hgd : a'.tmps[31]?.getD undef = .bool true := hdep 12 _ (by kernel_rfl) rfl
          have hgd' := getD_bool hgd
          clear hdep HC
          go_simp
          exact hK _ _ (grown_refl _ _) rfl
        · obtain rfl := Option.some.inj ho
          have e0 : a'.tmps[32]?.getD undef = .int .i64 (d : Int) := hdep 13 _ (by kernel_rfl) rfl
          have e1 : a'.tmps[35]?.getD undef = .int .i64 (X0.length : Int) := hdep 16 _ (by kernel_rfl) rfl
          have hgd : a'.tmps[31]?.getD undef = .bool true := hdep 12 _ (by kernel_rfl) rfl
          have hgd' := getD_bool hgd
          clear hdep HC
          go_simp
          exact hK _ _ (grown_refl _ _) (by simp [gdF, own1])
        · obtain rfl := Option.some.inj ho
          have e0 : a'.tmps[31]?.getD undef = .bool true := hdep 12 _ (by kernel_rfl) rfl
          have e1 : a'.tmps[36]?.getD undef = .bool true := hdep 17 _ (by kernel_rfl) rfl
          clear hdep HC
          go_simp
          exact hK _ _ (grown_refl _ _) rfl
        · obtain rfl := Option.some.inj ho
          have e0 : a'.tmps[37]?.getD undef = .bool true := hdep 18 _ (by kernel_rfl) rfl
          clear hdep HC
          go_simp
          exact hK _ _ (grown_refl _ _) rfl
        · exact absurd ho (by simp)
      case fin =>
        intro V W hg hF
        have y19 : V (some 2) = .bool true := hF 19 _ rfl
        have HB : Hid (Below w.heap.size w W) := (HL5.out.more (below_of_grown hg)).bel
        clear hF hg HL5 HDp
        simp only [fillA, Act.put, List.setIfInBounds_toArray, List.set_cons_zero, List.set_cons_succ, y19]
        generalize V (some 19) = z19
        generalize V (some 20) = z20
        generalize V (some 21) = z21
        generalize V (some 22) = z22
        generalize V (some 23) = z23
        generalize V (some 24) = z24
        generalize V (some 25) = z25
        generalize V (some 26) = z26
        generalize V (some 27) = z27
        generalize V (some 28) = z28
        generalize V (some 29) = z29
        generalize V (some 30) = z30
        generalize V (some 31) = z31
        generalize V (some 32) = z32
        generalize V (some 33) = z33
        generalize V (some 34) = z34
        generalize V (some 35) = z35
        generalize V (some 36) = z36
        generalize V (some 37) = z37
        clear y19
        go_wp2_with fail
        go_ret
        exact ⟨rfl, HB.out⟩

set_option maxRecDepth 100000 in
theorem lifted (os : Os) (started : os.Started) (H : Type) (enc : TypeId × Value → H) :
    ReturnsInHanded {} Try.checked os 5 .any (Rows.graphDepthSpec.pre6 enc Try.prog Try.f5 Rows.graphDepthRow.domain false) (Rows.graphDepthSpec.post enc Try.prog Try.f5 false true false false) := by
  refine returnsInHanded_of_change (C := Try.checked) own started (by kernel_rfl) Try.func5
    (ChangeSpec.witness6 (enc := enc) (C := Try.checked) false ⟨#[], #[.agg #[.slice none 0 0, .int .i64 0]], []⟩ 8 (by kernel_rfl) (by kernel_rfl) (by kernel_rfl) (by kernel_rfl)) ?_
  intro W base args ds gs before hval0 hW hcnd _
  have hval : ∀ (j : Nat) t v, Try.f5.params[j]? = some t → args[j]? = some v → Value.okWide Try.prog W .any base t v := hval0
  have hW' := hW
  obtain ⟨p, q, hA0, hV, rfl, hfz, hnd⟩ := hW
  have hA : DataW.TrodAll enc Try.prog W 0 (fun _ => true) true Try.f5.params.toList args.toList ds p := hA0
  rw [Try.params5] at hA hval
  obtain ⟨v0, vs0, d0, ds0, p0, q0, hargs, rfl, rfl, h0, r0⟩ := trodAll_cons hA
  obtain ⟨rfl, rfl, rfl⟩ := trodAll_nil r0
  obtain rfl : args = #[v0] := by cases args; simp_all
  obtain ⟨rfl, rfl⟩ := trodVars_none hV
  have K0 := h0
  have lt0 : ∀ x ∈ p0, x.block < W.heap.size := by obtain ⟨m, hm⟩ := K0; exact DataW.trod_lt m _ _ _ hm
  obtain ⟨X0, a0, c0, rt0, rfl, w0⟩ := open_scene Try.underlying24 (by kernel_rfl) (by kernel_rfl) Try.underlying22 Try.underlying3 Try.underlying45 (by kernel_rfl) rfl rfl rfl rfl (by kernel_rfl) (by kernel_rfl) (by kernel_rfl) (by kernel_rfl) Try.underlying3 Try.underlying42 Try.underlying43 Try.underlying34 Try.underlying2 Try.underlying9 Try.underlying3 (by kernel_rfl) (by kernel_rfl) (by kernel_rfl) (hval 0 24 v0 rfl rfl) h0
  clear hA0 hval0
  refine (walk X0 a0 c0 rt0 W w0).mono fun e W' ⟨he, bel⟩ => ?_
  subst he
  exact ⟨_, rfl, _, _, _, [], _, [], hW', trodAll_mk1 (shut_bool Try.underlying4 _), (trodAll_cons_mk (Below.trod laidOut (by kernel_rfl) (of_decide_eq_true (by kernel_rfl)) K0 bel lt0) trodAll_mk0), rfl, bel.frame _, fun h => by cases h⟩

theorem over : Rows.graphDepthRow.holds Try.pinned (OpenSpec.ofChange Rows.graphDepthSpec) :=
  OpenClaim.holds_of_wide 5 Try.f5 rfl rfl rfl rfl rfl rfl rfl ⟨rfl, rfl, rfl, rfl, rfl⟩ rfl rfl rfl rfl rfl (by kernel_rfl) Try.func5 (by kernel_rfl)
    (of_decide_eq_true (by kernel_rfl)) (by unfold Func.isWrapper; first | (rw [if_pos (by decide +kernel)]; kernel_rfl) | (rw [if_neg (by decide +kernel)]; exact ⟨rfl, rfl⟩))
    (fun os started H enc _ => lifted os started H enc)

end Go.Proofs.Ytlfibkfjklggeaa.graphDepth

namespace Go.Proofs.Ytlfibkfjklggeaa
theorem graphDepth_holds : Rows.GraphDepthSaid := graphDepth.over
#print axioms graphDepth_holds
end Go.Proofs.Ytlfibkfjklggeaa
