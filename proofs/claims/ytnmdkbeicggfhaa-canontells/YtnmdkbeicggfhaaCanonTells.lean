/- For every scene: the program's Is tells that it is canonical just if the document says so (scenes greater than the law plays with are let go by the law itself); the argument reads afterwards as before. -/
import Derived.Test.YtnmdkbeicggfhaaRows
import Derived.WalkKit
import Derived.ProofKit
import Derived.OpenShut
import Derived.ShutString
import Derived.Below
import Derived.Test.YtnmdkbeicggfhaaCIs
import Derived.ChangeOld
namespace Go.Proofs.Ytnmdkbeicggfhaa.canonTells
open Go.ChangeShapes Go.WideShapes Go.ChangeAt Go.RowKit
open Go.ChangeMaps (open_string shut_string)
set_option linter.unusedVariables false

theorem own : ownKnob Try.prog.godebug = none := by kernel_rfl
theorem laidOut : laidOutB Try.prog = true := by kernel_rfl

set_option maxRecDepth 10000 in
set_option maxHeartbeats 400000 in
theorem walk (X0 : List Nx) (a0 : Option Addr) (c0 : Nat) (r0 : Int) (w : World) (w0 : IsSc w a0 X0 r0) :
    Calls Try.prog 4 #[.agg #[.slice a0 X0.length c0, .int .i64 r0]] w fun e w' => e = .returned (.bool true) ∧ Below w.heap.size w w' := by
  have HA : Hid (∀ W, Calls Try.prog 9 #[] W fun e w' => e = .returned (.bool true) ∧ Below W.heap.size W w') := awake_any
  have HS : Hid (IsSc w a0 X0 r0) := w0
  have HL : Hid (Lw w (w.alloc (.cells #[.slice a0 X0.length c0, .int .i64 r0] 24)) a0 X0 c0 r0) := Lw.start w a0 X0 c0 r0
  clear w0
  go_enter Try.func4, Try.ntmps4
  go_wp2_with fail
  refine (HA.out _).mono ?_
  rintro e w1 ⟨rfl, hb1⟩
  have HL1 : Hid (Lw w w1 a0 X0 c0 r0) := HL.out.more hb1
  have x0 := HL1.out.c0
  have x1 := HL1.out.c1
  have HG : Hid (Calls Try.prog 10 #[.agg #[.slice a0 X0.length c0, .int .i64 r0]] w1 fun e w' => GreatOut X0 w1 w' e) := sgreat_any X0 a0 c0 r0 w1 (HL1.out.sc HS.out)
  clear HL hb1
  go_wp2_with fail
  refine Calls.mono HG.out ?_
  rintro e w2 ⟨g, rfl, hg, hb2⟩
  have HL2 : Hid (Lw w w2 a0 X0 c0 r0) := HL1.out.more hb2
  clear HG HL1 hb2 x0 x1
  cases g with
  | true =>
    go_wp2_with fail
    refine (HA.out _).mono ?_
    rintro e w3 ⟨rfl, hb3⟩
    have HB : Hid (Below w.heap.size w w3) := (HL2.out.more hb3).bel
    clear HL2 hb3
    go_wp2_with fail
    go_ret
    exact ⟨rfl, HB.out⟩
  | false =>
    have HSm : Hid (Small X0) := (hg rfl).1
    have x0 := HL2.out.c0
    have x1 := HL2.out.c1
    have hg0 := HL2.out.at_.lt
    obtain ⟨b, hb0⟩ := bool_of (IsCan X0 r0)
    have HCp : Hid (∀ W, Below w2.heap.size w2 W → Calls Try.prog 12 #[.agg #[.slice a0 X0.length c0, .int .i64 r0]] W fun e w' => SCopyOut X0 r0 W w' e) := fun W hW => scopy_any X0 a0 c0 r0 W ((HL2.out.sc HS.out).belowB hW) HSm.out
    have HI : Hid (∀ (W : World) (Y : List Nx) (a' : Option Addr) (c' : Nat), Y.map Nx.nd = X0.map Nx.nd → ScAt W a' Y → Calls Try.prog 19 #[.agg #[.slice a' Y.length c', .int .i64 r0]] W fun e w' => e = .returned (.bool b) ∧ Below W.heap.size W w') := fun W Y a' c' hY hs => by
      refine Calls.mono (is_any Y a' c' r0 W hs (same_small hY HSm.out)) ?_
      rintro e w' ⟨q, rfl, hq, hb'⟩
      have : q = b := by
        rw [Bool.eq_iff_iff, hq, hb0]
        unfold IsCan
        rw [same_right hY, same_oX hY, same_len hY]
      rw [this]
      exact ⟨rfl, hb'⟩
    have HRI : Hid (∀ W, Below w2.heap.size w2 W → Calls Try.prog 20 #[.agg #[.slice a0 X0.length c0, .int .i64 r0]] W fun e w' => e = .returned (.bool b) ∧ Below W.heap.size W w') := fun W hW => by
      refine Calls.mono (ris_any X0 a0 c0 r0 W ((HL2.out.sc HS.out).belowB hW) HSm.out) ?_
      rintro e w' ⟨q, rfl, hq, hb'⟩
      have : q = b := by rw [Bool.eq_iff_iff, hq, hb0]
      rw [this]
      exact ⟨rfl, hb'⟩
    clear hg HA HS HSm hb0
    go_wp2_with fail
    refine facts_region6 (fun W => Below w2.heap.size w2 W) (fun i v W => match i with | 0 => v = .agg #[.slice a0 X0.length c0, .int .i64 r0] | 1 => ∃ (Y : List Nx) (a' : Option Addr) (c' : Nat), v = .agg #[.slice a' Y.length c', .int .i64 r0] ∧ Y.map Nx.nd = X0.map Nx.nd ∧ ScAt W a' Y | 2 => v = .bool b | 3 => v = .agg #[.slice a0 X0.length c0, .int .i64 r0] | 4 => v = .bool b | 5 => v = .bool true | 6 => v = .bool true | _ => True) (by kernel_rfl) (by kernel_rfl) (Below.refl _ _).drew ?step ?fin
    case step =>
      intro i' o' ho act W hG hoff hdep K hQ hK
      rcases i' with _|_|_|_|_|_|_|i'
      · obtain rfl := Option.some.inj ho
        have t1 : act.tmps[1]?.getD undef = .pointer (some ⟨w.heap.size, 0, none⟩) := hoff 1 (by kernel_rfl)
        have x0W := (hG.cell (p := ⟨w.heap.size, 0, none⟩) hg0).trans x0
        have x1W := (hG.cell (p := ⟨w.heap.size, 1, none⟩) hg0).trans x1
        clear hdep hoff hG
        go_simp
        exact hQ _ (rfl)
      · obtain rfl := Option.some.inj ho
        have e0 : act.tmps[10]?.getD undef = .agg #[.slice a0 X0.length c0, .int .i64 r0] := hdep 0 _ (by kernel_rfl) rfl
        clear hdep hoff
        have HG : Hid (Below w2.heap.size w2 W) := hG
        have HC : Hid _ := HCp.out W hG
        clear hG
        go_simp
        refine Calls.mono HC.out ?_
        rintro e w' ⟨Y, a', c', rfl, hY, hs, hb⟩
        exact hK _ _ (HG.out.trans (hb.mono HG.out.size)) (fun j u hj h => by
            rcases j with _|_|_|_|_|_|_|j
            · exact h
            · exact absurd rfl hj
            · exact h
            · exact h
            · exact h
            · exact h
            · exact h
            · trivial) (⟨Y, a', c', rfl, hY, hs⟩)
      · obtain rfl := Option.some.inj ho
        have e1 : ∃ (Y : List Nx) (a' : Option Addr) (c' : Nat), act.tmps[11]?.getD undef = .agg #[.slice a' Y.length c', .int .i64 r0] ∧ Y.map Nx.nd = X0.map Nx.nd ∧ ScAt W a' Y := hdep 1 _ (by kernel_rfl) rfl
        clear hdep hoff
        obtain ⟨Y, a', c', e1', hY, hs⟩ := e1
        have HG : Hid (Below w2.heap.size w2 W) := hG
        have HC : Hid _ := HI.out W Y a' c' hY hs
        clear hG
        go_simp
        refine Calls.mono HC.out ?_
        rintro e w' ⟨rfl, hb⟩
        exact hK _ _ (HG.out.trans (hb.mono HG.out.size)) (fun j u hj h => by
            rcases j with _|_|_|_|_|_|_|j
            · exact h
            · obtain ⟨Y, a', c', h1, h2, h3⟩ := h; exact ⟨Y, a', c', h1, h2, h3.belowB hb⟩
            · exact absurd rfl hj
            · exact h
            · exact h
            · exact h
            · exact h
            · trivial) (rfl)
      · obtain rfl := Option.some.inj ho
        have t1 : act.tmps[1]?.getD undef = .pointer (some ⟨w.heap.size, 0, none⟩) := hoff 1 (by kernel_rfl)
        have x0W := (hG.cell (p := ⟨w.heap.size, 0, none⟩) hg0).trans x0
        have x1W := (hG.cell (p := ⟨w.heap.size, 1, none⟩) hg0).trans x1
        clear hdep hoff hG
        go_simp
        exact hQ _ (rfl)
      · obtain rfl := Option.some.inj ho
        have e3 : act.tmps[13]?.getD undef = .agg #[.slice a0 X0.length c0, .int .i64 r0] := hdep 3 _ (by kernel_rfl) rfl
        clear hdep hoff
        have HG : Hid (Below w2.heap.size w2 W) := hG
        have HC : Hid _ := HRI.out W hG
        clear hG
        go_simp
        refine Calls.mono HC.out ?_
        rintro e w' ⟨rfl, hb⟩
        exact hK _ _ (HG.out.trans (hb.mono HG.out.size)) (fun j u hj h => by
            rcases j with _|_|_|_|_|_|_|j
            · exact h
            · obtain ⟨Y, a', c', h1, h2, h3⟩ := h; exact ⟨Y, a', c', h1, h2, h3.belowB hb⟩
            · exact h
            · exact h
            · exact absurd rfl hj
            · exact h
            · exact h
            · trivial) (rfl)
      · obtain rfl := Option.some.inj ho
        have e2 : act.tmps[12]?.getD undef = .bool b := hdep 2 _ (by kernel_rfl) rfl
        have e4 : act.tmps[14]?.getD undef = .bool b := hdep 4 _ (by kernel_rfl) rfl
        clear hdep hoff hG
        go_simp
        exact hQ _ (rfl)
      · obtain rfl := Option.some.inj ho
        have e5 : act.tmps[15]?.getD undef = .bool true := hdep 5 _ (by kernel_rfl) rfl
        clear hdep hoff hG
        go_simp
        exact hQ _ (rfl)
      · exact absurd ho (by simp)
    case fin =>
      intro V W hG hF
      have y6 : V (some 2) = .bool true := hF 6 _ rfl
      have HB : Hid (Below w.heap.size w W) := (HL2.out.more hG).bel
      clear hF hG HL2
      simp only [fillA, Act.put, List.setIfInBounds_toArray, List.set_cons_zero, List.set_cons_succ, y6]
      generalize V (some 10) = z10
      generalize V (some 11) = z11
      generalize V (some 12) = z12
      generalize V (some 13) = z13
      generalize V (some 14) = z14
      generalize V (some 15) = z15
      clear y6
      go_wp2_with fail
      go_ret
      exact ⟨rfl, HB.out⟩

set_option maxRecDepth 100000 in
theorem lifted (os : Os) (started : os.Started) (H : Type) (enc : TypeId × Value → H) :
    ReturnsInHanded {} Try.checked os 4 .any (Rows.canonTellsSpec.pre6 enc Try.prog Try.f4 Rows.canonTellsRow.domain false) (Rows.canonTellsSpec.post enc Try.prog Try.f4 false true false false) := by
  refine returnsInHanded_of_change (C := Try.checked) own started (by kernel_rfl) Try.func4
    (ChangeSpec.witness6 (enc := enc) (C := Try.checked) false ⟨#[], #[.agg #[.slice none 0 0, .int .i64 0]], []⟩ 8 (by kernel_rfl) (by kernel_rfl) (by kernel_rfl) (by kernel_rfl)) ?_
  intro W base args ds gs before hval0 hW hcnd _
  have hval : ∀ (j : Nat) t v, Try.f4.params[j]? = some t → args[j]? = some v → Value.okWide Try.prog W .any base t v := hval0
  have hW' := hW
  obtain ⟨p, q, hA0, hV, rfl, hfz, hnd⟩ := hW
  have hA : DataW.TrodAll enc Try.prog W 0 (fun _ => true) true Try.f4.params.toList args.toList ds p := hA0
  rw [Try.params4] at hA hval
  obtain ⟨v0, vs0, d0, ds0, p0, q0, hargs, rfl, rfl, h0, r0⟩ := trodAll_cons hA
  obtain ⟨rfl, rfl, rfl⟩ := trodAll_nil r0
  obtain rfl : args = #[v0] := by cases args; simp_all
  obtain ⟨rfl, rfl⟩ := trodVars_none hV
  have K0 := h0
  have lt0 : ∀ x ∈ p0, x.block < W.heap.size := by obtain ⟨m, hm⟩ := K0; exact DataW.trod_lt m _ _ _ hm
  obtain ⟨X0, a0, c0, rt0, rfl, w0⟩ := open_scene Try.underlying24 (by kernel_rfl) (by kernel_rfl) Try.underlying22 Try.underlying3 Try.underlying40 (by kernel_rfl) rfl rfl rfl rfl (by kernel_rfl) (by kernel_rfl) (by kernel_rfl) (by kernel_rfl) Try.underlying3 Try.underlying37 Try.underlying38 Try.underlying31 Try.underlying2 Try.underlying9 Try.underlying3 (by kernel_rfl) (by kernel_rfl) (by kernel_rfl) (hval 0 24 v0 rfl rfl) h0
  clear hA0 hval0
  refine (walk X0 a0 c0 rt0 W w0).mono fun e W' ⟨he, bel⟩ => ?_
  subst he
  exact ⟨_, rfl, _, _, _, [], _, [], hW', trodAll_mk1 (shut_bool Try.underlying4 _), (trodAll_cons_mk (Below.trod laidOut (by kernel_rfl) (of_decide_eq_true (by kernel_rfl)) K0 bel lt0) trodAll_mk0), rfl, bel.frame _, fun h => by cases h⟩

theorem over : Rows.canonTellsRow.holds Try.pinned (OpenSpec.ofChange Rows.canonTellsSpec) :=
  OpenClaim.holds_of_wide 4 Try.f4 rfl rfl rfl rfl rfl rfl rfl ⟨rfl, rfl, rfl, rfl, rfl⟩ rfl rfl rfl rfl rfl (by kernel_rfl) Try.func4 (by kernel_rfl)
    (of_decide_eq_true (by kernel_rfl)) (by unfold Func.isWrapper; first | (rw [if_pos (by decide +kernel)]; kernel_rfl) | (rw [if_neg (by decide +kernel)]; exact ⟨rfl, rfl⟩))
    (fun os started H enc _ => lifted os started H enc)

end Go.Proofs.Ytnmdkbeicggfhaa.canonTells

namespace Go.Proofs.Ytnmdkbeicggfhaa
theorem canonTells_holds : Rows.CanonTellsSaid := canonTells.over
#print axioms canonTells_holds
end Go.Proofs.Ytnmdkbeicggfhaa
