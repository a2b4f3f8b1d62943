/- For every scene and every number: the program's Below answers just the nodes that the document says, rising; none, if the number is no node's place, or a reference is wrong (scenes greater than the law plays with are let go by the law itself); the arguments read afterwards as before. -/
import Derived.Test.YtlfibkfjklggeaaRows
import Derived.WalkKit
import Derived.ProofKit
import Derived.OpenShut
import Derived.ShutString
import Derived.Below
import Derived.Test.YtlfibkfjklggeaaGLaw
import Derived.ChangeOld
namespace Go.Proofs.Ytlfibkfjklggeaa.graphBelow
open Go.ChangeShapes Go.WideShapes Go.ChangeAt Go.RowKit
open Go.ChangeMaps (open_string shut_string)
set_option linter.unusedVariables false

theorem own : ownKnob Try.prog.godebug = none := by kernel_rfl
theorem laidOut : laidOutB Try.prog = true := by kernel_rfl

/-- The nodes that one leads to, and itself. -/
def wantL (met : List Nat) (k n : Nat) : List Nat := (List.range n).filter fun x => decide (x ∈ met ∨ x = k)
theorem wantL_next (met : List Nat) (k n : Nat) : wantL met k (n + 1) = if n ∈ met ∨ n = k then wantL met k n ++ [n] else wantL met k n := by
  unfold wantL
  rw [List.range_succ, List.filter_append]
  by_cases h : n ∈ met ∨ n = k
  · simp [h]
  · simp [h]
theorem wantL_len (met : List Nat) (k n : Nat) : (wantL met k n).length ≤ n := by
  have := List.length_filter_le (fun x => decide (x ∈ met ∨ x = k)) (List.range n)
  simpa [wantL] using this
theorem wantL_is {X : List Nx} {r : Int} {k : Nat} {l met : List Nat} (hb : BelowIs X r k l) (ho : BelowOk X r k) (hm : ∀ x, x ∈ met ↔ Lead (Ed (kX X)) k x) : intsB l (wantL met k X.length) = true := by
  obtain ⟨h1, h2⟩ := hb.2 ho
  refine decide_eq_true (rising_eq _ _ h1 (List.Pairwise.filter _ List.pairwise_lt_range) (fun x => ?_))
  rw [h2 x]
  have hk : k < (kX X).length := by have := isPb_iff.1 ho.2.2; rw [kX_length]; omega
  simp only [wantL, List.mem_filter, List.mem_range, decide_eq_true_eq, Int.toNat_natCast]
  constructor
  · intro q
    refine ⟨by have := Ok9.rt (kX_ok ho.2.1) hk q; rwa [kX_length] at this, ?_⟩
    rcases q.cases with q | q
    · exact .inr q.symm
    · exact .inl ((hm x).2 q)
  · rintro ⟨_, q | rfl⟩
    · exact ((hm x).1 q).rt
    · exact Rt.refl _ _

set_option maxRecDepth 10000 in
set_option maxHeartbeats 400000 in
theorem walk (X0 : List Nx) (a0 : Option Addr) (c0 : Nat) (r0 : Int) (a1 : Int) (w : World) (w0 : IsSc w a0 X0 r0) (w1 : (Lit.int .i64 a1).wf = true) :
    Calls Try.prog 4 #[.agg #[.slice a0 X0.length c0, .int .i64 r0], .int .i64 a1] w fun e w' => e = .returned (.bool true) ∧ Below w.heap.size w w' := by
  have HA : Hid (∀ W, Calls Try.prog 8 #[] W fun e w' => e = .returned (.bool true) ∧ Below W.heap.size W w') := awake_any
  have HS : Hid (IsSc w a0 X0 r0) := w0
  have HL : Hid (Lw w (w.alloc (.cells #[.slice a0 X0.length c0, .int .i64 r0] 24)) a0 X0 c0 r0) := Lw.start w a0 X0 c0 r0
  clear w0
  go_enter Try.func4, Try.ntmps4
  go_wp2_with fail
  refine (HA.out _).mono ?_
  rintro e w1 ⟨rfl, hb1⟩
  have HL1 : Hid (Lw w w1 a0 X0 c0 r0) := HL.out.more hb1
  have x0 := HL1.out.c0
  have x1 := HL1.out.c1
  have HG : Hid (Calls Try.prog 9 #[.agg #[.slice a0 X0.length c0, .int .i64 r0]] w1 fun e w' => GreatOut X0 w1 w' e) := sgreat_any X0 a0 c0 r0 w1 (HL1.out.sc HS.out)
  clear HL hb1
  go_wp2_with fail
  refine Calls.mono HG.out ?_
  rintro e w2 ⟨g, rfl, hg, hb2⟩
  have HL2 : Hid (Lw w w2 a0 X0 c0 r0) := HL1.out.more hb2
  clear HG HL1 hb2 x0 x1
  cases g with
  | true =>
    go_wp2_with fail
    refine (HA.out _).mono ?_
    rintro e w3 ⟨rfl, hb3⟩
    have HB : Hid (Below w.heap.size w w3) := (HL2.out.more hb3).bel
    clear HL2 hb3
    go_wp2_with fail
    go_ret
    exact ⟨rfl, HB.out⟩
  | false =>
    have hsm : Small X0 := hg rfl
    have HSm : Hid (Small X0) := hsm
    have x0 := HL2.out.c0
    have x1 := HL2.out.c1
    have HC : Hid (Calls Try.prog 11 #[.agg #[.slice a0 X0.length c0, .int .i64 r0]] w2 fun e w' => SCopyOut X0 r0 w2 w' e) := scopy_any X0 a0 c0 r0 w2 (HL2.out.sc HS.out) hsm
    clear hg hsm HA
    go_wp2_with fail
    refine Calls.mono HC.out ?_
    rintro e w3 ⟨Y, ay, cy, rfl, hY, hs3, hb3⟩
    have HL3 : Hid (Lw w w3 a0 X0 c0 r0) := HL2.out.more hb3
    have HD : Hid (Calls Try.prog 15 #[.agg #[.slice ay Y.length cy, .int .i64 r0], .int .i64 a1] w3 fun e w' => BelowOut Y r0 a1 w3 w' e) := below_any Y ay cy r0 a1 w3 hs3 (same_small hY HSm.out)
    have HY : Hid (Y.map Nx.nd = X0.map Nx.nd) := hY
    clear HC HL2 hs3 hb3 x0 x1 hY
    go_wp2_with fail
    refine Calls.mono HD.out ?_
    rintro e w4 ⟨l, al, cl, rfl, hl4, hbi, hl60, hb4⟩
    have HL4 : Hid (Lw w w4 a0 X0 c0 r0) := HL3.out.more hb4
    have HX : Hid (BelowIs X0 r0 a1 l) := same_below HY.out hbi
    have Hl4 : Hid (LsAt w4 al (nV l)) := hl4
    have x0 := HL4.out.c0
    have x1 := HL4.out.c1
    clear HD HL3 hbi hb4 HY hl4
    by_cases hp1 : isPb X0.length a1 = true
    · go_wp2_with fail
      refine (place_any _ _ _ _ _ _).mono ?_
      rintro e w5 ⟨rfl, hb5⟩
      rw [hp1]
      have HL5 : Hid (Lw w w5 a0 X0 c0 r0) := HL4.out.more hb5
      have Hl5 : Hid (LsAt w5 al (nV l)) := Hl4.out.belowB hb5
      clear HL4 Hl4 hb5 x0 x1
      have x0 := HL5.out.c0
      have x1 := HL5.out.c1
      by_cases hp2 : isPb X0.length r0 = true
      · go_wp2_with fail
        refine (place_any _ _ _ _ _ _).mono ?_
        rintro e w6 ⟨rfl, hb6⟩
        rw [hp2]
        have HL6 : Hid (Lw w w6 a0 X0 c0 r0) := HL5.out.more hb6
        have Hl6 : Hid (LsAt w6 al (nV l)) := Hl5.out.belowB hb6
        clear HL5 Hl5 hb6 x0 x1
        have x0 := HL6.out.c0
        have x1 := HL6.out.c1
        have HRf : Hid (Calls Try.prog 17 #[.agg #[.slice a0 X0.length c0, .int .i64 r0]] w6 fun e w' => RefsOut X0 w6 w' e) := refs_any X0 a0 c0 r0 w6 (HL6.out.sc HS.out) HSm.out
        go_wp2_with fail
        refine Calls.mono HRf.out ?_
        rintro e w7 ⟨z, rfl, hz, hb7⟩
        have HL7 : Hid (Lw w w7 a0 X0 c0 r0) := HL6.out.more hb7
        have Hl7 : Hid (LsAt w7 al (nV l)) := Hl6.out.belowB hb7
        clear HRf HL6 Hl6 hb7 x0 x1
        rcases hz with ⟨rfl, hok⟩ | ⟨i, hi, rfl, hno, _⟩
        · obtain ⟨k, hk⟩ : ∃ k : Nat, a1 = k := ⟨a1.toNat, (Int.toNat_of_nonneg (isPb_iff.1 hp1).1).symm⟩
          subst hk
          have hkl : k < X0.length := by have := isPb_iff.1 hp1; omega
          have hn60 := HSm.out.1
          have HBo : Hid (BelowOk X0 r0 k) := ⟨hp2, hok, hp1⟩
          have HLd : Hid (Calls Try.prog 18 #[.agg #[.slice a0 X0.length c0, .int .i64 r0], .int .i64 (k : Int)] w7 fun e w' => LedOut (kX X0) k w7 w' e) := led_any X0 a0 c0 k r0 w7 (HL7.out.sc HS.out) HSm.out hok hkl
          have x0 := HL7.out.c0
          have x1 := HL7.out.c1
          clear hok
          go_wp2_with fail
          refine Calls.mono HLd.out ?_
          rintro e w8 ⟨g, met, rfl, ha8, hm8, hb8⟩
          rw [kX_length] at ha8 ⊢
          obtain ⟨i0, hii, hz0, hz1, hz2⟩ := info_parts Try.infoI7
          have HB8 : Hid (Below w.heap.size w w8) := (HL7.out.more hb8).bel
          have Hl8 : Hid (LsAt w8 al (nV l) ∧ AtN 4 w8 g (mtV X0.length met)) := ⟨Hl7.out.belowB hb8, ha8⟩
          have HT : Hid (intsB l (wantL met k X0.length) = true) := wantL_is HX.out HBo.out hm8
          clear HLd HL7 Hl7 ha8 hm8 hb8 x0 x1 HX HBo HS HSm
          go_wp2_with fail
          go_loopw [6, 43] (fun wv iv wr => ∃ (i : Nat), iv = .int .i64 i ∧ i ≤ X0.length ∧ Hid (wr.ownsRow w8.heap.size 3 1 wv (wantL met k i).length (nV (wantL met k i))) ∧ Hid (Below w8.heap.size w8 wr)) (fun _ iv _ => X0.length - (intOf iv).toNat)
          case atStart => exact ⟨0, rfl, by omega, ⟨rfl, .inl ⟨rfl, rfl⟩⟩, Below.refl _ _⟩
          case round =>
            obtain ⟨i, rfl, hi, HO, HB⟩ := hrel
            obtain ⟨aw, cw, rfl⟩ := own_shape7 HO.out
            by_cases hlt : i < X0.length
            · have hlt' : (i : Int) < X0.length := by omega
              have y0 : wr.cell? ⟨g, i, none⟩ = some (.bool (decide (i ∈ met))) := by rw [(AtN.belowAll Hl8.out.2 HB.out).cell, mtV_at _ _ _ hlt]
              have hwl := wantL_len met k i
              have hsz := HB.out.size
              by_cases hin : i ∈ met ∨ i = k
              · have HN : Hid (wantL met k (i + 1) = wantL met k i ++ [i]) := by show _ = _; rw [wantL_next, if_pos hin]
                have hgo : (decide (i ∈ met) = true) ∨ (decide (i ∈ met) = false ∧ i = k) := by
                  by_cases q : i ∈ met
                  · exact .inl (decide_eq_true q)
                  · exact .inr ⟨decide_eq_false q, hin.resolve_left q⟩
                generalize wantL met k i = want at *
                clear hin HT
                rcases hgo with hgo | ⟨hgo, rfl⟩
                · rw [hgo] at y0
                  go_wp2_with (at_builtin; refine wpList_append_lies _ rfl (.tmp 54) (.tmp 56) 34 rfl w8.heap.size 3 i0 (.int .i64 0) 1 8 Try.underlying34 hii hz0 hz1 hz2 rfl (by decide) _ want.length (nV want) rfl (HO.out.alloc _) ⟨wr.heap.size, 0, none⟩ 1 1 [.int .i64 (i : Int)] rfl rfl (cell_one_new _ _ _) (by intro u hu; simp at hu; subst hu; rfl) (by decide) (by unfold maxLen; omega) (by omega) (by simp; omega) _ rfl ?_)
                  intro g2 cap2 w9 hown9 hgrow9 hlie hlt9
                  have O9 : Hid (w9.ownsRow w8.heap.size 3 1 (.slice (some ⟨g2, 0, none⟩) (want.length + 1) cap2) (wantL met k (i + 1)).length (nV (wantL met k (i + 1)))) := by
                    rw [HN.out, nV_snoc, List.length_append]
                    exact hown9
                  have B9 : Hid (Below w8.heap.size w8 w9) := (HB.out.alloc hsz _).grown hgrow9 (by simp; omega) (fun q hq => (HO.out.lt q hq).1)
                  clear hown9 hgrow9 hlie HO HB
                  go_wp2_with fail
                  go_roundw
                  case rel => exact ⟨i + 1, by go_num, by omega, O9, B9⟩
                  case measure => simp [intOf]; omega
                · rw [hgo] at y0
                  go_wp2_with (at_builtin; refine wpList_append_lies _ rfl (.tmp 54) (.tmp 56) 34 rfl w8.heap.size 3 i0 (.int .i64 0) 1 8 Try.underlying34 hii hz0 hz1 hz2 rfl (by decide) _ want.length (nV want) rfl (HO.out.alloc _) ⟨wr.heap.size, 0, none⟩ 1 1 [.int .i64 (i : Int)] rfl rfl (cell_one_new _ _ _) (by intro u hu; simp at hu; subst hu; rfl) (by decide) (by unfold maxLen; omega) (by omega) (by simp; omega) _ rfl ?_)
                  intro g2 cap2 w9 hown9 hgrow9 hlie hlt9
                  have O9 : Hid (w9.ownsRow w8.heap.size 3 1 (.slice (some ⟨g2, 0, none⟩) (want.length + 1) cap2) (wantL met i (i + 1)).length (nV (wantL met i (i + 1)))) := by
                    rw [HN.out, nV_snoc, List.length_append]
                    exact hown9
                  have B9 : Hid (Below w8.heap.size w8 w9) := (HB.out.alloc hsz _).grown hgrow9 (by simp; omega) (fun q hq => (HO.out.lt q hq).1)
                  clear hown9 hgrow9 hlie HO HB
                  go_wp2_with fail
                  go_roundw
                  case rel => exact ⟨i + 1, by go_num, by omega, O9, B9⟩
                  case measure => simp [intOf]; omega
              · have HN : Hid (wantL met k (i + 1) = wantL met k i) := by show _ = _; rw [wantL_next, if_neg hin]
                have hgo : decide (i ∈ met) = false := decide_eq_false (fun q => hin (.inl q))
                have hgo2 : ¬ ((i : Int) = k) := fun q => hin (.inr (by omega))
                rw [hgo] at y0
                have HO2 : Hid (wr.ownsRow w8.heap.size 3 1 (.slice aw (wantL met k i).length cw) (wantL met k (i + 1)).length (nV (wantL met k (i + 1)))) := by rw [HN.out]; exact HO.out
                generalize wantL met k i = want at *
                clear hin HT HO HN hgo
                go_wp2_with fail
                go_roundw
                case rel => exact ⟨i + 1, by go_num, by omega, HO2, HB⟩
                case measure => simp [intOf]; omega
            · have hlt' : ¬ (i : Int) < X0.length := by omega
              obtain rfl : i = X0.length := by omega
              have HI : Hid (Calls Try.prog 19 #[.slice al l.length cl, .slice aw (wantL met k X0.length).length cw] wr fun e w' => e = .returned (.bool (intsB l (wantL met k X0.length))) ∧ Below wr.heap.size wr w') := ints_any l (wantL met k X0.length) al aw cl cw wr (Hl8.out.1.belowB HB.out) (LsAt.of_own HO.out) (by omega)
              rw [HT.out] at HI
              have HB2 : Hid (Below w.heap.size w wr) := HB8.out.trans (HB.out.mono HB8.out.size)
              generalize wantL met k X0.length = want at *
              clear HO HB Hl8 HT HB8
              go_wp2_with fail
              refine Calls.mono HI.out ?_
              rintro e w9 ⟨rfl, hb9⟩
              have HB3 : Hid (Below w.heap.size w w9) := HB2.out.trans (hb9.mono HB2.out.size)
              clear HI hb9 HB2
              go_wp2_with fail
              go_ret
              exact ⟨rfl, HB3.out⟩
        · have hl0 : l = [] := HX.out.1 (fun q => hno (q.2.1 i hi))
          subst hl0
          have HB7 := HL7.out.bel
          clear HX HL7 Hl7 hno HS HSm
          go_wp2_with fail
          go_ret
          exact ⟨rfl, HB7⟩
      · have hp2' : isPb X0.length r0 = false := by simpa using hp2
        have hl0 : l = [] := HX.out.1 (fun q => hp2 q.1)
        subst hl0
        clear HX Hl5 hp2
        go_wp2_with fail
        refine (place_any _ _ _ _ _ _).mono ?_
        rintro e w6 ⟨rfl, hb6⟩
        rw [hp2']
        have HB6 := (HL5.out.more hb6).bel
        clear HL5 hb6 x0 x1
        go_wp2_with fail
        go_ret
        exact ⟨rfl, HB6⟩
    · have hp1' : isPb X0.length a1 = false := by simpa using hp1
      have hl0 : l = [] := HX.out.1 (fun q => hp1 q.2.2)
      subst hl0
      clear HX Hl4 hp1
      go_wp2_with fail
      refine (place_any _ _ _ _ _ _).mono ?_
      rintro e w5 ⟨rfl, hb5⟩
      rw [hp1']
      have HB5 := (HL4.out.more hb5).bel
      clear HL4 hb5 x0 x1
      go_wp2_with fail
      go_ret
      exact ⟨rfl, HB5⟩

set_option maxRecDepth 100000 in
theorem lifted (os : Os) (started : os.Started) (H : Type) (enc : TypeId × Value → H) :
    ReturnsInHanded {} Try.checked os 4 .any (Rows.graphBelowSpec.pre6 enc Try.prog Try.f4 Rows.graphBelowRow.domain false) (Rows.graphBelowSpec.post enc Try.prog Try.f4 false true false false) := by
  refine returnsInHanded_of_change (C := Try.checked) own started (by kernel_rfl) Try.func4
    (ChangeSpec.witness6 (enc := enc) (C := Try.checked) false ⟨#[], #[.agg #[.slice none 0 0, .int .i64 0], .int .i64 0], []⟩ 8 (by kernel_rfl) (by kernel_rfl) (by kernel_rfl) (by kernel_rfl)) ?_
  intro W base args ds gs before hval0 hW hcnd _
  have hval : ∀ (j : Nat) t v, Try.f4.params[j]? = some t → args[j]? = some v → Value.okWide Try.prog W .any base t v := hval0
  have hW' := hW
  obtain ⟨p, q, hA0, hV, rfl, hfz, hnd⟩ := hW
  have hA : DataW.TrodAll enc Try.prog W 0 (fun _ => true) true Try.f4.params.toList args.toList ds p := hA0
  rw [Try.params4] at hA hval
  obtain ⟨v0, vs0, d0, ds0, p0, q0, hargs, rfl, rfl, h0, r0⟩ := trodAll_cons hA
  obtain ⟨v1, vs1, d1, ds1, p1, q1, rfl, rfl, rfl, h1, r1⟩ := trodAll_cons r0
  obtain ⟨rfl, rfl, rfl⟩ := trodAll_nil r1
  obtain rfl : args = #[v0, v1] := by cases args; simp_all
  obtain ⟨rfl, rfl⟩ := trodVars_none hV
  have K0 := h0
  have lt0 : ∀ x ∈ p0, x.block < W.heap.size := by obtain ⟨m, hm⟩ := K0; exact DataW.trod_lt m _ _ _ hm
  obtain ⟨X0, a0, c0, rt0, rfl, w0⟩ := open_scene Try.underlying24 (by kernel_rfl) (by kernel_rfl) Try.underlying22 Try.underlying3 Try.underlying45 (by kernel_rfl) rfl rfl rfl rfl (by kernel_rfl) (by kernel_rfl) (by kernel_rfl) (by kernel_rfl) Try.underlying3 Try.underlying42 Try.underlying43 Try.underlying34 Try.underlying2 Try.underlying9 Try.underlying3 (by kernel_rfl) (by kernel_rfl) (by kernel_rfl) (hval 0 24 v0 rfl rfl) h0
  obtain ⟨a1, rfl, rfl, rfl, w1⟩ := open_int Try.underlying3 (hval 1 3 v1 rfl rfl) h1
  clear hA0 hval0
  refine (walk X0 a0 c0 rt0 a1 W w0 w1).mono fun e W' ⟨he, bel⟩ => ?_
  subst he
  exact ⟨_, rfl, _, _, _, [], _, [], hW', trodAll_mk1 (shut_bool Try.underlying4 _), (trodAll_cons_mk (Below.trod laidOut (by kernel_rfl) (of_decide_eq_true (by kernel_rfl)) K0 bel lt0) (trodAll_cons_mk (shut_int Try.underlying3 w1) trodAll_mk0)), rfl, bel.frame _, fun h => by cases h⟩

theorem over : Rows.graphBelowRow.holds Try.pinned (OpenSpec.ofChange Rows.graphBelowSpec) :=
  OpenClaim.holds_of_wide 4 Try.f4 rfl rfl rfl rfl rfl rfl rfl ⟨rfl, rfl, rfl, rfl, rfl⟩ rfl rfl rfl rfl rfl (by kernel_rfl) Try.func4 (by kernel_rfl)
    (of_decide_eq_true (by kernel_rfl)) (by unfold Func.isWrapper; first | (rw [if_pos (by decide +kernel)]; kernel_rfl) | (rw [if_neg (by decide +kernel)]; exact ⟨rfl, rfl⟩))
    (fun os started H enc _ => lifted os started H enc)

end Go.Proofs.Ytlfibkfjklggeaa.graphBelow

namespace Go.Proofs.Ytlfibkfjklggeaa
theorem graphBelow_holds : Rows.GraphBelowSaid := graphBelow.over
#print axioms graphBelow_holds
end Go.Proofs.Ytlfibkfjklggeaa
