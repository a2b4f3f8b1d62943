/- For every scene with which nothing is wrong, every place and every one of its node's kids: with that kid made a node of its own, like the one that it was, Canon tells that nothing leads to some node any more, or a canonical scene of one node more than before, which is another one (scenes greater than the law plays with are let go by the law itself); the arguments read afterwards as before. -/
import Derived.Test.YtnmdkbeicggfhaaRows
import Derived.WalkKit
import Derived.ProofKit
import Derived.OpenShut
import Derived.ShutString
import Derived.Below
import Derived.Test.YtnmdkbeicggfhaaCAp
import Derived.ChangeOld
namespace Go.Proofs.Ytnmdkbeicggfhaa.canonApart
open Go.ChangeShapes Go.WideShapes Go.ChangeAt Go.RowKit
open Go.ChangeMaps (open_string shut_string)
set_option linter.unusedVariables false

theorem own : ownKnob Try.prog.godebug = none := by kernel_rfl
theorem laidOut : laidOutB Try.prog = true := by kernel_rfl

set_option maxRecDepth 10000 in
set_option maxHeartbeats 2000000 in
theorem walk (X0 : List Nx) (a0 : Option Addr) (c0 : Nat) (r0 : Int) (a1 : Int) (a2 : Int) (w : World) (w0 : IsSc w a0 X0 r0) (w1 : (Lit.int .i64 a1).wf = true) (w2 : (Lit.int .i64 a2).wf = true) :
    Calls Try.prog 8 #[.agg #[.slice a0 X0.length c0, .int .i64 r0], .int .i64 a1, .int .i64 a2] w fun e w' => e = .returned (.bool true) ∧ Below w.heap.size w w' := by
  have HA : Hid (∀ W, Calls Try.prog 9 #[] W fun e w' => e = .returned (.bool true) ∧ Below W.heap.size W w') := awake_any
  have HS : Hid (IsSc w a0 X0 r0) := w0
  have HL : Hid (Lw w (w.alloc (.cells #[.slice a0 X0.length c0, .int .i64 r0] 24)) a0 X0 c0 r0) := Lw.start w a0 X0 c0 r0
  clear w0
  go_enter Try.func8, Try.ntmps8
  go_wp2_with fail
  refine (HA.out _).mono ?_
  rintro e w1 ⟨rfl, hb1⟩
  have HL1 : Hid (Lw w w1 a0 X0 c0 r0) := HL.out.more hb1
  have x0 := HL1.out.c0
  have x1 := HL1.out.c1
  have HG : Hid (Calls Try.prog 10 #[.agg #[.slice a0 X0.length c0, .int .i64 r0]] w1 fun e w' => GreatOut X0 w1 w' e) := sgreat_any X0 a0 c0 r0 w1 (HL1.out.sc HS.out)
  clear HL hb1
  go_wp2_with fail
  refine Calls.mono HG.out ?_
  rintro e w2 ⟨g, rfl, hg, hb2⟩
  have HL2 : Hid (Lw w w2 a0 X0 c0 r0) := HL1.out.more hb2
  clear HG HL1 hb2 x0 x1
  cases g with
  | true =>
    go_wp2_with fail
    refine (HA.out _).mono ?_
    rintro e w3 ⟨rfl, hb3⟩
    have HB : Hid (Below w.heap.size w w3) := (HL2.out.more hb3).bel
    clear HL2 hb3
    go_wp2_with fail
    go_ret
    exact ⟨rfl, HB.out⟩
  | false =>
    have HSm : Hid (Small X0) := (hg rfl).1
    have x0 := HL2.out.c0
    have x1 := HL2.out.c1
    have HX60 : Hid (X0.length ≤ 60) := (hg rfl).2
    have HRt : Hid (Calls Try.prog 21 #[.agg #[.slice a0 X0.length c0, .int .i64 r0]] w2 fun e w' => RightOut X0 r0 w2 w' e) := right_any X0 a0 c0 r0 w2 (HL2.out.sc HS.out) HSm.out
    clear hg
    go_wp2_with fail
    refine Calls.mono HRt.out ?_
    rintro e w2' ⟨q, rfl, hq, hb2⟩
    have HL3 : Hid (Lw w w2' a0 X0 c0 r0) := HL2.out.more hb2
    clear HRt HL2 hb2 x0 x1
    cases q with
    | false =>
      go_wp2_with fail
      refine (HA.out _).mono ?_
      rintro e w9 ⟨rfl, hb9⟩
      have HB : Hid (Below w.heap.size w w9) := (HL3.out.more hb9).bel
      clear hb9
      go_wp2_with fail
      go_ret
      exact ⟨rfl, HB.out⟩
    | true =>
      have HR : Hid (RightIs X0 r0) := hq.1 rfl
      have hn := HSm.out.1
      clear hq
      have x0 := HL3.out.c0
      have x1 := HL3.out.c1
      have HPl : Hid (Calls Try.prog 22 #[.agg #[.slice a0 X0.length c0, .int .i64 r0], .int .i64 a1] w2' fun e w' => e = .returned (.bool (isPb X0.length a1)) ∧ Below w2'.heap.size w2' w') := place_any a0 X0.length c0 r0 a1 w2'
      go_wp2_with fail
      refine Calls.mono HPl.out ?_
      rintro e w4 ⟨rfl, hb4⟩
      have HL4 : Hid (Lw w w4 a0 X0 c0 r0) := HL3.out.more hb4
      clear HPl HL3 hb4 x0 x1
      by_cases hpt : isPb X0.length a1 = false
      · rw [hpt]
        go_wp2_with fail
        refine (HA.out _).mono ?_
        rintro e w9 ⟨rfl, hb9⟩
        have HB : Hid (Below w.heap.size w w9) := (HL4.out.more hb9).bel
        clear hb9
        go_wp2_with fail
        go_ret
        exact ⟨rfl, HB.out⟩
      rw [Bool.not_eq_false] at hpt
      rw [hpt]
      obtain ⟨t, rfl, htl⟩ : ∃ t : Nat, a1 = (t : Int) ∧ t < X0.length := by
        have := isPb_iff.1 hpt
        exact ⟨a1.toNat, by omega, by omega⟩
      clear hpt
      have htl' : (t : Int) < X0.length := by omega
      obtain ⟨b, o, rfl, hbl, d0, d1, d2, d3⟩ := (HL4.out.sc HS.out).node htl
      have x0 := HL4.out.c0
      have x1 := HL4.out.c1
      by_cases hq0 : a2 < 0
      · clear d0 d1 d2 d3
        go_wp2_with fail
        refine (HA.out _).mono ?_
        rintro e w9 ⟨rfl, hb9⟩
        have HB : Hid (Below w.heap.size w w9) := (HL4.out.more hb9).bel
        clear hb9
        go_wp2_with fail
        go_ret
        exact ⟨rfl, HB.out⟩
      by_cases hq1 : ((X0.getD t noNx).nd.kids.length : Int) ≤ a2
      · generalize X0.getD t noNx = N at *
        go_wp2_with fail
        refine (HA.out _).mono ?_
        rintro e w9 ⟨rfl, hb9⟩
        have HB : Hid (Below w.heap.size w w9) := (HL4.out.more hb9).bel
        clear hb9
        go_wp2_with fail
        go_ret
        exact ⟨rfl, HB.out⟩
      obtain ⟨q, rfl, hql⟩ : ∃ q : Nat, a2 = (q : Int) ∧ q < (X0.getD t noNx).nd.kids.length := ⟨a2.toNat, by omega, by omega⟩
      have hql' : (q : Int) < (X0.getD t noNx).nd.kids.length := by omega
      have hpb := isPb_iff.1 (HR.out.2.1 t htl q hql)
      obtain ⟨k, hkk, hkl⟩ : ∃ k : Nat, (X0.getD t noNx).nd.kids.getD q 0 = (k : Int) ∧ k < X0.length := ⟨((X0.getD t noNx).nd.kids.getD q 0).toNat, by omega, by omega⟩
      have HCp2 : Hid (Calls Try.prog 12 #[.agg #[.slice (some ⟨b, o, none⟩) X0.length c0, .int .i64 r0]] w4 fun e w' => SCopyOut2 X0 r0 w4 w' e) := scopy2_any X0 (some ⟨b, o, none⟩) c0 r0 w4 (HL4.out.sc HS.out) HSm.out
      have Hkk : Hid ((X0.getD t noNx).nd.kids.getD q 0 = (k : Int)) := hkk
      obtain ⟨b', o', hbo, _, f0, f1, f2, f3⟩ := (HL4.out.sc HS.out).node hkl
      simp only [Option.some.injEq, Addr.mk.injEq, and_true] at hbo
      obtain ⟨rfl, rfl⟩ := hbo
      obtain ⟨b3, o3, e3, hb3, d4⟩ := ((HL4.out.sc HS.out).each t htl).k.at (iV_at _ q hql)
      rw [hkk] at d4
      have HD4 : Hid (w4.cell? ⟨b, o + t * 4 + 3, none⟩ = some (.slice (X0.getD t noNx).a3 (X0.getD t noNx).nd.kids.length (X0.getD t noNx).c3) ∧ w4.cell? ⟨b3, o3 + q, none⟩ = some (.int .i64 (k : Int)) ∧ w4.cell? ⟨b, o + k * 4, none⟩ = some (.int .i64 (X0.getD k noNx).nd.kind) ∧ w4.cell? ⟨b, o + k * 4 + 1, none⟩ = some (.slice (X0.getD k noNx).a1 (X0.getD k noNx).nd.ints.length (X0.getD k noNx).c1) ∧ w4.cell? ⟨b, o + k * 4 + 2, none⟩ = some (.slice (X0.getD k noNx).a2 (X0.getD k noNx).nd.texts.length (X0.getD k noNx).c2) ∧ w4.cell? ⟨b, o + k * 4 + 3, none⟩ = some (.slice (X0.getD k noNx).a3 (X0.getD k noNx).nd.kids.length (X0.getD k noNx).c3)) := ⟨d3, d4, f0, f1, f2, f3⟩
      have He3 : Hid ((X0.getD t noNx).a3 = some ⟨b3, o3, none⟩) := e3
      have Hw4 : Hid (w.heap.size < w4.heap.size ∧ w4.cell? ⟨w.heap.size, 0, none⟩ = some (.slice (some ⟨b, o, none⟩) X0.length c0)) := ⟨HL4.out.at_.lt, HL4.out.c0⟩
      clear d4 f0 f1 f2 f3 e3
      obtain ⟨N, hN⟩ : ∃ N, X0.getD t noNx = N := ⟨_, rfl⟩
      have HN : Hid (X0.getD t noNx = N) := hN
      rw [hN] at d3 hq1 hql hql' d0 d1 d2 HD4 He3
      have HSc4 : Hid (ScAt w4 (some ⟨b, o, none⟩) X0) := HL4.out.sc HS.out
      clear hN hpb hkk HA
      go_wp2_with fail
      refine Calls.mono HCp2.out ?_
      rintro e w5 ⟨Y, ay, cy, rfl, hY, hrow5, heach5, hap5, hb5⟩
      obtain ⟨gy, rfl⟩ : ∃ gy, ay = some ⟨gy, 0, none⟩ := by
        rcases hrow5.2 with ⟨h0, h1⟩ | ⟨g', cap, cur, hv, _⟩
        · have := congrArg List.length hY
          simp at this
          omega
        · cases hv; exact ⟨g', rfl⟩
      have hYl : Y.length = X0.length := by simpa using congrArg List.length hY
      have HL5 : Hid (Lw w w5 (some ⟨b, o, none⟩) X0 c0 r0) := HL4.out.more hb5
      have hgyl := hrow5.lt gy rfl
      have HY5 : Hid (Y.map Nx.nd = X0.map Nx.nd ∧ Y.length = X0.length) := ⟨hY, hYl⟩
      have HT5 : Hid (∀ ob : Obj, ob = .cells #[.slice (some ⟨gy, 0, none⟩) Y.length cy, .int .i64 r0] 24 → AtN 24 (w5.alloc ob) w5.heap.size #[.slice (some ⟨gy, 0, none⟩) Y.length cy, .int .i64 r0] ∧ (w5.alloc ob).ownsRow w4.heap.size 40 4 (.slice (some ⟨gy, 0, none⟩) Y.length cy) Y.length (nxV Y) ∧ (∀ j, j < Y.length → OwnNx (w5.alloc ob) w4.heap.size (Y.getD j noNx)) ∧ Lw w (w5.alloc ob) (some ⟨b, o, none⟩) X0 c0 r0 ∧ (w5.alloc ob).heap.size = w5.heap.size + 1 ∧ Below w4.heap.size w4 (w5.alloc ob)) := by
        rintro _ rfl
        exact ⟨AtN.new w5 24 _, hrow5.alloc _, fun j hj => (heach5 j hj).kept (World.grownBy_alloc w5 _ none) (by simp), HL5.out.more ((Below.refl w5.heap.size w5).alloc (Nat.le_refl _) _), by simp, hb5.alloc hb5.size _⟩
      have HAp : Hid (Aprt Y) := hap5
      have h45 : w4.heap.size ≤ w5.heap.size := hb5.size
      have hYl61 : Y.length ≤ 61 := by omega
      clear HCp2 HL5 hrow5 heach5 hap5 hb5 hY hYl x0 x1 d0 d1 d2 d3
      go_wp2_with fail
      obtain ⟨hT1, hT2, hT3, hL6, hs6, hB40⟩ := HT5.out _ rfl
      have hgt0' : w5.heap.size < w5.heap.size + 1 := by omega
      generalize w5.alloc (.cells #[.slice (some ⟨gy, 0, none⟩) Y.length cy, .int .i64 r0] 24) = W0 at *
      have HT0 : Hid (AtN 24 W0 w5.heap.size #[.slice (some ⟨gy, 0, none⟩) Y.length cy, .int .i64 r0] ∧ W0.ownsRow w4.heap.size 40 4 (.slice (some ⟨gy, 0, none⟩) Y.length cy) Y.length (nxV Y)) := ⟨hT1, hT2⟩
      have HE0 : Hid (∀ j, j < Y.length → OwnNx W0 w4.heap.size (Y.getD j noNx)) := hT3
      have HL6 : Hid (Lw w W0 (some ⟨b, o, none⟩) X0 c0 r0) := hL6
      have hgt0 : w5.heap.size < W0.heap.size := by omega
      have HB40 : Hid (Below w4.heap.size w4 W0) := hB40
      have hw4 := Hw4.out.1
      have x0 := Hw4.out.2
      have hx0l : (⟨w.heap.size, 0, none⟩ : Addr).block < w4.heap.size := hw4
      obtain ⟨d3, d4, f0, f1, f2, f3⟩ := HD4.out
      rw [He3.out] at d3
      have HBW : Hid (∀ W, Fr (MkS w5.heap.size (.slice (some ⟨gy, 0, none⟩) Y.length cy)) W0 W → Below w4.heap.size w4 W) := fun W hf => Fr.below HB40.out hf (fun z hz => by
        rcases hz with hz | hz
        · simp only [Value.ownBlock, Option.some.injEq] at hz; omega
        · omega) (by omega)
      have HRd : Hid (∀ W, Fr (MkS w5.heap.size (.slice (some ⟨gy, 0, none⟩) Y.length cy)) W0 W → ∀ (p : Addr) (v : Value), p.block < w4.heap.size → w4.cell? p = some v → W.cell? p = some v) := fun W hf p v hp hv => ((HBW.out W hf).cell (p := p) hp).trans hv
      have HCp : Hid (∀ W, Fr (MkS w5.heap.size (.slice (some ⟨gy, 0, none⟩) Y.length cy)) W0 W → Calls Try.prog 27 #[.agg #[.int .i64 (X0.getD k noNx).nd.kind, .slice (X0.getD k noNx).a1 (X0.getD k noNx).nd.ints.length (X0.getD k noNx).c1, .slice (X0.getD k noNx).a2 (X0.getD k noNx).nd.texts.length (X0.getD k noNx).c2, .slice (X0.getD k noNx).a3 (X0.getD k noNx).nd.kids.length (X0.getD k noNx).c3]] W fun e w' => NdOut W w' e (X0.getD k noNx).nd) := fun W hf => by
        have hgr := great_no (HSm.out.2 k hkl)
        exact rcopy_any (X0.getD k noNx).nd (X0.getD k noNx).a1 (X0.getD k noNx).a2 (X0.getD k noNx).a3 (X0.getD k noNx).c1 (X0.getD k noNx).c2 (X0.getD k noNx).c3 W ((HSc4.out.belowB (HBW.out W hf)).each k hkl) hgr.1 hgr.2.1 hgr.2.2.1
      have H4 : Hid (∀ (W : World) (v' : Value) (y : Nx), Fr (MkS w5.heap.size (.slice (some ⟨gy, 0, none⟩) Y.length cy)) W0 W → y.nd = (X0.getD k noNx).nd → AtN 24 W w5.heap.size #[v', .int .i64 r0] → W.ownsRow w4.heap.size 40 4 v' (Y.length + 1) (nxV Y ++ nxC y) → OwnNx W W0.heap.size y → ∃ (g7 c7 q3 : Nat) (T : List Nx), v' = .slice (some ⟨g7, 0, none⟩) T.length c7 ∧ T.length = X0.length + 1 ∧ AtN 24 W w5.heap.size #[.slice (some ⟨g7, 0, none⟩) T.length c7, .int .i64 r0] ∧ W.ownsRow w4.heap.size 40 4 (.slice (some ⟨g7, 0, none⟩) T.length c7) T.length (nxV T) ∧ (∀ j, j < T.length → OwnNx W w4.heap.size (T.getD j noNx)) ∧ Aprt T ∧ Below w4.heap.size w4 W ∧ (T.getD t noNx).a3 = some ⟨q3, 0, none⟩ ∧ (T.getD t noNx).nd.kids = N.nd.kids ∧ T = Y ++ [y] ∧ y.nd = (X0.getD k noNx).nd) := fun W v' y hf hy hA hrow hO => by
        obtain ⟨a7, c7, rfl⟩ := own_shape4 hrow
        obtain ⟨g7, rfl⟩ : ∃ g7, a7 = some ⟨g7, 0, none⟩ := by
          rcases hrow.2 with ⟨_, h1⟩ | ⟨g', cap, cur, hv, _⟩
          · omega
          · cases hv; exact ⟨g', rfl⟩
        have hl : (Y ++ [y]).length = Y.length + 1 := by simp
        have hal : Alien W0 (MkS w5.heap.size (.slice (some ⟨gy, 0, none⟩) Y.length cy)) := by
          rintro z (hz | rfl) hlt
          · rcases HT0.out.2.2 with ⟨h0, _⟩ | ⟨g', cap, cur, hv, _, h5, _⟩
            · cases h0
            · cases hv
              simp only [Value.ownBlock, Option.some.injEq] at hz
              subst hz
              exact ⟨_, _, _, h5, by decide, by decide, by decide⟩
          · exact ⟨_, _, _, HT0.out.1, by decide, by decide, by decide⟩
        have heach : ∀ j, j < (Y ++ [y]).length → OwnNx W w4.heap.size ((Y ++ [y]).getD j noNx) := fun j hj => by
          by_cases hjl : j < Y.length
          · rw [getD_snocN Y y j hjl]
            exact (HE0.out j hjl).fr hf hal
          · obtain rfl : j = Y.length := by omega
            rw [show (Y ++ [y]).getD Y.length noNx = y by simp]
            exact hO.mono (by omega)
        have hkt : ((Y ++ [y]).getD t noNx).nd.kids = N.nd.kids := by
          rw [getD_snocN Y y t (by rw [HY5.out.2]; exact htl), nds_at HY5.out.1 t htl, HN.out]
        obtain ⟨q3, hq3⟩ : ∃ q3, ((Y ++ [y]).getD t noNx).a3 = some ⟨q3, 0, none⟩ := by
          obtain ⟨g, e, _⟩ := own_store9 (heach t (by rw [hl, HY5.out.2]; omega)).k q (by rw [hkt]; exact hql)
          exact ⟨g, e⟩
        rw [← hl] at hA hrow
        refine ⟨g7, c7, q3, Y ++ [y], by rw [hl], by rw [hl, HY5.out.2], hA, by rw [nxV_snoc]; exact hrow, heach, ?_, HBW.out W hf, hq3, hkt, rfl, hy⟩
        exact HAp.out.snoc (B := W0.heap.size) (fun j hj g hg => ((HE0.out j hj).k.lt g hg).2) (fun g hg => (hO.k.lt g hg).1)
      have Hnk : Hid (∀ y : Nx, y.nd = (X0.getD k noNx).nd → y.nd = (X0.getD k noNx).nd) := fun _ h => h
      obtain ⟨Nk, hNk⟩ : ∃ Nk, X0.getD k noNx = Nk := ⟨_, rfl⟩
      have HNk : Hid (X0.getD k noNx = Nk) := hNk
      rw [hNk] at HCp H4 f0 f1 f2 f3
      have hkl' : (k : Int) < X0.length := by omega
      clear hNk Hnk HBW HB40 HE0 HAp HD4 He3 HT5
      obtain ⟨i0, hi, hz0, hz1, hz2⟩ := info_parts Try.infoD9
      go_wp2_with fail
      refine facts_region8 (fun W => Fr (MkS w5.heap.size (.slice (some ⟨gy, 0, none⟩) Y.length cy)) W0 W ∧ ∃ v1, AtN 24 W w5.heap.size #[v1, .int .i64 r0]) (apF X0.length b o c0 w.heap.size w5.heap.size t q k b3 o3 N Nk r0 (.slice (some ⟨gy, 0, none⟩) Y.length cy) Y w4.heap.size W0.heap.size) apC (apFI w4.heap.size w5.heap.size r0 (.slice (some ⟨gy, 0, none⟩) Y.length cy) Y) apD (by kernel_rfl) (by kernel_rfl) ⟨(Fr.refl _ _).drew, _, HT0.out.1⟩ (apFI_drew HT0.out.2 HT0.out.1) ?hdead ?loc ?step ?fin
      case hdead =>
        intro i' j' oi oj hi' hj' hd
        simp only [apD, Bool.and_eq_true, beq_iff_eq] at hd
        obtain ⟨rfl, rfl⟩ := hd
        obtain rfl := Option.some.inj hj'
        kernel_rfl
      case loc =>
        intro j' o' V V' W ho hd hk h
        rcases j' with _|_|_|_|_|_|_|_|_|_|_|_|_|_|_|_|_|_|_|_|j'
        · obtain rfl := Option.some.inj ho
          have e : V (some 47) = V' (some 47) := hd
          simp only [apF] at h ⊢
          rw [← e]; exact h
        · obtain rfl := Option.some.inj ho
          have e : V (some 48) = V' (some 48) := hd
          simp only [apF] at h ⊢
          rw [← e]; exact h
        · obtain rfl := Option.some.inj ho
          have e : V (some 49) = V' (some 49) := hd
          simp only [apF] at h ⊢
          rw [← e]; exact h
        · obtain rfl := Option.some.inj ho
          have e : V (some 50) = V' (some 50) := hd
          simp only [apF] at h ⊢
          rw [← e]; exact h
        · obtain rfl := Option.some.inj ho
          have e : V (some 51) = V' (some 51) := hd
          simp only [apF] at h ⊢
          rw [← e]; exact h
        · obtain rfl := Option.some.inj ho
          have e : V (some 52) = V' (some 52) := hd
          simp only [apF] at h ⊢
          rw [← e]; exact h
        · obtain rfl := Option.some.inj ho
          have e : V (some 53) = V' (some 53) := hd
          simp only [apF] at h ⊢
          rw [← e]; exact h
        · obtain rfl := Option.some.inj ho
          have e : V (some 54) = V' (some 54) := hd
          simp only [apF] at h ⊢
          rw [← e]; exact h
        · obtain rfl := Option.some.inj ho
          have e : V (some 55) = V' (some 55) := hd
          simp only [apF] at h ⊢
          rw [← e]; exact h
        · obtain rfl := Option.some.inj ho
          have e : V (some 56) = V' (some 56) := hd
          simp only [apF] at h ⊢
          rw [← e]; exact h
        · obtain rfl := Option.some.inj ho
          have e : V (some 57) = V' (some 57) := hd
          simp only [apF] at h ⊢
          rw [← e]; exact h
        · obtain rfl := Option.some.inj ho
          have e : V (some 58) = V' (some 58) := hd
          simp only [apF] at h ⊢
          rw [← e]; exact h
        · obtain rfl := Option.some.inj ho
          have e : V (some 59) = V' (some 59) := hd
          simp only [apF] at h ⊢
          rw [← e]; exact h
        · obtain rfl := Option.some.inj ho
          have e : V (some 60) = V' (some 60) := hd
          simp only [apF] at h ⊢
          rw [← e]; exact h
        · obtain rfl := Option.some.inj ho
          have e : V (some 61) = V' (some 61) := hd
          simp only [apF] at h ⊢
          rw [← e]; exact h
        · obtain rfl := Option.some.inj ho
          have e : V (some 62) = V' (some 62) := hd
          simp only [apF] at h ⊢
          rw [← e]; exact h
        · obtain rfl := Option.some.inj ho
          have e : V (some 63) = V' (some 63) := hd
          simp only [apF] at h ⊢
          rw [← e]; exact h
        · obtain rfl := Option.some.inj ho
          have e : V (some 64) = V' (some 64) := hd
          simp only [apF] at h ⊢
          rw [← e]; exact h
        · obtain rfl := Option.some.inj ho
          have e : V (some 65) = V' (some 65) := hd
          simp only [apF] at h ⊢
          rw [← e]; exact h
        · obtain rfl := Option.some.inj ho
          exact h
        · exact absurd ho (by simp)
      case step =>
        intro i' o' ho a W hG hoff hdep hI K hQ hK
        rcases i' with _|_|_|_|_|_|_|_|_|_|_|_|_|_|_|_|_|_|_|_|i'
        · obtain rfl := Option.some.inj ho
          have t7 : a.tmps[7]?.getD undef = .pointer (some ⟨w5.heap.size, 0, none⟩) := hoff 7 (by kernel_rfl)
          clear hdep hoff hI
          go_simp
          exact hQ _ (fun _ h1 _ => h1)
        · obtain rfl := Option.some.inj ho
          have e0 : a.tmps[47]?.getD undef = .pointer (some ⟨w5.heap.size, 0, none⟩) := hdep 0 (by kernel_rfl)
          clear hdep hoff
          have rW : W.cell? ⟨w5.heap.size, 0, none⟩ = some (.slice (some ⟨gy, 0, none⟩) Y.length cy) := (hI 1 (by kernel_rfl)).cell 0
          clear hI
          go_simp
          exact hQ _ (fun _ h1 _ => h1)
        · obtain rfl := Option.some.inj ho
          have t3 : a.tmps[3]?.getD undef = .pointer (some ⟨w.heap.size, 0, none⟩) := hoff 3 (by kernel_rfl)
          clear hdep hoff hI
          go_simp
          exact hQ _ (fun _ h1 _ => h1)
        · obtain rfl := Option.some.inj ho
          have e2 : a.tmps[49]?.getD undef = .pointer (some ⟨w.heap.size, 0, none⟩) := hdep 2 (by kernel_rfl)
          clear hdep hoff hI
          have x0W := HRd.out W hG.1 _ _ hx0l x0
          go_simp
          exact hQ _ (fun _ h1 _ => h1)
        · obtain rfl := Option.some.inj ho
          have t3 : a.tmps[3]?.getD undef = .pointer (some ⟨w.heap.size, 0, none⟩) := hoff 3 (by kernel_rfl)
          clear hdep hoff hI
          go_simp
          exact hQ _ (fun _ h1 _ => h1)
        · obtain rfl := Option.some.inj ho
          have e4 : a.tmps[51]?.getD undef = .pointer (some ⟨w.heap.size, 0, none⟩) := hdep 4 (by kernel_rfl)
          clear hdep hoff hI
          have x0W := HRd.out W hG.1 _ _ hx0l x0
          go_simp
          exact hQ _ (fun _ h1 _ => h1)
        · obtain rfl := Option.some.inj ho
          have t1 : a.tmps[1]?.getD undef = .int .i64 (t : Int) := hoff 1 (by kernel_rfl)
          clear hdep hoff hI
          go_simp
          exact hQ _ (fun _ h1 _ => h1)
        · obtain rfl := Option.some.inj ho
          have e5 : a.tmps[52]?.getD undef = .slice (some ⟨b, o, none⟩) X0.length c0 := hdep 5 (by kernel_rfl)
          have e6 : a.tmps[53]?.getD undef = .int .i64 (t : Int) := hdep 6 (by kernel_rfl)
          clear hdep hoff hI
          go_simp
          exact hQ _ (fun _ h1 _ => h1)
        · obtain rfl := Option.some.inj ho
          have e7 : a.tmps[54]?.getD undef = .pointer (some ⟨b, o + t * 4, none⟩) := hdep 7 (by kernel_rfl)
          clear hdep hoff hI
          go_simp
          exact hQ _ (fun _ h1 _ => h1)
        · obtain rfl := Option.some.inj ho
          have e8 : a.tmps[55]?.getD undef = .pointer (some ⟨b, o + t * 4 + 3, none⟩) := hdep 8 (by kernel_rfl)
          clear hdep hoff hI
          have d3W := HRd.out W hG.1 _ _ hbl d3
          go_simp
          exact hQ _ (fun _ h1 _ => h1)
        · obtain rfl := Option.some.inj ho
          have t2 : a.tmps[2]?.getD undef = .int .i64 (q : Int) := hoff 2 (by kernel_rfl)
          clear hdep hoff hI
          go_simp
          exact hQ _ (fun _ h1 _ => h1)
        · obtain rfl := Option.some.inj ho
          have e9 : a.tmps[56]?.getD undef = .slice (some ⟨b3, o3, none⟩) N.nd.kids.length N.c3 := hdep 9 (by kernel_rfl)
          have e10 : a.tmps[57]?.getD undef = .int .i64 (q : Int) := hdep 10 (by kernel_rfl)
          clear hdep hoff hI
          go_simp
          exact hQ _ (fun _ h1 _ => h1)
        · obtain rfl := Option.some.inj ho
          have e11 : a.tmps[58]?.getD undef = .pointer (some ⟨b3, o3 + q, none⟩) := hdep 11 (by kernel_rfl)
          clear hdep hoff hI
          have d4W := HRd.out W hG.1 _ _ hb3 d4
          go_simp
          exact hQ _ (fun _ h1 _ => h1)
        · obtain rfl := Option.some.inj ho
          have e3 : a.tmps[50]?.getD undef = .slice (some ⟨b, o, none⟩) X0.length c0 := hdep 3 (by kernel_rfl)
          have e12 : a.tmps[59]?.getD undef = .int .i64 (k : Int) := hdep 12 (by kernel_rfl)
          clear hdep hoff hI
          go_simp
          exact hQ _ (fun _ h1 _ => h1)
        · obtain rfl := Option.some.inj ho
          have e13 : a.tmps[60]?.getD undef = .pointer (some ⟨b, o + k * 4, none⟩) := hdep 13 (by kernel_rfl)
          clear hdep hoff hI
          have e0W := HRd.out W hG.1 _ _ hbl f0
          have e1W := HRd.out W hG.1 _ _ hbl f1
          have e2W := HRd.out W hG.1 _ _ hbl f2
          have e3W := HRd.out W hG.1 _ _ hbl f3
          go_simp
          exact hQ _ (fun _ h1 _ => h1)
        · obtain rfl := Option.some.inj ho
          have e14 : a.tmps[61]?.getD undef = .agg #[.int .i64 Nk.nd.kind, .slice Nk.a1 Nk.nd.ints.length Nk.c1, .slice Nk.a2 Nk.nd.texts.length Nk.c2, .slice Nk.a3 Nk.nd.kids.length Nk.c3] := hdep 14 (by kernel_rfl)
          clear hdep hoff hI
          have HC : Hid _ := HCp.out W hG.1
          have HG : Hid (Fr (MkS w5.heap.size (.slice (some ⟨gy, 0, none⟩) Y.length cy)) W0 W ∧ ∃ v1, AtN 24 W w5.heap.size #[v1, .int .i64 r0]) := hG
          have hsW := hG.1.size
          clear hG
          go_simp
          refine Calls.mono HC.out ?_
          rintro e w' ⟨a1, c1, a2, c2, a3, c3, rfl, hO, hb⟩
          have hgb : W.grownBy w' none := ⟨hb.os, hb.tape, hb.output, hb.size, fun z hz _ => hb.block z hz⟩
          exact hK _ _ ⟨HG.out.1.trans (Fr.of_below (S := fun _ => False) hb) (fun _ z _ => z.elim), by obtain ⟨v1, hv⟩ := HG.out.2; exact ⟨v1, hv.belowAll hb⟩⟩ (apFI_below hb) (apF_kept 15 hgb (fun z hz => by cases hz) (.inl rfl)) (fun V' h1 _ => ⟨⟨Nk.nd, a1, c1, a2, c2, a3, c3⟩, rfl, h1, OwnNd.mono hO hsW⟩)
        · obtain rfl := Option.some.inj ho
          have e15 : ∃ y : Nx, y.nd = Nk.nd ∧ a.tmps[62]?.getD undef = .agg (nxC y).toArray ∧ OwnNx W W0.heap.size y := hdep 15 (by kernel_rfl)
          clear hdep hoff hI
          obtain ⟨y, hy, e1, hO⟩ := e15
          have e2 : a.tmps[62]?.getD undef = .agg #[.int .i64 y.nd.kind, .slice y.a1 y.nd.ints.length y.c1, .slice y.a2 y.nd.texts.length y.c2, .slice y.a3 y.nd.kids.length y.c3] := e1
          have HO : Hid (OwnNx W W0.heap.size y ∧ y.nd = Nk.nd) := ⟨hO, hy⟩
          have HG : Hid (Fr (MkS w5.heap.size (.slice (some ⟨gy, 0, none⟩) Y.length cy)) W0 W ∧ ∃ v1, AtN 24 W w5.heap.size #[v1, .int .i64 r0]) := hG
          have hsW := hG.1.size
          clear e1 hO hy hG
          go_simp
          exact hK _ _ ⟨HG.out.1.alloc _, by obtain ⟨v1, hv⟩ := HG.out.2; exact ⟨v1, hv.alloc _⟩⟩ (apFI_below ((Below.refl W.heap.size W).alloc (Nat.le_refl _) _)) (apF_kept 16 (World.grownBy_alloc _ _ none) (fun z hz => by cases hz) (.inl rfl)) (fun V' h1 _ => ⟨y, W.heap.size, HO.out.2, h1, hsW, AtN.new W 40 _, HO.out.1.kept (World.grownBy_alloc W _ none) (by simp)⟩)
        · obtain rfl := Option.some.inj ho
          have e1 : a.tmps[48]?.getD undef = .slice (some ⟨gy, 0, none⟩) Y.length cy := hdep 1 (by kernel_rfl)
          have e16 : ∃ (y : Nx) (g8 : Nat), y.nd = Nk.nd ∧ a.tmps[63]?.getD undef = .slice (some ⟨g8, 0, none⟩) 1 1 ∧ W0.heap.size ≤ g8 ∧ AtN 40 W g8 (nxC y).toArray ∧ OwnNx W W0.heap.size y := hdep 16 (by kernel_rfl)
          clear hdep hoff
          obtain ⟨y, g8, hy, e2, hg8, hA8, hO⟩ := e16
          have hrow : W.ownsRow w4.heap.size 40 4 (.slice (some ⟨gy, 0, none⟩) Y.length cy) Y.length (nxV Y) := hI 0 (by kernel_rfl)
          have hsW := hG.1.size
          clear hI
          refine step_append_lies W rfl (.tmp 48) (.tmp 63) 22 rfl w4.heap.size 40 i0 (.agg #[.int .i64 0, .slice none 0 0, .slice none 0 0, .slice none 0 0]) 4 80 Try.underlying22 hi hz0 hz1 hz2 rfl (by decide) _ Y.length (nxV Y) (by simpa [Act.eval] using e1) hrow ⟨g8, 0, none⟩ 1 1 (nxC y) (by simpa [Act.eval] using e2) rfl (fun j u hu => World.news_of_block hA8 j u (by simpa using hu)) (by intro u hu; simp [nxC] at hu; rcases hu with rfl | rfl | rfl | rfl <;> rfl) (by decide) (by unfold maxLen; omega) (by omega) (by omega) _ rfl ?_
          intro g2 cap2 w4' hown4 hgrow4 hlie hlt4
          refine hK _ _ ⟨hG.1.trans (Fr.of_grown (S := MkS w5.heap.size (.slice (some ⟨gy, 0, none⟩) Y.length cy)) hgrow4 (fun z hz => .inl hz)) (fun _ z _ => z), ?_⟩ (apFI_app hgrow4 (by show gy ≠ w5.heap.size; omega)) (apF_kept 17 hgrow4 (fun z hz => by simp only [Value.ownBlock, Option.some.injEq] at hz; omega) (.inr rfl)) (fun V' h1 _ => ?_)
          · obtain ⟨v1, hv⟩ := hG.2
            exact ⟨v1, hv.kept hgrow4 (fun z => by simp only [Value.ownBlock, Option.some.injEq] at z; omega)⟩
          · have e : V' (some 64) = .slice (some ⟨g2, 0, none⟩) (Y.length + 1) cap2 := h1
            simp only [apF]
            rw [e]
            refine ⟨y, hy, hown4, ?_, hO.kept hgrow4 (fun z hz => by simp only [Value.ownBlock, Option.some.injEq] at hz; omega)⟩
            intro z
            simp only [Value.ownBlock, Option.some.injEq] at z
            rcases hlie with p | p
            · simp only [Value.ownBlock, Option.some.injEq] at p; omega
            · omega
        · obtain rfl := Option.some.inj ho
          have t7 : a.tmps[7]?.getD undef = .pointer (some ⟨w5.heap.size, 0, none⟩) := hoff 7 (by kernel_rfl)
          clear hdep hoff hI
          go_simp
          exact hQ _ (fun _ h1 _ => h1)
        · obtain rfl := Option.some.inj ho
          have e17 : ∃ y : Nx, y.nd = Nk.nd ∧ W.ownsRow w4.heap.size 40 4 (a.tmps[64]?.getD undef) (Y.length + 1) (nxV Y ++ nxC y) ∧ (a.tmps[64]?.getD undef).ownBlock ≠ some w5.heap.size ∧ OwnNx W W0.heap.size y := hdep 17 (by kernel_rfl)
          have e18 : a.tmps[65]?.getD undef = .pointer (some ⟨w5.heap.size, 0, none⟩) := hdep 18 (by kernel_rfl)
          clear hdep hoff hI
          obtain ⟨y, hy, hrow, hne, hO⟩ := e17
          obtain ⟨v1, hsc⟩ := hG.2
          have y0 : W.cell? ⟨w5.heap.size, 0, none⟩ = some v1 := hsc.cell 0
          have yf := hsc.fz 0
          obtain ⟨a6, c6, e6⟩ := own_shape4 hrow
          rw [e6] at hrow hne
          have HF : Hid (AtN 24 W w5.heap.size #[v1, .int .i64 r0] ∧ W.ownsRow w4.heap.size 40 4 (.slice a6 (Y.length + 1) c6) (Y.length + 1) (nxV Y ++ nxC y) ∧ (Value.slice a6 (Y.length + 1) c6).ownBlock ≠ some w5.heap.size ∧ OwnNx W W0.heap.size y ∧ y.nd = Nk.nd) := ⟨hsc, hrow, hne, hO, hy⟩
          have HG : Hid (Fr (MkS w5.heap.size (.slice (some ⟨gy, 0, none⟩) Y.length cy)) W0 W) := hG.1
          clear hsc hrow hne hO hy hG
          go_simp
          have hA' : AtN 24 (W.setCell ⟨w5.heap.size, 0, none⟩ (.slice a6 (Y.length + 1) c6)) w5.heap.size #[.slice a6 (Y.length + 1) c6, .int .i64 r0] := by simpa using AtN.set HF.out.1 0 (.slice a6 (Y.length + 1) c6)
          exact hK undef _ ⟨HG.out.set ⟨w5.heap.size, 0, none⟩ (.inr rfl) _, _, hA'⟩ (apFI_set (by show (some gy : Option Nat) ≠ some w5.heap.size; intro z; cases z; omega)) (fun j V hj _ h => apF_set _ hgt0 j V hj h) (fun V' _ _ => ⟨.slice a6 (Y.length + 1) c6, y, HF.out.2.2.2.2, hA', own_set' HF.out.2.1 HF.out.2.2.1 _, HF.out.2.2.2.1.kept (grown_set (grown_refl W (some w5.heap.size)) 0 _) (fun z hz => by cases hz; omega)⟩)
        · exact absurd ho (by simp)
      case fin =>
        intro V W hG hF
        have y19 : ∃ (v' : Value) (y : Nx), y.nd = Nk.nd ∧ AtN 24 W w5.heap.size #[v', .int .i64 r0] ∧ W.ownsRow w4.heap.size 40 4 v' (Y.length + 1) (nxV Y ++ nxC y) ∧ OwnNx W W0.heap.size y := hF 19 _ rfl
        obtain ⟨v', y, hy, hA7, hrow7, hO7⟩ := y19
        have H7 : Hid _ := H4.out W v' y hG.1 hy hA7 hrow7 hO7
        clear hF hG H4 hy hA7 hrow7 hO7 HCp HRd x0 d3 d4 f0 f1 f2 f3
        simp only [fillA, Act.put, List.setIfInBounds_toArray, List.set_cons_zero, List.set_cons_succ]
        generalize V (some 47) = z47
        generalize V (some 48) = z48
        generalize V (some 49) = z49
        generalize V (some 50) = z50
        generalize V (some 51) = z51
        generalize V (some 52) = z52
        generalize V (some 53) = z53
        generalize V (some 54) = z54
        generalize V (some 55) = z55
        generalize V (some 56) = z56
        generalize V (some 57) = z57
        generalize V (some 58) = z58
        generalize V (some 59) = z59
        generalize V (some 60) = z60
        generalize V (some 61) = z61
        generalize V (some 62) = z62
        generalize V (some 63) = z63
        generalize V (some 64) = z64
        generalize V (some 65) = z65
        obtain ⟨g7, c7, q3, T, rfl, hTl, hA7, hrow7, heach7, hap7, hb7, ha3, hkids, hTe, hy7⟩ := H7.out
        have htT : t < T.length := by omega
        have hT0 : ∀ j, j < X0.length → (T.getD j noNx).nd = (X0.getD j noNx).nd := fun j hj => by
          rw [hTe, getD_snocN Y y j (by rw [HY5.out.2]; exact hj)]
          exact nds_at HY5.out.1 j hj
        have hTn : (T.getD X0.length noNx).nd = (X0.getD k noNx).nd := by
          rw [hTe, ← HY5.out.2, show (Y ++ [y]).getD Y.length noNx = y by simp, hy7, HNk.out]
        have HT7 : Hid (T.length = X0.length + 1 ∧ (∀ j, j < X0.length → (T.getD j noNx).nd = (X0.getD j noNx).nd) ∧ (T.getD X0.length noNx).nd = (X0.getD k noNx).nd) := ⟨hTl, hT0, hTn⟩
        have hTl62 : T.length ≤ 62 := by omega
        have htT' : (t : Int) < T.length := by omega
        have hqT : q < (T.getD t noNx).nd.kids.length := by rw [hkids]; exact hql
        obtain ⟨g3, eg3, c3q, fz3, hg3, hg3l, _⟩ := own_store9 (heach7 t htT).k q hqT
        rw [ha3] at eg3
        simp only [Option.some.injEq, Addr.mk.injEq, and_true] at eg3
        subst eg3
        have hkb : kidB (T.getD t noNx) = some q3 := by unfold kidB; rw [ha3]; rfl
        have HSc : Hid (∀ z : Int, ScAt ((W.setCell ⟨q3, q, none⟩ (.int .i64 z)).drew) (some ⟨g7, 0, none⟩) (T.set t (kidNx (T.getD t noNx) ((T.getD t noNx).nd.kids.set q z)))) := fun z => (own_kid hrow7 heach7 hap7 htT hqT hkb z).belowB (Below.refl _ _).drew
        have h5q : w5.heap.size ≠ q3 := fun e => own_ne_at (heach7 t htT).k hA7 (by decide) q3 hkb e.symm
        have HA8 : Hid (∀ z : Int, AtN 24 ((W.setCell ⟨q3, q, none⟩ (.int .i64 z)).drew) w5.heap.size #[.slice (some ⟨g7, 0, none⟩) T.length c7, .int .i64 r0]) := fun z => (hA7.setOther ⟨q3, q, none⟩ (fun e => h5q e.symm) _).drew
        have HB8 : Hid (∀ z : Int, Below w4.heap.size w4 ((W.setCell ⟨q3, q, none⟩ (.int .i64 z)).drew)) := fun z => (hb7.setCell (p := ⟨q3, q, none⟩) hg3 _).drew
        have s0 : W.cell? ⟨w5.heap.size, 0, none⟩ = some (.slice (some ⟨g7, 0, none⟩) T.length c7) := hA7.cell 0
        have s3 : W.cell? ⟨g7, t * 4 + 3, none⟩ = some (.slice (some ⟨q3, 0, none⟩) N.nd.kids.length (T.getD t noNx).c3) := by
          rw [hrow7.cellAt (t * 4 + 3) (by omega), nxV_at T t 3 htT (by omega)]
          show some (Value.slice (T.getD t noNx).a3 (T.getD t noNx).nd.kids.length (T.getD t noNx).c3) = _
          rw [ha3, hkids]
        rw [iV_at _ q hqT] at c3q
        have HAp7 : Hid (∀ z : Int, z = (X0.length : Int) → Apt X0 (T.set t (kidNx (T.getD t noNx) ((T.getD t noNx).nd.kids.set q z))) t q k) := fun z hz => by
          have hset : ∀ j, (T.set t (kidNx (T.getD t noNx) ((T.getD t noNx).nd.kids.set q z))).getD j noNx = if j = t then kidNx (T.getD t noNx) ((T.getD t noNx).nd.kids.set q z) else T.getD j noNx := fun j => by
            rw [List.getD_eq_getElem?_getD, List.getElem?_set]
            by_cases e : t = j
            · rw [if_pos e, if_pos htT, if_pos e.symm]; rfl
            · rw [if_neg e, if_neg (fun x => e x.symm), ← List.getD_eq_getElem?_getD]
          refine ⟨htl, by rw [HN.out]; exact hql, Hkk.out, hkl, by rw [List.length_set]; exact hTl, fun j hj hne => ?_, ?_, ?_⟩
          · rw [hset, if_neg hne]; exact hT0 j hj
          · rw [hset, if_pos rfl, hz]
            unfold kidNx
            simp only [hT0 t htl]
          · rw [hset, if_neg (by omega)]; exact hTn
        have HTlen : Hid (∀ z : Int, (T.set t (kidNx (T.getD t noNx) ((T.getD t noNx).nd.kids.set q z))).length = T.length) := fun z => by simp
        clear H7 hTl hT0 hTn hA7 hrow7 heach7 hap7 hb7 ha3 hkids hTe hy7 hqT hkb
        generalize hcT : (T.getD t noNx).c3 = ct at *
        generalize hkT : (T.getD t noNx).nd.kids.getD q 0 = kt at *
        clear hcT hkT
        go_wp2_with fail
        go_region
        have hS8 := HSc.out ((T.length : Int) - 1)
        have hA8 := HA8.out ((T.length : Int) - 1)
        have hB8 := HB8.out ((T.length : Int) - 1)
        have hP8 := HAp7.out ((T.length : Int) - 1) (by have := HT7.out.1; omega)
        have hL8 := HTlen.out ((T.length : Int) - 1)
        have hTX : T.length = X0.length + 1 := HT7.out.1
        have HTX : Hid (T.length = X0.length + 1) := hTX
        clear HSc HA8 HB8 HAp7 HTlen HT7 hTX c3q fz3 s0 s3
        generalize (W.setCell ⟨q3, q, none⟩ (.int .i64 ((T.length : Int) - 1))).drew = W8 at *
        generalize T.set t (kidNx (T.getD t noNx) ((T.getD t noNx).nd.kids.set q ((T.length : Int) - 1))) = T1 at hS8 hP8 hL8
        have HW8 : Hid (ScAt W8 (some ⟨g7, 0, none⟩) T1 ∧ AtN 24 W8 w5.heap.size #[.slice (some ⟨g7, 0, none⟩) T.length c7, .int .i64 r0]) := ⟨hS8, hA8⟩
        have HP8 : Hid (Apt X0 T1 t q k ∧ T1.length = T.length ∧ Small T1) := ⟨hP8, hL8, hP8.small HSm.out HX60.out⟩
        have HL8 : Hid (Lw w W8 (some ⟨b, o, none⟩) X0 c0 r0) := HL4.out.more hB8
        clear hS8 hA8 hB8 hP8 hL8
        have x0 := HL8.out.c0
        have x1 := HL8.out.c1
        have HC : Hid (Calls Try.prog 11 #[.agg #[.slice (some ⟨b, o, none⟩) X0.length c0, .int .i64 r0]] W8 fun e w' => CanonOut X0 r0 W8 w' e) := canon_any X0 (some ⟨b, o, none⟩) c0 r0 W8 (HL8.out.sc HS.out) HSm.out
        go_wp2_with fail
        refine Calls.mono HC.out ?_
        rintro e w9 ⟨hc, -, hb9⟩
        obtain ⟨Z, az, cz, rfl, hZ, hsZ⟩ := hc HR.out
        have HZ : Hid (Z.length = X0.length ∧ Small Z) := ⟨(can_ren HR.out hZ).len, (can_ren HR.out hZ).small HSm.out⟩
        have HB9 : Hid (Below w.heap.size w w9) := (HL8.out.more hb9).bel
        have HW10 : Hid (∀ ob : Obj, ob = .cells #[.slice az Z.length cz, .int .i64 ((X0.length : Int) - 1)] 24 → ScAt (w9.alloc ob) (some ⟨g7, 0, none⟩) T1 ∧ AtN 24 (w9.alloc ob) w9.heap.size #[.slice az Z.length cz, .int .i64 ((X0.length : Int) - 1)] ∧ ScAt (w9.alloc ob) az Z ∧ Below w.heap.size w (w9.alloc ob)) := by
          rintro _ rfl
          exact ⟨(HW8.out.1.belowB hb9).alloc _, AtN.new w9 24 _, hsZ.alloc _, HB9.out.alloc HB9.out.size _⟩
        have y0 : ∀ ob, (w9.alloc ob).cell? ⟨w5.heap.size, 0, none⟩ = some (.slice (some ⟨g7, 0, none⟩) T.length c7) := fun ob => ((HW8.out.2.belowAll hb9).alloc ob).cell 0
        have y1 : ∀ ob, (w9.alloc ob).cell? ⟨w5.heap.size, 1, none⟩ = some (.int .i64 r0) := fun ob => ((HW8.out.2.belowAll hb9).alloc ob).cell 1
        clear HC HL8 HW8 hb9 hc hZ hsZ x0 x1
        go_wp2_with fail
        obtain ⟨hs10, hc10, hz10, hb10⟩ := HW10.out _ rfl
        have hcan := canon_any T1 (some ⟨g7, 0, none⟩) c7 r0 _ hs10 HP8.out.2.2
        rw [HP8.out.2.1] at hcan
        refine Calls.mono hcan ?_
        rintro e w11 ⟨hc1, hc2, hb11⟩
        have HW11 : Hid (AtN 24 w11 w9.heap.size #[.slice az Z.length cz, .int .i64 ((X0.length : Int) - 1)] ∧ ScAt w11 az Z ∧ Below w.heap.size w w11) := ⟨hc10.belowAll hb11, hz10.belowB hb11, hb10.trans (hb11.mono hb10.size)⟩
        clear hcan HW10 hs10 hc10 hz10 hb10 hb11 y0 y1
        by_cases hR1 : RightIs T1 r0
        · obtain ⟨D, ad, cd, rfl, hD, hsD⟩ := hc1 hR1
          have hDl : D.length = T.length := by rw [(can_ren hR1 hD).len]; exact HP8.out.2.1
          have HDl : Hid (D.length = T.length) := hDl
          have HW12 : Hid (∀ ob : Obj, ob = .cells #[.slice ad D.length cd, .int .i64 ((T1.length : Int) - 1)] 24 → AtN 24 (w11.alloc ob) w9.heap.size #[.slice az Z.length cz, .int .i64 ((X0.length : Int) - 1)] ∧ AtN 24 (w11.alloc ob) w11.heap.size #[.slice ad D.length cd, .int .i64 ((T1.length : Int) - 1)] ∧ Below w.heap.size w (w11.alloc ob) ∧ Calls Try.prog 15 #[.agg #[.slice az Z.length cz, .int .i64 ((X0.length : Int) - 1)], .agg #[.slice ad D.length cd, .int .i64 ((T1.length : Int) - 1)]] (w11.alloc ob) fun e w' => e = .returned (.bool false) ∧ Below (w11.alloc ob).heap.size (w11.alloc ob) w') := by
            rintro _ rfl
            refine ⟨HW11.out.1.alloc _, AtN.new w11 24 _, HW11.out.2.2.alloc HW11.out.2.2.size _, ssame_no Z D az ad cz cd _ _ _ (HW11.out.2.1.alloc _) (hsD.alloc _) HZ.out.2 (fun h => ?_)⟩
            have := congrArg List.length h.2
            simp only [List.length_map] at this
            have h1 := HZ.out.1
            have h2 := HTX.out
            omega
          have hZl : Z.length ≤ 61 := by rw [HZ.out.1]; omega
          have hDZ : (D.length : Int) = (Z.length : Int) + 1 := by have h1 := HZ.out.1; have h2 := HTX.out; omega
          have v0 : ∀ ob, (w11.alloc ob).cell? ⟨w9.heap.size, 0, none⟩ = some (.slice az Z.length cz) := fun ob => (HW11.out.1.alloc ob).cell 0
          have v1 : ∀ ob, (w11.alloc ob).cell? ⟨w9.heap.size, 1, none⟩ = some (.int .i64 ((X0.length : Int) - 1)) := fun ob => (HW11.out.1.alloc ob).cell 1
          clear hc1 hc2 hD hsD hR1 hDl
          generalize (T1.length : Int) - 1 = rd at *
          go_wp2_with fail
          obtain ⟨_, _, hb12, hS12⟩ := HW12.out _ rfl
          refine Calls.mono hS12 ?_
          rintro e w13 ⟨rfl, hb13⟩
          have HB : Hid (Below w.heap.size w w13) := hb12.trans (hb13.mono hb12.size)
          clear hS12 HW12 hb12 hb13 HW11
          go_wp2_with fail
          go_ret
          exact ⟨rfl, HB.out⟩
        · obtain ⟨n1, z1, rfl, hck, hn1⟩ := hc2 hR1
          obtain rfl := HP8.out.1.code HR.out hck hn1
          have HB : Hid (∀ ob : Obj, Below w.heap.size w (w11.alloc ob)) := fun ob => HW11.out.2.2.alloc HW11.out.2.2.size ob
          clear hc1 hc2 hck hR1 HW11 hn1
          go_wp2_with fail
          go_ret
          exact ⟨rfl, HB.out _⟩

set_option maxRecDepth 100000 in
theorem lifted (os : Os) (started : os.Started) (H : Type) (enc : TypeId × Value → H) :
    ReturnsInHanded {} Try.checked os 8 .any (Rows.canonApartSpec.pre6 enc Try.prog Try.f8 Rows.canonApartRow.domain false) (Rows.canonApartSpec.post enc Try.prog Try.f8 false true false false) := by
  refine returnsInHanded_of_change (C := Try.checked) own started (by kernel_rfl) Try.func8
    (ChangeSpec.witness6 (enc := enc) (C := Try.checked) false ⟨#[], #[.agg #[.slice none 0 0, .int .i64 0], .int .i64 0, .int .i64 0], []⟩ 8 (by kernel_rfl) (by kernel_rfl) (by kernel_rfl) (by kernel_rfl)) ?_
  intro W base args ds gs before hval0 hW hcnd _
  have hval : ∀ (j : Nat) t v, Try.f8.params[j]? = some t → args[j]? = some v → Value.okWide Try.prog W .any base t v := hval0
  have hW' := hW
  obtain ⟨p, q, hA0, hV, rfl, hfz, hnd⟩ := hW
  have hA : DataW.TrodAll enc Try.prog W 0 (fun _ => true) true Try.f8.params.toList args.toList ds p := hA0
  rw [Try.params8] at hA hval
  obtain ⟨v0, vs0, d0, ds0, p0, q0, hargs, rfl, rfl, h0, r0⟩ := trodAll_cons hA
  obtain ⟨v1, vs1, d1, ds1, p1, q1, rfl, rfl, rfl, h1, r1⟩ := trodAll_cons r0
  obtain ⟨v2, vs2, d2, ds2, p2, q2, rfl, rfl, rfl, h2, r2⟩ := trodAll_cons r1
  obtain ⟨rfl, rfl, rfl⟩ := trodAll_nil r2
  obtain rfl : args = #[v0, v1, v2] := by cases args; simp_all
  obtain ⟨rfl, rfl⟩ := trodVars_none hV
  have K0 := h0
  have lt0 : ∀ x ∈ p0, x.block < W.heap.size := by obtain ⟨m, hm⟩ := K0; exact DataW.trod_lt m _ _ _ hm
  obtain ⟨X0, a0, c0, rt0, rfl, w0⟩ := open_scene Try.underlying24 (by kernel_rfl) (by kernel_rfl) Try.underlying22 Try.underlying3 Try.underlying40 (by kernel_rfl) rfl rfl rfl rfl (by kernel_rfl) (by kernel_rfl) (by kernel_rfl) (by kernel_rfl) Try.underlying3 Try.underlying37 Try.underlying38 Try.underlying31 Try.underlying2 Try.underlying9 Try.underlying3 (by kernel_rfl) (by kernel_rfl) (by kernel_rfl) (hval 0 24 v0 rfl rfl) h0
  obtain ⟨a1, rfl, rfl, rfl, w1⟩ := open_int Try.underlying3 (hval 1 3 v1 rfl rfl) h1
  obtain ⟨a2, rfl, rfl, rfl, w2⟩ := open_int Try.underlying3 (hval 2 3 v2 rfl rfl) h2
  clear hA0 hval0
  refine (walk X0 a0 c0 rt0 a1 a2 W w0 w1 w2).mono fun e W' ⟨he, bel⟩ => ?_
  subst he
  exact ⟨_, rfl, _, _, _, [], _, [], hW', trodAll_mk1 (shut_bool Try.underlying4 _), (trodAll_cons_mk (Below.trod laidOut (by kernel_rfl) (of_decide_eq_true (by kernel_rfl)) K0 bel lt0) (trodAll_cons_mk (shut_int Try.underlying3 w1) (trodAll_cons_mk (shut_int Try.underlying3 w2) trodAll_mk0))), rfl, bel.frame _, fun h => by cases h⟩

theorem over : Rows.canonApartRow.holds Try.pinned (OpenSpec.ofChange Rows.canonApartSpec) :=
  OpenClaim.holds_of_wide 8 Try.f8 rfl rfl rfl rfl rfl rfl rfl ⟨rfl, rfl, rfl, rfl, rfl⟩ rfl rfl rfl rfl rfl (by kernel_rfl) Try.func8 (by kernel_rfl)
    (of_decide_eq_true (by kernel_rfl)) (by unfold Func.isWrapper; first | (rw [if_pos (by decide +kernel)]; kernel_rfl) | (rw [if_neg (by decide +kernel)]; exact ⟨rfl, rfl⟩))
    (fun os started H enc _ => lifted os started H enc)

end Go.Proofs.Ytnmdkbeicggfhaa.canonApart

namespace Go.Proofs.Ytnmdkbeicggfhaa
theorem canonApart_holds : Rows.CanonApartSaid := canonApart.over
#print axioms canonApart_holds
end Go.Proofs.Ytnmdkbeicggfhaa
