/- For every scene with which nothing is wrong: what Canon tells has each node once, with its fields, at the place that Numbers tells, and its kids at theirs; Depth and Edges of it are the scene's (scenes greater than the law plays with are let go by the law itself); the argument reads afterwards as before. -/
import Derived.Test.YtnmdkbeicggfhaaRows
import Derived.WalkKit
import Derived.ProofKit
import Derived.OpenShut
import Derived.ShutString
import Derived.Below
import Derived.Test.YtnmdkbeicggfhaaCIs
import Derived.ChangeOld
namespace Go.Proofs.Ytnmdkbeicggfhaa.canonKeeps
open Go.ChangeShapes Go.WideShapes Go.ChangeAt Go.RowKit
open Go.ChangeMaps (open_string shut_string)
set_option linter.unusedVariables false

theorem own : ownKnob Try.prog.godebug = none := by kernel_rfl
theorem laidOut : laidOutB Try.prog = true := by kernel_rfl

theorem ren_depthBack {X Y : List Nx} {p : Nat → Nat} {r : Int} (h : Ren X Y p) (hR : RightIs X r) {d : Nat} (hd : DepthIs Y (p r.toNat : Int) d) : DepthIs X r d := by
  refine ⟨fun q => absurd hR q, fun _ => ?_⟩
  obtain ⟨g, h2, rfl, h4⟩ := hd.2 (h.right hR)
  have hk := h.k
  refine ⟨fun x => g (p x), fun a ha => ?_, by rw [Int.toNat_natCast], fun x hx => ?_⟩
  · have := h2 (p a) (by rw [hk.len]; exact hk.per.lt a ha)
    rw [hk.kids a ha, fold1_ren] at this
    exact this
  · have := h4 (p x) (by rw [h.len]; exact h.per.lt x hx)
    rw [h.len] at this
    exact this

set_option maxRecDepth 10000 in
set_option maxHeartbeats 2000000 in
theorem walk (X0 : List Nx) (a0 : Option Addr) (c0 : Nat) (r0 : Int) (w : World) (w0 : IsSc w a0 X0 r0) :
    Calls Try.prog 7 #[.agg #[.slice a0 X0.length c0, .int .i64 r0]] w fun e w' => e = .returned (.bool true) ∧ Below w.heap.size w w' := by
  have HA : Hid (∀ W, Calls Try.prog 9 #[] W fun e w' => e = .returned (.bool true) ∧ Below W.heap.size W w') := awake_any
  have HS : Hid (IsSc w a0 X0 r0) := w0
  have HL : Hid (Lw w (w.alloc (.cells #[.slice a0 X0.length c0, .int .i64 r0] 24)) a0 X0 c0 r0) := Lw.start w a0 X0 c0 r0
  clear w0
  go_enter Try.func7, Try.ntmps7
  go_wp2_with fail
  refine (HA.out _).mono ?_
  rintro e w1 ⟨rfl, hb1⟩
  have HL1 : Hid (Lw w w1 a0 X0 c0 r0) := HL.out.more hb1
  have x0 := HL1.out.c0
  have x1 := HL1.out.c1
  have HG : Hid (Calls Try.prog 10 #[.agg #[.slice a0 X0.length c0, .int .i64 r0]] w1 fun e w' => GreatOut X0 w1 w' e) := sgreat_any X0 a0 c0 r0 w1 (HL1.out.sc HS.out)
  clear HL hb1
  go_wp2_with fail
  refine Calls.mono HG.out ?_
  rintro e w2 ⟨g, rfl, hg, hb2⟩
  have HL2 : Hid (Lw w w2 a0 X0 c0 r0) := HL1.out.more hb2
  clear HG HL1 hb2 x0 x1
  cases g with
  | true =>
    go_wp2_with fail
    refine (HA.out _).mono ?_
    rintro e w3 ⟨rfl, hb3⟩
    have HB : Hid (Below w.heap.size w w3) := (HL2.out.more hb3).bel
    clear HL2 hb3
    go_wp2_with fail
    go_ret
    exact ⟨rfl, HB.out⟩
  | false =>
    have HSm : Hid (Small X0) := (hg rfl).1
    have x0 := HL2.out.c0
    have x1 := HL2.out.c1
    have HRt : Hid (Calls Try.prog 21 #[.agg #[.slice a0 X0.length c0, .int .i64 r0]] w2 fun e w' => RightOut X0 r0 w2 w' e) := right_any X0 a0 c0 r0 w2 (HL2.out.sc HS.out) HSm.out
    clear hg
    go_wp2_with fail
    refine Calls.mono HRt.out ?_
    rintro e w2' ⟨q, rfl, hq, hb2⟩
    have HL3 : Hid (Lw w w2' a0 X0 c0 r0) := HL2.out.more hb2
    clear HRt HL2 hb2 x0 x1
    cases q with
    | false =>
      go_wp2_with fail
      refine (HA.out _).mono ?_
      rintro e w3 ⟨rfl, hb3⟩
      have HB : Hid (Below w.heap.size w w3) := (HL3.out.more hb3).bel
      clear HL3 hb3
      go_wp2_with fail
      go_ret
      exact ⟨rfl, HB.out⟩
    | true =>
      have HR : Hid (RightIs X0 r0) := hq.1 rfl
      have hn := HSm.out.1
      have x0 := HL3.out.c0
      have x1 := HL3.out.c1
      have HC : Hid (Calls Try.prog 11 #[.agg #[.slice a0 X0.length c0, .int .i64 r0]] w2' fun e w' => CanonOut X0 r0 w2' w' e) := canon_any X0 a0 c0 r0 w2' (HL3.out.sc HS.out) HSm.out
      clear HA hq
      go_wp2_with fail
      refine Calls.mono HC.out ?_
      rintro e w3 ⟨hc, -, hb3⟩
      obtain ⟨Z, az, cz, rfl, hZ, hsZ⟩ := hc HR.out
      have HL4 : Hid (Lw w w3 a0 X0 c0 r0) := HL3.out.more hb3
      have HRn : Hid (Ren X0 Z (oX X0 r0).idxOf) := can_ren HR.out hZ
      have HZs : Hid (Small Z) := (can_ren HR.out hZ).small HSm.out
      have hZl : Z.length = X0.length := HRn.out.len
      have HW4 : Hid (∀ o : Obj, o = .cells #[.slice az Z.length cz, .int .i64 ((X0.length : Int) - 1)] 24 → AtN 24 (w3.alloc o) w3.heap.size #[.slice az Z.length cz, .int .i64 ((X0.length : Int) - 1)] ∧ ScAt (w3.alloc o) az Z ∧ Lw w (w3.alloc o) a0 X0 c0 r0) := by
        rintro _ rfl
        exact ⟨AtN.new w3 24 _, hsZ.alloc _, HL4.out.more ((Below.refl w3.heap.size w3).alloc (Nat.le_refl _) _)⟩
      have y0 : ∀ o, (w3.alloc o).cell? ⟨w.heap.size, 0, none⟩ = some (.slice a0 X0.length c0) := fun o => (HL4.out.at_.alloc o).cell 0
      have y1 : ∀ o, (w3.alloc o).cell? ⟨w.heap.size, 1, none⟩ = some (.int .i64 r0) := fun o => (HL4.out.at_.alloc o).cell 1
      clear HC HL3 HL4 hb3 hZ hsZ hc x0 x1
      have HZl : Hid (Z.length = X0.length) := hZl
      clear hZl
      go_wp2_with fail
      obtain ⟨hz4, hs4, hl4⟩ := HW4.out _ rfl
      refine (numbers_any X0 a0 c0 r0 _ (hl4.sc HS.out) HSm.out).mono ?_
      rintro e w5 ⟨hc, -, hb5⟩
      obtain ⟨gl, rfl, hgl5⟩ := hc HR.out
      have HW5 : Hid (AtN 24 w5 w3.heap.size #[.slice az Z.length cz, .int .i64 ((X0.length : Int) - 1)] ∧ ScAt w5 az Z ∧ Lw w w5 a0 X0 c0 r0 ∧ AtN 3 w5 gl (zV X0.length (fun i => ((oX X0 r0).idxOf i : Int)))) := ⟨hz4.belowAll hb5, hs4.belowB hb5, hl4.more hb5, hgl5⟩
      clear HW4 hz4 hs4 hl4 hb5 hc y0 y1 hgl5
      have x0 := HW5.out.2.2.1.c0
      have x1 := HW5.out.2.2.1.c1
      have v0 : w5.cell? ⟨w3.heap.size, 0, none⟩ = some (.slice az Z.length cz) := HW5.out.1.cell 0
      have hzl : Z.length = X0.length := HZl.out
      have hmm := @run_makeMap Try.prog
      have HW6 : Hid (Met (w5.alloc (.map #[] 0)) w5.heap.size 0 [] ∧ Below w5.heap.size w5 (w5.alloc (.map #[] 0))) := ⟨Met.made w5, (Below.refl w5.heap.size w5).alloc (Nat.le_refl _) _⟩
      have xa : ∀ o, (w5.alloc o).cell? ⟨w.heap.size, 0, none⟩ = some (.slice a0 X0.length c0) := fun o => (HW5.out.2.2.1.at_.alloc o).cell 0
      go_wp2_with fail
      clear hmm xa v0 hzl x0 x1
      go_loopw [54] (fun iv wr => ∃ (i : Nat) (Ms : List Nat), iv = .int .i64 i ∧ i ≤ X0.length ∧ Hid (Met wr w5.heap.size Ms.length Ms) ∧ Hid (Ms.length = i ∧ ∀ x ∈ Ms, ∃ k, k < i ∧ (oX X0 r0).idxOf k = x) ∧ Hid (Below w5.heap.size w5 wr)) (fun iv _ => X0.length - (intOf iv).toNat)
      case atStart => exact ⟨0, [], rfl, by omega, HW6.out.1, ⟨rfl, fun x hx => by simp at hx⟩, HW6.out.2⟩
      case round =>
        clear HW6
        obtain ⟨i, Ms, rfl, hi, HM, HI, HB⟩ := hrel
        have hA3 : AtN 24 wr w3.heap.size #[.slice az Z.length cz, .int .i64 ((X0.length : Int) - 1)] := HW5.out.1.belowAll HB.out
        have z0 : wr.cell? ⟨w3.heap.size, 0, none⟩ = some (.slice az Z.length cz) := hA3.cell 0
        have z1 : wr.cell? ⟨w3.heap.size, 1, none⟩ = some (.int .i64 ((X0.length : Int) - 1)) := hA3.cell 1
        have hgc := hA3.lt
        by_cases hlt : i < X0.length
        · have hlt' : (i : Int) < X0.length := by omega
          obtain ⟨u, hu⟩ : ∃ u, u = wr := ⟨_, rfl⟩
          subst hu
          obtain ⟨b, o, rfl, hbl, d0, d1, d2, d3⟩ := ((HW5.out.2.2.1.sc HS.out).belowB HB.out).node hlt
          have hAl : AtN 3 u gl (zV X0.length (fun i => ((oX X0 r0).idxOf i : Int))) := HW5.out.2.2.2.belowAll HB.out
          have t0' : u.cell? ⟨gl, i, none⟩ = some (.int .i64 ((oX X0 r0).idxOf i : Int)) := by rw [hAl.cell i, zV_at _ _ _ hlt]
          have hpl : (oX X0 r0).idxOf i < X0.length := HRn.out.per.lt i hlt
          have hnotin : (oX X0 r0).idxOf i ∉ Ms := fun q => by
            obtain ⟨k, hk, e⟩ := HI.out.2 _ q
            have := HRn.out.per.inj k i (by omega) hlt e
            omega
          have HNd : Hid ((Z.getD ((oX X0 r0).idxOf i) noNx).nd = renNd (fun z => ((oX X0 r0).idxOf z.toNat : Int)) (X0.getD i noNx).nd) := HRn.out.nd i hlt
          have HI2 : Hid (∀ Ms', Ms' = Ms ++ [(oX X0 r0).idxOf i] → Ms'.length = i + 1 ∧ ∀ x ∈ Ms', ∃ k, k < i + 1 ∧ (oX X0 r0).idxOf k = x) := fun Ms' hM => by
            subst hM
            refine ⟨by rw [List.length_append, HI.out.1]; rfl, fun x hx => ?_⟩
            rcases List.mem_append.1 hx with hx | hx
            · obtain ⟨k, h1, h2⟩ := HI.out.2 x hx
              exact ⟨k, by omega, h2⟩
            · simp only [List.mem_singleton] at hx
              exact ⟨i, by omega, hx.symm⟩
          have hMl : Ms.length ≤ 61 := by have := HI.out.1; omega
          have HXn : Hid (∀ W, Below w5.heap.size w5 W → NdAt W (X0.getD i noNx).nd (X0.getD i noNx).a1 (X0.getD i noNx).a2 (X0.getD i noNx).a3 ∧ ScAt W az Z ∧ AtN 3 W gl (zV X0.length (fun i => ((oX X0 r0).idxOf i : Int))) ∧ AtN 24 W w3.heap.size #[.slice az Z.length cz, .int .i64 ((X0.length : Int) - 1)]) := fun W hW => ⟨((HW5.out.2.2.1.sc HS.out).belowB hW).each i hlt, HW5.out.2.1.belowB hW, HW5.out.2.2.2.belowAll hW, HW5.out.1.belowAll hW⟩
          have hgr := great_no (HSm.out.2 i hlt)
          have HPb : Hid (∀ j, j < (X0.getD i noNx).nd.kids.length → isPb X0.length ((X0.getD i noNx).nd.kids.getD j 0) = true) := HR.out.2.1 i hlt
          have HW1 : Hid (∀ W1 : World, W1 = u.alloc (.cells #[.int .i64 (X0.getD i noNx).nd.kind, .slice (X0.getD i noNx).a1 (X0.getD i noNx).nd.ints.length (X0.getD i noNx).c1, .slice (X0.getD i noNx).a2 (X0.getD i noNx).nd.texts.length (X0.getD i noNx).c2, .slice (X0.getD i noNx).a3 (X0.getD i noNx).nd.kids.length (X0.getD i noNx).c3] 40) → AtN 40 W1 u.heap.size #[.int .i64 (X0.getD i noNx).nd.kind, .slice (X0.getD i noNx).a1 (X0.getD i noNx).nd.ints.length (X0.getD i noNx).c1, .slice (X0.getD i noNx).a2 (X0.getD i noNx).nd.texts.length (X0.getD i noNx).c2, .slice (X0.getD i noNx).a3 (X0.getD i noNx).nd.kids.length (X0.getD i noNx).c3] ∧ Met W1 w5.heap.size Ms.length Ms ∧ Below w5.heap.size w5 W1 ∧ W1.cell? ⟨gl, i, none⟩ = some (.int .i64 ((oX X0 r0).idxOf i : Int)) ∧ W1.cell? ⟨w3.heap.size, 0, none⟩ = some (.slice az Z.length cz) ∧ W1.cell? ⟨w3.heap.size, 1, none⟩ = some (.int .i64 ((X0.length : Int) - 1)) ∧ gl < W1.heap.size ∧ w3.heap.size < W1.heap.size) := by
            rintro _ rfl
            exact ⟨AtN.new u 40 _, HM.out.below ((Below.refl u.heap.size u).alloc (Nat.le_refl _) _), HB.out.alloc HB.out.size _, ((hAl.alloc _).cell i).trans (zV_at _ _ _ hlt), (hA3.alloc _).cell 0, (hA3.alloc _).cell 1, (hAl.alloc _).lt, (hA3.alloc _).lt⟩
          have Hu5 : Hid (w5.heap.size < u.heap.size) := HM.out.lt
          clear HM HI HB hA3 hAl t0' z0 z1 hgc
          obtain ⟨p, hp⟩ : ∃ p, (oX X0 r0).idxOf i = p := ⟨_, rfl⟩
          rw [hp] at HNd HI2 HW1 hpl hnotin
          have Hp : Hid ((oX X0 r0).idxOf i = p) := hp
          clear hp
          generalize X0.getD i noNx = N at *
          go_wp2_with fail
          obtain ⟨hx1, hm1, hb1, t0, z0, z1, hgl, hgc⟩ := HW1.out _ rfl
          generalize u.alloc (.cells #[.int .i64 N.nd.kind, .slice N.a1 N.nd.ints.length N.c1, .slice N.a2 N.nd.texts.length N.c2, .slice N.a3 N.nd.kids.length N.c3] 40) = W1 at *
          have hpl' : (p : Int) < X0.length := by omega
          have u3 : W1.cell? ⟨u.heap.size, 3, none⟩ = some (.slice N.a3 N.nd.kids.length N.c3) := hx1.cell 3
          have HPl : Hid (∀ W : World, Calls Try.prog 22 #[.agg #[.slice az Z.length cz, .int .i64 ((X0.length : Int) - 1)], .int .i64 (p : Int)] W fun e w' => e = .returned (.bool true) ∧ Below W.heap.size W w') := fun W => by
            have := place_any az Z.length cz ((X0.length : Int) - 1) (p : Int) W
            rw [isPb_yes (by rw [HZl.out]; omega)] at this
            exact this
          have HLk : Hid (∀ W, Below W1.heap.size W1 W → (Instr.lookup 43 (.map (some w5.heap.size)) (.int .i64 (p : Int)) false).run Try.prog W = .ok (.bool false) W) := fun W hW => by
            have := (hm1.below hW).look p (by omega)
            rwa [decide_eq_false hnotin] at this
          have H11 : Hid (∀ W, Below W1.heap.size W1 W → AtN 40 W u.heap.size #[.int .i64 N.nd.kind, .slice N.a1 N.nd.ints.length N.c1, .slice N.a2 N.nd.texts.length N.c2, .slice N.a3 N.nd.kids.length N.c3] ∧ Met W w5.heap.size Ms.length Ms ∧ Below w5.heap.size w5 W) := fun W hW => ⟨hx1.belowAll hW, hm1.below hW, hb1.trans (hW.mono hb1.size)⟩
          clear HW1 hx1 hm1 hb1 d0 d1 d2 d3
          refine facts_region6 (fun W => Below W1.heap.size W1 W) (fun ix v W => match ix with | 0 => v = .agg #[.slice az Z.length cz, .int .i64 ((X0.length : Int) - 1)] | 1 => v = .slice (some ⟨gl, 0, none⟩) X0.length X0.length | 2 => v = .int .i64 (i : Int) | 3 => v = .pointer (some ⟨gl, i, none⟩) | 4 => v = .int .i64 (p : Int) | 5 => v = .bool true | 6 => v = .bool false | 7 => v = .bool false | 8 => v = .map (some w5.heap.size) | 9 => v = .slice (some ⟨gl, 0, none⟩) X0.length X0.length | 10 => v = .int .i64 (i : Int) | 11 => v = .pointer (some ⟨gl, i, none⟩) | 12 => v = .int .i64 (p : Int) | 13 => v = .bool false | 14 => v = .bool false | _ => True) (by kernel_rfl) (by kernel_rfl) (Below.refl _ _).drew ?step ?fin
          case step =>
            intro i' o' ho act W hG hoff hdep K hQ hK
            rcases i' with _|_|_|_|_|_|_|_|_|_|_|_|_|_|_|i'
            · obtain rfl := Option.some.inj ho
              have t3 : act.tmps[3]?.getD undef = .pointer (some ⟨w3.heap.size, 0, none⟩) := hoff 3 (by kernel_rfl)
              have c0W := (hG.cell (p := ⟨w3.heap.size, 0, none⟩) hgc).trans z0
              have c1W := (hG.cell (p := ⟨w3.heap.size, 1, none⟩) hgc).trans z1
              clear hdep hoff hG
              go_simp
              exact hQ _ (rfl)
            · obtain rfl := Option.some.inj ho
              have t5 : act.tmps[5]?.getD undef = .slice (some ⟨gl, 0, none⟩) X0.length X0.length := hoff 5 (by kernel_rfl)
              clear hdep hoff hG
              go_simp
              exact hQ _ (rfl)
            · obtain rfl := Option.some.inj ho
              have t7 : act.tmps[7]?.getD undef = .int .i64 (i : Int) := hoff 7 (by kernel_rfl)
              clear hdep hoff hG
              go_simp
              exact hQ _ (rfl)
            · obtain rfl := Option.some.inj ho
              have e1 : act.tmps[60]?.getD undef = .slice (some ⟨gl, 0, none⟩) X0.length X0.length := hdep 1 _ (by kernel_rfl) rfl
              have e2 : act.tmps[61]?.getD undef = .int .i64 (i : Int) := hdep 2 _ (by kernel_rfl) rfl
              clear hdep hoff hG
              go_simp
              exact hQ _ (rfl)
            · obtain rfl := Option.some.inj ho
              have e3 : act.tmps[62]?.getD undef = .pointer (some ⟨gl, i, none⟩) := hdep 3 _ (by kernel_rfl) rfl
              have tW := (hG.cell (p := ⟨gl, i, none⟩) hgl).trans t0
              clear hdep hoff hG
              go_simp
              exact hQ _ (rfl)
            · obtain rfl := Option.some.inj ho
              have e0 : act.tmps[59]?.getD undef = .agg #[.slice az Z.length cz, .int .i64 ((X0.length : Int) - 1)] := hdep 0 _ (by kernel_rfl) rfl
              have e4 : act.tmps[63]?.getD undef = .int .i64 (p : Int) := hdep 4 _ (by kernel_rfl) rfl
              clear hdep hoff
              have HG : Hid (Below W1.heap.size W1 W) := hG
              have HC : Hid _ := HPl.out W
              clear hG
              go_simp
              refine Calls.mono HC.out ?_
              rintro e w' ⟨rfl, hb⟩
              exact hK _ _ (HG.out.trans (hb.mono HG.out.size)) (fun j u hj h => by
                  rcases j with _|_|_|_|_|_|_|_|_|_|_|_|_|_|_|j
                  · exact h
                  · exact h
                  · exact h
                  · exact h
                  · exact h
                  · exact absurd rfl hj
                  · exact h
                  · exact h
                  · exact h
                  · exact h
                  · exact h
                  · exact h
                  · exact h
                  · exact h
                  · exact h
                  · trivial) (rfl)
            · obtain rfl := Option.some.inj ho
              have e5 : act.tmps[64]?.getD undef = .bool true := hdep 5 _ (by kernel_rfl) rfl
              clear hdep hoff hG
              go_simp
              exact hQ _ (rfl)
            · obtain rfl := Option.some.inj ho
              have e6 : act.tmps[65]?.getD undef = .bool false := hdep 6 _ (by kernel_rfl) rfl
              clear hdep hoff hG
              go_simp
              exact hQ _ (rfl)
            · obtain rfl := Option.some.inj ho
              have hgd : act.tmps[66]?.getD undef = .bool false := hdep 7 _ (by kernel_rfl) rfl
              have hgd' := getD_bool hgd
              have t6 : act.tmps[6]?.getD undef = .map (some w5.heap.size) := hoff 6 (by kernel_rfl)
              clear hdep hoff hG
              go_simp
              exact hQ _ (rfl)
            · obtain rfl := Option.some.inj ho
              have hgd : act.tmps[66]?.getD undef = .bool false := hdep 7 _ (by kernel_rfl) rfl
              have hgd' := getD_bool hgd
              have t5 : act.tmps[5]?.getD undef = .slice (some ⟨gl, 0, none⟩) X0.length X0.length := hoff 5 (by kernel_rfl)
              clear hdep hoff hG
              go_simp
              exact hQ _ (rfl)
            · obtain rfl := Option.some.inj ho
              have hgd : act.tmps[66]?.getD undef = .bool false := hdep 7 _ (by kernel_rfl) rfl
              have hgd' := getD_bool hgd
              have t7 : act.tmps[7]?.getD undef = .int .i64 (i : Int) := hoff 7 (by kernel_rfl)
              clear hdep hoff hG
              go_simp
              exact hQ _ (rfl)
            · obtain rfl := Option.some.inj ho
              have hgd : act.tmps[66]?.getD undef = .bool false := hdep 7 _ (by kernel_rfl) rfl
              have hgd' := getD_bool hgd
              have e9 : act.tmps[68]?.getD undef = .slice (some ⟨gl, 0, none⟩) X0.length X0.length := hdep 9 _ (by kernel_rfl) rfl
              have e10 : act.tmps[69]?.getD undef = .int .i64 (i : Int) := hdep 10 _ (by kernel_rfl) rfl
              clear hdep hoff hG
              go_simp
              exact hQ _ (rfl)
            · obtain rfl := Option.some.inj ho
              have hgd : act.tmps[66]?.getD undef = .bool false := hdep 7 _ (by kernel_rfl) rfl
              have hgd' := getD_bool hgd
              have e11 : act.tmps[70]?.getD undef = .pointer (some ⟨gl, i, none⟩) := hdep 11 _ (by kernel_rfl) rfl
              have tW := (hG.cell (p := ⟨gl, i, none⟩) hgl).trans t0
              clear hdep hoff hG
              go_simp
              exact hQ _ (rfl)
            · obtain rfl := Option.some.inj ho
              have hgd : act.tmps[66]?.getD undef = .bool false := hdep 7 _ (by kernel_rfl) rfl
              have hgd' := getD_bool hgd
              have e8 : act.tmps[67]?.getD undef = .map (some w5.heap.size) := hdep 8 _ (by kernel_rfl) rfl
              have e12 : act.tmps[71]?.getD undef = .int .i64 (p : Int) := hdep 12 _ (by kernel_rfl) rfl
              have hlk := HLk.out W hG
              clear hdep hoff hG
              go_simp
              exact hQ _ (rfl)
            · obtain rfl := Option.some.inj ho
              have e7 : act.tmps[66]?.getD undef = .bool false := hdep 7 _ (by kernel_rfl) rfl
              have e13 : act.tmps[72]?.getD undef = .bool false := hdep 13 _ (by kernel_rfl) rfl
              clear hdep hoff hG
              go_simp
              exact hQ _ (rfl)
            · exact absurd ho (by simp)
          case fin =>
            intro V W hG hF
            have y14 : V (some 73) = .bool false := hF 14 _ rfl
            have HF11 : Hid _ := H11.out W hG
            clear hF hG H11 HLk HPl z0 z1 t0 u3
            simp only [fillA, Act.put, List.setIfInBounds_toArray, List.set_cons_zero, List.set_cons_succ, y14]
            generalize V (some 59) = z59
            generalize V (some 60) = z60
            generalize V (some 61) = z61
            generalize V (some 62) = z62
            generalize V (some 63) = z63
            generalize V (some 64) = z64
            generalize V (some 65) = z65
            generalize V (some 66) = z66
            generalize V (some 67) = z67
            generalize V (some 68) = z68
            generalize V (some 69) = z69
            generalize V (some 70) = z70
            generalize V (some 71) = z71
            generalize V (some 72) = z72
            clear y14
            obtain ⟨hxW, hmW, hbW⟩ := HF11.out
            obtain ⟨-, -, hT1, -⟩ := HXn.out W hbW
            have t0 : W.cell? ⟨gl, i, none⟩ = some (.int .i64 (p : Int)) := by rw [hT1.cell i, zV_at _ _ _ hlt, Hp.out]
            obtain ⟨W3, hup, hm3, hg3⟩ := hmW.put p (by omega) (by unfold maxLen; omega)
            have hf3 : Fr (fun q => q = w5.heap.size) W W3 := Fr.of_grown (S := fun q => q = w5.heap.size) hg3 (fun z e => (Option.some.inj e).symm)
            have hu5 : w5.heap.size < u.heap.size := Hu5.out
            have hb3 : Below w5.heap.size w5 W3 := Fr.below hbW hf3 (fun z e => by omega) hbW.size
            have HN3 : Hid (AtN 40 W3 u.heap.size #[.int .i64 N.nd.kind, .slice N.a1 N.nd.ints.length N.c1, .slice N.a2 N.nd.texts.length N.c2, .slice N.a3 N.nd.kids.length N.c3]) := hxW.fr hf3 (by omega)
            have HM3 : Hid (Met W3 w5.heap.size (Ms ++ [p]).length (Ms ++ [p])) := by rw [List.length_append]; exact hm3
            have HB3 : Hid (Below w5.heap.size w5 W3) := hb3
            have HW3u : Hid (W3.heap.size ≠ u.heap.size) := by have h1 := HN3.out.lt; show _ ≠ _; omega
            obtain ⟨-, hZ3, hT3, hA3⟩ := HXn.out W3 hb3
            have hpZ : p < Z.length := by rw [HZl.out]; omega
            obtain ⟨bz, oz, ez, hbz, m0, m1, m2, m3⟩ := hZ3.node hpZ
            have t3 : W3.cell? ⟨gl, i, none⟩ = some (.int .i64 (p : Int)) := by rw [hT3.cell i, zV_at _ _ _ hlt, Hp.out]
            have z0 : W3.cell? ⟨w3.heap.size, 0, none⟩ = some (.slice az X0.length cz) := by rw [← HZl.out]; exact hA3.cell 0
            rw [ez] at z0
            have hal : ∀ (ob : Obj) (q : Addr) (v : Value), q.block < W3.heap.size → W3.cell? q = some v → (W3.alloc ob).cell? q = some v := fun ob q v hq hv => (((Below.refl W3.heap.size W3).alloc (Nat.le_refl _) ob).cell (p := q) hq).trans hv
            have t3a := fun ob => hal ob _ _ hT3.lt t3
            have z0a := fun ob => hal ob _ _ hA3.lt z0
            have m0a := fun ob => hal ob _ _ hbz m0
            have m1a := fun ob => hal ob _ _ hbz m1
            have m2a := fun ob => hal ob _ _ hbz m2
            have m3a := fun ob => hal ob _ _ hbz m3
            clear hal
            have HW4 : Hid (∀ W4 : World, W4 = (W3.alloc (.cells #[.int .i64 (Z.getD p noNx).nd.kind, .slice (Z.getD p noNx).a1 (Z.getD p noNx).nd.ints.length (Z.getD p noNx).c1, .slice (Z.getD p noNx).a2 (Z.getD p noNx).nd.texts.length (Z.getD p noNx).c2, .slice (Z.getD p noNx).a3 (Z.getD p noNx).nd.kids.length (Z.getD p noNx).c3] 40)).drew → AtN 40 W4 u.heap.size #[.int .i64 N.nd.kind, .slice N.a1 N.nd.ints.length N.c1, .slice N.a2 N.nd.texts.length N.c2, .slice N.a3 N.nd.kids.length N.c3] ∧ AtN 40 W4 W3.heap.size #[.int .i64 (Z.getD p noNx).nd.kind, .slice (Z.getD p noNx).a1 (Z.getD p noNx).nd.ints.length (Z.getD p noNx).c1, .slice (Z.getD p noNx).a2 (Z.getD p noNx).nd.texts.length (Z.getD p noNx).c2, .slice (Z.getD p noNx).a3 (Z.getD p noNx).nd.kids.length (Z.getD p noNx).c3] ∧ Met W4 w5.heap.size (Ms ++ [p]).length (Ms ++ [p]) ∧ Below w5.heap.size w5 W4) := by
              rintro _ rfl
              exact ⟨(HN3.out.alloc _).drew, (AtN.new W3 40 _).drew, HM3.out.below ((Below.refl W3.heap.size W3).alloc (Nat.le_refl _) _).drew, (HB3.out.alloc HB3.out.size _).drew⟩
            have HZn : Hid (∀ W, Below w5.heap.size w5 W → NdAt W (Z.getD p noNx).nd (Z.getD p noNx).a1 (Z.getD p noNx).a2 (Z.getD p noNx).a3) := fun W hW => (HXn.out W hW).2.1.each p hpZ
            clear hxW hmW hbW hT1 hm3 hg3 hf3 hb3 hZ3 hT3 hA3 HN3 HM3 HF11
            generalize Z.getD p noNx = Mz at *
            go_wp2_with fail
            go_region
            obtain ⟨hn4, hm4, hM4, hb4⟩ := HW4.out _ rfl
            clear HW4 t3 z0 m0 m1 m2 m3 t3a z0a m0a m1a m2a m3a
            have hW3u : W3.heap.size ≠ u.heap.size := HW3u.out
            generalize (W3.alloc (.cells #[.int .i64 Mz.nd.kind, .slice Mz.a1 Mz.nd.ints.length Mz.c1, .slice Mz.a2 Mz.nd.texts.length Mz.c2, .slice Mz.a3 Mz.nd.kids.length Mz.c3] 40)).drew = W4 at *
            have n0 : W4.cell? ⟨u.heap.size, 0, none⟩ = some (.int .i64 N.nd.kind) := hn4.cell 0
            have n1 : W4.cell? ⟨u.heap.size, 1, none⟩ = some (.slice N.a1 N.nd.ints.length N.c1) := hn4.cell 1
            have n2 : W4.cell? ⟨u.heap.size, 2, none⟩ = some (.slice N.a2 N.nd.texts.length N.c2) := hn4.cell 2
            have n3 : W4.cell? ⟨u.heap.size, 3, none⟩ = some (.slice N.a3 N.nd.kids.length N.c3) := hn4.cell 3
            have k0 : W4.cell? ⟨W3.heap.size, 0, none⟩ = some (.int .i64 Mz.nd.kind) := hm4.cell 0
            have k1 : W4.cell? ⟨W3.heap.size, 1, none⟩ = some (.slice Mz.a1 Mz.nd.ints.length Mz.c1) := hm4.cell 1
            have k2 : W4.cell? ⟨W3.heap.size, 2, none⟩ = some (.slice Mz.a2 Mz.nd.texts.length Mz.c2) := hm4.cell 2
            have k3 : W4.cell? ⟨W3.heap.size, 3, none⟩ = some (.slice Mz.a3 Mz.nd.kids.length Mz.c3) := hm4.cell 3
            have HOw : Hid (Calls Try.prog 24 #[.agg #[.int .i64 N.nd.kind, .slice N.a1 N.nd.ints.length N.c1, .slice N.a2 N.nd.texts.length N.c2, .slice N.a3 N.nd.kids.length N.c3], .agg #[.int .i64 Mz.nd.kind, .slice Mz.a1 Mz.nd.ints.length Mz.c1, .slice Mz.a2 Mz.nd.texts.length Mz.c2, .slice Mz.a3 Mz.nd.kids.length Mz.c3]] W4 fun e w' => e = .returned (.bool true) ∧ Below W4.heap.size W4 w') := by
              have := own_any N.nd Mz.nd N.a1 N.a2 N.a3 Mz.a1 Mz.a2 Mz.a3 N.c1 N.c2 N.c3 Mz.c1 Mz.c2 Mz.c3 W4 (HXn.out W4 hb4).1 (HZn.out W4 hb4) hgr.1 hgr.2.1
              rw [own_same N.nd Mz.nd (by rw [HNd.out]; rfl) (by rw [HNd.out]; rfl) (by rw [HNd.out]; rfl)] at this
              exact this
            have HW5' : Hid (AtN 40 W4 u.heap.size #[.int .i64 N.nd.kind, .slice N.a1 N.nd.ints.length N.c1, .slice N.a2 N.nd.texts.length N.c2, .slice N.a3 N.nd.kids.length N.c3] ∧ AtN 40 W4 W3.heap.size #[.int .i64 Mz.nd.kind, .slice Mz.a1 Mz.nd.ints.length Mz.c1, .slice Mz.a2 Mz.nd.texts.length Mz.c2, .slice Mz.a3 Mz.nd.kids.length Mz.c3] ∧ Met W4 w5.heap.size (Ms ++ [p]).length (Ms ++ [p]) ∧ Below w5.heap.size w5 W4) := ⟨hn4, hm4, hM4, hb4⟩
            have hkeq : Mz.nd.kids.length = N.nd.kids.length := by rw [HNd.out]; simp [renNd]
            have Hkeq : Hid (Mz.nd.kids.length = N.nd.kids.length) := hkeq
            clear hn4 hm4 hM4 hb4
            rw [hkeq] at k3 HOw HW5'
            clear hkeq
            go_wp2_with fail
            refine Calls.mono HOw.out ?_
            rintro e W5 ⟨rfl, hb5⟩
            have HW6 : Hid (AtN 40 W5 u.heap.size #[.int .i64 N.nd.kind, .slice N.a1 N.nd.ints.length N.c1, .slice N.a2 N.nd.texts.length N.c2, .slice N.a3 N.nd.kids.length N.c3] ∧ AtN 40 W5 W3.heap.size #[.int .i64 Mz.nd.kind, .slice Mz.a1 Mz.nd.ints.length Mz.c1, .slice Mz.a2 Mz.nd.texts.length Mz.c2, .slice Mz.a3 N.nd.kids.length Mz.c3] ∧ Met W5 w5.heap.size (Ms ++ [p]).length (Ms ++ [p]) ∧ Below w5.heap.size w5 W5) := ⟨HW5'.out.1.belowAll hb5, HW5'.out.2.1.belowAll hb5, HW5'.out.2.2.1.below hb5, HW5'.out.2.2.2.trans (hb5.mono HW5'.out.2.2.2.size)⟩
            clear HOw HW5' n0 n1 n2 n3 k0 k1 k2 k3 hb5
            have n3 : W5.cell? ⟨u.heap.size, 3, none⟩ = some (.slice N.a3 N.nd.kids.length N.c3) := HW6.out.1.cell 3
            have k3 : W5.cell? ⟨W3.heap.size, 3, none⟩ = some (.slice Mz.a3 N.nd.kids.length Mz.c3) := HW6.out.2.1.cell 3
            have hkl3 := hgr.2.2.1
            go_wp2_with fail
            clear n3 k3
            go_loopw [103] (fun jv wr => ∃ j : Nat, jv = .int .i64 j ∧ j ≤ N.nd.kids.length ∧ Hid (AtN 40 wr u.heap.size #[.int .i64 N.nd.kind, .slice N.a1 N.nd.ints.length N.c1, .slice N.a2 N.nd.texts.length N.c2, .slice N.a3 N.nd.kids.length N.c3] ∧ AtN 40 wr W3.heap.size #[.int .i64 Mz.nd.kind, .slice Mz.a1 Mz.nd.ints.length Mz.c1, .slice Mz.a2 Mz.nd.texts.length Mz.c2, .slice Mz.a3 N.nd.kids.length Mz.c3] ∧ Met wr w5.heap.size (Ms ++ [p]).length (Ms ++ [p]) ∧ Below w5.heap.size w5 wr)) (fun jv _ => N.nd.kids.length - (intOf jv).toNat)
            case atStart => exact ⟨0, rfl, by omega, HW6⟩
            case round =>
              clear HW6
              obtain ⟨j, rfl, hj, HW6⟩ := hrel
              by_cases hjl : j < N.nd.kids.length
              · have hjl' : (j : Int) < N.nd.kids.length := by omega
                obtain ⟨hX6, hZ6, hT6, -⟩ := HXn.out wr HW6.out.2.2.2
                obtain ⟨b3, o3, e3, hb3, c3⟩ := hX6.k.at (iV_at N.nd.kids j hjl)
                obtain ⟨b4, o4, e4, hb4, c4⟩ := (HZn.out wr HW6.out.2.2.2).k.at (iV_at Mz.nd.kids j (by rw [Hkeq.out]; exact hjl))
                have hpb := isPb_iff.1 (HPb.out j hjl)
                obtain ⟨kd, hkd, hkn⟩ : ∃ kd : Nat, N.nd.kids.getD j 0 = (kd : Int) ∧ kd < X0.length := ⟨(N.nd.kids.getD j 0).toNat, by omega, by omega⟩
                have hkn' : (kd : Int) < X0.length := by omega
                have hq : Mz.nd.kids.getD j 0 = ((oX X0 r0).idxOf kd : Int) := by
                  rw [HNd.out]
                  simp only [renNd]
                  rw [getD_mapI _ _ j hjl]
                  have : N.nd.kids[j] = (kd : Int) := by rw [← hkd, List.getD_eq_getElem?_getD, List.getElem?_eq_getElem hjl]; rfl
                  rw [this, Int.toNat_natCast]
                have c5 : wr.cell? ⟨gl, kd, none⟩ = some (.int .i64 ((oX X0 r0).idxOf kd : Int)) := by rw [hT6.cell kd, zV_at _ _ _ hkn]
                have k3 : wr.cell? ⟨W3.heap.size, 3, none⟩ = some (.slice Mz.a3 N.nd.kids.length Mz.c3) := HW6.out.2.1.cell 3
                rw [hq] at c4
                rw [hkd] at c3
                rw [e4] at k3
                have HW7 : Hid (∀ q : Nat, Hid (AtN 40 (wr.drewN q) u.heap.size #[.int .i64 N.nd.kind, .slice N.a1 N.nd.ints.length N.c1, .slice N.a2 N.nd.texts.length N.c2, .slice N.a3 N.nd.kids.length N.c3] ∧ AtN 40 (wr.drewN q) W3.heap.size #[.int .i64 Mz.nd.kind, .slice Mz.a1 Mz.nd.ints.length Mz.c1, .slice Mz.a2 Mz.nd.texts.length Mz.c2, .slice Mz.a3 N.nd.kids.length Mz.c3] ∧ Met (wr.drewN q) w5.heap.size (Ms ++ [p]).length (Ms ++ [p]) ∧ Below w5.heap.size w5 (wr.drewN q))) := fun q => ⟨HW6.out.1.drewN q, HW6.out.2.1.drewN q, HW6.out.2.2.1.drewN q, dn_below HW6.out.2.2.2 q⟩
                rw [e3] at HW7 ⊢
                clear HW6 hX6 hZ6 hT6 e3 e4 hpb hkd hq
                generalize (oX X0 r0).idxOf kd = qd at *
                go_wp2_with fail
                go_quiet (fail)
                go_wp2_with fail
                go_roundw
                case rel => exact ⟨j + 1, by go_num, by omega, HW7.out _⟩
                case measure => simp [intOf]; omega
              · have hjl' : ¬ (j : Int) < N.nd.kids.length := by omega
                have HI3 : Hid _ := HI2.out (Ms ++ [p]) rfl
                go_wp2_with fail
                go_roundw
                case rel =>
                  first
                    | exact ⟨i + 1, Ms ++ [p], by go_num, by omega, HW6.out.2.2.1, HI3, HW6.out.2.2.2⟩
                    | exact ⟨_, _, _, _, _, _, .int .i64 ((i : Int) + 1), ⟨i + 1, by simp, by omega, Ms ++ [p], HW6.out.2.2.1, HI3, HW6.out.2.2.2⟩, rfl, rfl, rfl, rfl, rfl, rfl, rfl⟩
                case measure => simp [intOf]; omega
        · have hlt' : ¬ (i : Int) < X0.length := by omega
          have x0 := (HW5.out.2.2.1.at_.belowAll HB.out).cell 0
          have x1 := (HW5.out.2.2.1.at_.belowAll HB.out).cell 1
          have hg0 := (HW5.out.2.2.1.at_.belowAll HB.out).lt
          have HBw : Hid (Below w.heap.size w wr) := HW5.out.2.2.1.bel.trans (HB.out.mono HW5.out.2.2.1.bel.size)
          have HSx : Hid (∀ W, Below wr.heap.size wr W → ScAt W a0 X0 ∧ ScAt W az Z) := fun W hW => ⟨((HW5.out.2.2.1.sc HS.out).belowB HB.out).belowB hW, (HW5.out.2.1.belowB HB.out).belowB hW⟩
          obtain ⟨d0, hd0⟩ : ∃ d0 : Nat, ∀ d, DepthIs X0 r0 d → d = d0 := by
            by_cases h : ∃ d, DepthIs X0 r0 d
            · obtain ⟨d, hd⟩ := h
              exact ⟨d, fun d' hd' => hd.one hd' HR.out⟩
            · exact ⟨0, fun d hd => absurd ⟨d, hd⟩ h⟩
          have HDx : Hid (∀ W, Below wr.heap.size wr W → Calls Try.prog 25 #[.agg #[.slice a0 X0.length c0, .int .i64 r0]] W fun e w' => e = .returned (.int .i64 (d0 : Int)) ∧ Below W.heap.size W w') := fun W hW => by
            refine Calls.mono (depth_any X0 a0 c0 r0 W (HSx.out W hW).1 HSm.out) ?_
            rintro e w' ⟨d, rfl, hd, hb'⟩
            rw [hd0 d hd]
            exact ⟨rfl, hb'⟩
          have HDz : Hid (∀ W, Below wr.heap.size wr W → Calls Try.prog 25 #[.agg #[.slice az Z.length cz, .int .i64 ((X0.length : Int) - 1)]] W fun e w' => e = .returned (.int .i64 (d0 : Int)) ∧ Below W.heap.size W w') := fun W hW => by
            refine Calls.mono (depth_any Z az cz ((X0.length : Int) - 1) W (HSx.out W hW).2 HZs.out) ?_
            rintro e w' ⟨d, rfl, hd, hb'⟩
            rw [← can_root HR.out] at hd
            rw [hd0 d (ren_depthBack HRn.out HR.out hd)]
            exact ⟨rfl, hb'⟩
          have HEx : Hid (∀ W, Below wr.heap.size wr W → Calls Try.prog 26 #[.agg #[.slice a0 X0.length c0, .int .i64 r0]] W fun e w' => e = .returned (.int .i64 (edg X0 : Nat)) ∧ Below W.heap.size W w') := fun W hW => edges_any X0 a0 c0 r0 W (HSx.out W hW).1 HSm.out
          have HEz : Hid (∀ W, Below wr.heap.size wr W → Calls Try.prog 26 #[.agg #[.slice az Z.length cz, .int .i64 ((X0.length : Int) - 1)]] W fun e w' => e = .returned (.int .i64 (edg X0 : Nat)) ∧ Below W.heap.size W w') := fun W hW => by
            have := edges_any Z az cz ((X0.length : Int) - 1) W (HSx.out W hW).2 HZs.out
            rw [HRn.out.edg] at this
            exact this
          generalize edg X0 = E at *
          clear HM HI HB hA3 HSx HS HSm HR HRn HZs HW5 hd0
          go_wp2_with fail
          refine facts_region6 (fun W => Below wr.heap.size wr W) (fun ix v W => match ix with | 0 => v = .agg #[.slice az Z.length cz, .int .i64 ((X0.length : Int) - 1)] | 1 => v = .int .i64 (d0 : Int) | 2 => v = .agg #[.slice a0 X0.length c0, .int .i64 r0] | 3 => v = .int .i64 (d0 : Int) | 4 => v = .bool true | 5 => v = .bool true | 6 => v = .agg #[.slice az Z.length cz, .int .i64 ((X0.length : Int) - 1)] | 7 => v = .int .i64 (E : Int) | 8 => v = .agg #[.slice a0 X0.length c0, .int .i64 r0] | 9 => v = .int .i64 (E : Int) | 10 => v = .bool true | 11 => v = .bool true | 12 => v = .bool true | _ => True) (by kernel_rfl) (by kernel_rfl) (Below.refl _ _).drew ?step ?fin
          case step =>
            intro i' o' ho act W hG hoff hdep K hQ hK
            rcases i' with _|_|_|_|_|_|_|_|_|_|_|_|_|i'
            · obtain rfl := Option.some.inj ho
              have t3 : act.tmps[3]?.getD undef = .pointer (some ⟨w3.heap.size, 0, none⟩) := hoff 3 (by kernel_rfl)
              have c0W := (hG.cell (p := ⟨w3.heap.size, 0, none⟩) hgc).trans z0
              have c1W := (hG.cell (p := ⟨w3.heap.size, 1, none⟩) hgc).trans z1
              clear hdep hoff hG
              go_simp
              exact hQ _ (rfl)
            · obtain rfl := Option.some.inj ho
              have e0 : act.tmps[120]?.getD undef = .agg #[.slice az Z.length cz, .int .i64 ((X0.length : Int) - 1)] := hdep 0 _ (by kernel_rfl) rfl
              clear hdep hoff
              have HG : Hid (Below wr.heap.size wr W) := hG
              have HC : Hid _ := HDz.out W hG
              clear hG
              go_simp
              refine Calls.mono HC.out ?_
              rintro e w' ⟨rfl, hb⟩
              exact hK _ _ (HG.out.trans (hb.mono HG.out.size)) (fun j u hj h => by
                  rcases j with _|_|_|_|_|_|_|_|_|_|_|_|_|j
                  · exact h
                  · exact absurd rfl hj
                  · exact h
                  · exact h
                  · exact h
                  · exact h
                  · exact h
                  · exact h
                  · exact h
                  · exact h
                  · exact h
                  · exact h
                  · exact h
                  · trivial) (rfl)
            · obtain rfl := Option.some.inj ho
              have t1 : act.tmps[1]?.getD undef = .pointer (some ⟨w.heap.size, 0, none⟩) := hoff 1 (by kernel_rfl)
              have x0W := (hG.cell (p := ⟨w.heap.size, 0, none⟩) hg0).trans x0
              have x1W := (hG.cell (p := ⟨w.heap.size, 1, none⟩) hg0).trans x1
              clear hdep hoff hG
              go_simp
              exact hQ _ (rfl)
            · obtain rfl := Option.some.inj ho
              have e2 : act.tmps[122]?.getD undef = .agg #[.slice a0 X0.length c0, .int .i64 r0] := hdep 2 _ (by kernel_rfl) rfl
              clear hdep hoff
              have HG : Hid (Below wr.heap.size wr W) := hG
              have HC : Hid _ := HDx.out W hG
              clear hG
              go_simp
              refine Calls.mono HC.out ?_
              rintro e w' ⟨rfl, hb⟩
              exact hK _ _ (HG.out.trans (hb.mono HG.out.size)) (fun j u hj h => by
                  rcases j with _|_|_|_|_|_|_|_|_|_|_|_|_|j
                  · exact h
                  · exact h
                  · exact h
                  · exact absurd rfl hj
                  · exact h
                  · exact h
                  · exact h
                  · exact h
                  · exact h
                  · exact h
                  · exact h
                  · exact h
                  · exact h
                  · trivial) (rfl)
            · obtain rfl := Option.some.inj ho
              have e1 : act.tmps[121]?.getD undef = .int .i64 (d0 : Int) := hdep 1 _ (by kernel_rfl) rfl
              have e3 : act.tmps[123]?.getD undef = .int .i64 (d0 : Int) := hdep 3 _ (by kernel_rfl) rfl
              clear hdep hoff hG
              go_simp
              exact hQ _ (rfl)
            · obtain rfl := Option.some.inj ho
              have e4 : act.tmps[124]?.getD undef = .bool true := hdep 4 _ (by kernel_rfl) rfl
              clear hdep hoff hG
              go_simp
              exact hQ _ (rfl)
            · obtain rfl := Option.some.inj ho
              have hgd : act.tmps[125]?.getD undef = .bool true := hdep 5 _ (by kernel_rfl) rfl
              have hgd' := getD_bool hgd
              have t3 : act.tmps[3]?.getD undef = .pointer (some ⟨w3.heap.size, 0, none⟩) := hoff 3 (by kernel_rfl)
              have c0W := (hG.cell (p := ⟨w3.heap.size, 0, none⟩) hgc).trans z0
              have c1W := (hG.cell (p := ⟨w3.heap.size, 1, none⟩) hgc).trans z1
              clear hdep hoff hG
              go_simp
              exact hQ _ (rfl)
            · obtain rfl := Option.some.inj ho
              have hgd : act.tmps[125]?.getD undef = .bool true := hdep 5 _ (by kernel_rfl) rfl
              have hgd' := getD_bool hgd
              have e6 : act.tmps[126]?.getD undef = .agg #[.slice az Z.length cz, .int .i64 ((X0.length : Int) - 1)] := hdep 6 _ (by kernel_rfl) rfl
              clear hdep hoff
              have HG : Hid (Below wr.heap.size wr W) := hG
              have HC : Hid _ := HEz.out W hG
              clear hG
              go_simp
              refine Calls.mono HC.out ?_
              rintro e w' ⟨rfl, hb⟩
              exact hK _ _ (HG.out.trans (hb.mono HG.out.size)) (fun j u hj h => by
                  rcases j with _|_|_|_|_|_|_|_|_|_|_|_|_|j
                  · exact h
                  · exact h
                  · exact h
                  · exact h
                  · exact h
                  · exact h
                  · exact h
                  · exact absurd rfl hj
                  · exact h
                  · exact h
                  · exact h
                  · exact h
                  · exact h
                  · trivial) (rfl)
            · obtain rfl := Option.some.inj ho
              have hgd : act.tmps[125]?.getD undef = .bool true := hdep 5 _ (by kernel_rfl) rfl
              have hgd' := getD_bool hgd
              have t1 : act.tmps[1]?.getD undef = .pointer (some ⟨w.heap.size, 0, none⟩) := hoff 1 (by kernel_rfl)
              have x0W := (hG.cell (p := ⟨w.heap.size, 0, none⟩) hg0).trans x0
              have x1W := (hG.cell (p := ⟨w.heap.size, 1, none⟩) hg0).trans x1
              clear hdep hoff hG
              go_simp
              exact hQ _ (rfl)
            · obtain rfl := Option.some.inj ho
              have hgd : act.tmps[125]?.getD undef = .bool true := hdep 5 _ (by kernel_rfl) rfl
              have hgd' := getD_bool hgd
              have e8 : act.tmps[128]?.getD undef = .agg #[.slice a0 X0.length c0, .int .i64 r0] := hdep 8 _ (by kernel_rfl) rfl
              clear hdep hoff
              have HG : Hid (Below wr.heap.size wr W) := hG
              have HC : Hid _ := HEx.out W hG
              clear hG
              go_simp
              refine Calls.mono HC.out ?_
              rintro e w' ⟨rfl, hb⟩
              exact hK _ _ (HG.out.trans (hb.mono HG.out.size)) (fun j u hj h => by
                  rcases j with _|_|_|_|_|_|_|_|_|_|_|_|_|j
                  · exact h
                  · exact h
                  · exact h
                  · exact h
                  · exact h
                  · exact h
                  · exact h
                  · exact h
                  · exact h
                  · exact absurd rfl hj
                  · exact h
                  · exact h
                  · exact h
                  · trivial) (rfl)
            · obtain rfl := Option.some.inj ho
              have hgd : act.tmps[125]?.getD undef = .bool true := hdep 5 _ (by kernel_rfl) rfl
              have hgd' := getD_bool hgd
              have e7 : act.tmps[127]?.getD undef = .int .i64 (E : Int) := hdep 7 _ (by kernel_rfl) rfl
              have e9 : act.tmps[129]?.getD undef = .int .i64 (E : Int) := hdep 9 _ (by kernel_rfl) rfl
              clear hdep hoff hG
              go_simp
              exact hQ _ (rfl)
            · obtain rfl := Option.some.inj ho
              have e5 : act.tmps[125]?.getD undef = .bool true := hdep 5 _ (by kernel_rfl) rfl
              have e10 : act.tmps[130]?.getD undef = .bool true := hdep 10 _ (by kernel_rfl) rfl
              clear hdep hoff hG
              go_simp
              exact hQ _ (rfl)
            · obtain rfl := Option.some.inj ho
              have e11 : act.tmps[131]?.getD undef = .bool true := hdep 11 _ (by kernel_rfl) rfl
              clear hdep hoff hG
              go_simp
              exact hQ _ (rfl)
            · exact absurd ho (by simp)
          case fin =>
            intro V W hG hF
            have y12 : V (some 2) = .bool true := hF 12 _ rfl
            have HB2 : Hid (Below w.heap.size w W) := HBw.out.trans (hG.mono HBw.out.size)
            clear hF hG
            simp only [fillA, Act.put, List.setIfInBounds_toArray, List.set_cons_zero, List.set_cons_succ, y12]
            generalize V (some 120) = z120
            generalize V (some 121) = z121
            generalize V (some 122) = z122
            generalize V (some 123) = z123
            generalize V (some 124) = z124
            generalize V (some 125) = z125
            generalize V (some 126) = z126
            generalize V (some 127) = z127
            generalize V (some 128) = z128
            generalize V (some 129) = z129
            generalize V (some 130) = z130
            generalize V (some 131) = z131
            clear y12
            go_wp2_with fail
            go_ret
            exact ⟨rfl, HB2.out⟩

set_option maxRecDepth 100000 in
theorem lifted (os : Os) (started : os.Started) (H : Type) (enc : TypeId × Value → H) :
    ReturnsInHanded {} Try.checked os 7 .any (Rows.canonKeepsSpec.pre6 enc Try.prog Try.f7 Rows.canonKeepsRow.domain false) (Rows.canonKeepsSpec.post enc Try.prog Try.f7 false true false false) := by
  refine returnsInHanded_of_change (C := Try.checked) own started (by kernel_rfl) Try.func7
    (ChangeSpec.witness6 (enc := enc) (C := Try.checked) false ⟨#[], #[.agg #[.slice none 0 0, .int .i64 0]], []⟩ 8 (by kernel_rfl) (by kernel_rfl) (by kernel_rfl) (by kernel_rfl)) ?_
  intro W base args ds gs before hval0 hW hcnd _
  have hval : ∀ (j : Nat) t v, Try.f7.params[j]? = some t → args[j]? = some v → Value.okWide Try.prog W .any base t v := hval0
  have hW' := hW
  obtain ⟨p, q, hA0, hV, rfl, hfz, hnd⟩ := hW
  have hA : DataW.TrodAll enc Try.prog W 0 (fun _ => true) true Try.f7.params.toList args.toList ds p := hA0
  rw [Try.params7] at hA hval
  obtain ⟨v0, vs0, d0, ds0, p0, q0, hargs, rfl, rfl, h0, r0⟩ := trodAll_cons hA
  obtain ⟨rfl, rfl, rfl⟩ := trodAll_nil r0
  obtain rfl : args = #[v0] := by cases args; simp_all
  obtain ⟨rfl, rfl⟩ := trodVars_none hV
  have K0 := h0
  have lt0 : ∀ x ∈ p0, x.block < W.heap.size := by obtain ⟨m, hm⟩ := K0; exact DataW.trod_lt m _ _ _ hm
  obtain ⟨X0, a0, c0, rt0, rfl, w0⟩ := open_scene Try.underlying24 (by kernel_rfl) (by kernel_rfl) Try.underlying22 Try.underlying3 Try.underlying40 (by kernel_rfl) rfl rfl rfl rfl (by kernel_rfl) (by kernel_rfl) (by kernel_rfl) (by kernel_rfl) Try.underlying3 Try.underlying37 Try.underlying38 Try.underlying31 Try.underlying2 Try.underlying9 Try.underlying3 (by kernel_rfl) (by kernel_rfl) (by kernel_rfl) (hval 0 24 v0 rfl rfl) h0
  clear hA0 hval0
  refine (walk X0 a0 c0 rt0 W w0).mono fun e W' ⟨he, bel⟩ => ?_
  subst he
  exact ⟨_, rfl, _, _, _, [], _, [], hW', trodAll_mk1 (shut_bool Try.underlying4 _), (trodAll_cons_mk (Below.trod laidOut (by kernel_rfl) (of_decide_eq_true (by kernel_rfl)) K0 bel lt0) trodAll_mk0), rfl, bel.frame _, fun h => by cases h⟩

theorem over : Rows.canonKeepsRow.holds Try.pinned (OpenSpec.ofChange Rows.canonKeepsSpec) :=
  OpenClaim.holds_of_wide 7 Try.f7 rfl rfl rfl rfl rfl rfl rfl ⟨rfl, rfl, rfl, rfl, rfl⟩ rfl rfl rfl rfl rfl (by kernel_rfl) Try.func7 (by kernel_rfl)
    (of_decide_eq_true (by kernel_rfl)) (by unfold Func.isWrapper; first | (rw [if_pos (by decide +kernel)]; kernel_rfl) | (rw [if_neg (by decide +kernel)]; exact ⟨rfl, rfl⟩))
    (fun os started H enc _ => lifted os started H enc)

end Go.Proofs.Ytnmdkbeicggfhaa.canonKeeps

namespace Go.Proofs.Ytnmdkbeicggfhaa
theorem canonKeeps_holds : Rows.CanonKeepsSaid := canonKeeps.over
#print axioms canonKeeps_holds
end Go.Proofs.Ytnmdkbeicggfhaa
