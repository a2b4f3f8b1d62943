/- For every scene: if Canon tells an error, Is tells that the scene isn't canonical; else in what Canon tells all kids stand ahead of who leads to them, the root is the last, Is tells that it is canonical, and Canon of it is it (scenes greater than the law plays with are let go by the law itself); the argument reads afterwards as before. -/
import Derived.Test.YtnmdkbeicggfhaaRows
import Derived.WalkKit
import Derived.ProofKit
import Derived.OpenShut
import Derived.ShutString
import Derived.Below
import Derived.Test.YtnmdkbeicggfhaaCIs
import Derived.ChangeOld
namespace Go.Proofs.Ytnmdkbeicggfhaa.canonOnce
open Go.ChangeShapes Go.WideShapes Go.ChangeAt Go.RowKit
open Go.ChangeMaps (open_string shut_string)
set_option linter.unusedVariables false

theorem own : ownKnob Try.prog.godebug = none := by kernel_rfl
theorem laidOut : laidOutB Try.prog = true := by kernel_rfl

set_option maxRecDepth 10000 in
set_option maxHeartbeats 400000 in
theorem walk (X0 : List Nx) (a0 : Option Addr) (c0 : Nat) (r0 : Int) (w : World) (w0 : IsSc w a0 X0 r0) :
    Calls Try.prog 5 #[.agg #[.slice a0 X0.length c0, .int .i64 r0]] w fun e w' => e = .returned (.bool true) ∧ Below w.heap.size w w' := by
  have HA : Hid (∀ W, Calls Try.prog 9 #[] W fun e w' => e = .returned (.bool true) ∧ Below W.heap.size W w') := awake_any
  have HS : Hid (IsSc w a0 X0 r0) := w0
  have HL : Hid (Lw w (w.alloc (.cells #[.slice a0 X0.length c0, .int .i64 r0] 24)) a0 X0 c0 r0) := Lw.start w a0 X0 c0 r0
  clear w0
  go_enter Try.func5, Try.ntmps5
  go_wp2_with fail
  refine (HA.out _).mono ?_
  rintro e w1 ⟨rfl, hb1⟩
  have HL1 : Hid (Lw w w1 a0 X0 c0 r0) := HL.out.more hb1
  have x0 := HL1.out.c0
  have x1 := HL1.out.c1
  have HG : Hid (Calls Try.prog 10 #[.agg #[.slice a0 X0.length c0, .int .i64 r0]] w1 fun e w' => GreatOut X0 w1 w' e) := sgreat_any X0 a0 c0 r0 w1 (HL1.out.sc HS.out)
  clear HL hb1
  go_wp2_with fail
  refine Calls.mono HG.out ?_
  rintro e w2 ⟨g, rfl, hg, hb2⟩
  have HL2 : Hid (Lw w w2 a0 X0 c0 r0) := HL1.out.more hb2
  clear HG HL1 hb2 x0 x1
  cases g with
  | true =>
    go_wp2_with fail
    refine (HA.out _).mono ?_
    rintro e w3 ⟨rfl, hb3⟩
    have HB : Hid (Below w.heap.size w w3) := (HL2.out.more hb3).bel
    clear HL2 hb3
    go_wp2_with fail
    go_ret
    exact ⟨rfl, HB.out⟩
  | false =>
    have HSm : Hid (Small X0) := (hg rfl).1
    have x0 := HL2.out.c0
    have x1 := HL2.out.c1
    have HC : Hid (Calls Try.prog 11 #[.agg #[.slice a0 X0.length c0, .int .i64 r0]] w2 fun e w' => CanonOut X0 r0 w2 w' e) := canon_any X0 a0 c0 r0 w2 (HL2.out.sc HS.out) HSm.out
    clear hg HA
    by_cases hR : RightIs X0 r0
    · have HR : Hid (RightIs X0 r0) := hR
      have hn := HSm.out.1
      clear hR
      go_wp2_with fail
      refine Calls.mono HC.out ?_
      rintro e w3 ⟨hc, -, hb3⟩
      obtain ⟨Z, az, cz, rfl, hZ, hsZ⟩ := hc HR.out
      have HL3 : Hid (Lw w w3 a0 X0 c0 r0) := HL2.out.more hb3
      have HZ : Hid (Z.map Nx.nd = cX X0 r0) := hZ
      have HZr : Hid (RightIs Z ((X0.length : Int) - 1) ∧ Small Z ∧ Z.length = X0.length ∧ cX Z ((X0.length : Int) - 1) = cX X0 r0 ∧ IsCan Z ((X0.length : Int) - 1)) := ⟨can_right HR.out hZ, (can_ren HR.out hZ).small HSm.out, (can_ren HR.out hZ).len, can_can HR.out hZ, can_isCan HR.out hZ⟩
      have HW4 : Hid (∀ o : Obj, o = .cells #[.slice az Z.length cz, .int .i64 ((X0.length : Int) - 1)] 24 → AtN 24 (w3.alloc o) w3.heap.size #[.slice az Z.length cz, .int .i64 ((X0.length : Int) - 1)] ∧ ScAt (w3.alloc o) az Z ∧ Below w.heap.size w (w3.alloc o)) := by
        rintro _ rfl
        exact ⟨AtN.new w3 24 _, hsZ.alloc _, HL3.out.bel.alloc HL3.out.bel.size _⟩
      clear HC HL2 HL3 hb3 hZ hsZ hc x0 x1
      go_wp2_with fail
      obtain ⟨hz4, hs4, hb4⟩ := HW4.out _ rfl
      refine (canon_any Z az cz _ _ hs4 HZr.out.2.1).mono ?_
      rintro e w5 ⟨hc, -, hb5⟩
      obtain ⟨D, ad, cd, rfl, hD, hsD⟩ := hc HZr.out.1
      rw [HZr.out.2.2.1]
      have HD : Hid (D.map Nx.nd = Z.map Nx.nd) := by
        show _ = _
        rw [hD, HZr.out.2.2.2.1, HZ.out]
      have HW6 : Hid (∀ o : Obj, o = .cells #[.slice ad D.length cd, .int .i64 ((X0.length : Int) - 1)] 24 → AtN 24 (w5.alloc o) w3.heap.size #[.slice az Z.length cz, .int .i64 ((X0.length : Int) - 1)] ∧ ScAt (w5.alloc o) az Z ∧ AtN 24 (w5.alloc o) w5.heap.size #[.slice ad D.length cd, .int .i64 ((X0.length : Int) - 1)] ∧ ScAt (w5.alloc o) ad D ∧ Below w.heap.size w (w5.alloc o)) := by
        rintro _ rfl
        exact ⟨(hz4.belowAll hb5).alloc _, (hs4.belowB hb5).alloc _, AtN.new w5 24 _, hsD.alloc _, (hb4.trans (hb5.mono hb4.size)).alloc (Nat.le_trans hb4.size hb5.size) _⟩
      have y0 : ∀ o, (w5.alloc o).cell? ⟨w3.heap.size, 0, none⟩ = some (.slice az Z.length cz) := fun o => ((hz4.belowAll hb5).alloc o).cell 0
      clear HW4 hz4 hs4 hb4 hc hD hsD hb5
      have hZl : Z.length = X0.length := HZr.out.2.2.1
      go_wp2_with fail
      have HW7 : Hid _ := HW6.out _ rfl
      clear HW6 y0
      generalize w5.alloc (.cells #[.slice ad D.length cd, .int .i64 ((X0.length : Int) - 1)] 24) = W0 at *
      go_loopw [36] (fun iv wr => ∃ i : Nat, iv = .int .i64 i ∧ i ≤ X0.length ∧ Hid (Below W0.heap.size W0 wr)) (fun iv _ => X0.length - (intOf iv).toNat)
      case atStart => exact ⟨0, rfl, by omega, Below.refl _ _⟩
      case round =>
        obtain ⟨i, rfl, hi, HB⟩ := hrel
        by_cases hlt : i < X0.length
        · have hlt' : (i : Int) < X0.length := by omega
          have hltZ : i < Z.length := by omega
          obtain ⟨b, o, rfl, hbl, d0, d1, d2, d3⟩ := (ScAt.belowB HW7.out.2.1 HB.out).node hltZ
          have HK : Hid (∀ z ∈ (Z.getD i noNx).nd.kids, 0 ≤ z ∧ z < i) := can_ahead HR.out HZ.out i hlt
          have HLs : Hid (LsAt wr (Z.getD i noNx).a3 (iV (Z.getD i noNx).nd.kids)) := ((ScAt.belowB HW7.out.2.1 HB.out).each i hltZ).k
          have hkl := HZr.out.2.1.kids hltZ
          have HN : Hid (∀ ob : Obj, LsAt (wr.alloc ob) (Z.getD i noNx).a3 (iV (Z.getD i noNx).nd.kids) ∧ Below W0.heap.size W0 (wr.alloc ob)) := fun ob => ⟨LsAt.alloc HLs.out ob, HB.out.alloc HB.out.size ob⟩
          clear HLs HB
          generalize Z.getD i noNx = N at *
          go_wp2_with fail
          obtain ⟨hl8, hb8⟩ := HN.out (.cells #[.int .i64 N.nd.kind, .slice N.a1 N.nd.ints.length N.c1, .slice N.a2 N.nd.texts.length N.c2, .slice N.a3 N.nd.kids.length N.c3] 40)
          have HN8 : Hid _ := And.intro hl8 hb8
          clear HN hl8 hb8
          generalize wr.alloc (.cells #[.int .i64 N.nd.kind, .slice N.a1 N.nd.ints.length N.c1, .slice N.a2 N.nd.texts.length N.c2, .slice N.a3 N.nd.kids.length N.c3] 40) = w8 at *
          go_loopw [44] (fun jv wr => ∃ j : Nat, jv = .int .i64 j ∧ j ≤ N.nd.kids.length ∧ wr = w8) (fun jv _ => N.nd.kids.length - (intOf jv).toNat)
          case atStart => exact ⟨0, rfl, by omega, rfl⟩
          case round =>
            obtain ⟨j, rfl, hj, rfl⟩ := hrel
            by_cases hjl : j < N.nd.kids.length
            · have hjl' : (j : Int) < N.nd.kids.length := by omega
              obtain ⟨b3, o3, e3, hb3, k0⟩ := LsAt.at HN8.out.1 (iV_at N.nd.kids j hjl)
              have hz := HK.out (N.nd.kids.getD j 0) (by rw [List.getD_eq_getElem?_getD, List.getElem?_eq_getElem hjl]; exact List.getElem_mem hjl)
              generalize N.nd.kids.getD j 0 = z at *
              have hz1 : ¬ z < 0 := by omega
              have hz2 : ¬ (i : Int) ≤ z := by omega
              rw [e3]
              clear e3
              go_wp2_with fail
              go_roundw
              case rel => exact ⟨j + 1, by go_num, by omega, by trivial⟩
              case measure => simp [intOf]; omega
            · have hjl' : ¬ (j : Int) < N.nd.kids.length := by omega
              have HB8 := HN8.out.2
              have HB9 : Hid _ := HB8
              clear HN8 HB8
              go_wp2_with fail
              go_roundw
              case rel => exact ⟨i + 1, by go_num, by omega, HB9⟩
              case measure => simp [intOf]; omega
        · have hlt' : ¬ (i : Int) < X0.length := by omega
          have hA : AtN 24 wr w3.heap.size #[.slice az Z.length cz, .int .i64 ((X0.length : Int) - 1)] := HW7.out.1.belowAll HB.out
          have hD : AtN 24 wr w5.heap.size #[.slice ad D.length cd, .int .i64 ((X0.length : Int) - 1)] := HW7.out.2.2.1.belowAll HB.out
          have HW8 : Hid (AtN 24 wr w3.heap.size #[.slice az Z.length cz, .int .i64 ((X0.length : Int) - 1)] ∧ AtN 24 wr w5.heap.size #[.slice ad D.length cd, .int .i64 ((X0.length : Int) - 1)] ∧ ScAt wr az Z ∧ ScAt wr ad D ∧ Below w.heap.size w wr) := ⟨hA, hD, HW7.out.2.1.belowB HB.out, HW7.out.2.2.2.1.belowB HB.out, HW7.out.2.2.2.2.trans (HB.out.mono HW7.out.2.2.2.2.size)⟩
          have z0 : wr.cell? ⟨w3.heap.size, 0, none⟩ = some (.slice az Z.length cz) := hA.cell 0
          have z1 : wr.cell? ⟨w3.heap.size, 1, none⟩ = some (.int .i64 ((X0.length : Int) - 1)) := hA.cell 1
          have HI : Hid (Calls Try.prog 19 #[.agg #[.slice az X0.length cz, .int .i64 ((X0.length : Int) - 1)]] wr fun e w' => e = .returned (.bool true) ∧ Below wr.heap.size wr w') := by
            have := is_any Z az cz ((X0.length : Int) - 1) wr HW8.out.2.2.1 HZr.out.2.1
            rw [HZr.out.2.2.1] at this
            refine Calls.mono this ?_
            rintro e w' ⟨q, rfl, hq, hb'⟩
            rw [hq.2 HZr.out.2.2.2.2]
            exact ⟨rfl, hb'⟩
          clear HB HW7 hA hD
          go_wp2_with fail
          refine Calls.mono HI.out ?_
          rintro e w9 ⟨rfl, hb9⟩
          have hA : AtN 24 w9 w3.heap.size #[.slice az Z.length cz, .int .i64 ((X0.length : Int) - 1)] := HW8.out.1.belowAll hb9
          have hD : AtN 24 w9 w5.heap.size #[.slice ad D.length cd, .int .i64 ((X0.length : Int) - 1)] := HW8.out.2.1.belowAll hb9
          have HSa : Hid (Calls Try.prog 15 #[.agg #[.slice az X0.length cz, .int .i64 ((X0.length : Int) - 1)], .agg #[.slice ad D.length cd, .int .i64 ((X0.length : Int) - 1)]] w9 fun e w' => e = .returned (.bool true) ∧ Below w9.heap.size w9 w') := by
            have := ssame_yes Z D az ad cz cd ((X0.length : Int) - 1) w9 (HW8.out.2.2.1.belowB hb9) (HW8.out.2.2.2.1.belowB hb9) HZr.out.2.1 HD.out
            rw [HZr.out.2.2.1] at this
            exact this
          have HW9 : Hid (AtN 24 w9 w3.heap.size #[.slice az Z.length cz, .int .i64 ((X0.length : Int) - 1)] ∧ Below w.heap.size w w9) := ⟨hA, HW8.out.2.2.2.2.trans (hb9.mono HW8.out.2.2.2.2.size)⟩
          clear z0 z1
          have z0 : w9.cell? ⟨w3.heap.size, 0, none⟩ = some (.slice az Z.length cz) := hA.cell 0
          have z1 : w9.cell? ⟨w3.heap.size, 1, none⟩ = some (.int .i64 ((X0.length : Int) - 1)) := hA.cell 1
          have u0 : w9.cell? ⟨w5.heap.size, 0, none⟩ = some (.slice ad D.length cd) := hD.cell 0
          have u1 : w9.cell? ⟨w5.heap.size, 1, none⟩ = some (.int .i64 ((X0.length : Int) - 1)) := hD.cell 1
          clear HI HW8 hb9 hA hD
          go_wp2_with fail
          refine Calls.mono HSa.out ?_
          rintro e w10 ⟨rfl, hb10⟩
          have hA : AtN 24 w10 w3.heap.size #[.slice az Z.length cz, .int .i64 ((X0.length : Int) - 1)] := HW9.out.1.belowAll hb10
          have HB : Hid (Below w.heap.size w w10) := HW9.out.2.trans (hb10.mono HW9.out.2.size)
          clear z0 z1 u0 u1
          have z0 : w10.cell? ⟨w3.heap.size, 0, none⟩ = some (.slice az Z.length cz) := hA.cell 0
          have z1 : w10.cell? ⟨w3.heap.size, 1, none⟩ = some (.int .i64 ((X0.length : Int) - 1)) := hA.cell 1
          clear HSa HW9 hb10 hA
          go_wp2_with fail
          go_ret
          exact ⟨by simp, HB.out⟩
    · have HR : Hid (¬ RightIs X0 r0) := hR
      clear hR
      go_wp2_with fail
      refine Calls.mono HC.out ?_
      rintro e w3 ⟨-, hc, hb3⟩
      obtain ⟨n1, z1, rfl, hck1, hn1⟩ := hc HR.out
      have HL3 : Hid (Lw w w3 a0 X0 c0 r0) := HL2.out.more hb3
      have HL4 : Hid (∀ o : Obj, Lw w (w3.alloc o) a0 X0 c0 r0) := fun o => HL3.out.more ((Below.refl w3.heap.size w3).alloc (Nat.le_refl _) _)
      have HI : Hid (∀ o : Obj, Calls Try.prog 19 #[.agg #[.slice a0 X0.length c0, .int .i64 r0]] (w3.alloc o) fun e w' => e = .returned (.bool false) ∧ Below (w3.alloc o).heap.size (w3.alloc o) w') := fun o => by
        refine Calls.mono (is_any X0 a0 c0 r0 _ ((HL4.out o).sc HS.out) HSm.out) ?_
        rintro e w' ⟨q, rfl, hq, hb'⟩
        cases q with
        | false => exact ⟨rfl, hb'⟩
        | true => exact absurd (hq.1 rfl).1 HR.out
      have y0 : ∀ o, (w3.alloc o).cell? ⟨w.heap.size, 0, none⟩ = some (.slice a0 X0.length c0) := fun o => (HL4.out o).c0
      have y1 : ∀ o, (w3.alloc o).cell? ⟨w.heap.size, 1, none⟩ = some (.int .i64 r0) := fun o => (HL4.out o).c1
      clear HC HL2 HL3 hb3 hc hck1 x0 x1
      go_wp2_with fail
      refine (HI.out _).mono ?_
      rintro e w5 ⟨rfl, hb5⟩
      have HB : Hid (Below w.heap.size w w5) := ((HL4.out _).more hb5).bel
      clear HI HL4 hb5
      go_wp2_with fail
      go_ret
      exact ⟨rfl, HB.out⟩

set_option maxRecDepth 100000 in
theorem lifted (os : Os) (started : os.Started) (H : Type) (enc : TypeId × Value → H) :
    ReturnsInHanded {} Try.checked os 5 .any (Rows.canonOnceSpec.pre6 enc Try.prog Try.f5 Rows.canonOnceRow.domain false) (Rows.canonOnceSpec.post enc Try.prog Try.f5 false true false false) := by
  refine returnsInHanded_of_change (C := Try.checked) own started (by kernel_rfl) Try.func5
    (ChangeSpec.witness6 (enc := enc) (C := Try.checked) false ⟨#[], #[.agg #[.slice none 0 0, .int .i64 0]], []⟩ 8 (by kernel_rfl) (by kernel_rfl) (by kernel_rfl) (by kernel_rfl)) ?_
  intro W base args ds gs before hval0 hW hcnd _
  have hval : ∀ (j : Nat) t v, Try.f5.params[j]? = some t → args[j]? = some v → Value.okWide Try.prog W .any base t v := hval0
  have hW' := hW
  obtain ⟨p, q, hA0, hV, rfl, hfz, hnd⟩ := hW
  have hA : DataW.TrodAll enc Try.prog W 0 (fun _ => true) true Try.f5.params.toList args.toList ds p := hA0
  rw [Try.params5] at hA hval
  obtain ⟨v0, vs0, d0, ds0, p0, q0, hargs, rfl, rfl, h0, r0⟩ := trodAll_cons hA
  obtain ⟨rfl, rfl, rfl⟩ := trodAll_nil r0
  obtain rfl : args = #[v0] := by cases args; simp_all
  obtain ⟨rfl, rfl⟩ := trodVars_none hV
  have K0 := h0
  have lt0 : ∀ x ∈ p0, x.block < W.heap.size := by obtain ⟨m, hm⟩ := K0; exact DataW.trod_lt m _ _ _ hm
  obtain ⟨X0, a0, c0, rt0, rfl, w0⟩ := open_scene Try.underlying24 (by kernel_rfl) (by kernel_rfl) Try.underlying22 Try.underlying3 Try.underlying40 (by kernel_rfl) rfl rfl rfl rfl (by kernel_rfl) (by kernel_rfl) (by kernel_rfl) (by kernel_rfl) Try.underlying3 Try.underlying37 Try.underlying38 Try.underlying31 Try.underlying2 Try.underlying9 Try.underlying3 (by kernel_rfl) (by kernel_rfl) (by kernel_rfl) (hval 0 24 v0 rfl rfl) h0
  clear hA0 hval0
  refine (walk X0 a0 c0 rt0 W w0).mono fun e W' ⟨he, bel⟩ => ?_
  subst he
  exact ⟨_, rfl, _, _, _, [], _, [], hW', trodAll_mk1 (shut_bool Try.underlying4 _), (trodAll_cons_mk (Below.trod laidOut (by kernel_rfl) (of_decide_eq_true (by kernel_rfl)) K0 bel lt0) trodAll_mk0), rfl, bel.frame _, fun h => by cases h⟩

theorem over : Rows.canonOnceRow.holds Try.pinned (OpenSpec.ofChange Rows.canonOnceSpec) :=
  OpenClaim.holds_of_wide 5 Try.f5 rfl rfl rfl rfl rfl rfl rfl ⟨rfl, rfl, rfl, rfl, rfl⟩ rfl rfl rfl rfl rfl (by kernel_rfl) Try.func5 (by kernel_rfl)
    (of_decide_eq_true (by kernel_rfl)) (by unfold Func.isWrapper; first | (rw [if_pos (by decide +kernel)]; kernel_rfl) | (rw [if_neg (by decide +kernel)]; exact ⟨rfl, rfl⟩))
    (fun os started H enc _ => lifted os started H enc)

end Go.Proofs.Ytnmdkbeicggfhaa.canonOnce

namespace Go.Proofs.Ytnmdkbeicggfhaa
theorem canonOnce_holds : Rows.CanonOnceSaid := canonOnce.over
#print axioms canonOnce_holds
end Go.Proofs.Ytnmdkbeicggfhaa
