/- For every scene that is right, every place and every number of a kid: with that kid made a node of its own, like the one that it was, the scene is the same tree, and shared the same scene, if nothing is wrong with it; and it has the same canonical one just if there is no node more (scenes greater than the law plays with are let go by the law itself); nothing that came in is changed. The library's table of powers of ten holds what its text lays into it when the call begins (the card ties that). -/
import Derived.Test.YtcdpjaaiojpelaaDoorRows
import Derived.Test.YtcdpjaaiojpelaaDoorCards
import Derived.Test.YtcdpjaaiojpelaaDoorTie
import Derived.WalkKit
import Derived.ProofKit
import Derived.OpenShut
import Derived.ShutString
import Derived.Below
import Derived.Test.YtcdpjaaiojpelaaDoorVRap
import Derived.ChangeOld
import Derived.LaidMore
import Derived.SevenTiedAt
namespace Go.Proofs.YtcdpjaaiojpelaaDoor.unfoldDiffers
open Go.ChangeShapes Go.WideShapes Go.ChangeAt Go.RowKit
open Go.ChangeMaps (open_string shut_string)
set_option linter.unusedVariables false

theorem own : ownKnob Tryd.prog.godebug = none := by kernel_rfl
theorem laidOut : laidOutB Tryd.prog = true := by kernel_rfl

set_option maxRecDepth 10000 in
set_option maxHeartbeats 8000000 in
theorem walk (X0 : List Nx) (a0 : Option Addr) (c0 : Nat) (r0 : Int) (a1 : Int) (a2 : Int) (w : World) (w0 : IsSc w a0 X0 r0) (w1 : (Lit.int .i64 a1).wf = true) (w2 : (Lit.int .i64 a2).wf = true) (hT : Tab w) :
    Calls Tryd.prog 6 #[.agg #[.slice a0 X0.length c0, .int .i64 r0], .int .i64 a1, .int .i64 a2] w fun e w' => e = .returned (.bool true) ∧ Below w.heap.size w w' := by
  have HA : Hid (∀ W, Tab W → Calls Tryd.prog 8 #[] W fun e w' => e = .returned (.bool true) ∧ Below W.heap.size W w') := awake_any
  have HS : Hid (IsSc w a0 X0 r0) := w0
  have HL : Hid (L1 w (w.alloc (.cells #[.slice a0 X0.length c0, .int .i64 r0] 24)) a0 X0 c0 r0) := L1.start w a0 X0 c0 r0 hT
  clear w0 hT w1 w2
  go_enter Tryd.func6, Tryd.ntmps6
  go_wp2_with fail
  refine (HA.out _ HL.out.tab).mono ?_
  rintro e w12 ⟨rfl, hb12⟩
  have HL12 : Hid (L1 w w12 a0 X0 c0 r0) := HL.out.more hb12
  clear HL hb12
  have xa0 := HL12.out.c0
  have xa1 := HL12.out.c1
  have xla := HL12.out.at_.lt
  have HG : Hid (Calls Tryd.prog 9 #[.agg #[.slice a0 X0.length c0, .int .i64 r0]] w12 fun e w' => GreatOut X0 w12 w' e) := sgreat_any X0 a0 c0 r0 w12 (HS.out.bel HL12.out.bel)
  go_wp2_with fail
  refine Calls.mono HG.out ?_
  rintro e w13 ⟨g, rfl, hg, hb13⟩
  have HL13 : Hid (L1 w w13 a0 X0 c0 r0) := HL12.out.more hb13
  clear HG HL12 hb13
  clear xa0 xa1 xla
  cases g with
  | true =>
    go_wp2_with fail
    refine (HA.out _ HL13.out.tab).mono ?_
    rintro e wz ⟨rfl, hbz⟩
    have HB : Hid (Below w.heap.size w wz) := (HL13.out.more hbz).bel
    clear HL13 hbz
    go_wp2_with fail
    go_ret
    exact ⟨rfl, HB.out⟩
  | false =>
    have HSa : Hid (Small X0 ∧ X0.length ≤ 60) := hg rfl
    clear hg
    have xa0 := HL13.out.c0
    have xa1 := HL13.out.c1
    have xla := HL13.out.at_.lt
    have HG : Hid (Calls Tryd.prog 12 #[.agg #[.slice a0 X0.length c0, .int .i64 r0]] w13 fun e w' => RightOut X0 r0 w13 w' e) := right_any X0 a0 c0 r0 w13 (HS.out.bel HL13.out.bel) HSa.out.1
    go_wp2_with fail
    refine Calls.mono HG.out ?_
    rintro e w14 ⟨g, rfl, hg, hb⟩
    have HL14 : Hid (L1 w w14 a0 X0 c0 r0) := HL13.out.more hb
    clear HG HL13 hb
    clear xa0 xa1 xla
    cases g with
    | false =>
      go_wp2_with fail
      refine (HA.out _ HL14.out.tab).mono ?_
      rintro e wz ⟨rfl, hbz⟩
      have HB : Hid (Below w.heap.size w wz) := (HL14.out.more hbz).bel
      clear HL14 hbz
      go_wp2_with fail
      go_ret
      exact ⟨rfl, HB.out⟩
    | true =>
      have HRa : Hid (RightIs X0 r0) := hg.1 rfl
      clear hg HA
      have xa0 := HL14.out.c0
      have xa1 := HL14.out.c1
      have xla := HL14.out.at_.lt
      have HAp : Hid (Calls Tryd.prog 21 #[.agg #[.slice a0 X0.length c0, .int .i64 r0], .int .i64 a1, .int .i64 a2] w14 fun e w' => ApOut X0 r0 w14 w' e) := rapart_any X0 a0 c0 r0 a1 a2 w14 (HS.out.bel HL14.out.bel) HSa.out.1 HRa.out.2.1
      go_wp2_with fail
      refine Calls.mono HAp.out ?_
      rintro e w15 ⟨Tt, at1, ct, rfl, sT, hTX, hb15⟩
      have HT : Hid (Small Tt ∧ RgX Tt ∧ SameT X0 Tt r0 r0 ∧ (Tt.map Nx.nd = X0.map Nx.nd ∨ Tt.length = X0.length + 1)) := ap_facts hTX HSa.out.1 HSa.out.2 HS.out.rgx HRa.out
      have HL15 : Hid (L1 w w15 a0 X0 c0 r0) := HL14.out.more hb15
      have HW15 : Hid (∀ o : Obj, o = .cells #[.slice at1 Tt.length ct, .int .i64 r0] 24 → AtN 24 (w15.alloc o) w15.heap.size #[.slice at1 Tt.length ct, .int .i64 r0] ∧ ScAt (w15.alloc o) at1 Tt ∧ L1 w (w15.alloc o) a0 X0 c0 r0 ∧ Calls Tryd.prog 17 #[.agg #[.slice at1 Tt.length ct, .int .i64 r0]] (w15.alloc o) fun e w' => CheckOut Tt r0 (w15.alloc o) w' e) := by
        rintro _ rfl
        have hl := HL15.out.more ((Below.refl w15.heap.size w15).alloc (Nat.le_refl _) (.cells #[.slice at1 Tt.length ct, .int .i64 r0] 24))
        exact ⟨AtN.new w15 24 _, sT.alloc _, hl, rcheck_any Tt at1 ct r0 _ (sT.alloc _) HT.out.1⟩
      clear HAp HL14 hb15 sT hTX
      clear xa0 xa1 xla
      have xa0 := HL15.out.c0
      have xa1 := HL15.out.c1
      have xla := HL15.out.at_.lt
      go_wp2_with fail
      obtain ⟨k1, k2, k3, k4⟩ := HW15.out _ rfl
      refine Calls.mono k4 ?_
      rintro e w16 ⟨n, zz, rfl, hck, hb16⟩
      have HK16 : Hid (AtN 24 w16 w15.heap.size #[.slice at1 Tt.length ct, .int .i64 r0] ∧ ScAt w16 at1 Tt ∧ L1 w w16 a0 X0 c0 r0) := ⟨k1.belowAll hb16, k2.belowB hb16, k3.more hb16⟩
      clear HW15 HL15 k1 k2 k3 k4 hb16
      clear xa0 xa1 xla
      by_cases hn0 : n = 0
      · subst hn0
        have HRt : Hid (RightIs Tt r0) := hck.right.1 rfl
        clear hck
        have HN0 : Hid ((AtN 24 w16 w15.heap.size #[.slice at1 Tt.length ct, .int .i64 r0] ∧ ScAt w16 at1 Tt) ∧ L1 w w16 a0 X0 c0 r0) := ⟨⟨HK16.out.1, HK16.out.2.1⟩, HK16.out.2.2⟩
        clear HK16
        have xa0 := HN0.out.2.c0
        have xa1 := HN0.out.2.c1
        have xla := HN0.out.2.at_.lt
        have xt0 : w16.cell? ⟨w15.heap.size, 0, none⟩ = some (.slice at1 Tt.length ct) := HN0.out.1.1.cell 0
        have xt1 : w16.cell? ⟨w15.heap.size, 1, none⟩ = some (.int .i64 r0) := HN0.out.1.1.cell 1
        have xlt := HN0.out.1.1.lt
        have HCl : Hid (Calls Tryd.prog 16 #[.agg #[.slice a0 X0.length c0, .int .i64 r0]] w16 fun e w' => ∃ L a' c', e = .returned (.tuple #[.agg #[.slice a' (List.length L) c', .int .i64 ((List.length L : Int) - 1)], .int .i64 0]) ∧ L.map Nx.nd = shL (cX X0 r0) ∧ ScAt w' a' L ∧ Below w16.heap.size w16 w') := by
          have LL := HN0.out.2
          exact ushare_yes (c := c0) HSa.out.1 HS.out.rgx HRa.out (HS.out.bel LL.bel) LL.tab
        go_wp2_with fail
        refine Calls.mono HCl.out ?_
        rintro e w17 ⟨Xs, ax, cx, rfl, hq, sq, hb⟩
        have HF0 : Hid (ShF X0 Xs r0 ∧ Xs.map Nx.nd = shL (cX X0 r0)) := ⟨sh_facts HRa.out HSa.out.1 HS.out.rgx hq, hq⟩
        have HM0 : Hid ((AtN 24 w17 w15.heap.size #[.slice at1 Tt.length ct, .int .i64 r0] ∧ ScAt w17 at1 Tt) ∧ L1 w w17 a0 X0 c0 r0) := ⟨⟨HN0.out.1.1.belowAll hb, HN0.out.1.2.belowB hb⟩, HN0.out.2.more hb⟩
        have HBx : Hid (∀ o : Obj, o = .cells #[.slice ax Xs.length cx, .int .i64 ((Xs.length : Int) - 1)] 24 → (AtN 24 (w17.alloc o) w15.heap.size #[.slice at1 Tt.length ct, .int .i64 r0] ∧ ScAt (w17.alloc o) at1 Tt) ∧ (AtN 24 (w17.alloc o) w17.heap.size #[.slice ax Xs.length cx, .int .i64 ((Xs.length : Int) - 1)] ∧ ScAt (w17.alloc o) ax Xs) ∧ L1 w (w17.alloc o) a0 X0 c0 r0) := by
          rintro _ rfl
          exact ⟨⟨HM0.out.1.1.alloc _, HM0.out.1.2.alloc _⟩, ⟨AtN.new w17 24 _, sq.alloc _⟩, HM0.out.2.more ((Below.refl w17.heap.size w17).alloc (Nat.le_refl _) _)⟩
        clear hq sq hb HCl xa0 xa1 xla xt0 xt1 xlt HN0
        have HCl : Hid (∀ o : Obj, o = .cells #[.slice ax Xs.length cx, .int .i64 ((Xs.length : Int) - 1)] 24 → Calls Tryd.prog 16 #[.agg #[.slice at1 Tt.length ct, .int .i64 r0]] (w17.alloc o) fun e w' => ∃ L a' c', e = .returned (.tuple #[.agg #[.slice a' (List.length L) c', .int .i64 ((List.length L : Int) - 1)], .int .i64 0]) ∧ L.map Nx.nd = shL (cX Tt r0) ∧ ScAt w' a' L ∧ Below (w17.alloc o).heap.size (w17.alloc o) w') := fun o ho => by
          have HH := HBx.out o ho
          have LL := HH.2.2
          have SS := HH.1.2
          exact ushare_yes (c := ct) HT.out.1 HT.out.2.1 HRt.out SS LL.tab
        have xa0 := HM0.out.2.c0
        have xa1 := HM0.out.2.c1
        have xla := HM0.out.2.at_.lt
        have xt0 : w17.cell? ⟨w15.heap.size, 0, none⟩ = some (.slice at1 Tt.length ct) := HM0.out.1.1.cell 0
        have xt1 : w17.cell? ⟨w15.heap.size, 1, none⟩ = some (.int .i64 r0) := HM0.out.1.1.cell 1
        have xlt := HM0.out.1.1.lt
        clear HM0
        go_wp2_with fail
        refine Calls.mono (HCl.out _ rfl) ?_
        rintro e w18 ⟨Ys, ay, cy, rfl, hq, sq, hb⟩
        have HF1 : Hid (ShF Tt Ys r0 ∧ Ys.map Nx.nd = shL (cX Tt r0)) := ⟨sh_facts HRt.out HT.out.1 HT.out.2.1 hq, hq⟩
        have HB1 : Hid _ := HBx.out _ rfl
        have HM1 : Hid ((AtN 24 w18 w15.heap.size #[.slice at1 Tt.length ct, .int .i64 r0] ∧ ScAt w18 at1 Tt) ∧ (AtN 24 w18 w17.heap.size #[.slice ax Xs.length cx, .int .i64 ((Xs.length : Int) - 1)] ∧ ScAt w18 ax Xs) ∧ L1 w w18 a0 X0 c0 r0) := ⟨⟨HB1.out.1.1.belowAll hb, HB1.out.1.2.belowB hb⟩, ⟨HB1.out.2.1.1.belowAll hb, HB1.out.2.1.2.belowB hb⟩, HB1.out.2.2.more hb⟩
        have HBx : Hid (∀ o : Obj, o = .cells #[.slice ay Ys.length cy, .int .i64 ((Ys.length : Int) - 1)] 24 → (AtN 24 (w18.alloc o) w15.heap.size #[.slice at1 Tt.length ct, .int .i64 r0] ∧ ScAt (w18.alloc o) at1 Tt) ∧ (AtN 24 (w18.alloc o) w17.heap.size #[.slice ax Xs.length cx, .int .i64 ((Xs.length : Int) - 1)] ∧ ScAt (w18.alloc o) ax Xs) ∧ (AtN 24 (w18.alloc o) w18.heap.size #[.slice ay Ys.length cy, .int .i64 ((Ys.length : Int) - 1)] ∧ ScAt (w18.alloc o) ay Ys) ∧ L1 w (w18.alloc o) a0 X0 c0 r0) := by
          rintro _ rfl
          exact ⟨⟨HM1.out.1.1.alloc _, HM1.out.1.2.alloc _⟩, ⟨HM1.out.2.1.1.alloc _, HM1.out.2.1.2.alloc _⟩, ⟨AtN.new w18 24 _, sq.alloc _⟩, HM1.out.2.2.more ((Below.refl w18.heap.size w18).alloc (Nat.le_refl _) _)⟩
        clear hq sq hb HCl xa0 xa1 xla xt0 xt1 xlt HB1
        have HCl : Hid (∀ o : Obj, o = .cells #[.slice ay Ys.length cy, .int .i64 ((Ys.length : Int) - 1)] 24 → Calls Tryd.prog 22 #[.agg #[.slice a0 X0.length c0, .int .i64 r0]] (w18.alloc o) fun e w' => CanonOut X0 r0 (w18.alloc o) w' e) := fun o ho => by
          have HH := HBx.out o ho
          have LL := HH.2.2.2
          have SS := HH.1.2
          exact canon_any X0 a0 c0 r0 _ (HS.out.bel LL.bel) HSa.out.1
        have xa0 := HM1.out.2.2.c0
        have xa1 := HM1.out.2.2.c1
        have xla := HM1.out.2.2.at_.lt
        have xt0 : w18.cell? ⟨w15.heap.size, 0, none⟩ = some (.slice at1 Tt.length ct) := HM1.out.1.1.cell 0
        have xt1 : w18.cell? ⟨w15.heap.size, 1, none⟩ = some (.int .i64 r0) := HM1.out.1.1.cell 1
        have xlt := HM1.out.1.1.lt
        clear HM1
        go_wp2_with fail
        refine Calls.mono (HCl.out _ rfl) ?_
        rintro e w19 ⟨hq0, -, hb⟩
        obtain ⟨C, ac, cc, rfl, hq, sq⟩ := hq0 HRa.out
        have HF2 : Hid (C.map Nx.nd = cX X0 r0) := hq
        have HB2 : Hid _ := HBx.out _ rfl
        have HM2 : Hid ((AtN 24 w19 w15.heap.size #[.slice at1 Tt.length ct, .int .i64 r0] ∧ ScAt w19 at1 Tt) ∧ (AtN 24 w19 w17.heap.size #[.slice ax Xs.length cx, .int .i64 ((Xs.length : Int) - 1)] ∧ ScAt w19 ax Xs) ∧ (AtN 24 w19 w18.heap.size #[.slice ay Ys.length cy, .int .i64 ((Ys.length : Int) - 1)] ∧ ScAt w19 ay Ys) ∧ L1 w w19 a0 X0 c0 r0) := ⟨⟨HB2.out.1.1.belowAll hb, HB2.out.1.2.belowB hb⟩, ⟨HB2.out.2.1.1.belowAll hb, HB2.out.2.1.2.belowB hb⟩, ⟨HB2.out.2.2.1.1.belowAll hb, HB2.out.2.2.1.2.belowB hb⟩, HB2.out.2.2.2.more hb⟩
        have HBx : Hid (∀ o : Obj, o = .cells #[.slice ac C.length cc, .int .i64 ((X0.length : Int) - 1)] 24 → (AtN 24 (w19.alloc o) w15.heap.size #[.slice at1 Tt.length ct, .int .i64 r0] ∧ ScAt (w19.alloc o) at1 Tt) ∧ (AtN 24 (w19.alloc o) w17.heap.size #[.slice ax Xs.length cx, .int .i64 ((Xs.length : Int) - 1)] ∧ ScAt (w19.alloc o) ax Xs) ∧ (AtN 24 (w19.alloc o) w18.heap.size #[.slice ay Ys.length cy, .int .i64 ((Ys.length : Int) - 1)] ∧ ScAt (w19.alloc o) ay Ys) ∧ (AtN 24 (w19.alloc o) w19.heap.size #[.slice ac C.length cc, .int .i64 ((X0.length : Int) - 1)] ∧ ScAt (w19.alloc o) ac C) ∧ L1 w (w19.alloc o) a0 X0 c0 r0) := by
          rintro _ rfl
          exact ⟨⟨HM2.out.1.1.alloc _, HM2.out.1.2.alloc _⟩, ⟨HM2.out.2.1.1.alloc _, HM2.out.2.1.2.alloc _⟩, ⟨HM2.out.2.2.1.1.alloc _, HM2.out.2.2.1.2.alloc _⟩, ⟨AtN.new w19 24 _, sq.alloc _⟩, HM2.out.2.2.2.more ((Below.refl w19.heap.size w19).alloc (Nat.le_refl _) _)⟩
        clear hq sq hb HCl xa0 xa1 xla xt0 xt1 xlt HB2 hq0
        have HCl : Hid (∀ o : Obj, o = .cells #[.slice ac C.length cc, .int .i64 ((X0.length : Int) - 1)] 24 → Calls Tryd.prog 22 #[.agg #[.slice at1 Tt.length ct, .int .i64 r0]] (w19.alloc o) fun e w' => CanonOut Tt r0 (w19.alloc o) w' e) := fun o ho => by
          have HH := HBx.out o ho
          have LL := HH.2.2.2.2
          have SS := HH.1.2
          exact canon_any Tt at1 ct r0 _ SS HT.out.1
        have xa0 := HM2.out.2.2.2.c0
        have xa1 := HM2.out.2.2.2.c1
        have xla := HM2.out.2.2.2.at_.lt
        have xt0 : w19.cell? ⟨w15.heap.size, 0, none⟩ = some (.slice at1 Tt.length ct) := HM2.out.1.1.cell 0
        have xt1 : w19.cell? ⟨w15.heap.size, 1, none⟩ = some (.int .i64 r0) := HM2.out.1.1.cell 1
        have xlt := HM2.out.1.1.lt
        clear HM2
        go_wp2_with fail
        refine Calls.mono (HCl.out _ rfl) ?_
        rintro e w20 ⟨hq0, -, hb⟩
        obtain ⟨D, ad, cd, rfl, hq, sq⟩ := hq0 HRt.out
        have HF3 : Hid (D.map Nx.nd = cX Tt r0) := hq
        have HB3 : Hid _ := HBx.out _ rfl
        have HM3 : Hid ((AtN 24 w20 w15.heap.size #[.slice at1 Tt.length ct, .int .i64 r0] ∧ ScAt w20 at1 Tt) ∧ (AtN 24 w20 w17.heap.size #[.slice ax Xs.length cx, .int .i64 ((Xs.length : Int) - 1)] ∧ ScAt w20 ax Xs) ∧ (AtN 24 w20 w18.heap.size #[.slice ay Ys.length cy, .int .i64 ((Ys.length : Int) - 1)] ∧ ScAt w20 ay Ys) ∧ (AtN 24 w20 w19.heap.size #[.slice ac C.length cc, .int .i64 ((X0.length : Int) - 1)] ∧ ScAt w20 ac C) ∧ L1 w w20 a0 X0 c0 r0) := ⟨⟨HB3.out.1.1.belowAll hb, HB3.out.1.2.belowB hb⟩, ⟨HB3.out.2.1.1.belowAll hb, HB3.out.2.1.2.belowB hb⟩, ⟨HB3.out.2.2.1.1.belowAll hb, HB3.out.2.2.1.2.belowB hb⟩, ⟨HB3.out.2.2.2.1.1.belowAll hb, HB3.out.2.2.2.1.2.belowB hb⟩, HB3.out.2.2.2.2.more hb⟩
        have HBx : Hid (∀ o : Obj, o = .cells #[.slice ad D.length cd, .int .i64 ((Tt.length : Int) - 1)] 24 → (AtN 24 (w20.alloc o) w15.heap.size #[.slice at1 Tt.length ct, .int .i64 r0] ∧ ScAt (w20.alloc o) at1 Tt) ∧ (AtN 24 (w20.alloc o) w17.heap.size #[.slice ax Xs.length cx, .int .i64 ((Xs.length : Int) - 1)] ∧ ScAt (w20.alloc o) ax Xs) ∧ (AtN 24 (w20.alloc o) w18.heap.size #[.slice ay Ys.length cy, .int .i64 ((Ys.length : Int) - 1)] ∧ ScAt (w20.alloc o) ay Ys) ∧ (AtN 24 (w20.alloc o) w19.heap.size #[.slice ac C.length cc, .int .i64 ((X0.length : Int) - 1)] ∧ ScAt (w20.alloc o) ac C) ∧ (AtN 24 (w20.alloc o) w20.heap.size #[.slice ad D.length cd, .int .i64 ((Tt.length : Int) - 1)] ∧ ScAt (w20.alloc o) ad D) ∧ L1 w (w20.alloc o) a0 X0 c0 r0) := by
          rintro _ rfl
          exact ⟨⟨HM3.out.1.1.alloc _, HM3.out.1.2.alloc _⟩, ⟨HM3.out.2.1.1.alloc _, HM3.out.2.1.2.alloc _⟩, ⟨HM3.out.2.2.1.1.alloc _, HM3.out.2.2.1.2.alloc _⟩, ⟨HM3.out.2.2.2.1.1.alloc _, HM3.out.2.2.2.1.2.alloc _⟩, ⟨AtN.new w20 24 _, sq.alloc _⟩, HM3.out.2.2.2.2.more ((Below.refl w20.heap.size w20).alloc (Nat.le_refl _) _)⟩
        clear hq sq hb HCl xa0 xa1 xla xt0 xt1 xlt HB3 hq0
        clear HM3
        go_wp2_with fail
        have HK : Hid _ := HBx.out _ rfl
        clear HBx
        generalize w20.alloc (.cells #[.slice ad D.length cd, .int .i64 ((Tt.length : Int) - 1)] 24) = w21 at *
        have HE : Hid (∀ W, Below w21.heap.size w21 W → Calls Tryd.prog 10 #[.agg #[.slice a0 X0.length c0, .int .i64 r0], .agg #[.slice at1 Tt.length ct, .int .i64 r0]] W fun e w' => e = .returned (.bool true) ∧ Below W.heap.size W w') := fun W hW => by
          have h5 := HK.out.2.2.2.2.2.more hW
          exact uequal_is HSa.out.1 HT.out.1 HS.out.rgx HT.out.2.1 ⟨fun _ => ⟨HRa.out, HRt.out, HT.out.2.2.1⟩, fun _ => rfl⟩ (HS.out.bel h5.bel) (HK.out.1.2.belowB hW) h5.tab
        have hsh : Ys.map Nx.nd = Xs.map Nx.nd := by rw [HF0.out.2, HF1.out.2, (sameT_sh HRa.out HRt.out).1 HT.out.2.2.1]
        have HSm : Hid (∀ W, Below w21.heap.size w21 W → Calls Tryd.prog 18 #[.agg #[.slice ax Xs.length cx, .int .i64 ((Xs.length : Int) - 1)], .agg #[.slice ay Ys.length cy, .int .i64 ((Ys.length : Int) - 1)]] W fun e w' => e = .returned (.bool true) ∧ Below W.heap.size W w') := fun W hW => by
          have hl : Ys.length = Xs.length := by simpa using congrArg List.length hsh
          rw [show ((Ys.length : Int) - 1) = ((Xs.length : Int) - 1) by rw [hl]]
          exact ssame_yes Xs Ys ax ay cx cy _ W (HK.out.2.1.2.belowB hW) (HK.out.2.2.1.2.belowB hW) HF0.out.1.small hsh
        obtain ⟨b, hb⟩ : ∃ b : Bool, ((X0.length : Int) == (Tt.length : Int)) = b := ⟨_, rfl⟩
        have hbi : b = true ↔ X0.length = Tt.length := by rw [← hb, beq_iff_eq]; omega
        have HSd : Hid (∀ W, Below w21.heap.size w21 W → Calls Tryd.prog 18 #[.agg #[.slice ac C.length cc, .int .i64 ((X0.length : Int) - 1)], .agg #[.slice ad D.length cd, .int .i64 ((Tt.length : Int) - 1)]] W fun e w' => e = .returned (.bool b) ∧ Below W.heap.size W w') := fun W hW => by
          refine Calls.mono (ssame_any C D ac ad cc cd _ _ W (HK.out.2.2.2.1.2.belowB hW) (HK.out.2.2.2.2.1.2.belowB hW) ((can_ren HRa.out HF2.out).small HSa.out.1)) ?_
          rintro e w' ⟨q', rfl, hq', hb'⟩
          have : q' = b := by
            rw [Bool.eq_iff_iff, hq', hbi]
            constructor
            · intro h; have := h.1; omega
            · intro h
              refine ⟨by rw [h], ?_⟩
              rcases HT.out.2.2.2 with e | e
              · rw [HF2.out, HF3.out, same_cX e HRa.out]
              · omega
          rw [this]
          exact ⟨rfl, hb'⟩
        have xa0 := HK.out.2.2.2.2.2.c0
        have xa1 := HK.out.2.2.2.2.2.c1
        have la := HK.out.2.2.2.2.2.at_.lt
        have t0 : w21.cell? ⟨w15.heap.size, 0, none⟩ = some (.slice at1 Tt.length ct) := HK.out.1.1.cell 0
        have t1 : w21.cell? ⟨w15.heap.size, 1, none⟩ = some (.int .i64 r0) := HK.out.1.1.cell 1
        have lt := HK.out.1.1.lt
        have x0 : w21.cell? ⟨w17.heap.size, 0, none⟩ = some (.slice ax Xs.length cx) := HK.out.2.1.1.cell 0
        have x1 : w21.cell? ⟨w17.heap.size, 1, none⟩ = some (.int .i64 ((Xs.length : Int) - 1)) := HK.out.2.1.1.cell 1
        have lx := HK.out.2.1.1.lt
        have y0 : w21.cell? ⟨w18.heap.size, 0, none⟩ = some (.slice ay Ys.length cy) := HK.out.2.2.1.1.cell 0
        have y1 : w21.cell? ⟨w18.heap.size, 1, none⟩ = some (.int .i64 ((Ys.length : Int) - 1)) := HK.out.2.2.1.1.cell 1
        have ly := HK.out.2.2.1.1.lt
        have cn0 : w21.cell? ⟨w19.heap.size, 0, none⟩ = some (.slice ac C.length cc) := HK.out.2.2.2.1.1.cell 0
        have cn1 : w21.cell? ⟨w19.heap.size, 1, none⟩ = some (.int .i64 ((X0.length : Int) - 1)) := HK.out.2.2.2.1.1.cell 1
        have lcn := HK.out.2.2.2.1.1.lt
        have dn0 : w21.cell? ⟨w20.heap.size, 0, none⟩ = some (.slice ad D.length cd) := HK.out.2.2.2.2.1.1.cell 0
        have dn1 : w21.cell? ⟨w20.heap.size, 1, none⟩ = some (.int .i64 ((Tt.length : Int) - 1)) := HK.out.2.2.2.2.1.1.cell 1
        have ldn := HK.out.2.2.2.2.1.1.lt
        have HB21 : Hid (Below w.heap.size w w21) := HK.out.2.2.2.2.2.bel
        clear HK HS HSa HT HRa HRt HF0 HF1 HF2 HF3 hsh hbi
        have HBb : Hid (((X0.length : Int) == (Tt.length : Int)) = b) := hb
        clear hb
        refine facts_region6 (fun W => Below w21.heap.size w21 W) (fun ix v W => match ix with | 0 => v = .agg #[.slice a0 X0.length c0, .int .i64 r0] | 1 => v = .agg #[.slice at1 Tt.length ct, .int .i64 r0] | 2 => v = .bool true | 3 => v = .bool true | 4 => v = .agg #[.slice ax Xs.length cx, .int .i64 ((Xs.length : Int) - 1)] | 5 => v = .agg #[.slice ay Ys.length cy, .int .i64 ((Ys.length : Int) - 1)] | 6 => v = .bool true | 7 => v = .bool true | 8 => v = .bool true | 9 => v = .agg #[.slice ac C.length cc, .int .i64 ((X0.length : Int) - 1)] | 10 => v = .agg #[.slice ad D.length cd, .int .i64 ((Tt.length : Int) - 1)] | 11 => v = .bool b | 12 => v = .pointer (some ⟨w.heap.size, 0, none⟩) | 13 => v = .slice a0 X0.length c0 | 14 => v = .int .i64 (X0.length : Int) | 15 => v = .pointer (some ⟨w15.heap.size, 0, none⟩) | 16 => v = .slice at1 Tt.length ct | 17 => v = .int .i64 (Tt.length : Int) | 18 => v = .bool b | 19 => v = .bool true | 20 => v = .bool true | 21 => v = .bool true | _ => True) (by kernel_rfl) (by kernel_rfl) (Below.refl _ _).drew ?step ?fin
        case step =>
          intro i' o' ho act W hG hoff hdep K hQ hK
          rcases i' with _|_|_|_|_|_|_|_|_|_|_|_|_|_|_|_|_|_|_|_|_|_|i'
          · obtain rfl := Option.some.inj ho
            have t3 : act.tmps[3]?.getD undef = .pointer (some ⟨w.heap.size, 0, none⟩) := hoff 3 (by kernel_rfl)
            have p0 := (hG.cell (p := ⟨w.heap.size, 0, none⟩) la).trans xa0
            have p1 := (hG.cell (p := ⟨w.heap.size, 1, none⟩) la).trans xa1
            clear hdep hoff hG
            go_simp
            exact hQ _ (rfl)
          · obtain rfl := Option.some.inj ho
            have t7 : act.tmps[7]?.getD undef = .pointer (some ⟨w15.heap.size, 0, none⟩) := hoff 7 (by kernel_rfl)
            have p0 := (hG.cell (p := ⟨w15.heap.size, 0, none⟩) lt).trans t0
            have p1 := (hG.cell (p := ⟨w15.heap.size, 1, none⟩) lt).trans t1
            clear hdep hoff hG
            go_simp
            exact hQ _ (rfl)
          · obtain rfl := Option.some.inj ho
            have e0 : act.tmps[61]?.getD undef = .agg #[.slice a0 X0.length c0, .int .i64 r0] := hdep 0 _ (by kernel_rfl) rfl
            have e1 : act.tmps[62]?.getD undef = .agg #[.slice at1 Tt.length ct, .int .i64 r0] := hdep 1 _ (by kernel_rfl) rfl
            clear hdep hoff
            have HG : Hid (Below w21.heap.size w21 W) := hG
            have HC : Hid _ := HE.out W hG
            clear hG
            go_simp
            refine Calls.mono HC.out ?_
            rintro e w' ⟨rfl, hb⟩
            exact hK _ _ (HG.out.trans (hb.mono HG.out.size)) (fun j u hj h => by
                rcases j with _|_|_|_|_|_|_|_|_|_|_|_|_|_|_|_|_|_|_|_|_|_|j
                · exact h
                · exact h
                · exact absurd rfl hj
                · exact h
                · exact h
                · exact h
                · exact h
                · exact h
                · exact h
                · exact h
                · exact h
                · exact h
                · exact h
                · exact h
                · exact h
                · exact h
                · exact h
                · exact h
                · exact h
                · exact h
                · exact h
                · exact h
                · trivial) (rfl)
          · obtain rfl := Option.some.inj ho
            have e2 : act.tmps[63]?.getD undef = .bool true := hdep 2 _ (by kernel_rfl) rfl
            clear hdep hoff hG
            go_simp
            exact hQ _ (rfl)
          · obtain rfl := Option.some.inj ho
            have hgd : act.tmps[64]?.getD undef = .bool true := hdep 3 _ (by kernel_rfl) rfl
            have hgd' := getD_bool hgd
            have t10 : act.tmps[10]?.getD undef = .pointer (some ⟨w17.heap.size, 0, none⟩) := hoff 10 (by kernel_rfl)
            have p0 := (hG.cell (p := ⟨w17.heap.size, 0, none⟩) lx).trans x0
            have p1 := (hG.cell (p := ⟨w17.heap.size, 1, none⟩) lx).trans x1
            clear hdep hoff hG
            go_simp
            exact hQ _ (rfl)
          · obtain rfl := Option.some.inj ho
            have hgd : act.tmps[64]?.getD undef = .bool true := hdep 3 _ (by kernel_rfl) rfl
            have hgd' := getD_bool hgd
            have t12 : act.tmps[12]?.getD undef = .pointer (some ⟨w18.heap.size, 0, none⟩) := hoff 12 (by kernel_rfl)
            have p0 := (hG.cell (p := ⟨w18.heap.size, 0, none⟩) ly).trans y0
            have p1 := (hG.cell (p := ⟨w18.heap.size, 1, none⟩) ly).trans y1
            clear hdep hoff hG
            go_simp
            exact hQ _ (rfl)
          · obtain rfl := Option.some.inj ho
            have hgd : act.tmps[64]?.getD undef = .bool true := hdep 3 _ (by kernel_rfl) rfl
            have hgd' := getD_bool hgd
            have e4 : act.tmps[65]?.getD undef = .agg #[.slice ax Xs.length cx, .int .i64 ((Xs.length : Int) - 1)] := hdep 4 _ (by kernel_rfl) rfl
            have e5 : act.tmps[66]?.getD undef = .agg #[.slice ay Ys.length cy, .int .i64 ((Ys.length : Int) - 1)] := hdep 5 _ (by kernel_rfl) rfl
            clear hdep hoff
            have HG : Hid (Below w21.heap.size w21 W) := hG
            have HC : Hid _ := HSm.out W hG
            clear hG
            go_simp
            refine Calls.mono HC.out ?_
            rintro e w' ⟨rfl, hb⟩
            exact hK _ _ (HG.out.trans (hb.mono HG.out.size)) (fun j u hj h => by
                rcases j with _|_|_|_|_|_|_|_|_|_|_|_|_|_|_|_|_|_|_|_|_|_|j
                · exact h
                · exact h
                · exact h
                · exact h
                · exact h
                · exact h
                · exact absurd rfl hj
                · exact h
                · exact h
                · exact h
                · exact h
                · exact h
                · exact h
                · exact h
                · exact h
                · exact h
                · exact h
                · exact h
                · exact h
                · exact h
                · exact h
                · exact h
                · trivial) (rfl)
          · obtain rfl := Option.some.inj ho
            have e3 : act.tmps[64]?.getD undef = .bool true := hdep 3 _ (by kernel_rfl) rfl
            have e6 : act.tmps[67]?.getD undef = .bool true := hdep 6 _ (by kernel_rfl) rfl
            clear hdep hoff hG
            go_simp
            exact hQ _ (rfl)
          · obtain rfl := Option.some.inj ho
            have e7 : act.tmps[68]?.getD undef = .bool true := hdep 7 _ (by kernel_rfl) rfl
            clear hdep hoff hG
            go_simp
            exact hQ _ (rfl)
          · obtain rfl := Option.some.inj ho
            have hgd : act.tmps[69]?.getD undef = .bool true := hdep 8 _ (by kernel_rfl) rfl
            have hgd' := getD_bool hgd
            have t14 : act.tmps[14]?.getD undef = .pointer (some ⟨w19.heap.size, 0, none⟩) := hoff 14 (by kernel_rfl)
            have p0 := (hG.cell (p := ⟨w19.heap.size, 0, none⟩) lcn).trans cn0
            have p1 := (hG.cell (p := ⟨w19.heap.size, 1, none⟩) lcn).trans cn1
            clear hdep hoff hG
            go_simp
            exact hQ _ (rfl)
          · obtain rfl := Option.some.inj ho
            have hgd : act.tmps[69]?.getD undef = .bool true := hdep 8 _ (by kernel_rfl) rfl
            have hgd' := getD_bool hgd
            have t16 : act.tmps[16]?.getD undef = .pointer (some ⟨w20.heap.size, 0, none⟩) := hoff 16 (by kernel_rfl)
            have p0 := (hG.cell (p := ⟨w20.heap.size, 0, none⟩) ldn).trans dn0
            have p1 := (hG.cell (p := ⟨w20.heap.size, 1, none⟩) ldn).trans dn1
            clear hdep hoff hG
            go_simp
            exact hQ _ (rfl)
          · obtain rfl := Option.some.inj ho
            have hgd : act.tmps[69]?.getD undef = .bool true := hdep 8 _ (by kernel_rfl) rfl
            have hgd' := getD_bool hgd
            have e9 : act.tmps[70]?.getD undef = .agg #[.slice ac C.length cc, .int .i64 ((X0.length : Int) - 1)] := hdep 9 _ (by kernel_rfl) rfl
            have e10 : act.tmps[71]?.getD undef = .agg #[.slice ad D.length cd, .int .i64 ((Tt.length : Int) - 1)] := hdep 10 _ (by kernel_rfl) rfl
            clear hdep hoff
            have HG : Hid (Below w21.heap.size w21 W) := hG
            have HC : Hid _ := HSd.out W hG
            clear hG
            go_simp
            refine Calls.mono HC.out ?_
            rintro e w' ⟨rfl, hb⟩
            exact hK _ _ (HG.out.trans (hb.mono HG.out.size)) (fun j u hj h => by
                rcases j with _|_|_|_|_|_|_|_|_|_|_|_|_|_|_|_|_|_|_|_|_|_|j
                · exact h
                · exact h
                · exact h
                · exact h
                · exact h
                · exact h
                · exact h
                · exact h
                · exact h
                · exact h
                · exact h
                · exact absurd rfl hj
                · exact h
                · exact h
                · exact h
                · exact h
                · exact h
                · exact h
                · exact h
                · exact h
                · exact h
                · exact h
                · trivial) (rfl)
          · obtain rfl := Option.some.inj ho
            have hgd : act.tmps[69]?.getD undef = .bool true := hdep 8 _ (by kernel_rfl) rfl
            have hgd' := getD_bool hgd
            have t3 : act.tmps[3]?.getD undef = .pointer (some ⟨w.heap.size, 0, none⟩) := hoff 3 (by kernel_rfl)
            clear hdep hoff hG
            go_simp
            exact hQ _ (rfl)
          · obtain rfl := Option.some.inj ho
            have hgd : act.tmps[69]?.getD undef = .bool true := hdep 8 _ (by kernel_rfl) rfl
            have hgd' := getD_bool hgd
            have e12 : act.tmps[73]?.getD undef = .pointer (some ⟨w.heap.size, 0, none⟩) := hdep 12 _ (by kernel_rfl) rfl
            have p0 := (hG.cell (p := ⟨w.heap.size, 0, none⟩) la).trans xa0
            have p1 := (hG.cell (p := ⟨w.heap.size, 1, none⟩) la).trans xa1
            clear hdep hoff hG
            go_simp
            exact hQ _ (rfl)
          · obtain rfl := Option.some.inj ho
            have hgd : act.tmps[69]?.getD undef = .bool true := hdep 8 _ (by kernel_rfl) rfl
            have hgd' := getD_bool hgd
            have e13 : act.tmps[74]?.getD undef = .slice a0 X0.length c0 := hdep 13 _ (by kernel_rfl) rfl
            clear hdep hoff hG
            go_simp
            exact hQ _ (rfl)
          · obtain rfl := Option.some.inj ho
            have hgd : act.tmps[69]?.getD undef = .bool true := hdep 8 _ (by kernel_rfl) rfl
            have hgd' := getD_bool hgd
            have t7 : act.tmps[7]?.getD undef = .pointer (some ⟨w15.heap.size, 0, none⟩) := hoff 7 (by kernel_rfl)
            clear hdep hoff hG
            go_simp
            exact hQ _ (rfl)
          · obtain rfl := Option.some.inj ho
            have hgd : act.tmps[69]?.getD undef = .bool true := hdep 8 _ (by kernel_rfl) rfl
            have hgd' := getD_bool hgd
            have e15 : act.tmps[76]?.getD undef = .pointer (some ⟨w15.heap.size, 0, none⟩) := hdep 15 _ (by kernel_rfl) rfl
            have p0 := (hG.cell (p := ⟨w15.heap.size, 0, none⟩) lt).trans t0
            have p1 := (hG.cell (p := ⟨w15.heap.size, 1, none⟩) lt).trans t1
            clear hdep hoff hG
            go_simp
            exact hQ _ (rfl)
          · obtain rfl := Option.some.inj ho
            have hgd : act.tmps[69]?.getD undef = .bool true := hdep 8 _ (by kernel_rfl) rfl
            have hgd' := getD_bool hgd
            have e16 : act.tmps[77]?.getD undef = .slice at1 Tt.length ct := hdep 16 _ (by kernel_rfl) rfl
            clear hdep hoff hG
            go_simp
            exact hQ _ (rfl)
          · obtain rfl := Option.some.inj ho
            have hgd : act.tmps[69]?.getD undef = .bool true := hdep 8 _ (by kernel_rfl) rfl
            have hgd' := getD_bool hgd
            have e14 : act.tmps[75]?.getD undef = .int .i64 (X0.length : Int) := hdep 14 _ (by kernel_rfl) rfl
            have e17 : act.tmps[78]?.getD undef = .int .i64 (Tt.length : Int) := hdep 17 _ (by kernel_rfl) rfl
            clear hdep hoff hG
            go_simp
            exact hQ _ (congrArg Value.bool HBb.out)
          · obtain rfl := Option.some.inj ho
            have hgd : act.tmps[69]?.getD undef = .bool true := hdep 8 _ (by kernel_rfl) rfl
            have hgd' := getD_bool hgd
            have e11 : act.tmps[72]?.getD undef = .bool b := hdep 11 _ (by kernel_rfl) rfl
            have e18 : act.tmps[79]?.getD undef = .bool b := hdep 18 _ (by kernel_rfl) rfl
            clear hdep hoff hG
            go_simp
            exact hQ _ (rfl)
          · obtain rfl := Option.some.inj ho
            have e8 : act.tmps[69]?.getD undef = .bool true := hdep 8 _ (by kernel_rfl) rfl
            have e19 : act.tmps[80]?.getD undef = .bool true := hdep 19 _ (by kernel_rfl) rfl
            clear hdep hoff hG
            go_simp
            exact hQ _ (rfl)
          · obtain rfl := Option.some.inj ho
            have e20 : act.tmps[81]?.getD undef = .bool true := hdep 20 _ (by kernel_rfl) rfl
            clear hdep hoff hG
            go_simp
            exact hQ _ (rfl)
          · exact absurd ho (by simp)
        case fin =>
          intro V W hG hF
          have y21 : V (some 6) = .bool true := hF 21 _ rfl
          have HB : Hid (Below w.heap.size w W) := HB21.out.trans (hG.mono HB21.out.size)
          clear hF hG
          simp only [fillA, Act.put, List.setIfInBounds_toArray, List.set_cons_zero, List.set_cons_succ, y21]
          generalize V (some 61) = z61
          generalize V (some 62) = z62
          generalize V (some 63) = z63
          generalize V (some 64) = z64
          generalize V (some 65) = z65
          generalize V (some 66) = z66
          generalize V (some 67) = z67
          generalize V (some 68) = z68
          generalize V (some 69) = z69
          generalize V (some 70) = z70
          generalize V (some 71) = z71
          generalize V (some 72) = z72
          generalize V (some 73) = z73
          generalize V (some 74) = z74
          generalize V (some 75) = z75
          generalize V (some 76) = z76
          generalize V (some 77) = z77
          generalize V (some 78) = z78
          generalize V (some 79) = z79
          generalize V (some 80) = z80
          generalize V (some 81) = z81
          clear y21
          go_wp2_with fail
          go_ret
          exact ⟨rfl, HB.out⟩
      · have HB : Hid (Below w.heap.size w w16) := HK16.out.2.2.bel
        clear HK16 hck
        go_wp2_with fail
        go_ret
        exact ⟨rfl, HB.out⟩

set_option maxRecDepth 100000 in
theorem lifted (os : Os) (started : os.Started) (H : Type) (enc : TypeId × Value → H) :
    ReturnsInHanded {} Tryd.checked os 6 .any (fun w args => (Rows.unfoldDiffersSpec.pre enc Tryd.prog Tryd.f6 [] false w args ∧ laidMetH Tryd.prog laid3 w) ∧ sizedMet enc Tryd.prog Tryd.f6 (OpenSpec.ofChange Rows.unfoldDiffersSpec) false w args)
      (Rows.unfoldDiffersSpec.post enc Tryd.prog Tryd.f6 false true false false) := by
  refine returnsInHanded_of_change_and (C := Tryd.checked) (X := fun w _ => laidMetH Tryd.prog laid3 w) (fun _ _ _ hh h => h.of_heap hh) own started (by kernel_rfl) Tryd.func6
    (ChangeSpec.witness_shaped (enc := enc) (C := Tryd.checked) (os := os) (X := fun w _ => laidMetH Tryd.prog laid3 w) false (World.doorLaid Tryd.prog 400 os) #[.agg #[.slice none 0 0, .int .i64 0], .int .i64 0, .int .i64 0] 8 rfl (World.shaped_of_RefB (by kernel_rfl) (by kernel_rfl)) (by kernel_rfl) (by kernel_rfl) (by kernel_rfl) (door_met os _)) ?_
  intro W base args ds gs before hval0 hW _ _ hL _
  have hval : ∀ (j : Nat) t v, Tryd.f6.params[j]? = some t → args[j]? = some v → Value.okWide Tryd.prog W .any base t v := hval0
  have hW' := hW
  obtain ⟨p, q, hA0, hV, rfl, hfz, hnd⟩ := hW
  have hA : DataW.TrodAll enc Tryd.prog W 0 (fun _ => true) true Tryd.f6.params.toList args.toList ds p := hA0
  rw [Tryd.params6] at hA hval
  obtain ⟨v0, vs0, d0, ds0, p0, q0, hargs, rfl, rfl, h0, r0⟩ := trodAll_cons hA
  obtain ⟨v1, vs1, d1, ds1, p1, q1, rfl, rfl, rfl, h1, r1⟩ := trodAll_cons r0
  obtain ⟨v2, vs2, d2, ds2, p2, q2, rfl, rfl, rfl, h2, r2⟩ := trodAll_cons r1
  obtain ⟨rfl, rfl, rfl⟩ := trodAll_nil r2
  obtain rfl : args = #[v0, v1, v2] := by cases args; simp_all
  obtain ⟨rfl, rfl⟩ := trodVars_none hV
  have K0 := h0
  have lt0 : ∀ x ∈ p0, x.block < W.heap.size := by obtain ⟨m, hm⟩ := K0; exact DataW.trod_lt m _ _ _ hm
  obtain ⟨X0, a0, c0, rt0, rfl, w0⟩ := open_scene Tryd.underlying24 (by kernel_rfl) (by kernel_rfl) Tryd.underlying22 Tryd.underlying3 Tryd.underlying42 (by kernel_rfl) rfl rfl rfl rfl (by kernel_rfl) (by kernel_rfl) (by kernel_rfl) (by kernel_rfl) Tryd.underlying3 Tryd.underlying39 Tryd.underlying40 Tryd.underlying38 Tryd.underlying2 Tryd.underlying9 Tryd.underlying3 (by kernel_rfl) (by kernel_rfl) (by kernel_rfl) (hval 0 24 v0 rfl rfl) h0
  obtain ⟨a1, rfl, rfl, rfl, w1⟩ := open_int Tryd.underlying3 (hval 1 3 v1 rfl rfl) h1
  obtain ⟨a2, rfl, rfl, rfl, w2⟩ := open_int Tryd.underlying3 (hval 2 3 v2 rfl rfl) h2
  clear hA0 hval0
  refine (walk X0 a0 c0 rt0 a1 a2 W w0 w1 w2 (tab_of11 hL)).mono fun e W' ⟨he, bel⟩ => ?_
  subst he
  exact ⟨_, rfl, _, _, _, [], _, [], hW', trodAll_mk1 (shut_bool Tryd.underlying4 _), (trodAll_cons_mk (Below.trod laidOut (by kernel_rfl) (of_decide_eq_true (by kernel_rfl)) K0 bel lt0) (trodAll_cons_mk (shut_int Tryd.underlying3 w1) (trodAll_cons_mk (shut_int Tryd.underlying3 w2) trodAll_mk0))), rfl, bel.frame _, fun h => by cases h⟩

theorem row : Rows.unfoldDiffersRow.holds Tryd.pinned (OpenSpec.ofChange Rows.unfoldDiffersSpec) :=
  OpenClaim.holds_of_wide 6 Tryd.f6 rfl rfl rfl rfl rfl rfl rfl ⟨rfl, rfl, rfl, rfl, rfl⟩ rfl rfl rfl rfl rfl (by kernel_rfl) Tryd.func6 (by kernel_rfl)
    (of_decide_eq_true (by kernel_rfl)) (by unfold Func.isWrapper; first | (rw [if_pos (by decide +kernel)]; kernel_rfl) | (rw [if_neg (by decide +kernel)]; exact ⟨rfl, rfl⟩))
    (fun os started H enc _ => lifted os started H enc)

/-- No parameter wants a stand-in; the program's own looks are off: what the card asks. -/
theorem plain (f : FuncId) (fn : Func) (hf : Tryd.pinned.checked.prog.funcNamed Rows.unfoldDiffersRow.func = some f) (hfn : Tryd.pinned.checked.prog.funcs[f]? = some fn) :
    false = Tryd.pinned.checked.prog.looks [] ∧ ∀ (j : Nat) t, fn.params[j]? = some t → Tryd.pinned.checked.prog.wantsStandIn t = false := by
  obtain rfl : f = 6 := Option.some.inj ((show Tryd.prog.funcNamed Rows.unfoldDiffersRow.func = some 6 by kernel_rfl).symm.trans hf) |>.symm
  obtain rfl : fn = Tryd.f6 := (Option.some.inj (Tryd.func6.symm.trans hfn)).symm
  refine ⟨by kernel_rfl, fun j t ht => ?_⟩
  have hm := Array.mem_of_getElem? ht
  have hall : (Tryd.f6.params.toList.all fun u => !Tryd.prog.wantsStandIn u) = true := by kernel_rfl
  exact (show Tryd.prog.wantsStandIn t = false by simpa using List.all_eq_true.1 hall t (by simpa using hm))

/-- ████ THE CARD ████ -/
theorem over : Rows.UnfoldDiffersCardSaid :=
  Claim7.holds_tied_plain_at .later [] _ _ _ _ row (fun _ h => by cases h) (by kernel_rfl) (fun _ h => by cases h) unfoldDiffers_row_tie rfl ⟨rfl, rfl⟩ (by kernel_rfl) rfl plain (by kernel_rfl)

end Go.Proofs.YtcdpjaaiojpelaaDoor.unfoldDiffers

namespace Go.Proofs.YtcdpjaaiojpelaaDoor
theorem unfoldDiffers_holds : Rows.UnfoldDiffersCardSaid := unfoldDiffers.over
#print axioms unfoldDiffers_holds
end Go.Proofs.YtcdpjaaiojpelaaDoor
