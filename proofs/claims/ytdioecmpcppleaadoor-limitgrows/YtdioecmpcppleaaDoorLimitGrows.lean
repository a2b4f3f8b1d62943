/- For every scene and all limits: what is valid within limits is so within greater ones that may be, and within its own measure, which is within the limits; with one less of nodes, of kids, of depth, or of texts' bytes than its measure it is told to be beyond the limits (scenes greater than the law plays with are let go by the law itself); the arguments read afterwards as before. The package schema's tables hold what the program's text lays into them when the call begins (the card ties them). -/
import Derived.Test.YtdioecmpcppleaaDoorRows
import Derived.Test.YtdioecmpcppleaaDoorCards
import Derived.Test.YtdioecmpcppleaaDoorTie
import Derived.WalkKit
import Derived.ProofKit
import Derived.OpenShut
import Derived.ShutString
import Derived.Below
import Derived.Test.YtdioecmpcppleaaDoorLSame
import Derived.ChangeOld
import Derived.LaidMore
import Derived.SevenTiedAt
namespace Go.Proofs.YtdioecmpcppleaaDoor.limitGrows
open Go.ChangeShapes Go.WideShapes Go.ChangeAt Go.RowKit
open Go.ChangeMaps (open_string shut_string)
set_option linter.unusedVariables false

theorem own : ownKnob Tryd.prog.godebug = none := by kernel_rfl
theorem laidOut : laidOutB Tryd.prog = true := by kernel_rfl

theorem inL_refl (l : Lm) : inL l l = true := decide_eq_true ⟨Int.le_refl _, Int.le_refl _, Int.le_refl _, Int.le_refl _, Int.le_refl _⟩
theorem inL_trans {a b c : Lm} (h : inL a b = true) (k : inL b c = true) : inL a c = true := by
  have h1 := of_decide_eq_true h
  have h2 := of_decide_eq_true k
  obtain ⟨p0, p1, p2, p3, p4⟩ := h1
  obtain ⟨q0, q1, q2, q3, q4⟩ := h2
  exact decide_eq_true ⟨by omega, by omega, by omega, by omega, by omega⟩
theorem me_ok {X : List Nx} {d : Nat} {l : Lm} (h : okL l = true) (k : inL (meL X d) l = true) : okL (meL X d) = true := by
  have h1 := of_decide_eq_true h
  have h2 := of_decide_eq_true k
  obtain ⟨p0, p1, p2, p3, p4⟩ := h1
  obtain ⟨q0, q1, q2, q3, q4⟩ := h2
  simp only [meL] at q0 q1 q2 q3 q4
  refine decide_eq_true ⟨?_, ?_, ?_, ?_, ?_⟩ <;> simp only [meL] <;> omega
theorem me_less {X : List Nx} {d : Nat} {b n e f x : Int} (h : n < X.length ∨ e < edg X ∨ f < d ∨ x < txb X) : inL (meL X d) ⟨b, n, e, f, x⟩ = false := by
  refine decide_eq_false fun q => ?_
  obtain ⟨q0, q1, q2, q3, q4⟩ := q
  simp only [meL] at q0 q1 q2 q3 q4
  omega
/-- What the law holds in its loop: gm the measure's block, gu the list's. -/
structure Gz (w W : World) (a : Option Addr) (X : List Nx) (c : Nat) (r : Int) (l m : Lm) (gm gu d : Nat) : Prop where
  t : L3 w W a X c r l m
  m : AtN 26 W gm (meC X d)
  u : AtN 26 W gu #[.int .i64 0, .int .i64 1, .int .i64 0, .int .i64 0, .int .i64 0, .int .i64 0, .int .i64 0, .int .i64 1, .int .i64 0, .int .i64 0, .int .i64 0, .int .i64 0, .int .i64 0, .int .i64 1, .int .i64 0, .int .i64 0, .int .i64 0, .int .i64 0, .int .i64 0, .int .i64 1]
theorem Gz.more {w W W' : World} {a : Option Addr} {X : List Nx} {c gm gu d : Nat} {r : Int} {l m : Lm} (h : Gz w W a X c r l m gm gu d) (hb : Below W.heap.size W W') : Gz w W' a X c r l m gm gu d := ⟨h.t.more hb, h.m.belowAll hb, h.u.belowAll hb⟩

set_option maxRecDepth 10000 in
set_option maxHeartbeats 4000000 in
theorem walk (X0 : List Nx) (a0 : Option Addr) (c0 : Nat) (r0 : Int) (l1 : Lm) (l2 : Lm) (w : World) (w0 : IsSc w a0 X0 r0) (w1 : LmR l1) (w2 : LmR l2) (hT : Tabs12 w) :
    Calls Tryd.prog 5 #[.agg #[.slice a0 X0.length c0, .int .i64 r0], .agg #[.int .i64 l1.b, .int .i64 l1.n, .int .i64 l1.e, .int .i64 l1.d, .int .i64 l1.x], .agg #[.int .i64 l2.b, .int .i64 l2.n, .int .i64 l2.e, .int .i64 l2.d, .int .i64 l2.x]] w fun e w' => e = .returned (.bool true) ∧ Below w.heap.size w w' := by
  have HA : Hid (∀ W, Tabs12 W → Calls Tryd.prog 8 #[] W fun e w' => e = .returned (.bool true) ∧ Below W.heap.size W w') := awake_any
  have HS : Hid (IsSc w a0 X0 r0) := w0
  have HL : Hid (L3 w (((w.alloc (.cells #[.slice a0 X0.length c0, .int .i64 r0] 24)).alloc (.cells (lmC l1) 26)).alloc (.cells (lmC l2) 26)) a0 X0 c0 r0 l1 l2) := L3.start hT
  clear w0 hT w1 w2
  go_enter Tryd.func5, Tryd.ntmps5
  go_wp2_with fail
  refine (HA.out _ HL.out.t.tab).mono ?_
  rintro e w2 ⟨rfl, hb2⟩
  have HL2 : Hid (L3 w w2 a0 X0 c0 r0 l1 l2) := HL.out.more hb2
  clear HL hb2
  have xa0 := HL2.out.t.c0
  have xa1 := HL2.out.t.c1
  have HG : Hid (Calls Tryd.prog 9 #[.agg #[.slice a0 X0.length c0, .int .i64 r0]] w2 fun e w' => GreatOut X0 w2 w' e) := sgreat_any X0 a0 c0 r0 w2 (HS.out.belS HL2.out.t.bel)
  go_wp2_with fail
  refine Calls.mono HG.out ?_
  rintro e w3 ⟨g, rfl, hg, hb3⟩
  have HL3 : Hid (L3 w w3 a0 X0 c0 r0 l1 l2) := HL2.out.more hb3
  clear HG HL2 hb3 xa0 xa1
  cases g with
  | true =>
    go_wp2_with fail
    refine (HA.out _ HL3.out.t.tab).mono ?_
    rintro e wz ⟨rfl, hbz⟩
    have HB : Hid (Below w.heap.size w wz) := (HL3.out.more hbz).t.bel
    clear HL3 hbz
    go_wp2_with fail
    go_ret
    exact ⟨rfl, HB.out⟩
  | false =>
    have HSm : Hid (Small X0) := (hg rfl).1
    obtain ⟨d, hd⟩ := depth_there X0 r0
    have HD : Hid (DepthIs X0 r0 d) := hd
    have HV : Hid (∀ (l : Lm) W, L3 w W a0 X0 c0 r0 l1 l2 → Calls Tryd.prog 10 #[.agg #[.slice a0 X0.length c0, .int .i64 r0], .agg #[.int .i64 l.b, .int .i64 l.n, .int .i64 l.e, .int .i64 l.d, .int .i64 l.x]] W fun e w' => VaOut X0 r0 l d W w' e) := fun l W hW => valid_any X0 a0 c0 r0 l d W (HS.out.belS hW.t.bel) HSm.out HS.out.fn hW.t.tab HD.out
    have HM : Hid (∀ W, L3 w W a0 X0 c0 r0 l1 l2 → Calls Tryd.prog 15 #[.agg #[.slice a0 X0.length c0, .int .i64 r0]] W fun e w' => e = .returned (.agg #[.int .i64 0, .int .i64 X0.length, .int .i64 (edg X0 : Nat), .int .i64 (d : Nat), .int .i64 (txb X0 : Nat)]) ∧ Below W.heap.size W w') := fun W hW => measure_any X0 a0 c0 r0 d W (HS.out.belS hW.t.bel) HSm.out HD.out
    have b1 : (X0.length : Int) ≤ 61 := by have := HSm.out.1; omega
    have b2 : (edg X0 : Int) ≤ 70000000000000000 := by
      have h1 := edg_le X0 HSm.out.few X0.length (Nat.le_refl _)
      rw [List.take_length] at h1
      have := HSm.out.1
      omega
    have b3 : (d : Int) ≤ 61 := by
      by_cases hr : RightIs X0 r0
      · obtain ⟨f, _, hf, hle⟩ := HD.out.2 hr
        have h1 := isPb_iff.1 hr.1
        have h2 := (hle r0.toNat (by omega)).2
        have := HSm.out.1
        omega
      · have := HD.out.1 hr
        omega
    have b4 : (txb X0 : Int) ≤ 3050000 := by
      have h1 := allT_small X0 HSm.out X0.length (Nat.le_refl _)
      rw [List.take_length] at h1
      have h2 := (itn_sum _ (by have := HSm.out.1; omega) h1.2).1
      show ((sum6 (itn (allT X0)) : Nat) : Int) ≤ _
      omega
    clear hg hd HA HD
    have xa0 := HL3.out.t.c0
    have xa1 := HL3.out.t.c1
    have xl0 := HL3.out.t.d0
    have xl1 := HL3.out.t.d1
    have xl2 := HL3.out.t.d2
    have xl3 := HL3.out.t.d3
    have xl4 := HL3.out.t.d4
    have HV1 : Hid (Calls Tryd.prog 10 #[.agg #[.slice a0 X0.length c0, .int .i64 r0], .agg #[.int .i64 l1.b, .int .i64 l1.n, .int .i64 l1.e, .int .i64 l1.d, .int .i64 l1.x]] w3 fun e w' => VaOut X0 r0 l1 d w3 w' e) := HV.out l1 w3 HL3.out
    go_wp2_with fail
    refine Calls.mono HV1.out ?_
    rintro e w4 ⟨e0, y0, rfl, hv0, hb4⟩
    have HL4 : Hid (L3 w w4 a0 X0 c0 r0 l1 l2) := HL3.out.more hb4
    have HZ0 := hv0.zero
    clear HV1 HL3 hb4 hv0 xa0 xa1 xl0 xl1 xl2 xl3 xl4
    by_cases he0 : e0 = 0
    · subst he0
      obtain ⟨hk1, hwh, hin⟩ := HZ0.1 rfl
      have HK1 : Hid (okL l1 = true ∧ Whole X0 r0 ∧ inL (meL X0 d) l1 = true) := ⟨hk1, hwh, hin⟩
      clear HZ0 hk1 hwh hin
      have xa0 := HL4.out.t.c0
      have xa1 := HL4.out.t.c1
      have HM1 : Hid _ := HM.out w4 HL4.out
      go_wp2_with fail
      refine Calls.mono (Hid.out HM1) ?_
      rintro e w5 ⟨rfl, hb5⟩
      have HN5 : Hid (AtN 26 (w5.alloc (.cells (meC X0 d) 26)) w5.heap.size (meC X0 d)) := AtN.new w5 26 _
      have HL5 : Hid (L3 w (w5.alloc (.cells (meC X0 d) 26)) a0 X0 c0 r0 l1 l2) := (HL4.out.more hb5).more ((Below.refl _ _).alloc (Nat.le_refl _) _)
      have hg5 : w.heap.size + 3 ≤ w5.heap.size := by
        have h1 := (HL4.out.more hb5).m.lt
        omega
      clear HM1 HL4 hb5 xa0 xa1
      unfold meC at HN5 HL5
      have xa0 := HL5.out.t.c0
      have xa1 := HL5.out.t.c1
      have HV2 : Hid (Calls Tryd.prog 10 #[.agg #[.slice a0 X0.length c0, .int .i64 r0], .agg #[.int .i64 0, .int .i64 X0.length, .int .i64 (edg X0 : Nat), .int .i64 (d : Nat), .int .i64 (txb X0 : Nat)]] (w5.alloc (.cells #[.int .i64 0, .int .i64 X0.length, .int .i64 (edg X0 : Nat), .int .i64 (d : Nat), .int .i64 (txb X0 : Nat)] 26)) fun e w' => VaOut X0 r0 (meL X0 d) d (w5.alloc (.cells #[.int .i64 0, .int .i64 X0.length, .int .i64 (edg X0 : Nat), .int .i64 (d : Nat), .int .i64 (txb X0 : Nat)] 26)) w' e) := HV.out (meL X0 d) _ HL5.out
      go_wp2_with fail
      refine Calls.mono HV2.out ?_
      rintro e w6 ⟨e1, y1, rfl, hv1, hb6⟩
      have he1 : e1 = 0 := hv1.zero.2 ⟨me_ok HK1.out.1 HK1.out.2.2, HK1.out.2.1, inL_refl _⟩
      subst he1
      have HL6 : Hid (L3 w w6 a0 X0 c0 r0 l1 l2) := HL5.out.more hb6
      have HN6 : Hid (AtN 26 w6 w5.heap.size (meC X0 d)) := AtN.belowAll HN5.out hb6
      obtain ⟨gm, hgm⟩ : ∃ gm, w5.heap.size = gm := ⟨_, rfl⟩
      rw [hgm] at HN6
      clear HV2 HL5 HN5 hb6 hv1 xa0 xa1
      have xg0 : w6.cell? ⟨gm, 0, none⟩ = some (.int .i64 0) := HN6.out.cell 0
      have xg1 : w6.cell? ⟨gm, 1, none⟩ = some (.int .i64 X0.length) := HN6.out.cell 1
      have xg2 : w6.cell? ⟨gm, 2, none⟩ = some (.int .i64 (edg X0 : Nat)) := HN6.out.cell 2
      have xg3 : w6.cell? ⟨gm, 3, none⟩ = some (.int .i64 (d : Nat)) := HN6.out.cell 3
      have xg4 : w6.cell? ⟨gm, 4, none⟩ = some (.int .i64 (txb X0 : Nat)) := HN6.out.cell 4
      have xl0 := HL6.out.t.d0
      have xl1 := HL6.out.t.d1
      have xl2 := HL6.out.t.d2
      have xl3 := HL6.out.t.d3
      have xl4 := HL6.out.t.d4
      have HW1 : Hid (Calls Tryd.prog 19 #[.agg #[.int .i64 0, .int .i64 X0.length, .int .i64 (edg X0 : Nat), .int .i64 (d : Nat), .int .i64 (txb X0 : Nat)], .agg #[.int .i64 l1.b, .int .i64 l1.n, .int .i64 l1.e, .int .i64 l1.d, .int .i64 l1.x]] w6 fun e w' => e = .returned (.bool true) ∧ Below w6.heap.size w6 w') := by
        have := within_any (meL X0 d) l1 w6
        rw [HK1.out.2.2] at this
        exact this
      rw [hgm]
      go_wp2_with fail
      refine Calls.mono HW1.out ?_
      rintro e w7 ⟨rfl, hb7⟩
      have HL7 : Hid (L3 w w7 a0 X0 c0 r0 l1 l2) := HL6.out.more hb7
      have HN7 : Hid (AtN 26 w7 gm (meC X0 d)) := AtN.belowAll HN6.out hb7
      have hg7 : w.heap.size + 3 ≤ gm := by omega
      clear HW1 HL6 HN6 hb7 xg0 xg1 xg2 xg3 xg4 xl0 xl1 xl2 xl3 xl4 hg5 hgm
      obtain ⟨p, hp⟩ : ∃ p, inL l1 l2 = p := ⟨_, rfl⟩
      have HP : Hid (inL l1 l2 = p) := hp
      clear hp
      have xl0 := HL7.out.t.d0
      have xl1 := HL7.out.t.d1
      have xl2 := HL7.out.t.d2
      have xl3 := HL7.out.t.d3
      have xl4 := HL7.out.t.d4
      have xm0 := HL7.out.e0
      have xm1 := HL7.out.e1
      have xm2 := HL7.out.e2
      have xm3 := HL7.out.e3
      have xm4 := HL7.out.e4
      have HW2 : Hid (Calls Tryd.prog 19 #[.agg #[.int .i64 l1.b, .int .i64 l1.n, .int .i64 l1.e, .int .i64 l1.d, .int .i64 l1.x], .agg #[.int .i64 l2.b, .int .i64 l2.n, .int .i64 l2.e, .int .i64 l2.d, .int .i64 l2.x]] w7 fun e w' => e = .returned (.bool p) ∧ Below w7.heap.size w7 w') := by
        have := within_any l1 l2 w7
        rw [HP.out] at this
        exact this
      go_wp2_with fail
      refine Calls.mono HW2.out ?_
      rintro e w8 ⟨rfl, hb8⟩
      have HL8 : Hid (L3 w w8 a0 X0 c0 r0 l1 l2) := HL7.out.more hb8
      have HN8 : Hid (AtN 26 w8 gm (meC X0 d)) := AtN.belowAll HN7.out hb8
      clear HW2 HL7 HN7 hb8 xl0 xl1 xl2 xl3 xl4 xm0 xm1 xm2 xm3 xm4
      cases p with
      | false =>
        go_wp2_with fail
        have HU : Hid (Gz w (w8.alloc (.cells #[.int .i64 0, .int .i64 1, .int .i64 0, .int .i64 0, .int .i64 0, .int .i64 0, .int .i64 0, .int .i64 1, .int .i64 0, .int .i64 0, .int .i64 0, .int .i64 0, .int .i64 0, .int .i64 1, .int .i64 0, .int .i64 0, .int .i64 0, .int .i64 0, .int .i64 0, .int .i64 1] 26)) a0 X0 c0 r0 l1 l2 gm w8.heap.size d) := ⟨HL8.out.more ((Below.refl _ _).alloc (Nat.le_refl _) _), AtN.alloc HN8.out _, AtN.new w8 26 _⟩
        have hgw := AtN.lt HN8.out
        clear HL8 HN8 HM HP
        obtain ⟨gu, hgu⟩ : ∃ gu, w8.heap.size = gu := ⟨_, rfl⟩
        rw [hgu] at HU
        go_wp2_with fail
        rw [hgu]
        go_loopw [71] (fun iv wr => ∃ i : Nat, iv = .int .i64 i ∧ i ≤ 4 ∧ Hid (Gz w wr a0 X0 c0 r0 l1 l2 gm gu d)) (fun iv _ => 4 - (intOf iv).toNat)
        case atStart => exact ⟨0, rfl, by omega, HU⟩
        case round =>
          clear HU hgu hgw
          obtain ⟨i, rfl, hi, HZ⟩ := hrel
          have hgl := AtN.lt HZ.out.u
          have hml := AtN.lt HZ.out.m
          by_cases hlt : i < 4
          · have HVl : Hid (∀ (b n e f x : Int) W, Gz w W a0 X0 c0 r0 l1 l2 gm gu d → Calls Tryd.prog 10 #[.agg #[.slice a0 X0.length c0, .int .i64 r0], .agg #[.int .i64 b, .int .i64 n, .int .i64 e, .int .i64 f, .int .i64 x]] W fun r w' => ∃ k z : Int, r = .returned (.tuple #[.int .i64 k, .int .i64 z]) ∧ (okL ⟨b, n, e, f, x⟩ = true → n < X0.length ∨ e < edg X0 ∨ f < d ∨ x < txb X0 → k = 19) ∧ Below W.heap.size W w') := fun b n e f x W hW => by
              refine Calls.mono (HV.out ⟨b, n, e, f, x⟩ W hW.t) ?_
              rintro r w' ⟨k, z, rfl, hv, hb⟩
              exact ⟨k, z, rfl, fun q1 q2 => hv.limit.2 ⟨q1, HK1.out.2.1, me_less q2⟩, hb⟩
            have HRl : Hid (∀ (b n e f x : Int) W, Calls Tryd.prog 17 #[.agg #[.int .i64 b, .int .i64 n, .int .i64 e, .int .i64 f, .int .i64 x]] W fun r w' => r = .returned (.bool (okL ⟨b, n, e, f, x⟩)) ∧ Below W.heap.size W w') := fun b n e f x W => okl_any ⟨b, n, e, f, x⟩ W
            clear HV HK1
            rcases (by omega : i = 0 ∨ i = 1 ∨ i = 2 ∨ i = 3) with rfl | rfl | rfl | rfl
            · have xu0 : wr.cell? ⟨gu, 0, none⟩ = some (.int .i64 0) := HZ.out.u.cell 0
              have xu1 : wr.cell? ⟨gu, 1, none⟩ = some (.int .i64 1) := HZ.out.u.cell 1
              have xu2 : wr.cell? ⟨gu, 2, none⟩ = some (.int .i64 0) := HZ.out.u.cell 2
              have xu3 : wr.cell? ⟨gu, 3, none⟩ = some (.int .i64 0) := HZ.out.u.cell 3
              have xu4 : wr.cell? ⟨gu, 4, none⟩ = some (.int .i64 0) := HZ.out.u.cell 4
              have xg0 : wr.cell? ⟨gm, 0, none⟩ = some (.int .i64 0) := HZ.out.m.cell 0
              have xg1 : wr.cell? ⟨gm, 1, none⟩ = some (.int .i64 X0.length) := HZ.out.m.cell 1
              have xg2 : wr.cell? ⟨gm, 2, none⟩ = some (.int .i64 (edg X0 : Nat)) := HZ.out.m.cell 2
              have xg3 : wr.cell? ⟨gm, 3, none⟩ = some (.int .i64 (d : Nat)) := HZ.out.m.cell 3
              have xg4 : wr.cell? ⟨gm, 4, none⟩ = some (.int .i64 (txb X0 : Nat)) := HZ.out.m.cell 4
              go_wp2_with fail
              refine (HRl.out _ _ _ _ _ _).mono ?_
              rintro e wa ⟨rfl, hba⟩
              have HZa : Hid (Gz w wa a0 X0 c0 r0 l1 l2 gm gu d) := (HZ.out.more (Joins.below_alloc2 wr _ _)).more hba
              have HLs : Hid (AtN 26 wa (wr.heap.size + 1) #[.int .i64 0, .int .i64 ((X0.length : Int) - 1), .int .i64 ((edg X0 : Int)), .int .i64 ((d : Int)), .int .i64 ((txb X0 : Int))]) := AtN.belowAll (mk_at (AtN.new (wr.alloc (.cells #[.int .i64 0, .int .i64 1, .int .i64 0, .int .i64 0, .int .i64 0] 26)) 26 #[.int .i64 0, .int .i64 ((X0.length : Int) - 1), .int .i64 ((edg X0 : Int)), .int .i64 ((d : Int)), .int .i64 ((txb X0 : Int))]) (by simp)) hba
              obtain ⟨kk, hkk⟩ : ∃ kk, okL ⟨0, (X0.length : Int) - 1, (edg X0 : Int), (d : Int), (txb X0 : Int)⟩ = kk := ⟨_, rfl⟩
              rw [hkk]
              have HKl : Hid (okL ⟨0, (X0.length : Int) - 1, (edg X0 : Int), (d : Int), (txb X0 : Int)⟩ = kk) := hkk
              clear HZ HRl hba hkk xu0 xu1 xu2 xu3 xu4 xg0 xg1 xg2 xg3 xg4
              cases kk with
              | false =>
                clear HVl HKl HLs
                go_wp2_with fail
                go_roundw
                case rel => exact ⟨1, by first | rfl | go_num, by omega, HZa⟩
                case measure => simp [intOf]
              | true =>
                have HVc : Hid _ := HVl.out (0) ((X0.length : Int) - 1) ((edg X0 : Int)) ((d : Int)) ((txb X0 : Int)) wa HZa.out
                have xa0 := HZa.out.t.t.c0
                have xa1 := HZa.out.t.t.c1
                have xs0 : wa.cell? ⟨wr.heap.size + 1, 0, none⟩ = some (.int .i64 0) := HLs.out.cell 0
                have xs1 : wa.cell? ⟨wr.heap.size + 1, 1, none⟩ = some (.int .i64 ((X0.length : Int) - 1)) := HLs.out.cell 1
                have xs2 : wa.cell? ⟨wr.heap.size + 1, 2, none⟩ = some (.int .i64 ((edg X0 : Int))) := HLs.out.cell 2
                have xs3 : wa.cell? ⟨wr.heap.size + 1, 3, none⟩ = some (.int .i64 ((d : Int))) := HLs.out.cell 3
                have xs4 : wa.cell? ⟨wr.heap.size + 1, 4, none⟩ = some (.int .i64 ((txb X0 : Int))) := HLs.out.cell 4
                have hsl := AtN.lt HLs.out
                clear HVl HLs
                go_wp2_with fail
                refine Calls.mono (Hid.out HVc) ?_
                rintro e wb ⟨k, z, rfl, hk, hbb⟩
                have HZb : Hid (Gz w wb a0 X0 c0 r0 l1 l2 gm gu d) := HZa.out.more hbb
                obtain rfl := hk HKl.out (by omega)
                clear HVc HZa hbb hk HKl xa0 xa1 xs0 xs1 xs2 xs3 xs4
                go_wp2_with fail
                go_roundw
                case rel => exact ⟨1, by first | rfl | go_num, by omega, HZb⟩
                case measure => simp [intOf]
            · have xu0 : wr.cell? ⟨gu, 5, none⟩ = some (.int .i64 0) := HZ.out.u.cell 5
              have xu1 : wr.cell? ⟨gu, 6, none⟩ = some (.int .i64 0) := HZ.out.u.cell 6
              have xu2 : wr.cell? ⟨gu, 7, none⟩ = some (.int .i64 1) := HZ.out.u.cell 7
              have xu3 : wr.cell? ⟨gu, 8, none⟩ = some (.int .i64 0) := HZ.out.u.cell 8
              have xu4 : wr.cell? ⟨gu, 9, none⟩ = some (.int .i64 0) := HZ.out.u.cell 9
              have xg0 : wr.cell? ⟨gm, 0, none⟩ = some (.int .i64 0) := HZ.out.m.cell 0
              have xg1 : wr.cell? ⟨gm, 1, none⟩ = some (.int .i64 X0.length) := HZ.out.m.cell 1
              have xg2 : wr.cell? ⟨gm, 2, none⟩ = some (.int .i64 (edg X0 : Nat)) := HZ.out.m.cell 2
              have xg3 : wr.cell? ⟨gm, 3, none⟩ = some (.int .i64 (d : Nat)) := HZ.out.m.cell 3
              have xg4 : wr.cell? ⟨gm, 4, none⟩ = some (.int .i64 (txb X0 : Nat)) := HZ.out.m.cell 4
              go_wp2_with fail
              refine (HRl.out _ _ _ _ _ _).mono ?_
              rintro e wa ⟨rfl, hba⟩
              have HZa : Hid (Gz w wa a0 X0 c0 r0 l1 l2 gm gu d) := (HZ.out.more (Joins.below_alloc2 wr _ _)).more hba
              have HLs : Hid (AtN 26 wa (wr.heap.size + 1) #[.int .i64 0, .int .i64 ((X0.length : Int)), .int .i64 ((edg X0 : Int) - 1), .int .i64 ((d : Int)), .int .i64 ((txb X0 : Int))]) := AtN.belowAll (mk_at (AtN.new (wr.alloc (.cells #[.int .i64 0, .int .i64 0, .int .i64 1, .int .i64 0, .int .i64 0] 26)) 26 #[.int .i64 0, .int .i64 ((X0.length : Int)), .int .i64 ((edg X0 : Int) - 1), .int .i64 ((d : Int)), .int .i64 ((txb X0 : Int))]) (by simp)) hba
              obtain ⟨kk, hkk⟩ : ∃ kk, okL ⟨0, (X0.length : Int), (edg X0 : Int) - 1, (d : Int), (txb X0 : Int)⟩ = kk := ⟨_, rfl⟩
              rw [hkk]
              have HKl : Hid (okL ⟨0, (X0.length : Int), (edg X0 : Int) - 1, (d : Int), (txb X0 : Int)⟩ = kk) := hkk
              clear HZ HRl hba hkk xu0 xu1 xu2 xu3 xu4 xg0 xg1 xg2 xg3 xg4
              cases kk with
              | false =>
                clear HVl HKl HLs
                go_wp2_with fail
                go_roundw
                case rel => exact ⟨2, by first | rfl | go_num, by omega, HZa⟩
                case measure => simp [intOf]
              | true =>
                have HVc : Hid _ := HVl.out (0) ((X0.length : Int)) ((edg X0 : Int) - 1) ((d : Int)) ((txb X0 : Int)) wa HZa.out
                have xa0 := HZa.out.t.t.c0
                have xa1 := HZa.out.t.t.c1
                have xs0 : wa.cell? ⟨wr.heap.size + 1, 0, none⟩ = some (.int .i64 0) := HLs.out.cell 0
                have xs1 : wa.cell? ⟨wr.heap.size + 1, 1, none⟩ = some (.int .i64 ((X0.length : Int))) := HLs.out.cell 1
                have xs2 : wa.cell? ⟨wr.heap.size + 1, 2, none⟩ = some (.int .i64 ((edg X0 : Int) - 1)) := HLs.out.cell 2
                have xs3 : wa.cell? ⟨wr.heap.size + 1, 3, none⟩ = some (.int .i64 ((d : Int))) := HLs.out.cell 3
                have xs4 : wa.cell? ⟨wr.heap.size + 1, 4, none⟩ = some (.int .i64 ((txb X0 : Int))) := HLs.out.cell 4
                have hsl := AtN.lt HLs.out
                clear HVl HLs
                go_wp2_with fail
                refine Calls.mono (Hid.out HVc) ?_
                rintro e wb ⟨k, z, rfl, hk, hbb⟩
                have HZb : Hid (Gz w wb a0 X0 c0 r0 l1 l2 gm gu d) := HZa.out.more hbb
                obtain rfl := hk HKl.out (by omega)
                clear HVc HZa hbb hk HKl xa0 xa1 xs0 xs1 xs2 xs3 xs4
                go_wp2_with fail
                go_roundw
                case rel => exact ⟨2, by first | rfl | go_num, by omega, HZb⟩
                case measure => simp [intOf]
            · have xu0 : wr.cell? ⟨gu, 10, none⟩ = some (.int .i64 0) := HZ.out.u.cell 10
              have xu1 : wr.cell? ⟨gu, 11, none⟩ = some (.int .i64 0) := HZ.out.u.cell 11
              have xu2 : wr.cell? ⟨gu, 12, none⟩ = some (.int .i64 0) := HZ.out.u.cell 12
              have xu3 : wr.cell? ⟨gu, 13, none⟩ = some (.int .i64 1) := HZ.out.u.cell 13
              have xu4 : wr.cell? ⟨gu, 14, none⟩ = some (.int .i64 0) := HZ.out.u.cell 14
              have xg0 : wr.cell? ⟨gm, 0, none⟩ = some (.int .i64 0) := HZ.out.m.cell 0
              have xg1 : wr.cell? ⟨gm, 1, none⟩ = some (.int .i64 X0.length) := HZ.out.m.cell 1
              have xg2 : wr.cell? ⟨gm, 2, none⟩ = some (.int .i64 (edg X0 : Nat)) := HZ.out.m.cell 2
              have xg3 : wr.cell? ⟨gm, 3, none⟩ = some (.int .i64 (d : Nat)) := HZ.out.m.cell 3
              have xg4 : wr.cell? ⟨gm, 4, none⟩ = some (.int .i64 (txb X0 : Nat)) := HZ.out.m.cell 4
              go_wp2_with fail
              refine (HRl.out _ _ _ _ _ _).mono ?_
              rintro e wa ⟨rfl, hba⟩
              have HZa : Hid (Gz w wa a0 X0 c0 r0 l1 l2 gm gu d) := (HZ.out.more (Joins.below_alloc2 wr _ _)).more hba
              have HLs : Hid (AtN 26 wa (wr.heap.size + 1) #[.int .i64 0, .int .i64 ((X0.length : Int)), .int .i64 ((edg X0 : Int)), .int .i64 ((d : Int) - 1), .int .i64 ((txb X0 : Int))]) := AtN.belowAll (mk_at (AtN.new (wr.alloc (.cells #[.int .i64 0, .int .i64 0, .int .i64 0, .int .i64 1, .int .i64 0] 26)) 26 #[.int .i64 0, .int .i64 ((X0.length : Int)), .int .i64 ((edg X0 : Int)), .int .i64 ((d : Int) - 1), .int .i64 ((txb X0 : Int))]) (by simp)) hba
              obtain ⟨kk, hkk⟩ : ∃ kk, okL ⟨0, (X0.length : Int), (edg X0 : Int), (d : Int) - 1, (txb X0 : Int)⟩ = kk := ⟨_, rfl⟩
              rw [hkk]
              have HKl : Hid (okL ⟨0, (X0.length : Int), (edg X0 : Int), (d : Int) - 1, (txb X0 : Int)⟩ = kk) := hkk
              clear HZ HRl hba hkk xu0 xu1 xu2 xu3 xu4 xg0 xg1 xg2 xg3 xg4
              cases kk with
              | false =>
                clear HVl HKl HLs
                go_wp2_with fail
                go_roundw
                case rel => exact ⟨3, by first | rfl | go_num, by omega, HZa⟩
                case measure => simp [intOf]
              | true =>
                have HVc : Hid _ := HVl.out (0) ((X0.length : Int)) ((edg X0 : Int)) ((d : Int) - 1) ((txb X0 : Int)) wa HZa.out
                have xa0 := HZa.out.t.t.c0
                have xa1 := HZa.out.t.t.c1
                have xs0 : wa.cell? ⟨wr.heap.size + 1, 0, none⟩ = some (.int .i64 0) := HLs.out.cell 0
                have xs1 : wa.cell? ⟨wr.heap.size + 1, 1, none⟩ = some (.int .i64 ((X0.length : Int))) := HLs.out.cell 1
                have xs2 : wa.cell? ⟨wr.heap.size + 1, 2, none⟩ = some (.int .i64 ((edg X0 : Int))) := HLs.out.cell 2
                have xs3 : wa.cell? ⟨wr.heap.size + 1, 3, none⟩ = some (.int .i64 ((d : Int) - 1)) := HLs.out.cell 3
                have xs4 : wa.cell? ⟨wr.heap.size + 1, 4, none⟩ = some (.int .i64 ((txb X0 : Int))) := HLs.out.cell 4
                have hsl := AtN.lt HLs.out
                clear HVl HLs
                go_wp2_with fail
                refine Calls.mono (Hid.out HVc) ?_
                rintro e wb ⟨k, z, rfl, hk, hbb⟩
                have HZb : Hid (Gz w wb a0 X0 c0 r0 l1 l2 gm gu d) := HZa.out.more hbb
                obtain rfl := hk HKl.out (by omega)
                clear HVc HZa hbb hk HKl xa0 xa1 xs0 xs1 xs2 xs3 xs4
                go_wp2_with fail
                go_roundw
                case rel => exact ⟨3, by first | rfl | go_num, by omega, HZb⟩
                case measure => simp [intOf]
            · have xu0 : wr.cell? ⟨gu, 15, none⟩ = some (.int .i64 0) := HZ.out.u.cell 15
              have xu1 : wr.cell? ⟨gu, 16, none⟩ = some (.int .i64 0) := HZ.out.u.cell 16
              have xu2 : wr.cell? ⟨gu, 17, none⟩ = some (.int .i64 0) := HZ.out.u.cell 17
              have xu3 : wr.cell? ⟨gu, 18, none⟩ = some (.int .i64 0) := HZ.out.u.cell 18
              have xu4 : wr.cell? ⟨gu, 19, none⟩ = some (.int .i64 1) := HZ.out.u.cell 19
              have xg0 : wr.cell? ⟨gm, 0, none⟩ = some (.int .i64 0) := HZ.out.m.cell 0
              have xg1 : wr.cell? ⟨gm, 1, none⟩ = some (.int .i64 X0.length) := HZ.out.m.cell 1
              have xg2 : wr.cell? ⟨gm, 2, none⟩ = some (.int .i64 (edg X0 : Nat)) := HZ.out.m.cell 2
              have xg3 : wr.cell? ⟨gm, 3, none⟩ = some (.int .i64 (d : Nat)) := HZ.out.m.cell 3
              have xg4 : wr.cell? ⟨gm, 4, none⟩ = some (.int .i64 (txb X0 : Nat)) := HZ.out.m.cell 4
              go_wp2_with fail
              refine (HRl.out _ _ _ _ _ _).mono ?_
              rintro e wa ⟨rfl, hba⟩
              have HZa : Hid (Gz w wa a0 X0 c0 r0 l1 l2 gm gu d) := (HZ.out.more (Joins.below_alloc2 wr _ _)).more hba
              have HLs : Hid (AtN 26 wa (wr.heap.size + 1) #[.int .i64 0, .int .i64 ((X0.length : Int)), .int .i64 ((edg X0 : Int)), .int .i64 ((d : Int)), .int .i64 ((txb X0 : Int) - 1)]) := AtN.belowAll (mk_at (AtN.new (wr.alloc (.cells #[.int .i64 0, .int .i64 0, .int .i64 0, .int .i64 0, .int .i64 1] 26)) 26 #[.int .i64 0, .int .i64 ((X0.length : Int)), .int .i64 ((edg X0 : Int)), .int .i64 ((d : Int)), .int .i64 ((txb X0 : Int) - 1)]) (by simp)) hba
              obtain ⟨kk, hkk⟩ : ∃ kk, okL ⟨0, (X0.length : Int), (edg X0 : Int), (d : Int), (txb X0 : Int) - 1⟩ = kk := ⟨_, rfl⟩
              rw [hkk]
              have HKl : Hid (okL ⟨0, (X0.length : Int), (edg X0 : Int), (d : Int), (txb X0 : Int) - 1⟩ = kk) := hkk
              clear HZ HRl hba hkk xu0 xu1 xu2 xu3 xu4 xg0 xg1 xg2 xg3 xg4
              cases kk with
              | false =>
                clear HVl HKl HLs
                go_wp2_with fail
                go_roundw
                case rel => exact ⟨4, by first | rfl | go_num, by omega, HZa⟩
                case measure => simp [intOf]
              | true =>
                have HVc : Hid _ := HVl.out (0) ((X0.length : Int)) ((edg X0 : Int)) ((d : Int)) ((txb X0 : Int) - 1) wa HZa.out
                have xa0 := HZa.out.t.t.c0
                have xa1 := HZa.out.t.t.c1
                have xs0 : wa.cell? ⟨wr.heap.size + 1, 0, none⟩ = some (.int .i64 0) := HLs.out.cell 0
                have xs1 : wa.cell? ⟨wr.heap.size + 1, 1, none⟩ = some (.int .i64 ((X0.length : Int))) := HLs.out.cell 1
                have xs2 : wa.cell? ⟨wr.heap.size + 1, 2, none⟩ = some (.int .i64 ((edg X0 : Int))) := HLs.out.cell 2
                have xs3 : wa.cell? ⟨wr.heap.size + 1, 3, none⟩ = some (.int .i64 ((d : Int))) := HLs.out.cell 3
                have xs4 : wa.cell? ⟨wr.heap.size + 1, 4, none⟩ = some (.int .i64 ((txb X0 : Int) - 1)) := HLs.out.cell 4
                have hsl := AtN.lt HLs.out
                clear HVl HLs
                go_wp2_with fail
                refine Calls.mono (Hid.out HVc) ?_
                rintro e wb ⟨k, z, rfl, hk, hbb⟩
                have HZb : Hid (Gz w wb a0 X0 c0 r0 l1 l2 gm gu d) := HZa.out.more hbb
                obtain rfl := hk HKl.out (by omega)
                clear HVc HZa hbb hk HKl xa0 xa1 xs0 xs1 xs2 xs3 xs4
                go_wp2_with fail
                go_roundw
                case rel => exact ⟨4, by first | rfl | go_num, by omega, HZb⟩
                case measure => simp [intOf]
          · have hlt' : ¬ (i : Int) < 4 := by omega
            clear HV HK1
            go_wp2_with fail
            go_ret
            exact ⟨rfl, HZ.out.t.t.bel⟩
      | true =>
        obtain ⟨k2, hk2⟩ : ∃ k2, okL l2 = k2 := ⟨_, rfl⟩
        have HK2 : Hid (okL l2 = k2) := hk2
        clear hk2
        have xm0 := HL8.out.e0
        have xm1 := HL8.out.e1
        have xm2 := HL8.out.e2
        have xm3 := HL8.out.e3
        have xm4 := HL8.out.e4
        have HR2 : Hid (Calls Tryd.prog 17 #[.agg #[.int .i64 l2.b, .int .i64 l2.n, .int .i64 l2.e, .int .i64 l2.d, .int .i64 l2.x]] w8 fun e w' => e = .returned (.bool k2) ∧ Below w8.heap.size w8 w') := by
          have := okl_any l2 w8
          rw [HK2.out] at this
          exact this
        go_wp2_with fail
        refine Calls.mono HR2.out ?_
        rintro e w9 ⟨rfl, hb9⟩
        have HL9 : Hid (L3 w w9 a0 X0 c0 r0 l1 l2) := HL8.out.more hb9
        have HN9 : Hid (AtN 26 w9 gm (meC X0 d)) := AtN.belowAll HN8.out hb9
        clear HR2 HL8 HN8 hb9 xm0 xm1 xm2 xm3 xm4
        cases k2 with
        | false =>
          go_wp2_with fail
          have HU : Hid (Gz w (w9.alloc (.cells #[.int .i64 0, .int .i64 1, .int .i64 0, .int .i64 0, .int .i64 0, .int .i64 0, .int .i64 0, .int .i64 1, .int .i64 0, .int .i64 0, .int .i64 0, .int .i64 0, .int .i64 0, .int .i64 1, .int .i64 0, .int .i64 0, .int .i64 0, .int .i64 0, .int .i64 0, .int .i64 1] 26)) a0 X0 c0 r0 l1 l2 gm w9.heap.size d) := ⟨HL9.out.more ((Below.refl _ _).alloc (Nat.le_refl _) _), AtN.alloc HN9.out _, AtN.new w9 26 _⟩
          have hgw := AtN.lt HN9.out
          clear HL9 HN9 HM HP HK2
          obtain ⟨gu, hgu⟩ : ∃ gu, w9.heap.size = gu := ⟨_, rfl⟩
          rw [hgu] at HU
          go_wp2_with fail
          rw [hgu]
          go_loopw [71] (fun iv wr => ∃ i : Nat, iv = .int .i64 i ∧ i ≤ 4 ∧ Hid (Gz w wr a0 X0 c0 r0 l1 l2 gm gu d)) (fun iv _ => 4 - (intOf iv).toNat)
          case atStart => exact ⟨0, rfl, by omega, HU⟩
          case round =>
            clear HU hgu hgw
            obtain ⟨i, rfl, hi, HZ⟩ := hrel
            have hgl := AtN.lt HZ.out.u
            have hml := AtN.lt HZ.out.m
            by_cases hlt : i < 4
            · have HVl : Hid (∀ (b n e f x : Int) W, Gz w W a0 X0 c0 r0 l1 l2 gm gu d → Calls Tryd.prog 10 #[.agg #[.slice a0 X0.length c0, .int .i64 r0], .agg #[.int .i64 b, .int .i64 n, .int .i64 e, .int .i64 f, .int .i64 x]] W fun r w' => ∃ k z : Int, r = .returned (.tuple #[.int .i64 k, .int .i64 z]) ∧ (okL ⟨b, n, e, f, x⟩ = true → n < X0.length ∨ e < edg X0 ∨ f < d ∨ x < txb X0 → k = 19) ∧ Below W.heap.size W w') := fun b n e f x W hW => by
                refine Calls.mono (HV.out ⟨b, n, e, f, x⟩ W hW.t) ?_
                rintro r w' ⟨k, z, rfl, hv, hb⟩
                exact ⟨k, z, rfl, fun q1 q2 => hv.limit.2 ⟨q1, HK1.out.2.1, me_less q2⟩, hb⟩
              have HRl : Hid (∀ (b n e f x : Int) W, Calls Tryd.prog 17 #[.agg #[.int .i64 b, .int .i64 n, .int .i64 e, .int .i64 f, .int .i64 x]] W fun r w' => r = .returned (.bool (okL ⟨b, n, e, f, x⟩)) ∧ Below W.heap.size W w') := fun b n e f x W => okl_any ⟨b, n, e, f, x⟩ W
              clear HV HK1
              rcases (by omega : i = 0 ∨ i = 1 ∨ i = 2 ∨ i = 3) with rfl | rfl | rfl | rfl
              · have xu0 : wr.cell? ⟨gu, 0, none⟩ = some (.int .i64 0) := HZ.out.u.cell 0
                have xu1 : wr.cell? ⟨gu, 1, none⟩ = some (.int .i64 1) := HZ.out.u.cell 1
                have xu2 : wr.cell? ⟨gu, 2, none⟩ = some (.int .i64 0) := HZ.out.u.cell 2
                have xu3 : wr.cell? ⟨gu, 3, none⟩ = some (.int .i64 0) := HZ.out.u.cell 3
                have xu4 : wr.cell? ⟨gu, 4, none⟩ = some (.int .i64 0) := HZ.out.u.cell 4
                have xg0 : wr.cell? ⟨gm, 0, none⟩ = some (.int .i64 0) := HZ.out.m.cell 0
                have xg1 : wr.cell? ⟨gm, 1, none⟩ = some (.int .i64 X0.length) := HZ.out.m.cell 1
                have xg2 : wr.cell? ⟨gm, 2, none⟩ = some (.int .i64 (edg X0 : Nat)) := HZ.out.m.cell 2
                have xg3 : wr.cell? ⟨gm, 3, none⟩ = some (.int .i64 (d : Nat)) := HZ.out.m.cell 3
                have xg4 : wr.cell? ⟨gm, 4, none⟩ = some (.int .i64 (txb X0 : Nat)) := HZ.out.m.cell 4
                go_wp2_with fail
                refine (HRl.out _ _ _ _ _ _).mono ?_
                rintro e wa ⟨rfl, hba⟩
                have HZa : Hid (Gz w wa a0 X0 c0 r0 l1 l2 gm gu d) := (HZ.out.more (Joins.below_alloc2 wr _ _)).more hba
                have HLs : Hid (AtN 26 wa (wr.heap.size + 1) #[.int .i64 0, .int .i64 ((X0.length : Int) - 1), .int .i64 ((edg X0 : Int)), .int .i64 ((d : Int)), .int .i64 ((txb X0 : Int))]) := AtN.belowAll (mk_at (AtN.new (wr.alloc (.cells #[.int .i64 0, .int .i64 1, .int .i64 0, .int .i64 0, .int .i64 0] 26)) 26 #[.int .i64 0, .int .i64 ((X0.length : Int) - 1), .int .i64 ((edg X0 : Int)), .int .i64 ((d : Int)), .int .i64 ((txb X0 : Int))]) (by simp)) hba
                obtain ⟨kk, hkk⟩ : ∃ kk, okL ⟨0, (X0.length : Int) - 1, (edg X0 : Int), (d : Int), (txb X0 : Int)⟩ = kk := ⟨_, rfl⟩
                rw [hkk]
                have HKl : Hid (okL ⟨0, (X0.length : Int) - 1, (edg X0 : Int), (d : Int), (txb X0 : Int)⟩ = kk) := hkk
                clear HZ HRl hba hkk xu0 xu1 xu2 xu3 xu4 xg0 xg1 xg2 xg3 xg4
                cases kk with
                | false =>
                  clear HVl HKl HLs
                  go_wp2_with fail
                  go_roundw
                  case rel => exact ⟨1, by first | rfl | go_num, by omega, HZa⟩
                  case measure => simp [intOf]
                | true =>
                  have HVc : Hid _ := HVl.out (0) ((X0.length : Int) - 1) ((edg X0 : Int)) ((d : Int)) ((txb X0 : Int)) wa HZa.out
                  have xa0 := HZa.out.t.t.c0
                  have xa1 := HZa.out.t.t.c1
                  have xs0 : wa.cell? ⟨wr.heap.size + 1, 0, none⟩ = some (.int .i64 0) := HLs.out.cell 0
                  have xs1 : wa.cell? ⟨wr.heap.size + 1, 1, none⟩ = some (.int .i64 ((X0.length : Int) - 1)) := HLs.out.cell 1
                  have xs2 : wa.cell? ⟨wr.heap.size + 1, 2, none⟩ = some (.int .i64 ((edg X0 : Int))) := HLs.out.cell 2
                  have xs3 : wa.cell? ⟨wr.heap.size + 1, 3, none⟩ = some (.int .i64 ((d : Int))) := HLs.out.cell 3
                  have xs4 : wa.cell? ⟨wr.heap.size + 1, 4, none⟩ = some (.int .i64 ((txb X0 : Int))) := HLs.out.cell 4
                  have hsl := AtN.lt HLs.out
                  clear HVl HLs
                  go_wp2_with fail
                  refine Calls.mono (Hid.out HVc) ?_
                  rintro e wb ⟨k, z, rfl, hk, hbb⟩
                  have HZb : Hid (Gz w wb a0 X0 c0 r0 l1 l2 gm gu d) := HZa.out.more hbb
                  obtain rfl := hk HKl.out (by omega)
                  clear HVc HZa hbb hk HKl xa0 xa1 xs0 xs1 xs2 xs3 xs4
                  go_wp2_with fail
                  go_roundw
                  case rel => exact ⟨1, by first | rfl | go_num, by omega, HZb⟩
                  case measure => simp [intOf]
              · have xu0 : wr.cell? ⟨gu, 5, none⟩ = some (.int .i64 0) := HZ.out.u.cell 5
                have xu1 : wr.cell? ⟨gu, 6, none⟩ = some (.int .i64 0) := HZ.out.u.cell 6
                have xu2 : wr.cell? ⟨gu, 7, none⟩ = some (.int .i64 1) := HZ.out.u.cell 7
                have xu3 : wr.cell? ⟨gu, 8, none⟩ = some (.int .i64 0) := HZ.out.u.cell 8
                have xu4 : wr.cell? ⟨gu, 9, none⟩ = some (.int .i64 0) := HZ.out.u.cell 9
                have xg0 : wr.cell? ⟨gm, 0, none⟩ = some (.int .i64 0) := HZ.out.m.cell 0
                have xg1 : wr.cell? ⟨gm, 1, none⟩ = some (.int .i64 X0.length) := HZ.out.m.cell 1
                have xg2 : wr.cell? ⟨gm, 2, none⟩ = some (.int .i64 (edg X0 : Nat)) := HZ.out.m.cell 2
                have xg3 : wr.cell? ⟨gm, 3, none⟩ = some (.int .i64 (d : Nat)) := HZ.out.m.cell 3
                have xg4 : wr.cell? ⟨gm, 4, none⟩ = some (.int .i64 (txb X0 : Nat)) := HZ.out.m.cell 4
                go_wp2_with fail
                refine (HRl.out _ _ _ _ _ _).mono ?_
                rintro e wa ⟨rfl, hba⟩
                have HZa : Hid (Gz w wa a0 X0 c0 r0 l1 l2 gm gu d) := (HZ.out.more (Joins.below_alloc2 wr _ _)).more hba
                have HLs : Hid (AtN 26 wa (wr.heap.size + 1) #[.int .i64 0, .int .i64 ((X0.length : Int)), .int .i64 ((edg X0 : Int) - 1), .int .i64 ((d : Int)), .int .i64 ((txb X0 : Int))]) := AtN.belowAll (mk_at (AtN.new (wr.alloc (.cells #[.int .i64 0, .int .i64 0, .int .i64 1, .int .i64 0, .int .i64 0] 26)) 26 #[.int .i64 0, .int .i64 ((X0.length : Int)), .int .i64 ((edg X0 : Int) - 1), .int .i64 ((d : Int)), .int .i64 ((txb X0 : Int))]) (by simp)) hba
                obtain ⟨kk, hkk⟩ : ∃ kk, okL ⟨0, (X0.length : Int), (edg X0 : Int) - 1, (d : Int), (txb X0 : Int)⟩ = kk := ⟨_, rfl⟩
                rw [hkk]
                have HKl : Hid (okL ⟨0, (X0.length : Int), (edg X0 : Int) - 1, (d : Int), (txb X0 : Int)⟩ = kk) := hkk
                clear HZ HRl hba hkk xu0 xu1 xu2 xu3 xu4 xg0 xg1 xg2 xg3 xg4
                cases kk with
                | false =>
                  clear HVl HKl HLs
                  go_wp2_with fail
                  go_roundw
                  case rel => exact ⟨2, by first | rfl | go_num, by omega, HZa⟩
                  case measure => simp [intOf]
                | true =>
                  have HVc : Hid _ := HVl.out (0) ((X0.length : Int)) ((edg X0 : Int) - 1) ((d : Int)) ((txb X0 : Int)) wa HZa.out
                  have xa0 := HZa.out.t.t.c0
                  have xa1 := HZa.out.t.t.c1
                  have xs0 : wa.cell? ⟨wr.heap.size + 1, 0, none⟩ = some (.int .i64 0) := HLs.out.cell 0
                  have xs1 : wa.cell? ⟨wr.heap.size + 1, 1, none⟩ = some (.int .i64 ((X0.length : Int))) := HLs.out.cell 1
                  have xs2 : wa.cell? ⟨wr.heap.size + 1, 2, none⟩ = some (.int .i64 ((edg X0 : Int) - 1)) := HLs.out.cell 2
                  have xs3 : wa.cell? ⟨wr.heap.size + 1, 3, none⟩ = some (.int .i64 ((d : Int))) := HLs.out.cell 3
                  have xs4 : wa.cell? ⟨wr.heap.size + 1, 4, none⟩ = some (.int .i64 ((txb X0 : Int))) := HLs.out.cell 4
                  have hsl := AtN.lt HLs.out
                  clear HVl HLs
                  go_wp2_with fail
                  refine Calls.mono (Hid.out HVc) ?_
                  rintro e wb ⟨k, z, rfl, hk, hbb⟩
                  have HZb : Hid (Gz w wb a0 X0 c0 r0 l1 l2 gm gu d) := HZa.out.more hbb
                  obtain rfl := hk HKl.out (by omega)
                  clear HVc HZa hbb hk HKl xa0 xa1 xs0 xs1 xs2 xs3 xs4
                  go_wp2_with fail
                  go_roundw
                  case rel => exact ⟨2, by first | rfl | go_num, by omega, HZb⟩
                  case measure => simp [intOf]
              · have xu0 : wr.cell? ⟨gu, 10, none⟩ = some (.int .i64 0) := HZ.out.u.cell 10
                have xu1 : wr.cell? ⟨gu, 11, none⟩ = some (.int .i64 0) := HZ.out.u.cell 11
                have xu2 : wr.cell? ⟨gu, 12, none⟩ = some (.int .i64 0) := HZ.out.u.cell 12
                have xu3 : wr.cell? ⟨gu, 13, none⟩ = some (.int .i64 1) := HZ.out.u.cell 13
                have xu4 : wr.cell? ⟨gu, 14, none⟩ = some (.int .i64 0) := HZ.out.u.cell 14
                have xg0 : wr.cell? ⟨gm, 0, none⟩ = some (.int .i64 0) := HZ.out.m.cell 0
                have xg1 : wr.cell? ⟨gm, 1, none⟩ = some (.int .i64 X0.length) := HZ.out.m.cell 1
                have xg2 : wr.cell? ⟨gm, 2, none⟩ = some (.int .i64 (edg X0 : Nat)) := HZ.out.m.cell 2
                have xg3 : wr.cell? ⟨gm, 3, none⟩ = some (.int .i64 (d : Nat)) := HZ.out.m.cell 3
                have xg4 : wr.cell? ⟨gm, 4, none⟩ = some (.int .i64 (txb X0 : Nat)) := HZ.out.m.cell 4
                go_wp2_with fail
                refine (HRl.out _ _ _ _ _ _).mono ?_
                rintro e wa ⟨rfl, hba⟩
                have HZa : Hid (Gz w wa a0 X0 c0 r0 l1 l2 gm gu d) := (HZ.out.more (Joins.below_alloc2 wr _ _)).more hba
                have HLs : Hid (AtN 26 wa (wr.heap.size + 1) #[.int .i64 0, .int .i64 ((X0.length : Int)), .int .i64 ((edg X0 : Int)), .int .i64 ((d : Int) - 1), .int .i64 ((txb X0 : Int))]) := AtN.belowAll (mk_at (AtN.new (wr.alloc (.cells #[.int .i64 0, .int .i64 0, .int .i64 0, .int .i64 1, .int .i64 0] 26)) 26 #[.int .i64 0, .int .i64 ((X0.length : Int)), .int .i64 ((edg X0 : Int)), .int .i64 ((d : Int) - 1), .int .i64 ((txb X0 : Int))]) (by simp)) hba
                obtain ⟨kk, hkk⟩ : ∃ kk, okL ⟨0, (X0.length : Int), (edg X0 : Int), (d : Int) - 1, (txb X0 : Int)⟩ = kk := ⟨_, rfl⟩
                rw [hkk]
                have HKl : Hid (okL ⟨0, (X0.length : Int), (edg X0 : Int), (d : Int) - 1, (txb X0 : Int)⟩ = kk) := hkk
                clear HZ HRl hba hkk xu0 xu1 xu2 xu3 xu4 xg0 xg1 xg2 xg3 xg4
                cases kk with
                | false =>
                  clear HVl HKl HLs
                  go_wp2_with fail
                  go_roundw
                  case rel => exact ⟨3, by first | rfl | go_num, by omega, HZa⟩
                  case measure => simp [intOf]
                | true =>
                  have HVc : Hid _ := HVl.out (0) ((X0.length : Int)) ((edg X0 : Int)) ((d : Int) - 1) ((txb X0 : Int)) wa HZa.out
                  have xa0 := HZa.out.t.t.c0
                  have xa1 := HZa.out.t.t.c1
                  have xs0 : wa.cell? ⟨wr.heap.size + 1, 0, none⟩ = some (.int .i64 0) := HLs.out.cell 0
                  have xs1 : wa.cell? ⟨wr.heap.size + 1, 1, none⟩ = some (.int .i64 ((X0.length : Int))) := HLs.out.cell 1
                  have xs2 : wa.cell? ⟨wr.heap.size + 1, 2, none⟩ = some (.int .i64 ((edg X0 : Int))) := HLs.out.cell 2
                  have xs3 : wa.cell? ⟨wr.heap.size + 1, 3, none⟩ = some (.int .i64 ((d : Int) - 1)) := HLs.out.cell 3
                  have xs4 : wa.cell? ⟨wr.heap.size + 1, 4, none⟩ = some (.int .i64 ((txb X0 : Int))) := HLs.out.cell 4
                  have hsl := AtN.lt HLs.out
                  clear HVl HLs
                  go_wp2_with fail
                  refine Calls.mono (Hid.out HVc) ?_
                  rintro e wb ⟨k, z, rfl, hk, hbb⟩
                  have HZb : Hid (Gz w wb a0 X0 c0 r0 l1 l2 gm gu d) := HZa.out.more hbb
                  obtain rfl := hk HKl.out (by omega)
                  clear HVc HZa hbb hk HKl xa0 xa1 xs0 xs1 xs2 xs3 xs4
                  go_wp2_with fail
                  go_roundw
                  case rel => exact ⟨3, by first | rfl | go_num, by omega, HZb⟩
                  case measure => simp [intOf]
              · have xu0 : wr.cell? ⟨gu, 15, none⟩ = some (.int .i64 0) := HZ.out.u.cell 15
                have xu1 : wr.cell? ⟨gu, 16, none⟩ = some (.int .i64 0) := HZ.out.u.cell 16
                have xu2 : wr.cell? ⟨gu, 17, none⟩ = some (.int .i64 0) := HZ.out.u.cell 17
                have xu3 : wr.cell? ⟨gu, 18, none⟩ = some (.int .i64 0) := HZ.out.u.cell 18
                have xu4 : wr.cell? ⟨gu, 19, none⟩ = some (.int .i64 1) := HZ.out.u.cell 19
                have xg0 : wr.cell? ⟨gm, 0, none⟩ = some (.int .i64 0) := HZ.out.m.cell 0
                have xg1 : wr.cell? ⟨gm, 1, none⟩ = some (.int .i64 X0.length) := HZ.out.m.cell 1
                have xg2 : wr.cell? ⟨gm, 2, none⟩ = some (.int .i64 (edg X0 : Nat)) := HZ.out.m.cell 2
                have xg3 : wr.cell? ⟨gm, 3, none⟩ = some (.int .i64 (d : Nat)) := HZ.out.m.cell 3
                have xg4 : wr.cell? ⟨gm, 4, none⟩ = some (.int .i64 (txb X0 : Nat)) := HZ.out.m.cell 4
                go_wp2_with fail
                refine (HRl.out _ _ _ _ _ _).mono ?_
                rintro e wa ⟨rfl, hba⟩
                have HZa : Hid (Gz w wa a0 X0 c0 r0 l1 l2 gm gu d) := (HZ.out.more (Joins.below_alloc2 wr _ _)).more hba
                have HLs : Hid (AtN 26 wa (wr.heap.size + 1) #[.int .i64 0, .int .i64 ((X0.length : Int)), .int .i64 ((edg X0 : Int)), .int .i64 ((d : Int)), .int .i64 ((txb X0 : Int) - 1)]) := AtN.belowAll (mk_at (AtN.new (wr.alloc (.cells #[.int .i64 0, .int .i64 0, .int .i64 0, .int .i64 0, .int .i64 1] 26)) 26 #[.int .i64 0, .int .i64 ((X0.length : Int)), .int .i64 ((edg X0 : Int)), .int .i64 ((d : Int)), .int .i64 ((txb X0 : Int) - 1)]) (by simp)) hba
                obtain ⟨kk, hkk⟩ : ∃ kk, okL ⟨0, (X0.length : Int), (edg X0 : Int), (d : Int), (txb X0 : Int) - 1⟩ = kk := ⟨_, rfl⟩
                rw [hkk]
                have HKl : Hid (okL ⟨0, (X0.length : Int), (edg X0 : Int), (d : Int), (txb X0 : Int) - 1⟩ = kk) := hkk
                clear HZ HRl hba hkk xu0 xu1 xu2 xu3 xu4 xg0 xg1 xg2 xg3 xg4
                cases kk with
                | false =>
                  clear HVl HKl HLs
                  go_wp2_with fail
                  go_roundw
                  case rel => exact ⟨4, by first | rfl | go_num, by omega, HZa⟩
                  case measure => simp [intOf]
                | true =>
                  have HVc : Hid _ := HVl.out (0) ((X0.length : Int)) ((edg X0 : Int)) ((d : Int)) ((txb X0 : Int) - 1) wa HZa.out
                  have xa0 := HZa.out.t.t.c0
                  have xa1 := HZa.out.t.t.c1
                  have xs0 : wa.cell? ⟨wr.heap.size + 1, 0, none⟩ = some (.int .i64 0) := HLs.out.cell 0
                  have xs1 : wa.cell? ⟨wr.heap.size + 1, 1, none⟩ = some (.int .i64 ((X0.length : Int))) := HLs.out.cell 1
                  have xs2 : wa.cell? ⟨wr.heap.size + 1, 2, none⟩ = some (.int .i64 ((edg X0 : Int))) := HLs.out.cell 2
                  have xs3 : wa.cell? ⟨wr.heap.size + 1, 3, none⟩ = some (.int .i64 ((d : Int))) := HLs.out.cell 3
                  have xs4 : wa.cell? ⟨wr.heap.size + 1, 4, none⟩ = some (.int .i64 ((txb X0 : Int) - 1)) := HLs.out.cell 4
                  have hsl := AtN.lt HLs.out
                  clear HVl HLs
                  go_wp2_with fail
                  refine Calls.mono (Hid.out HVc) ?_
                  rintro e wb ⟨k, z, rfl, hk, hbb⟩
                  have HZb : Hid (Gz w wb a0 X0 c0 r0 l1 l2 gm gu d) := HZa.out.more hbb
                  obtain rfl := hk HKl.out (by omega)
                  clear HVc HZa hbb hk HKl xa0 xa1 xs0 xs1 xs2 xs3 xs4
                  go_wp2_with fail
                  go_roundw
                  case rel => exact ⟨4, by first | rfl | go_num, by omega, HZb⟩
                  case measure => simp [intOf]
            · have hlt' : ¬ (i : Int) < 4 := by omega
              clear HV HK1
              go_wp2_with fail
              go_ret
              exact ⟨rfl, HZ.out.t.t.bel⟩
        | true =>
          have xa0 := HL9.out.t.c0
          have xa1 := HL9.out.t.c1
          have xm0 := HL9.out.e0
          have xm1 := HL9.out.e1
          have xm2 := HL9.out.e2
          have xm3 := HL9.out.e3
          have xm4 := HL9.out.e4
          have HV3 : Hid (Calls Tryd.prog 10 #[.agg #[.slice a0 X0.length c0, .int .i64 r0], .agg #[.int .i64 l2.b, .int .i64 l2.n, .int .i64 l2.e, .int .i64 l2.d, .int .i64 l2.x]] w9 fun e w' => VaOut X0 r0 l2 d w9 w' e) := HV.out l2 w9 HL9.out
          go_wp2_with fail
          refine Calls.mono HV3.out ?_
          rintro e w10 ⟨e2, y2, rfl, hv2, hb10⟩
          have he2 : e2 = 0 := hv2.zero.2 ⟨HK2.out, HK1.out.2.1, inL_trans HK1.out.2.2 HP.out⟩
          subst he2
          have HL10 : Hid (L3 w w10 a0 X0 c0 r0 l1 l2) := HL9.out.more hb10
          have HN10 : Hid (AtN 26 w10 gm (meC X0 d)) := AtN.belowAll HN9.out hb10
          clear HV3 HL9 HN9 hb10 hv2 xa0 xa1 xm0 xm1 xm2 xm3 xm4
          go_wp2_with fail
          have HU : Hid (Gz w (w10.alloc (.cells #[.int .i64 0, .int .i64 1, .int .i64 0, .int .i64 0, .int .i64 0, .int .i64 0, .int .i64 0, .int .i64 1, .int .i64 0, .int .i64 0, .int .i64 0, .int .i64 0, .int .i64 0, .int .i64 1, .int .i64 0, .int .i64 0, .int .i64 0, .int .i64 0, .int .i64 0, .int .i64 1] 26)) a0 X0 c0 r0 l1 l2 gm w10.heap.size d) := ⟨HL10.out.more ((Below.refl _ _).alloc (Nat.le_refl _) _), AtN.alloc HN10.out _, AtN.new w10 26 _⟩
          have hgw := AtN.lt HN10.out
          clear HL10 HN10 HM HP HK2
          obtain ⟨gu, hgu⟩ : ∃ gu, w10.heap.size = gu := ⟨_, rfl⟩
          rw [hgu] at HU
          go_wp2_with fail
          rw [hgu]
          go_loopw [71] (fun iv wr => ∃ i : Nat, iv = .int .i64 i ∧ i ≤ 4 ∧ Hid (Gz w wr a0 X0 c0 r0 l1 l2 gm gu d)) (fun iv _ => 4 - (intOf iv).toNat)
          case atStart => exact ⟨0, rfl, by omega, HU⟩
          case round =>
            clear HU hgu hgw
            obtain ⟨i, rfl, hi, HZ⟩ := hrel
            have hgl := AtN.lt HZ.out.u
            have hml := AtN.lt HZ.out.m
            by_cases hlt : i < 4
            · have HVl : Hid (∀ (b n e f x : Int) W, Gz w W a0 X0 c0 r0 l1 l2 gm gu d → Calls Tryd.prog 10 #[.agg #[.slice a0 X0.length c0, .int .i64 r0], .agg #[.int .i64 b, .int .i64 n, .int .i64 e, .int .i64 f, .int .i64 x]] W fun r w' => ∃ k z : Int, r = .returned (.tuple #[.int .i64 k, .int .i64 z]) ∧ (okL ⟨b, n, e, f, x⟩ = true → n < X0.length ∨ e < edg X0 ∨ f < d ∨ x < txb X0 → k = 19) ∧ Below W.heap.size W w') := fun b n e f x W hW => by
                refine Calls.mono (HV.out ⟨b, n, e, f, x⟩ W hW.t) ?_
                rintro r w' ⟨k, z, rfl, hv, hb⟩
                exact ⟨k, z, rfl, fun q1 q2 => hv.limit.2 ⟨q1, HK1.out.2.1, me_less q2⟩, hb⟩
              have HRl : Hid (∀ (b n e f x : Int) W, Calls Tryd.prog 17 #[.agg #[.int .i64 b, .int .i64 n, .int .i64 e, .int .i64 f, .int .i64 x]] W fun r w' => r = .returned (.bool (okL ⟨b, n, e, f, x⟩)) ∧ Below W.heap.size W w') := fun b n e f x W => okl_any ⟨b, n, e, f, x⟩ W
              clear HV HK1
              rcases (by omega : i = 0 ∨ i = 1 ∨ i = 2 ∨ i = 3) with rfl | rfl | rfl | rfl
              · have xu0 : wr.cell? ⟨gu, 0, none⟩ = some (.int .i64 0) := HZ.out.u.cell 0
                have xu1 : wr.cell? ⟨gu, 1, none⟩ = some (.int .i64 1) := HZ.out.u.cell 1
                have xu2 : wr.cell? ⟨gu, 2, none⟩ = some (.int .i64 0) := HZ.out.u.cell 2
                have xu3 : wr.cell? ⟨gu, 3, none⟩ = some (.int .i64 0) := HZ.out.u.cell 3
                have xu4 : wr.cell? ⟨gu, 4, none⟩ = some (.int .i64 0) := HZ.out.u.cell 4
                have xg0 : wr.cell? ⟨gm, 0, none⟩ = some (.int .i64 0) := HZ.out.m.cell 0
                have xg1 : wr.cell? ⟨gm, 1, none⟩ = some (.int .i64 X0.length) := HZ.out.m.cell 1
                have xg2 : wr.cell? ⟨gm, 2, none⟩ = some (.int .i64 (edg X0 : Nat)) := HZ.out.m.cell 2
                have xg3 : wr.cell? ⟨gm, 3, none⟩ = some (.int .i64 (d : Nat)) := HZ.out.m.cell 3
                have xg4 : wr.cell? ⟨gm, 4, none⟩ = some (.int .i64 (txb X0 : Nat)) := HZ.out.m.cell 4
                go_wp2_with fail
                refine (HRl.out _ _ _ _ _ _).mono ?_
                rintro e wa ⟨rfl, hba⟩
                have HZa : Hid (Gz w wa a0 X0 c0 r0 l1 l2 gm gu d) := (HZ.out.more (Joins.below_alloc2 wr _ _)).more hba
                have HLs : Hid (AtN 26 wa (wr.heap.size + 1) #[.int .i64 0, .int .i64 ((X0.length : Int) - 1), .int .i64 ((edg X0 : Int)), .int .i64 ((d : Int)), .int .i64 ((txb X0 : Int))]) := AtN.belowAll (mk_at (AtN.new (wr.alloc (.cells #[.int .i64 0, .int .i64 1, .int .i64 0, .int .i64 0, .int .i64 0] 26)) 26 #[.int .i64 0, .int .i64 ((X0.length : Int) - 1), .int .i64 ((edg X0 : Int)), .int .i64 ((d : Int)), .int .i64 ((txb X0 : Int))]) (by simp)) hba
                obtain ⟨kk, hkk⟩ : ∃ kk, okL ⟨0, (X0.length : Int) - 1, (edg X0 : Int), (d : Int), (txb X0 : Int)⟩ = kk := ⟨_, rfl⟩
                rw [hkk]
                have HKl : Hid (okL ⟨0, (X0.length : Int) - 1, (edg X0 : Int), (d : Int), (txb X0 : Int)⟩ = kk) := hkk
                clear HZ HRl hba hkk xu0 xu1 xu2 xu3 xu4 xg0 xg1 xg2 xg3 xg4
                cases kk with
                | false =>
                  clear HVl HKl HLs
                  go_wp2_with fail
                  go_roundw
                  case rel => exact ⟨1, by first | rfl | go_num, by omega, HZa⟩
                  case measure => simp [intOf]
                | true =>
                  have HVc : Hid _ := HVl.out (0) ((X0.length : Int) - 1) ((edg X0 : Int)) ((d : Int)) ((txb X0 : Int)) wa HZa.out
                  have xa0 := HZa.out.t.t.c0
                  have xa1 := HZa.out.t.t.c1
                  have xs0 : wa.cell? ⟨wr.heap.size + 1, 0, none⟩ = some (.int .i64 0) := HLs.out.cell 0
                  have xs1 : wa.cell? ⟨wr.heap.size + 1, 1, none⟩ = some (.int .i64 ((X0.length : Int) - 1)) := HLs.out.cell 1
                  have xs2 : wa.cell? ⟨wr.heap.size + 1, 2, none⟩ = some (.int .i64 ((edg X0 : Int))) := HLs.out.cell 2
                  have xs3 : wa.cell? ⟨wr.heap.size + 1, 3, none⟩ = some (.int .i64 ((d : Int))) := HLs.out.cell 3
                  have xs4 : wa.cell? ⟨wr.heap.size + 1, 4, none⟩ = some (.int .i64 ((txb X0 : Int))) := HLs.out.cell 4
                  have hsl := AtN.lt HLs.out
                  clear HVl HLs
                  go_wp2_with fail
                  refine Calls.mono (Hid.out HVc) ?_
                  rintro e wb ⟨k, z, rfl, hk, hbb⟩
                  have HZb : Hid (Gz w wb a0 X0 c0 r0 l1 l2 gm gu d) := HZa.out.more hbb
                  obtain rfl := hk HKl.out (by omega)
                  clear HVc HZa hbb hk HKl xa0 xa1 xs0 xs1 xs2 xs3 xs4
                  go_wp2_with fail
                  go_roundw
                  case rel => exact ⟨1, by first | rfl | go_num, by omega, HZb⟩
                  case measure => simp [intOf]
              · have xu0 : wr.cell? ⟨gu, 5, none⟩ = some (.int .i64 0) := HZ.out.u.cell 5
                have xu1 : wr.cell? ⟨gu, 6, none⟩ = some (.int .i64 0) := HZ.out.u.cell 6
                have xu2 : wr.cell? ⟨gu, 7, none⟩ = some (.int .i64 1) := HZ.out.u.cell 7
                have xu3 : wr.cell? ⟨gu, 8, none⟩ = some (.int .i64 0) := HZ.out.u.cell 8
                have xu4 : wr.cell? ⟨gu, 9, none⟩ = some (.int .i64 0) := HZ.out.u.cell 9
                have xg0 : wr.cell? ⟨gm, 0, none⟩ = some (.int .i64 0) := HZ.out.m.cell 0
                have xg1 : wr.cell? ⟨gm, 1, none⟩ = some (.int .i64 X0.length) := HZ.out.m.cell 1
                have xg2 : wr.cell? ⟨gm, 2, none⟩ = some (.int .i64 (edg X0 : Nat)) := HZ.out.m.cell 2
                have xg3 : wr.cell? ⟨gm, 3, none⟩ = some (.int .i64 (d : Nat)) := HZ.out.m.cell 3
                have xg4 : wr.cell? ⟨gm, 4, none⟩ = some (.int .i64 (txb X0 : Nat)) := HZ.out.m.cell 4
                go_wp2_with fail
                refine (HRl.out _ _ _ _ _ _).mono ?_
                rintro e wa ⟨rfl, hba⟩
                have HZa : Hid (Gz w wa a0 X0 c0 r0 l1 l2 gm gu d) := (HZ.out.more (Joins.below_alloc2 wr _ _)).more hba
                have HLs : Hid (AtN 26 wa (wr.heap.size + 1) #[.int .i64 0, .int .i64 ((X0.length : Int)), .int .i64 ((edg X0 : Int) - 1), .int .i64 ((d : Int)), .int .i64 ((txb X0 : Int))]) := AtN.belowAll (mk_at (AtN.new (wr.alloc (.cells #[.int .i64 0, .int .i64 0, .int .i64 1, .int .i64 0, .int .i64 0] 26)) 26 #[.int .i64 0, .int .i64 ((X0.length : Int)), .int .i64 ((edg X0 : Int) - 1), .int .i64 ((d : Int)), .int .i64 ((txb X0 : Int))]) (by simp)) hba
                obtain ⟨kk, hkk⟩ : ∃ kk, okL ⟨0, (X0.length : Int), (edg X0 : Int) - 1, (d : Int), (txb X0 : Int)⟩ = kk := ⟨_, rfl⟩
                rw [hkk]
                have HKl : Hid (okL ⟨0, (X0.length : Int), (edg X0 : Int) - 1, (d : Int), (txb X0 : Int)⟩ = kk) := hkk
                clear HZ HRl hba hkk xu0 xu1 xu2 xu3 xu4 xg0 xg1 xg2 xg3 xg4
                cases kk with
                | false =>
                  clear HVl HKl HLs
                  go_wp2_with fail
                  go_roundw
                  case rel => exact ⟨2, by first | rfl | go_num, by omega, HZa⟩
                  case measure => simp [intOf]
                | true =>
                  have HVc : Hid _ := HVl.out (0) ((X0.length : Int)) ((edg X0 : Int) - 1) ((d : Int)) ((txb X0 : Int)) wa HZa.out
                  have xa0 := HZa.out.t.t.c0
                  have xa1 := HZa.out.t.t.c1
                  have xs0 : wa.cell? ⟨wr.heap.size + 1, 0, none⟩ = some (.int .i64 0) := HLs.out.cell 0
                  have xs1 : wa.cell? ⟨wr.heap.size + 1, 1, none⟩ = some (.int .i64 ((X0.length : Int))) := HLs.out.cell 1
                  have xs2 : wa.cell? ⟨wr.heap.size + 1, 2, none⟩ = some (.int .i64 ((edg X0 : Int) - 1)) := HLs.out.cell 2
                  have xs3 : wa.cell? ⟨wr.heap.size + 1, 3, none⟩ = some (.int .i64 ((d : Int))) := HLs.out.cell 3
                  have xs4 : wa.cell? ⟨wr.heap.size + 1, 4, none⟩ = some (.int .i64 ((txb X0 : Int))) := HLs.out.cell 4
                  have hsl := AtN.lt HLs.out
                  clear HVl HLs
                  go_wp2_with fail
                  refine Calls.mono (Hid.out HVc) ?_
                  rintro e wb ⟨k, z, rfl, hk, hbb⟩
                  have HZb : Hid (Gz w wb a0 X0 c0 r0 l1 l2 gm gu d) := HZa.out.more hbb
                  obtain rfl := hk HKl.out (by omega)
                  clear HVc HZa hbb hk HKl xa0 xa1 xs0 xs1 xs2 xs3 xs4
                  go_wp2_with fail
                  go_roundw
                  case rel => exact ⟨2, by first | rfl | go_num, by omega, HZb⟩
                  case measure => simp [intOf]
              · have xu0 : wr.cell? ⟨gu, 10, none⟩ = some (.int .i64 0) := HZ.out.u.cell 10
                have xu1 : wr.cell? ⟨gu, 11, none⟩ = some (.int .i64 0) := HZ.out.u.cell 11
                have xu2 : wr.cell? ⟨gu, 12, none⟩ = some (.int .i64 0) := HZ.out.u.cell 12
                have xu3 : wr.cell? ⟨gu, 13, none⟩ = some (.int .i64 1) := HZ.out.u.cell 13
                have xu4 : wr.cell? ⟨gu, 14, none⟩ = some (.int .i64 0) := HZ.out.u.cell 14
                have xg0 : wr.cell? ⟨gm, 0, none⟩ = some (.int .i64 0) := HZ.out.m.cell 0
                have xg1 : wr.cell? ⟨gm, 1, none⟩ = some (.int .i64 X0.length) := HZ.out.m.cell 1
                have xg2 : wr.cell? ⟨gm, 2, none⟩ = some (.int .i64 (edg X0 : Nat)) := HZ.out.m.cell 2
                have xg3 : wr.cell? ⟨gm, 3, none⟩ = some (.int .i64 (d : Nat)) := HZ.out.m.cell 3
                have xg4 : wr.cell? ⟨gm, 4, none⟩ = some (.int .i64 (txb X0 : Nat)) := HZ.out.m.cell 4
                go_wp2_with fail
                refine (HRl.out _ _ _ _ _ _).mono ?_
                rintro e wa ⟨rfl, hba⟩
                have HZa : Hid (Gz w wa a0 X0 c0 r0 l1 l2 gm gu d) := (HZ.out.more (Joins.below_alloc2 wr _ _)).more hba
                have HLs : Hid (AtN 26 wa (wr.heap.size + 1) #[.int .i64 0, .int .i64 ((X0.length : Int)), .int .i64 ((edg X0 : Int)), .int .i64 ((d : Int) - 1), .int .i64 ((txb X0 : Int))]) := AtN.belowAll (mk_at (AtN.new (wr.alloc (.cells #[.int .i64 0, .int .i64 0, .int .i64 0, .int .i64 1, .int .i64 0] 26)) 26 #[.int .i64 0, .int .i64 ((X0.length : Int)), .int .i64 ((edg X0 : Int)), .int .i64 ((d : Int) - 1), .int .i64 ((txb X0 : Int))]) (by simp)) hba
                obtain ⟨kk, hkk⟩ : ∃ kk, okL ⟨0, (X0.length : Int), (edg X0 : Int), (d : Int) - 1, (txb X0 : Int)⟩ = kk := ⟨_, rfl⟩
                rw [hkk]
                have HKl : Hid (okL ⟨0, (X0.length : Int), (edg X0 : Int), (d : Int) - 1, (txb X0 : Int)⟩ = kk) := hkk
                clear HZ HRl hba hkk xu0 xu1 xu2 xu3 xu4 xg0 xg1 xg2 xg3 xg4
                cases kk with
                | false =>
                  clear HVl HKl HLs
                  go_wp2_with fail
                  go_roundw
                  case rel => exact ⟨3, by first | rfl | go_num, by omega, HZa⟩
                  case measure => simp [intOf]
                | true =>
                  have HVc : Hid _ := HVl.out (0) ((X0.length : Int)) ((edg X0 : Int)) ((d : Int) - 1) ((txb X0 : Int)) wa HZa.out
                  have xa0 := HZa.out.t.t.c0
                  have xa1 := HZa.out.t.t.c1
                  have xs0 : wa.cell? ⟨wr.heap.size + 1, 0, none⟩ = some (.int .i64 0) := HLs.out.cell 0
                  have xs1 : wa.cell? ⟨wr.heap.size + 1, 1, none⟩ = some (.int .i64 ((X0.length : Int))) := HLs.out.cell 1
                  have xs2 : wa.cell? ⟨wr.heap.size + 1, 2, none⟩ = some (.int .i64 ((edg X0 : Int))) := HLs.out.cell 2
                  have xs3 : wa.cell? ⟨wr.heap.size + 1, 3, none⟩ = some (.int .i64 ((d : Int) - 1)) := HLs.out.cell 3
                  have xs4 : wa.cell? ⟨wr.heap.size + 1, 4, none⟩ = some (.int .i64 ((txb X0 : Int))) := HLs.out.cell 4
                  have hsl := AtN.lt HLs.out
                  clear HVl HLs
                  go_wp2_with fail
                  refine Calls.mono (Hid.out HVc) ?_
                  rintro e wb ⟨k, z, rfl, hk, hbb⟩
                  have HZb : Hid (Gz w wb a0 X0 c0 r0 l1 l2 gm gu d) := HZa.out.more hbb
                  obtain rfl := hk HKl.out (by omega)
                  clear HVc HZa hbb hk HKl xa0 xa1 xs0 xs1 xs2 xs3 xs4
                  go_wp2_with fail
                  go_roundw
                  case rel => exact ⟨3, by first | rfl | go_num, by omega, HZb⟩
                  case measure => simp [intOf]
              · have xu0 : wr.cell? ⟨gu, 15, none⟩ = some (.int .i64 0) := HZ.out.u.cell 15
                have xu1 : wr.cell? ⟨gu, 16, none⟩ = some (.int .i64 0) := HZ.out.u.cell 16
                have xu2 : wr.cell? ⟨gu, 17, none⟩ = some (.int .i64 0) := HZ.out.u.cell 17
                have xu3 : wr.cell? ⟨gu, 18, none⟩ = some (.int .i64 0) := HZ.out.u.cell 18
                have xu4 : wr.cell? ⟨gu, 19, none⟩ = some (.int .i64 1) := HZ.out.u.cell 19
                have xg0 : wr.cell? ⟨gm, 0, none⟩ = some (.int .i64 0) := HZ.out.m.cell 0
                have xg1 : wr.cell? ⟨gm, 1, none⟩ = some (.int .i64 X0.length) := HZ.out.m.cell 1
                have xg2 : wr.cell? ⟨gm, 2, none⟩ = some (.int .i64 (edg X0 : Nat)) := HZ.out.m.cell 2
                have xg3 : wr.cell? ⟨gm, 3, none⟩ = some (.int .i64 (d : Nat)) := HZ.out.m.cell 3
                have xg4 : wr.cell? ⟨gm, 4, none⟩ = some (.int .i64 (txb X0 : Nat)) := HZ.out.m.cell 4
                go_wp2_with fail
                refine (HRl.out _ _ _ _ _ _).mono ?_
                rintro e wa ⟨rfl, hba⟩
                have HZa : Hid (Gz w wa a0 X0 c0 r0 l1 l2 gm gu d) := (HZ.out.more (Joins.below_alloc2 wr _ _)).more hba
                have HLs : Hid (AtN 26 wa (wr.heap.size + 1) #[.int .i64 0, .int .i64 ((X0.length : Int)), .int .i64 ((edg X0 : Int)), .int .i64 ((d : Int)), .int .i64 ((txb X0 : Int) - 1)]) := AtN.belowAll (mk_at (AtN.new (wr.alloc (.cells #[.int .i64 0, .int .i64 0, .int .i64 0, .int .i64 0, .int .i64 1] 26)) 26 #[.int .i64 0, .int .i64 ((X0.length : Int)), .int .i64 ((edg X0 : Int)), .int .i64 ((d : Int)), .int .i64 ((txb X0 : Int) - 1)]) (by simp)) hba
                obtain ⟨kk, hkk⟩ : ∃ kk, okL ⟨0, (X0.length : Int), (edg X0 : Int), (d : Int), (txb X0 : Int) - 1⟩ = kk := ⟨_, rfl⟩
                rw [hkk]
                have HKl : Hid (okL ⟨0, (X0.length : Int), (edg X0 : Int), (d : Int), (txb X0 : Int) - 1⟩ = kk) := hkk
                clear HZ HRl hba hkk xu0 xu1 xu2 xu3 xu4 xg0 xg1 xg2 xg3 xg4
                cases kk with
                | false =>
                  clear HVl HKl HLs
                  go_wp2_with fail
                  go_roundw
                  case rel => exact ⟨4, by first | rfl | go_num, by omega, HZa⟩
                  case measure => simp [intOf]
                | true =>
                  have HVc : Hid _ := HVl.out (0) ((X0.length : Int)) ((edg X0 : Int)) ((d : Int)) ((txb X0 : Int) - 1) wa HZa.out
                  have xa0 := HZa.out.t.t.c0
                  have xa1 := HZa.out.t.t.c1
                  have xs0 : wa.cell? ⟨wr.heap.size + 1, 0, none⟩ = some (.int .i64 0) := HLs.out.cell 0
                  have xs1 : wa.cell? ⟨wr.heap.size + 1, 1, none⟩ = some (.int .i64 ((X0.length : Int))) := HLs.out.cell 1
                  have xs2 : wa.cell? ⟨wr.heap.size + 1, 2, none⟩ = some (.int .i64 ((edg X0 : Int))) := HLs.out.cell 2
                  have xs3 : wa.cell? ⟨wr.heap.size + 1, 3, none⟩ = some (.int .i64 ((d : Int))) := HLs.out.cell 3
                  have xs4 : wa.cell? ⟨wr.heap.size + 1, 4, none⟩ = some (.int .i64 ((txb X0 : Int) - 1)) := HLs.out.cell 4
                  have hsl := AtN.lt HLs.out
                  clear HVl HLs
                  go_wp2_with fail
                  refine Calls.mono (Hid.out HVc) ?_
                  rintro e wb ⟨k, z, rfl, hk, hbb⟩
                  have HZb : Hid (Gz w wb a0 X0 c0 r0 l1 l2 gm gu d) := HZa.out.more hbb
                  obtain rfl := hk HKl.out (by omega)
                  clear HVc HZa hbb hk HKl xa0 xa1 xs0 xs1 xs2 xs3 xs4
                  go_wp2_with fail
                  go_roundw
                  case rel => exact ⟨4, by first | rfl | go_num, by omega, HZb⟩
                  case measure => simp [intOf]
            · have hlt' : ¬ (i : Int) < 4 := by omega
              clear HV HK1
              go_wp2_with fail
              go_ret
              exact ⟨rfl, HZ.out.t.t.bel⟩
    · clear HZ0 HV HM
      go_wp2_with fail
      go_ret
      exact ⟨rfl, HL4.out.t.bel⟩

set_option maxRecDepth 100000 in
theorem lifted (os : Os) (started : os.Started) (H : Type) (enc : TypeId × Value → H) :
    ReturnsInHanded {} Tryd.checked os 5 .any (fun w args => (Rows.limitGrowsSpec.pre enc Tryd.prog Tryd.f5 [] false w args ∧ laidMetH Tryd.prog laid2 w) ∧ sizedMet enc Tryd.prog Tryd.f5 (OpenSpec.ofChange Rows.limitGrowsSpec) false w args)
      (Rows.limitGrowsSpec.post enc Tryd.prog Tryd.f5 false true false false) := by
  refine returnsInHanded_of_change_and (C := Tryd.checked) (X := fun w _ => laidMetH Tryd.prog laid2 w) (fun _ _ _ hh h => h.of_heap hh) own started (by kernel_rfl) Tryd.func5
    (ChangeSpec.witness_shaped (enc := enc) (C := Tryd.checked) (os := os) (X := fun w _ => laidMetH Tryd.prog laid2 w) false (World.doorLaid Tryd.prog 400 os) #[.agg #[.slice none 0 0, .int .i64 0], .agg #[.int .i64 0, .int .i64 0, .int .i64 0, .int .i64 0, .int .i64 0], .agg #[.int .i64 0, .int .i64 0, .int .i64 0, .int .i64 0, .int .i64 0]] 8 rfl (World.shaped_of_RefB (by kernel_rfl) (by kernel_rfl)) (by kernel_rfl) (by kernel_rfl) (by kernel_rfl) (door_met os _)) ?_
  intro W base args ds gs before hval0 hW _ _ hL _
  have hval : ∀ (j : Nat) t v, Tryd.f5.params[j]? = some t → args[j]? = some v → Value.okWide Tryd.prog W .any base t v := hval0
  have hW' := hW
  obtain ⟨p, q, hA0, hV, rfl, hfz, hnd⟩ := hW
  have hA : DataW.TrodAll enc Tryd.prog W 0 (fun _ => true) true Tryd.f5.params.toList args.toList ds p := hA0
  rw [Tryd.params5] at hA hval
  obtain ⟨v0, vs0, d0, ds0, p0, q0, hargs, rfl, rfl, h0, r0⟩ := trodAll_cons hA
  obtain ⟨v1, vs1, d1, ds1, p1, q1, rfl, rfl, rfl, h1, r1⟩ := trodAll_cons r0
  obtain ⟨v2, vs2, d2, ds2, p2, q2, rfl, rfl, rfl, h2, r2⟩ := trodAll_cons r1
  obtain ⟨rfl, rfl, rfl⟩ := trodAll_nil r2
  obtain rfl : args = #[v0, v1, v2] := by cases args; simp_all
  obtain ⟨rfl, rfl⟩ := trodVars_none hV
  have K0 := h0
  have lt0 : ∀ x ∈ p0, x.block < W.heap.size := by obtain ⟨m, hm⟩ := K0; exact DataW.trod_lt m _ _ _ hm
  obtain ⟨X0, a0, c0, rt0, rfl, w0⟩ := open_scene Tryd.underlying24 (by kernel_rfl) (by kernel_rfl) Tryd.underlying22 Tryd.underlying3 Tryd.underlying50 (by kernel_rfl) rfl rfl rfl rfl (by kernel_rfl) (by kernel_rfl) (by kernel_rfl) (by kernel_rfl) Tryd.underlying3 Tryd.underlying46 Tryd.underlying47 Tryd.underlying48 Tryd.underlying2 Tryd.underlying9 Tryd.underlying3 (by kernel_rfl) (by kernel_rfl) (by kernel_rfl) (hval 0 24 v0 rfl rfl) h0
  have K1 := h1
  have lt1 : ∀ x ∈ p1, x.block < W.heap.size := by obtain ⟨m, hm⟩ := K1; exact DataW.trod_lt m _ _ _ hm
  obtain ⟨l1, rfl, w1⟩ := open_lim Tryd.underlying26 (by kernel_rfl) (by kernel_rfl) Tryd.underlying3 Tryd.underlying3 Tryd.underlying3 Tryd.underlying3 Tryd.underlying3 (hval 1 26 v1 rfl rfl) h1
  have K2 := h2
  have lt2 : ∀ x ∈ p2, x.block < W.heap.size := by obtain ⟨m, hm⟩ := K2; exact DataW.trod_lt m _ _ _ hm
  obtain ⟨l2, rfl, w2⟩ := open_lim Tryd.underlying26 (by kernel_rfl) (by kernel_rfl) Tryd.underlying3 Tryd.underlying3 Tryd.underlying3 Tryd.underlying3 Tryd.underlying3 (hval 2 26 v2 rfl rfl) h2
  clear hA0 hval0
  refine (walk X0 a0 c0 rt0 l1 l2 W w0 w1 w2 (tabs_of hL)).mono fun e W' ⟨he, bel⟩ => ?_
  subst he
  exact ⟨_, rfl, _, _, _, [], _, [], hW', trodAll_mk1 (shut_bool Tryd.underlying4 _), (trodAll_cons_mk (Below.trod laidOut (by kernel_rfl) (of_decide_eq_true (by kernel_rfl)) K0 bel lt0) (trodAll_cons_mk (Below.trod laidOut (by kernel_rfl) (of_decide_eq_true (by kernel_rfl)) K1 bel lt1) (trodAll_cons_mk (Below.trod laidOut (by kernel_rfl) (of_decide_eq_true (by kernel_rfl)) K2 bel lt2) trodAll_mk0))), rfl, bel.frame _, fun h => by cases h⟩

theorem row : Rows.limitGrowsRow.holds Tryd.pinned (OpenSpec.ofChange Rows.limitGrowsSpec) :=
  OpenClaim.holds_of_wide 5 Tryd.f5 rfl rfl rfl rfl rfl rfl rfl ⟨rfl, rfl, rfl, rfl, rfl⟩ rfl rfl rfl rfl rfl (by kernel_rfl) Tryd.func5 (by kernel_rfl)
    (of_decide_eq_true (by kernel_rfl)) (by unfold Func.isWrapper; first | (rw [if_pos (by decide +kernel)]; kernel_rfl) | (rw [if_neg (by decide +kernel)]; exact ⟨rfl, rfl⟩))
    (fun os started H enc _ => lifted os started H enc)

/-- No parameter wants a stand-in; the program's own looks are off: what the card asks. -/
theorem plain (f : FuncId) (fn : Func) (hf : Tryd.pinned.checked.prog.funcNamed Rows.limitGrowsRow.func = some f) (hfn : Tryd.pinned.checked.prog.funcs[f]? = some fn) :
    false = Tryd.pinned.checked.prog.looks [] ∧ ∀ (j : Nat) t, fn.params[j]? = some t → Tryd.pinned.checked.prog.wantsStandIn t = false := by
  obtain rfl : f = 5 := Option.some.inj ((show Tryd.prog.funcNamed Rows.limitGrowsRow.func = some 5 by kernel_rfl).symm.trans hf) |>.symm
  obtain rfl : fn = Tryd.f5 := (Option.some.inj (Tryd.func5.symm.trans hfn)).symm
  refine ⟨by kernel_rfl, fun j t ht => ?_⟩
  have hm := Array.mem_of_getElem? ht
  have hall : (Tryd.f5.params.toList.all fun u => !Tryd.prog.wantsStandIn u) = true := by kernel_rfl
  exact (show Tryd.prog.wantsStandIn t = false by simpa using List.all_eq_true.1 hall t (by simpa using hm))

/-- ████ THE CARD ████ -/
theorem over : Rows.LimitGrowsCardSaid :=
  Claim7.holds_tied_plain_at .later [] _ _ _ _ row (fun _ h => by cases h) (by kernel_rfl) (fun _ h => by cases h) limitGrows_row_tie rfl ⟨rfl, rfl⟩ (by kernel_rfl) rfl plain (by kernel_rfl)

end Go.Proofs.YtdioecmpcppleaaDoor.limitGrows

namespace Go.Proofs.YtdioecmpcppleaaDoor
theorem limitGrows_holds : Rows.LimitGrowsCardSaid := limitGrows.over
#print axioms limitGrows_holds
end Go.Proofs.YtdioecmpcppleaaDoor
