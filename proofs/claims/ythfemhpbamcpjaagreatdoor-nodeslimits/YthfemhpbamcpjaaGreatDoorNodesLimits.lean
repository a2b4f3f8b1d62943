/- For every scene that is right and typed: with one less of nodes, of kids, of depth, or of texts' bytes than its measure, the program's Get of the bytes that its Put answers of the canonical scene tells that they are beyond the limits, with no scene (scenes greater than the law plays with are let go by the law itself); the argument reads afterwards as before. The package schema's tables hold what the program's text lays into them when the call begins (the card ties them). -/
import Derived.Test.YthfemhpbamcpjaaGreatDoorRows
import Derived.Test.YthfemhpbamcpjaaGreatDoorCards
import Derived.Test.YthfemhpbamcpjaaGreatDoorTie
import Derived.WalkKit
import Derived.ProofKit
import Derived.OpenShut
import Derived.ShutString
import Derived.Below
import Derived.Test.YthfemhpbamcpjaaGreatDoorNRn
import Derived.Test.YthfemhpbamcpjaaGreatDoorNAw
import Derived.Test.YthfemhpbamcpjaaGreatDoorLM
import Derived.ChangeOld
import Derived.LaidMore
import Derived.SevenTiedAt
namespace Go.Proofs.YthfemhpbamcpjaaGreatDoor.nodesLimits
open Go.ChangeShapes Go.WideShapes Go.ChangeAt Go.RowKit
open Go.ChangeMaps (open_string shut_string)
set_option linter.unusedVariables false
theorem own : ownKnob Tryz.prog.godebug = none := by kernel_rfl
theorem laidOut : laidOutB Tryz.prog = true := by kernel_rfl
def lessL (X : List Nx) (d : Nat) (n e p x : Int) : Lm := ⟨0, (X.length : Int) - n, (edg X : Nat) - e, (d : Nat) - p, (txb X : Nat) - x⟩
def isOne (i : Nat) (n e p x : Int) : Prop := (i = 0 ∧ n = 1 ∧ e = 0 ∧ p = 0 ∧ x = 0) ∨ (i = 1 ∧ n = 0 ∧ e = 1 ∧ p = 0 ∧ x = 0) ∨ (i = 2 ∧ n = 0 ∧ e = 0 ∧ p = 1 ∧ x = 0) ∨ (i = 3 ∧ n = 0 ∧ e = 0 ∧ p = 0 ∧ x = 1)
def allC : Array Value := #[.int .i64 0, .int .i64 1, .int .i64 0, .int .i64 0, .int .i64 0, .int .i64 0, .int .i64 0, .int .i64 1, .int .i64 0, .int .i64 0, .int .i64 0, .int .i64 0, .int .i64 0, .int .i64 1, .int .i64 0, .int .i64 0, .int .i64 0, .int .i64 0, .int .i64 0, .int .i64 1]
theorem allC_at {W : World} {g : Nat} (h : AtN 34 W g allC) {i : Nat} (hi : i < 4) : ∃ n e p x : Int, isOne i n e p x ∧ W.cell? ⟨g, i * 5, none⟩ = some (.int .i64 0) ∧ W.cell? ⟨g, i * 5 + 1, none⟩ = some (.int .i64 n) ∧ W.cell? ⟨g, i * 5 + 2, none⟩ = some (.int .i64 e) ∧ W.cell? ⟨g, i * 5 + 3, none⟩ = some (.int .i64 p) ∧ W.cell? ⟨g, i * 5 + 4, none⟩ = some (.int .i64 x) := by
  match i, hi with
  | 0, _ => exact ⟨1, 0, 0, 0, .inl ⟨rfl, rfl, rfl, rfl, rfl⟩, h.cell 0, h.cell 1, h.cell 2, h.cell 3, h.cell 4⟩
  | 1, _ => exact ⟨0, 1, 0, 0, .inr (.inl ⟨rfl, rfl, rfl, rfl, rfl⟩), h.cell 5, h.cell 6, h.cell 7, h.cell 8, h.cell 9⟩
  | 2, _ => exact ⟨0, 0, 1, 0, .inr (.inr (.inl ⟨rfl, rfl, rfl, rfl, rfl⟩)), h.cell 10, h.cell 11, h.cell 12, h.cell 13, h.cell 14⟩
  | 3, _ => exact ⟨0, 0, 0, 1, .inr (.inr (.inr ⟨rfl, rfl, rfl, rfl, rfl⟩)), h.cell 15, h.cell 16, h.cell 17, h.cell 18, h.cell 19⟩
structure Lo (w W : World) (gM ga : Nat) (X : List Nx) (d : Nat) : Prop where
  m : AtN 34 W gM (meC X d)
  a : AtN 34 W ga allC
  bel : Below w.heap.size w W
theorem Lo.more {w W W' : World} {gM ga : Nat} {X : List Nx} {d : Nat} (h : Lo w W gM ga X d) (hb : Below W.heap.size W W') : Lo w W' gM ga X d := ⟨h.m.belowAll hb, h.a.belowAll hb, h.bel.trans (hb.mono h.bel.size)⟩
theorem less_tells {X Y : List Nx} {r : Int} {d : Nat} {A C : ByteArray} {i : Nat} {n e p x : Int} (hB : Bk Y r A C) (e1 : Y.length = X.length) (e2 : edg Y = edg X) (e3 : txb Y = txb X) (hd : DepthIs Y r d) (hi : isOne i n e p x) (ho : okL (lessL X d n e p x) = true) : GeIs A C (lessL X d n e p x) (([] : List Nx).map Nx.nd) 0 19 ∧ ∀ L, pGet6 A 16777216 (lessL X d n e p x).x = (0, L) → Qn C L (lessL X d n e p x) := by
  obtain ⟨t1, t2, t3, t4⟩ := hB.tab
  have hp := hB.pos
  have ho5 := okL_in ho
  have hs : (sum6 (itn (allT Y)) : Int) = (txb X : Nat) := by rw [← e3]; rfl
  have hq : ∀ (hx : (lessL X d n e p x).x = (sum6 (itn (allT Y)) : Nat)), ∀ L, pGet6 A 16777216 (lessL X d n e p x).x = (0, L) → Qn C L (lessL X d n e p x) := fun hx L hL => by
    have g1 := (pGet6_putB (itn (allT Y)) A 16777216 hB.a t1 t2 (by omega) (by omega)).1
    rw [← hx, hL] at g1
    simp only [Prod.mk.injEq, true_and] at g1
    rw [g1]
    exact hB.qn ho5.2.2.1.1
  rcases hi with ⟨_, rfl, rfl, rfl, rfl⟩ | ⟨_, rfl, rfl, rfl, rfl⟩ | ⟨_, rfl, rfl, rfl, rfl⟩ | ⟨_, rfl, rfl, rfl, rfl⟩
  · have hx : (lessL X d 1 0 0 0).x = (sum6 (itn (allT Y)) : Nat) := by show ((txb X : Nat) : Int) - 0 = _; omega
    exact ⟨hB.nodes ho hx (by show (X.length : Int) - 1 < Y.length; omega), hq hx⟩
  · have hx : (lessL X d 0 1 0 0).x = (sum6 (itn (allT Y)) : Nat) := by show ((txb X : Nat) : Int) - 0 = _; omega
    exact ⟨hB.ways ho hx (by show (Y.length : Int) ≤ (X.length : Int) - 0; omega) (by show ((edg X : Nat) : Int) - 1 < (edg Y : Nat); omega), hq hx⟩
  · have hx : (lessL X d 0 0 1 0).x = (sum6 (itn (allT Y)) : Nat) := by show ((txb X : Nat) : Int) - 0 = _; omega
    exact ⟨hB.deep ho hx (by show (Y.length : Int) ≤ (X.length : Int) - 0; omega) (by show ((edg Y : Nat) : Int) ≤ (edg X : Nat) - 0; omega) hd (by show ((d : Nat) : Int) - 1 < d; omega), hq hx⟩
  · have hx : (lessL X d 0 0 0 1).x = (sum6 (itn (allT Y)) : Int) - 1 := by show ((txb X : Nat) : Int) - 1 = _; omega
    have h0 : 0 ≤ (lessL X d 0 0 0 1).x := ho5.2.2.2.2.1
    have hne : sum6 (itn (allT Y)) ≠ 0 := by rw [hx] at h0; omega
    refine ⟨hB.texts ho hne hx, fun L hL => ?_⟩
    have g1 := (pGet6_putB (itn (allT Y)) A 16777216 hB.a t1 t2 (by omega) (by omega)).2 hne
    rw [← hx, hL] at g1
    cases g1
theorem less_rg {X : List Nx} {d : Nat} {i : Nat} {n e p x : Int} (hi : isOne i n e p x) (h1 : X.length ≤ 60) (h2 : edg X ≤ 60000) (h3 : d ≤ 60) (h4 : txb X ≤ 16777216) : ∀ j, j < 5 → -9223372036854775808 ≤ (lmL (lessL X d n e p x)).getD j 0 ∧ (lmL (lessL X d n e p x)).getD j 0 ≤ 9223372036854775807 := fun j hj => by
  have hb : (0 ≤ n ∧ n ≤ 1) ∧ (0 ≤ e ∧ e ≤ 1) ∧ (0 ≤ p ∧ p ≤ 1) ∧ (0 ≤ x ∧ x ≤ 1) := by unfold isOne at hi; omega
  rcases five_cases hj with rfl | rfl | rfl | rfl | rfl
  · exact ⟨by show (-9223372036854775808 : Int) ≤ 0; decide, by show (0 : Int) ≤ 9223372036854775807; decide⟩
  · exact ⟨by show (-9223372036854775808 : Int) ≤ (X.length : Int) - n; omega, by show (X.length : Int) - n ≤ 9223372036854775807; omega⟩
  · exact ⟨by show (-9223372036854775808 : Int) ≤ (edg X : Nat) - e; omega, by show ((edg X : Nat) : Int) - e ≤ 9223372036854775807; omega⟩
  · exact ⟨by show (-9223372036854775808 : Int) ≤ (d : Nat) - p; omega, by show ((d : Nat) : Int) - p ≤ 9223372036854775807; omega⟩
  · exact ⟨by show (-9223372036854775808 : Int) ≤ (txb X : Nat) - x; omega, by show ((txb X : Nat) : Int) - x ≤ 9223372036854775807; omega⟩
set_option maxRecDepth 10000 in
set_option maxHeartbeats 4000000 in
theorem walk (X0 : List Nx) (a0 : Option Addr) (c0 : Nat) (r0 : Int) (w : World) (w0 : IsSc w a0 X0 r0) (hT : Tabs12 w) :
    Calls Tryz.prog 6 #[.agg #[.slice a0 X0.length c0, .int .i64 r0]] w fun e w' => e = .returned (.bool true) ∧ Below w.heap.size w w' := by
  have HA : Hid (∀ W, Below w.heap.size w W → Calls Tryz.prog 7 #[] W fun e w' => e = .returned (.bool true) ∧ Below W.heap.size W w') := fun W hb => awake_any W (hT.on hb)
  have HT : Hid (Tabs12 w) := hT
  have HS : Hid (IsSc w a0 X0 r0) := w0
  have HL : Hid (Lw w (w.alloc (.cells #[.slice a0 X0.length c0, .int .i64 r0] 24)) a0 X0 c0 r0) := Lw.start w a0 X0 c0 r0
  clear w0 hT
  go_enter Tryz.func6, Tryz.ntmps6
  go_wp2_with fail
  refine Calls.mono (HA.out _ HL.out.bel) ?_
  rintro e w2 ⟨rfl, hb2⟩
  have HL2 : Hid (Lw w w2 a0 X0 c0 r0) := HL.out.more hb2
  clear HL hb2
  have xa0 := HL2.out.c0
  have xa1 := HL2.out.c1
  have HG : Hid (Calls Tryz.prog 8 #[.agg #[.slice a0 X0.length c0, .int .i64 r0]] w2 fun e w' => GreatOut X0 w2 w' e) := sgreat_any X0 a0 c0 r0 w2 (HL2.out.sc HS.out)
  go_wp2_with fail
  refine Calls.mono HG.out ?_
  rintro e w3 ⟨g, rfl, hg, hb3⟩
  have HL3 : Hid (Lw w w3 a0 X0 c0 r0) := HL2.out.more hb3
  clear HG HL2 hb3 xa0 xa1
  cases g with
  | true =>
    go_wp2_with fail
    refine Calls.mono (HA.out _ HL3.out.bel) ?_
    rintro e wz ⟨rfl, hbz⟩
    have HB : Hid (Below w.heap.size w wz) := (HL3.out.more hbz).bel
    clear HL3 hbz
    go_wp2_with fail
    go_ret
    exact ⟨rfl, HB.out⟩
  | false =>
    have HSm : Hid (Small X0 ∧ X0.length ≤ 60) := hg rfl
    have HFn : Hid (FnX X0) := HS.out.fn
    have xa0 := HL3.out.c0
    have xa1 := HL3.out.c1
    have HW : Hid _ := rwhole_any X0 a0 c0 r0 w3 (HL3.out.sc HS.out) HSm.out.1 HFn.out
    clear hg
    go_wp2_with fail
    refine Calls.mono HW.out ?_
    rintro e w4 ⟨bw, rfl, hbw, hb4⟩
    have HL4 : Hid (Lw w w4 a0 X0 c0 r0) := HL3.out.more hb4
    have HBw : Hid (bw = true ↔ Whole X0 r0) := hbw
    clear HW HL3 hb4 xa0 xa1 hbw
    cases bw with
    | false =>
      clear HBw
      go_wp2_with fail
      refine Calls.mono (HA.out _ HL4.out.bel) ?_
      rintro e wz ⟨rfl, hbz⟩
      have HB : Hid (Below w.heap.size w wz) := (HL4.out.more hbz).bel
      clear HL4 hbz
      go_wp2_with fail
      go_ret
      exact ⟨rfl, HB.out⟩
    | true =>
      have HWh : Hid (Whole X0 r0) := HBw.out.1 rfl
      have xa0 := HL4.out.c0
      have xa1 := HL4.out.c1
      have HC : Hid _ := rcanon_any X0 a0 c0 r0 w4 (HL4.out.sc HS.out) HSm.out.1 HWh.out.2
      clear HA HBw
      go_wp2_with fail
      refine Calls.mono HC.out ?_
      rintro e w5 ⟨Y, ay, cy, rfl, hY, hsY, hb5⟩
      have HL5 : Hid (Lw w w5 a0 X0 c0 r0) := HL4.out.more hb5
      have HYc : Hid (Y.map Nx.nd = cX X0 r0) := hY
      have HP : Hid _ := pnput_any Y ay cy ((X0.length : Int) - 1) w5 hsY ((can_ren HWh.out.2 hY).small HSm.out.1) ((can_ren HWh.out.2 hY).fnx HFn.out) (HT.out.on HL5.out.bel)
      clear HC HL4 hb5 hsY hY xa0 xa1
      go_wp2_with fail
      refine Calls.mono HP.out ?_
      rintro e w7 ⟨A, C, k, rfl, hpu, hb7⟩
      obtain ⟨rfl, hbk⟩ := bk_of HSm.out.1 HSm.out.2 HFn.out HWh.out HYc.out hpu
      have HBk : Hid (Bk Y ((X0.length : Int) - 1) A C) := hbk
      have HL7 : Hid (Lw w w7 a0 X0 c0 r0) := HL5.out.more hb7
      clear HP HL5 hb7 hpu hbk
      obtain ⟨d, hd⟩ := depth_there X0 r0
      have HD : Hid (DepthIs X0 r0 d) := hd
      have xa0 := HL7.out.c0
      have xa1 := HL7.out.c1
      have HMe : Hid (Calls Tryz.prog 17 #[.agg #[.slice a0 X0.length c0, .int .i64 r0]] w7 fun e w' => e = .returned (.agg #[.int .i64 0, .int .i64 X0.length, .int .i64 (edg X0 : Nat), .int .i64 (d : Nat), .int .i64 (txb X0 : Nat)]) ∧ Below w7.heap.size w7 w') := rmeasure_any X0 a0 c0 r0 d w7 (HL7.out.sc HS.out) HSm.out.1 hd
      clear hd
      go_wp2_with fail
      refine Calls.mono HMe.out ?_
      rintro e w8 ⟨rfl, hb8⟩
      have HB8 : Hid (Below w.heap.size w w8) := (HL7.out.more hb8).bel
      clear HMe HL7 hb8 xa0 xa1
      have hren := can_ren HWh.out.2 HYc.out
      have e1 : Y.length = X0.length := hren.len
      have e2 : edg Y = edg X0 := hren.edg
      have e3 : txb Y = txb X0 := hren.txb
      have htb := HBk.out.tab
      have hed := HBk.out.edg
      rw [e2] at hed
      have hd60 : d ≤ 60 := by
        obtain ⟨h, _, h2, h3⟩ := HD.out.2 HWh.out.2
        have hp := HBk.out.pos
        have hr := HWh.out.2.1
        have := of_decide_eq_true (show decide (0 ≤ r0 ∧ r0 < X0.length) = true from hr)
        have := (h3 r0.toNat (by omega)).2
        have := HSm.out.2
        omega
      have ht4 : txb X0 ≤ 16777216 := by rw [← e3]; exact htb.2.2.2
      have hx60 := HSm.out.2
      have HLe : Hid (∀ (i : Nat) (n e p x : Int), isOne i n e p x → okL (lessL X0 d n e p x) = true → GeIs A C (lessL X0 d n e p x) (([] : List Nx).map Nx.nd) 0 19 ∧ ∀ L, pGet6 A 16777216 (lessL X0 d n e p x).x = (0, L) → Qn C L (lessL X0 d n e p x)) := fun i n e p x hi ho => less_tells HBk.out e1 e2 e3 (can_depth HWh.out.2 HYc.out HD.out) hi ho
      obtain ⟨hszA, hszC⟩ := HBk.out.size
      have HLo : Hid (∀ o1 o2 : Obj, o1 = .cells #[.int .i64 0, .int .i64 X0.length, .int .i64 (edg X0 : Nat), .int .i64 (d : Nat), .int .i64 (txb X0 : Nat)] 34 → o2 = .cells #[.int .i64 0, .int .i64 1, .int .i64 0, .int .i64 0, .int .i64 0, .int .i64 0, .int .i64 0, .int .i64 1, .int .i64 0, .int .i64 0, .int .i64 0, .int .i64 0, .int .i64 0, .int .i64 1, .int .i64 0, .int .i64 0, .int .i64 0, .int .i64 0, .int .i64 0, .int .i64 1] 34 → Lo w ((w8.alloc o1).alloc o2) w8.heap.size (w8.heap.size + 1) X0 d) := by
        rintro _ _ rfl rfl
        exact ⟨(AtN.new w8 34 _).alloc _, mk_at (AtN.new (w8.alloc _) 34 _) (show _ = w8.heap.size + 1 by simp), HB8.out.trans (((((Below.refl w8.heap.size w8).alloc (Nat.le_refl _) _).alloc (by simp) _)).mono HB8.out.size)⟩
      clear htb e1 e2 e3 hren HD HBk HYc HWh
      go_wp2_with fail
      have hlo := HLo.out _ _ rfl rfl
      have HL0 : Hid _ := hlo
      clear HLo hlo
      generalize w8.heap.size = gM at *
      go_loopw [39] (fun iv wr => ∃ i : Nat, iv = .int .i64 i ∧ i ≤ 4 ∧ Hid (Lo w wr gM (gM + 1) X0 d)) (fun iv _ => 4 - (intOf iv).toNat)
      case atStart => exact ⟨0, rfl, by omega, HL0⟩
      case round =>
        clear HL0
        obtain ⟨i, rfl, hi4, HLo⟩ := hrel
        by_cases hlt : i < 4
        · have hlt' : (i : Int) < 4 := by omega
          obtain ⟨n, e, p, x, hone, c0', c1', c2', c3', c4'⟩ := allC_at HLo.out.a hlt
          have hbd : (0 ≤ n ∧ n ≤ 1) ∧ (0 ≤ e ∧ e ≤ 1) ∧ (0 ≤ p ∧ p ≤ 1) ∧ (0 ≤ x ∧ x ≤ 1) := by unfold isOne at hone; omega
          have HOn : Hid (isOne i n e p x) := hone
          have m1 : ∀ o, (wr.alloc o).cell? ⟨gM, 1, none⟩ = some (.int .i64 X0.length) := fun o => (HLo.out.m.alloc o).cell 1
          have m2 : ∀ o, (wr.alloc o).cell? ⟨gM, 2, none⟩ = some (.int .i64 (edg X0 : Nat)) := fun o => (HLo.out.m.alloc o).cell 2
          have m3 : ∀ o, (wr.alloc o).cell? ⟨gM, 3, none⟩ = some (.int .i64 (d : Nat)) := fun o => (HLo.out.m.alloc o).cell 3
          have m4 : ∀ o, (wr.alloc o).cell? ⟨gM, 4, none⟩ = some (.int .i64 (txb X0 : Nat)) := fun o => (HLo.out.m.alloc o).cell 4
          have hga := HLo.out.a.lt
          have HBl : Hid (∀ o1 o2 : Obj, Lo w ((wr.alloc o1).alloc o2) gM (gM + 1) X0 d) := fun o1 o2 => HLo.out.more (((Below.refl wr.heap.size wr).alloc (Nat.le_refl _) _).alloc (by simp) _)
          have HLc : Hid (∀ o1 o2 : Obj, o2 = .cells #[.int .i64 0, .int .i64 ((X0.length : Int) - n), .int .i64 ((edg X0 : Nat) - e), .int .i64 ((d : Nat) - p), .int .i64 ((txb X0 : Nat) - x)] 34 → AtN 34 ((wr.alloc o1).alloc o2) (wr.heap.size + 1) (liC (lessL X0 d n e p x))) := by
            rintro o1 _ rfl
            exact mk_at (AtN.new (wr.alloc o1) 34 _) (show _ = wr.heap.size + 1 by simp)
          have HRg : Hid _ := less_rg (X := X0) (d := d) hone hx60 hed hd60 ht4
          have HRk : Hid (∀ W, Calls Tryz.prog 18 #[.agg #[.int .i64 0, .int .i64 ((X0.length : Int) - n), .int .i64 ((edg X0 : Nat) - e), .int .i64 ((d : Nat) - p), .int .i64 ((txb X0 : Nat) - x)]] W fun e' w' => e' = .returned (.bool (okL (lessL X0 d n e p x))) ∧ Below W.heap.size W w') := fun W => rokl_any (lessL X0 d n e p x) W
          have HGt : Hid (∀ W, Tabs12 W → okL (lessL X0 d n e p x) = true → Calls Tryz.prog 12 #[.string A, .string C, .agg #[.int .i64 0, .int .i64 ((X0.length : Int) - n), .int .i64 ((edg X0 : Nat) - e), .int .i64 ((d : Nat) - p), .int .i64 ((txb X0 : Nat) - x)]] W fun e' w' => ∃ (a : Option Addr) (c : Nat), e' = .returned (.tuple #[.agg #[.slice a 0 c, .int .i64 0], .int .i64 19]) ∧ Below W.heap.size W w') := fun W ht ho => by
            obtain ⟨h1, h2⟩ := HLe.out i n e p x HOn.out ho
            refine Calls.mono (pnget_any A C (lessL X0 d n e p x) W ht hszA hszC h2 HRg.out) ?_
            rintro e' w' ⟨X, a, c, r, k, rfl, hg, -, -, -, hb⟩
            obtain ⟨hX, rfl, rfl⟩ := h1.uniq hg
            obtain rfl : X = [] := by simpa using hX
            exact ⟨a, c, rfl, hb⟩
          clear hone HLo HLe
          generalize okL (lessL X0 d n e p x) = ok at *
          go_wp2_with fail
          refine Calls.mono (HRk.out _) ?_
          rintro e' w9 ⟨rfl, hb9⟩
          have HL9 : Hid (Lo w w9 gM (gM + 1) X0 d) := (HBl.out _ _).more hb9
          have HC9 : Hid (AtN 34 w9 (wr.heap.size + 1) (liC (lessL X0 d n e p x))) := (HLc.out _ _ rfl).belowAll hb9
          clear HRk HBl HLc hb9 m1 m2 m3 m4 c0' c1' c2' c3' c4'
          cases ok with
          | false =>
            clear HGt HC9
            go_wp2_with fail
            go_roundw
            case rel => exact ⟨i + 1, by go_num, by omega, HL9⟩
            case measure => simp [intOf]; omega
          | true =>
            have d0 : w9.cell? ⟨wr.heap.size + 1, 0, none⟩ = some (.int .i64 0) := HC9.out.cell 0
            have d1 : w9.cell? ⟨wr.heap.size + 1, 1, none⟩ = some (.int .i64 ((X0.length : Int) - n)) := HC9.out.cell 1
            have d2 : w9.cell? ⟨wr.heap.size + 1, 2, none⟩ = some (.int .i64 ((edg X0 : Nat) - e)) := HC9.out.cell 2
            have d3 : w9.cell? ⟨wr.heap.size + 1, 3, none⟩ = some (.int .i64 ((d : Nat) - p)) := HC9.out.cell 3
            have d4 : w9.cell? ⟨wr.heap.size + 1, 4, none⟩ = some (.int .i64 ((txb X0 : Nat) - x)) := HC9.out.cell 4
            have HGa : Hid _ := HGt.out w9 (HT.out.on HL9.out.bel) rfl
            clear HGt
            go_wp2_with fail
            refine Calls.mono HGa.out ?_
            rintro e' wa ⟨a, c, rfl, hba⟩
            have HLa : Hid (∀ o, Lo w (wa.alloc o) gM (gM + 1) X0 d) := fun o => (HL9.out.more hba).more ((Below.refl _ _).alloc (Nat.le_refl _) _)
            clear HGa HL9 HC9 hba d0 d1 d2 d3 d4
            go_wp2_with fail
            go_roundw
            case rel => exact ⟨i + 1, by go_num, by omega, HLa.out _⟩
            case measure => simp [intOf]; omega
        · have hlt' : ¬ (i : Int) < 4 := by omega
          go_wp2_with fail
          go_ret
          exact ⟨rfl, HLo.out.bel⟩
set_option maxRecDepth 100000 in
theorem lifted (os : Os) (started : os.Started) (H : Type) (enc : TypeId × Value → H) :
    ReturnsInHanded {} Tryz.checked os 6 .any (fun w args => (Rows.nodesLimitsSpec.pre enc Tryz.prog Tryz.f6 [] false w args ∧ laidMetH Tryz.prog laid2 w) ∧ sizedMet enc Tryz.prog Tryz.f6 (OpenSpec.ofChange Rows.nodesLimitsSpec) false w args)
      (Rows.nodesLimitsSpec.post enc Tryz.prog Tryz.f6 false true false false) := by
  refine returnsInHanded_of_change_and (C := Tryz.checked) (X := fun w _ => laidMetH Tryz.prog laid2 w) (fun _ _ _ hh h => h.of_heap hh) own started (by kernel_rfl) Tryz.func6
    (ChangeSpec.witness_shaped (enc := enc) (C := Tryz.checked) (os := os) (X := fun w _ => laidMetH Tryz.prog laid2 w) false (World.doorLaid Tryz.prog 400 os) #[.agg #[.slice none 0 0, .int .i64 0]] 8 rfl (World.shaped_of_RefB (by kernel_rfl) (by kernel_rfl)) (by kernel_rfl) (by kernel_rfl) (by kernel_rfl) (door_met os _)) ?_
  intro W base args ds gs before hval0 hW _ _ hL _
  have hval : ∀ (j : Nat) t v, Tryz.f6.params[j]? = some t → args[j]? = some v → Value.okWide Tryz.prog W .any base t v := hval0
  have hW' := hW
  obtain ⟨p, q, hA0, hV, rfl, hfz, hnd⟩ := hW
  have hA : DataW.TrodAll enc Tryz.prog W 0 (fun _ => true) true Tryz.f6.params.toList args.toList ds p := hA0
  rw [Tryz.params6] at hA hval
  obtain ⟨v0, vs0, d0, ds0, p0, q0, hargs, rfl, rfl, h0, r0⟩ := trodAll_cons hA
  obtain ⟨rfl, rfl, rfl⟩ := trodAll_nil r0
  obtain rfl : args = #[v0] := by cases args; simp_all
  obtain ⟨rfl, rfl⟩ := trodVars_none hV
  have K0 := h0
  have lt0 : ∀ x ∈ p0, x.block < W.heap.size := by obtain ⟨m, hm⟩ := K0; exact DataW.trod_lt m _ _ _ hm
  obtain ⟨X0, a0, c0, rt0, rfl, w0⟩ := open_scene Tryz.underlying24 (by kernel_rfl) (by kernel_rfl) Tryz.underlying22 Tryz.underlying3 Tryz.underlying49 (by kernel_rfl) rfl rfl rfl rfl (by kernel_rfl) (by kernel_rfl) (by kernel_rfl) (by kernel_rfl) Tryz.underlying3 Tryz.underlying45 Tryz.underlying46 Tryz.underlying47 Tryz.underlying2 Tryz.underlying9 Tryz.underlying3 (by kernel_rfl) (by kernel_rfl) (by kernel_rfl) (hval 0 24 v0 rfl rfl) h0
  clear hA0 hval0
  refine (walk X0 a0 c0 rt0 W w0 (tabs_of hL)).mono fun e W' ⟨he, bel⟩ => ?_
  subst he
  exact ⟨_, rfl, _, _, _, [], _, [], hW', trodAll_mk1 (shut_bool Tryz.underlying4 _), (trodAll_cons_mk (Below.trod laidOut (by kernel_rfl) (of_decide_eq_true (by kernel_rfl)) K0 bel lt0) trodAll_mk0), rfl, bel.frame _, fun h => by cases h⟩
theorem row : Rows.nodesLimitsRow.holds Tryz.pinned (OpenSpec.ofChange Rows.nodesLimitsSpec) :=
  OpenClaim.holds_of_wide 6 Tryz.f6 rfl rfl rfl rfl rfl rfl rfl ⟨rfl, rfl, rfl, rfl, rfl⟩ rfl rfl rfl rfl rfl (by kernel_rfl) Tryz.func6 (by kernel_rfl)
    (of_decide_eq_true (by kernel_rfl)) (by unfold Func.isWrapper; first | (rw [if_pos (by decide +kernel)]; kernel_rfl) | (rw [if_neg (by decide +kernel)]; exact ⟨rfl, rfl⟩))
    (fun os started H enc _ => lifted os started H enc)
theorem plain (f : FuncId) (fn : Func) (hf : Tryz.pinned.checked.prog.funcNamed Rows.nodesLimitsRow.func = some f) (hfn : Tryz.pinned.checked.prog.funcs[f]? = some fn) :
    true = Tryz.pinned.checked.prog.looks [] ∧ ∀ (j : Nat) t, fn.params[j]? = some t → Tryz.pinned.checked.prog.wantsStandIn t = false := by
  obtain rfl : f = 6 := Option.some.inj ((show Tryz.prog.funcNamed Rows.nodesLimitsRow.func = some 6 by kernel_rfl).symm.trans hf) |>.symm
  obtain rfl : fn = Tryz.f6 := (Option.some.inj (Tryz.func6.symm.trans hfn)).symm
  refine ⟨by kernel_rfl, fun j t ht => ?_⟩
  have hm := Array.mem_of_getElem? ht
  have hall : (Tryz.f6.params.toList.all fun u => !Tryz.prog.wantsStandIn u) = true := by kernel_rfl
  exact (show Tryz.prog.wantsStandIn t = false by simpa using List.all_eq_true.1 hall t (by simpa using hm))
theorem over : Rows.NodesLimitsCardSaid :=
  Claim7.holds_tied_plain_at .later [] _ _ _ _ row (fun _ h => by cases h) (by kernel_rfl) (fun _ h => by cases h) nodesLimits_row_tie rfl ⟨rfl, rfl⟩ (by kernel_rfl) rfl plain (by kernel_rfl)
end Go.Proofs.YthfemhpbamcpjaaGreatDoor.nodesLimits
namespace Go.Proofs.YthfemhpbamcpjaaGreatDoor
theorem nodesLimits_holds : Rows.NodesLimitsCardSaid := nodesLimits.over
#print axioms nodesLimits_holds
end Go.Proofs.YthfemhpbamcpjaaGreatDoor
