/- For every node and every Spec: field's Check answers what the document says, OK or the error (more than the law plays with is let go by the law itself); nothing that came in is changed. The package schema's tables hold what the program's text lays into them when the call begins (the card ties that). -/
import Derived.Test.YtaochgndednamaaDoorRows
import Derived.Test.YtaochgndednamaaDoorCards
import Derived.Test.YtaochgndednamaaDoorTie
import Derived.WalkKit
import Derived.ProofKit
import Derived.OpenShut
import Derived.ShutString
import Derived.Below
import Derived.Test.YtaochgndednamaaDoorFLaid
import Derived.Test.YtaochgndednamaaDoorAwake08b
import Derived.Test.YtaochgndednamaaDoorFIn
import Derived.ChangeOld
import Derived.LaidMore
import Derived.SevenTiedAt
namespace Go.Proofs.YtaochgndednamaaDoor.fieldChecks
open Go.ChangeShapes Go.WideShapes Go.ChangeAt Go.RowKit
open Go.ChangeMaps (open_string shut_string)
set_option linter.unusedVariables false

theorem own : ownKnob Tryd.prog.godebug = none := by kernel_rfl
theorem laidOut : laidOutB Tryd.prog = true := by kernel_rfl

/-- The two arguments' blocks. -/
structure Bx (w W : World) (cs ds : Array Value) : Prop where
  a : AtN 26 W w.heap.size cs
  b : AtN 28 W (w.heap.size + 1) ds
  t : Tabs8 W
  bel : Below w.heap.size w W
theorem Bx.more {w W W' : World} {cs ds : Array Value} (h : Bx w W cs ds) (hb : Below W.heap.size W W') : Bx w W' cs ds := ⟨h.a.belowAll hb, h.b.belowAll hb, h.t.below hb, bjoin h.bel hb h.bel.size⟩
theorem Bx.start (w : World) (cs ds : Array Value) (hT : Tabs8 w) : Bx w ((w.alloc (.cells cs 26)).alloc (.cells ds 28)) cs ds :=
  have hb : Below w.heap.size w ((w.alloc (.cells cs 26)).alloc (.cells ds 28)) := ((Below.refl w.heap.size w).alloc (Nat.le_refl _) _).alloc (by simp) _
  ⟨(AtN.new w 26 _).alloc _, mk_at (AtN.new (w.alloc _) 28 _) (show _ = w.heap.size + 1 by simp), hT.below hb, hb⟩

set_option maxRecDepth 10000 in
set_option maxHeartbeats 400000 in
theorem walkG (N0 : Nd) (a0 b0 k0 : Option Addr) (c0 d0 m0 : Nat) (n1 : Nat) (a1 : Option Addr) (c1 : Nat) (x1 y1 z1 : Int) (w : World) (h : LsAt w b0 (tV N0.texts)) (hT : Tabs8 w) (hg : great N0 = true ∨ great N0 = false ∧ 200 < n1) :
    Calls Tryd.prog 3 #[.agg #[.int .i64 N0.kind, .slice a0 N0.ints.length c0, .slice b0 N0.texts.length d0, .slice k0 N0.kids.length m0], .agg #[.slice a1 n1 c1, .int .i64 x1, .int .i64 y1, .int .i64 z1]] w fun e w' => e = .returned (.bool true) ∧ Below w.heap.size w w' := by
  have HS : Hid _ := Bx.start w #[.int .i64 N0.kind, .slice a0 N0.ints.length c0, .slice b0 N0.texts.length d0, .slice k0 N0.kids.length m0] #[.slice a1 n1 c1, .int .i64 x1, .int .i64 y1, .int .i64 z1] hT
  have HL : Hid _ := h
  have HA : Hid _ := fun (W : World) (t : Tabs8 W) => awake_any W t
  have HG : Hid _ := fun (W : World) (hb : Below w.heap.size w W) => great_any N0 a0 b0 k0 c0 d0 m0 W (h.belowB hb)
  clear h hT
  generalize great N0 = G at *
  have key : ∀ (W : World), Bx w W #[.int .i64 N0.kind, .slice a0 N0.ints.length c0, .slice b0 N0.texts.length d0, .slice k0 N0.kids.length m0] #[.slice a1 n1 c1, .int .i64 x1, .int .i64 y1, .int .i64 z1] → W.cell? ⟨w.heap.size, 0, none⟩ = some (.int .i64 N0.kind) ∧ W.cell? ⟨w.heap.size, 1, none⟩ = some (.slice a0 N0.ints.length c0) ∧ W.cell? ⟨w.heap.size, 2, none⟩ = some (.slice b0 N0.texts.length d0) ∧ W.cell? ⟨w.heap.size, 3, none⟩ = some (.slice k0 N0.kids.length m0) ∧ W.cell? ⟨w.heap.size + 1, 0, none⟩ = some (.slice a1 n1 c1) := fun W h => ⟨h.a.cell 0, h.a.cell 1, h.a.cell 2, h.a.cell 3, h.b.cell 0⟩
  have HK : Hid _ := key
  clear key
  go_enter Tryd.func3, Tryd.ntmps3
  go_wp2_with fail
  refine (HA.out _ HS.out.t).mono ?_
  rintro e w2 ⟨rfl, b2⟩
  have S2 := HS.out.more b2
  obtain ⟨q0, q1, q2, q3, q4⟩ := HK.out _ S2
  have HS2 : Hid _ := S2
  clear S2 b2 HS
  go_wp2_with fail
  refine (HG.out _ HS2.out.bel).mono ?_
  rintro e w3 ⟨rfl, b3⟩
  have S3 := HS2.out.more b3
  obtain ⟨r0, r1, r2, r3, r4⟩ := HK.out _ S3
  have HS3 : Hid _ := S3
  clear S3 b3 HS2 q0 q1 q2 q3 q4
  rcases hg with rfl | ⟨rfl, hn⟩
  · go_wp2_with fail
    refine (HA.out _ HS3.out.t).mono ?_
    rintro e w4 ⟨rfl, b4⟩
    have HB4 : Hid _ := (HS3.out.more b4).bel
    clear b4
    go_wp2_with fail
    go_ret
    exact ⟨rfl, HB4.out⟩
  · have hn' : (200 : Int) < n1 := by omega
    go_wp2_with fail
    refine (HA.out _ HS3.out.t).mono ?_
    rintro e w4 ⟨rfl, b4⟩
    have HB4 : Hid _ := (HS3.out.more b4).bel
    clear b4
    go_wp2_with fail
    go_ret
    exact ⟨rfl, HB4.out⟩

set_option maxRecDepth 10000 in
set_option maxHeartbeats 1000000 in
theorem walkF (N0 : Nd) (a0 b0 k0 : Option Addr) (c0 d0 m0 : Nat) (C1 : List Int) (a1 : Option Addr) (c1 : Nat) (x1 y1 z1 : Int) (w : World) (h : IsNd w N0 a0 b0 k0) (hC : LsAt w a1 (iV C1)) (hT : Tabs8 w) (hg : great N0 = false) (hn : ¬ 200 < C1.length) :
    Calls Tryd.prog 3 #[.agg #[.int .i64 N0.kind, .slice a0 N0.ints.length c0, .slice b0 N0.texts.length d0, .slice k0 N0.kids.length m0], .agg #[.slice a1 C1.length c1, .int .i64 x1, .int .i64 y1, .int .i64 z1]] w fun e w' => e = .returned (.bool true) ∧ Below w.heap.size w w' := by
  have HS : Hid _ := Bx.start w #[.int .i64 N0.kind, .slice a0 N0.ints.length c0, .slice b0 N0.texts.length d0, .slice k0 N0.kids.length m0] #[.slice a1 C1.length c1, .int .i64 x1, .int .i64 y1, .int .i64 z1] hT
  obtain ⟨g1, g2, g3, g4⟩ := great_no hg
  have HA : Hid _ := fun (W : World) (t : Tabs8 W) => awake_any W t
  have HG : Hid (∀ (W : World) (hb : Below w.heap.size w W), Calls Tryd.prog 9 #[.agg #[.int .i64 N0.kind, .slice a0 N0.ints.length c0, .slice b0 N0.texts.length d0, .slice k0 N0.kids.length m0]] W fun e w' => e = .returned (.bool false) ∧ Below W.heap.size W w') := fun W hb => by
    have := great_any N0 a0 b0 k0 c0 d0 m0 W (h.1.t.belowB hb)
    rw [hg] at this
    exact this
  have H1 : Hid _ := fun (W : World) (hb : Below w.heap.size w W) => rcopy_any N0 a0 b0 k0 c0 d0 m0 W (h.1.belowB hb) g1 g2 g3
  have H2 : Hid _ := fun (W : World) (u1 u2 u3 : Option Addr) (e1 e2 e3 : Nat) (hN : NdAt W N0 u1 u2 u3) (hb : Below w.heap.size w W) => check_any N0 C1 x1 y1 z1 u1 u2 u3 a1 e1 e2 e3 c1 W hN (hC.belowB hb) (hT.below hb).s h.2 g1 g2 g4
  have H3 : Hid _ := fun (W : World) (hb : Below w.heap.size w W) => rcheck_any N0 C1 x1 y1 z1 a0 b0 k0 a1 c0 d0 m0 c1 W (h.1.belowB hb) (hC.belowB hb) h.2 g1 g2 g4
  have key : ∀ (W : World), Bx w W #[.int .i64 N0.kind, .slice a0 N0.ints.length c0, .slice b0 N0.texts.length d0, .slice k0 N0.kids.length m0] #[.slice a1 C1.length c1, .int .i64 x1, .int .i64 y1, .int .i64 z1] → W.cell? ⟨w.heap.size, 0, none⟩ = some (.int .i64 N0.kind) ∧ W.cell? ⟨w.heap.size, 1, none⟩ = some (.slice a0 N0.ints.length c0) ∧ W.cell? ⟨w.heap.size, 2, none⟩ = some (.slice b0 N0.texts.length d0) ∧ W.cell? ⟨w.heap.size, 3, none⟩ = some (.slice k0 N0.kids.length m0) ∧ W.cell? ⟨w.heap.size + 1, 0, none⟩ = some (.slice a1 C1.length c1) ∧ W.cell? ⟨w.heap.size + 1, 1, none⟩ = some (.int .i64 x1) ∧ W.cell? ⟨w.heap.size + 1, 2, none⟩ = some (.int .i64 y1) ∧ W.cell? ⟨w.heap.size + 1, 3, none⟩ = some (.int .i64 z1) := fun W h => ⟨h.a.cell 0, h.a.cell 1, h.a.cell 2, h.a.cell 3, h.b.cell 0, h.b.cell 1, h.b.cell 2, h.b.cell 3⟩
  have HK : Hid _ := key
  have hn' : ¬ (200 : Int) < C1.length := by omega
  clear key h hC hT g4 hg
  generalize chk N0 C1 x1 y1 z1 = V at *
  go_enter Tryd.func3, Tryd.ntmps3
  go_wp2_with fail
  refine (HA.out _ HS.out.t).mono ?_
  rintro e w2 ⟨rfl, b2⟩
  have S2 := HS.out.more b2
  obtain ⟨q0, q1, q2, q3, q4, -, -, -⟩ := HK.out _ S2
  have HS2 : Hid _ := S2
  clear S2 b2 HS
  go_wp2_with fail
  refine (HG.out _ HS2.out.bel).mono ?_
  rintro e w3 ⟨rfl, b3⟩
  have S3 := HS2.out.more b3
  obtain ⟨r0, r1, r2, r3, r4, -, -, -⟩ := HK.out _ S3
  have HS3 : Hid _ := S3
  clear S3 b3 HS2 q0 q1 q2 q3 q4
  go_wp2_with fail
  have R0 : Bx w w3.drew #[.int .i64 N0.kind, .slice a0 N0.ints.length c0, .slice b0 N0.texts.length d0, .slice k0 N0.kids.length m0] #[.slice a1 C1.length c1, .int .i64 x1, .int .i64 y1, .int .i64 z1] := HS3.out.more (Below.refl _ _).drew
  clear HS3 r0 r1 r2 r3 r4
  go_region_held3 (fun W => W.cell? ⟨w.heap.size, 0, none⟩ = some (.int .i64 N0.kind) ∧ W.cell? ⟨w.heap.size, 1, none⟩ = some (.slice a0 N0.ints.length c0) ∧ W.cell? ⟨w.heap.size, 2, none⟩ = some (.slice b0 N0.texts.length d0) ∧ W.cell? ⟨w.heap.size, 3, none⟩ = some (.slice k0 N0.kids.length m0) ∧ W.cell? ⟨w.heap.size + 1, 0, none⟩ = some (.slice a1 C1.length c1) ∧ W.cell? ⟨w.heap.size + 1, 1, none⟩ = some (.int .i64 x1) ∧ W.cell? ⟨w.heap.size + 1, 2, none⟩ = some (.int .i64 y1) ∧ W.cell? ⟨w.heap.size + 1, 3, none⟩ = some (.int .i64 z1)) (first | exact HK.out _ R3 | exact HK.out _ R2 | exact HK.out _ R1 | exact HK.out _ R0)
    ((first | (go_at_call 12; refine (H3.out _ R2.bel).mono ?_; rintro e w6 ⟨rfl, b6⟩; have R3 := R2.more b6) | (go_at_call 10; refine (H2.out _ _ _ _ _ _ _ hO.ndAt R1.bel).mono ?_; rintro e w5 ⟨rfl, b5⟩; have R2 := R1.more b5) | (go_at_call 11; refine (H1.out _ R0.bel).mono ?_; rintro e w4 ⟨u1, e1, u2, e2, u3, e3, rfl, hO, b4⟩; have R1 := R0.more b4)))
  go_wp2_with fail
  go_ret
  exact ⟨by simp, R3.bel⟩

set_option maxRecDepth 10000 in
set_option maxHeartbeats 400000 in
theorem walk (N0 : Nd) (a0 b0 k0 : Option Addr) (c0 d0 m0 : Nat) (C1 : List Int) (a1 : Option Addr) (c1 : Nat) (x1 y1 z1 : Int) (w : World) (w0 : IsNd w N0 a0 b0 k0) (w1 : LsAt w a1 (iV C1)) (hT : Tabs8 w) :
    Calls Tryd.prog 3 #[.agg #[.int .i64 N0.kind, .slice a0 N0.ints.length c0, .slice b0 N0.texts.length d0, .slice k0 N0.kids.length m0], .agg #[.slice a1 C1.length c1, .int .i64 x1, .int .i64 y1, .int .i64 z1]] w fun e w' => e = .returned (.bool true) ∧ Below w.heap.size w w' := by
  cases hg : great N0 with
  | true => exact walkG N0 a0 b0 k0 c0 d0 m0 C1.length a1 c1 x1 y1 z1 w w0.1.t hT (.inl hg)
  | false =>
    by_cases hn : 200 < C1.length
    · exact walkG N0 a0 b0 k0 c0 d0 m0 C1.length a1 c1 x1 y1 z1 w w0.1.t hT (.inr ⟨hg, hn⟩)
    · exact walkF N0 a0 b0 k0 c0 d0 m0 C1 a1 c1 x1 y1 z1 w w0 w1 hT hg hn

set_option maxRecDepth 100000 in
theorem lifted (os : Os) (started : os.Started) (H : Type) (enc : TypeId × Value → H) :
    ReturnsInHanded {} Tryd.checked os 3 .any (fun w args => (Rows.fieldChecksSpec.pre enc Tryd.prog Tryd.f3 [] false w args ∧ laidMetH Tryd.prog laid2 w) ∧ sizedMet enc Tryd.prog Tryd.f3 (OpenSpec.ofChange Rows.fieldChecksSpec) false w args)
      (Rows.fieldChecksSpec.post enc Tryd.prog Tryd.f3 false true false false) := by
  refine returnsInHanded_of_change_and (C := Tryd.checked) (X := fun w _ => laidMetH Tryd.prog laid2 w) (fun _ _ _ hh h => h.of_heap hh) own started (by kernel_rfl) Tryd.func3
    (ChangeSpec.witness_shaped (enc := enc) (C := Tryd.checked) (os := os) (X := fun w _ => laidMetH Tryd.prog laid2 w) false (World.doorLaid Tryd.prog 400 os) #[.agg #[.int .i64 0, .slice none 0 0, .slice none 0 0, .slice none 0 0], .agg #[.slice none 0 0, .int .i64 0, .int .i64 0, .int .i64 0]] 8 rfl (World.shaped_of_RefB (by kernel_rfl) (by kernel_rfl)) (by kernel_rfl) (by kernel_rfl) (by kernel_rfl) (door_met os _)) ?_
  intro W base args ds gs before hval0 hW _ _ hL _
  have hval : ∀ (j : Nat) t v, Tryd.f3.params[j]? = some t → args[j]? = some v → Value.okWide Tryd.prog W .any base t v := hval0
  have hW' := hW
  obtain ⟨p, q, hA0, hV, rfl, hfz, hnd⟩ := hW
  have hA : DataW.TrodAll enc Tryd.prog W 0 (fun _ => true) true Tryd.f3.params.toList args.toList ds p := hA0
  rw [Tryd.params3] at hA hval
  obtain ⟨v0, vs0, d0, ds0, p0, q0, hargs, rfl, rfl, h0, r0⟩ := trodAll_cons hA
  obtain ⟨v1, vs1, d1, ds1, p1, q1, rfl, rfl, rfl, h1, r1⟩ := trodAll_cons r0
  obtain ⟨rfl, rfl, rfl⟩ := trodAll_nil r1
  obtain rfl : args = #[v0, v1] := by cases args; simp_all
  obtain ⟨rfl, rfl⟩ := trodVars_none hV
  have K0 := h0
  have lt0 : ∀ x ∈ p0, x.block < W.heap.size := by obtain ⟨m, hm⟩ := K0; exact DataW.trod_lt m _ _ _ hm
  obtain ⟨N0, a0, b0, k0, c0, d0, m0, rfl, w0⟩ := open_node Tryd.underlying26 (by kernel_rfl) (by kernel_rfl) Tryd.underlying3 Tryd.underlying22 Tryd.underlying23 Tryd.underlying24 Tryd.underlying2 Tryd.underlying9 Tryd.underlying3 (by kernel_rfl) (by kernel_rfl) (by kernel_rfl) (hval 0 26 v0 rfl rfl) h0
  have K1 := h1
  have lt1 : ∀ x ∈ p1, x.block < W.heap.size := by obtain ⟨m, hm⟩ := K1; exact DataW.trod_lt m _ _ _ hm
  obtain ⟨C1, a1, c1, x1, y1, z1, rfl, w1⟩ := open_spec Tryd.underlying28 (by kernel_rfl) (by kernel_rfl) Tryd.underlying24 Tryd.underlying3 Tryd.underlying3 Tryd.underlying3 Tryd.underlying3 (by kernel_rfl) (hval 1 28 v1 rfl rfl) h1
  clear hA0 hval0
  refine (walk N0 a0 b0 k0 c0 d0 m0 C1 a1 c1 x1 y1 z1 W w0 w1 (tabs_of hL)).mono fun e W' ⟨he, bel⟩ => ?_
  subst he
  exact ⟨_, rfl, _, _, _, [], _, [], hW', trodAll_mk1 (shut_bool Tryd.underlying4 _), (trodAll_cons_mk (Below.trod laidOut (by kernel_rfl) (of_decide_eq_true (by kernel_rfl)) K0 bel lt0) (trodAll_cons_mk (Below.trod laidOut (by kernel_rfl) (of_decide_eq_true (by kernel_rfl)) K1 bel lt1) trodAll_mk0)), rfl, bel.frame _, fun h => by cases h⟩

theorem row : Rows.fieldChecksRow.holds Tryd.pinned (OpenSpec.ofChange Rows.fieldChecksSpec) :=
  OpenClaim.holds_of_wide 3 Tryd.f3 rfl rfl rfl rfl rfl rfl rfl ⟨rfl, rfl, rfl, rfl, rfl⟩ rfl rfl rfl rfl rfl (by kernel_rfl) Tryd.func3 (by kernel_rfl)
    (of_decide_eq_true (by kernel_rfl)) (by unfold Func.isWrapper; first | (rw [if_pos (by decide +kernel)]; kernel_rfl) | (rw [if_neg (by decide +kernel)]; exact ⟨rfl, rfl⟩))
    (fun os started H enc _ => lifted os started H enc)

/-- No parameter wants a stand-in; the program's own looks are off: what the card asks. -/
theorem plain (f : FuncId) (fn : Func) (hf : Tryd.pinned.checked.prog.funcNamed Rows.fieldChecksRow.func = some f) (hfn : Tryd.pinned.checked.prog.funcs[f]? = some fn) :
    false = Tryd.pinned.checked.prog.looks [] ∧ ∀ (j : Nat) t, fn.params[j]? = some t → Tryd.pinned.checked.prog.wantsStandIn t = false := by
  obtain rfl : f = 3 := Option.some.inj ((show Tryd.prog.funcNamed Rows.fieldChecksRow.func = some 3 by kernel_rfl).symm.trans hf) |>.symm
  obtain rfl : fn = Tryd.f3 := (Option.some.inj (Tryd.func3.symm.trans hfn)).symm
  refine ⟨by kernel_rfl, fun j t ht => ?_⟩
  have hm := Array.mem_of_getElem? ht
  have hall : (Tryd.f3.params.toList.all fun u => !Tryd.prog.wantsStandIn u) = true := by kernel_rfl
  exact (show Tryd.prog.wantsStandIn t = false by simpa using List.all_eq_true.1 hall t (by simpa using hm))

/-- ████ THE CARD ████ -/
theorem over : Rows.FieldChecksCardSaid :=
  Claim7.holds_tied_plain_at .later [] _ _ _ _ row (fun _ h => by cases h) (by kernel_rfl) (fun _ h => by cases h) fieldChecks_row_tie rfl ⟨rfl, rfl⟩ (by kernel_rfl) rfl plain (by kernel_rfl)

end Go.Proofs.YtaochgndednamaaDoor.fieldChecks

namespace Go.Proofs.YtaochgndednamaaDoor
theorem fieldChecks_holds : Rows.FieldChecksCardSaid := fieldChecks.over
#print axioms fieldChecks_holds
end Go.Proofs.YtaochgndednamaaDoor
