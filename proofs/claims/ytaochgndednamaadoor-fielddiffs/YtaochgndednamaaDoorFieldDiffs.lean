/- For every two nodes: field's Diff answers the fields that the document says; set into the one node, they make its fields the other one's, and its kids stay (more than the law plays with is let go by the law itself); nothing that came in is changed. The package schema's tables hold what the program's text lays into them when the call begins (the card ties that). -/
import Derived.Test.YtaochgndednamaaDoorRows
import Derived.Test.YtaochgndednamaaDoorCards
import Derived.Test.YtaochgndednamaaDoorTie
import Derived.WalkKit
import Derived.ProofKit
import Derived.OpenShut
import Derived.ShutString
import Derived.Below
import Derived.Test.YtaochgndednamaaDoorFLaid
import Derived.Test.YtaochgndednamaaDoorAwake08b
import Derived.Test.YtaochgndednamaaDoorFIn
import Derived.Test.YtaochgndednamaaDoorFPure
import Derived.ChangeOld
import Derived.LaidMore
import Derived.SevenTiedAt
namespace Go.Proofs.YtaochgndednamaaDoor.fieldDiffs
open Go.ChangeShapes Go.WideShapes Go.ChangeAt Go.RowKit
open Go.ChangeMaps (open_string shut_string)
set_option linter.unusedVariables false

theorem own : ownKnob Tryd.prog.godebug = none := by kernel_rfl
theorem laidOut : laidOutB Tryd.prog = true := by kernel_rfl

/-- The two arguments' blocks. -/
structure B2 (w W : World) (cs ds : Array Value) : Prop where
  a : AtN 26 W w.heap.size cs
  b : AtN 26 W (w.heap.size + 1) ds
  t : Tabs8 W
  bel : Below w.heap.size w W
theorem B2.more {w W W' : World} {cs ds : Array Value} (h : B2 w W cs ds) (hb : Below W.heap.size W W') : B2 w W' cs ds := ⟨h.a.belowAll hb, h.b.belowAll hb, h.t.below hb, bjoin h.bel hb h.bel.size⟩
theorem B2.start (w : World) (cs ds : Array Value) (hT : Tabs8 w) : B2 w ((w.alloc (.cells cs 26)).alloc (.cells ds 26)) cs ds :=
  have hb : Below w.heap.size w ((w.alloc (.cells cs 26)).alloc (.cells ds 26)) := ((Below.refl w.heap.size w).alloc (Nat.le_refl _) _).alloc (by simp) _
  ⟨(AtN.new w 26 _).alloc _, mk_at (AtN.new (w.alloc _) 26 _) (show _ = w.heap.size + 1 by simp), hT.below hb, hb⟩
/-- The cells of both. -/
def C2 (w : World) (N0 : Nd) (a0 b0 k0 : Option Addr) (c0 d0 m0 : Nat) (N1 : Nd) (a1 b1 k1 : Option Addr) (c1 d1 m1 : Nat) (W : World) : Prop :=
  W.cell? ⟨w.heap.size, 0, none⟩ = some (.int .i64 N0.kind) ∧ W.cell? ⟨w.heap.size, 1, none⟩ = some (.slice a0 N0.ints.length c0) ∧ W.cell? ⟨w.heap.size, 2, none⟩ = some (.slice b0 N0.texts.length d0) ∧ W.cell? ⟨w.heap.size, 3, none⟩ = some (.slice k0 N0.kids.length m0) ∧ W.cell? ⟨w.heap.size + 1, 0, none⟩ = some (.int .i64 N1.kind) ∧ W.cell? ⟨w.heap.size + 1, 1, none⟩ = some (.slice a1 N1.ints.length c1) ∧ W.cell? ⟨w.heap.size + 1, 2, none⟩ = some (.slice b1 N1.texts.length d1) ∧ W.cell? ⟨w.heap.size + 1, 3, none⟩ = some (.slice k1 N1.kids.length m1)
theorem B2.cells {w W : World} {N0 : Nd} {a0 b0 k0 : Option Addr} {c0 d0 m0 : Nat} {N1 : Nd} {a1 b1 k1 : Option Addr} {c1 d1 m1 : Nat} (h : B2 w W #[.int .i64 N0.kind, .slice a0 N0.ints.length c0, .slice b0 N0.texts.length d0, .slice k0 N0.kids.length m0] #[.int .i64 N1.kind, .slice a1 N1.ints.length c1, .slice b1 N1.texts.length d1, .slice k1 N1.kids.length m1]) : C2 w N0 a0 b0 k0 c0 d0 m0 N1 a1 b1 k1 c1 d1 m1 W :=
  ⟨h.a.cell 0, h.a.cell 1, h.a.cell 2, h.a.cell 3, h.b.cell 0, h.b.cell 1, h.b.cell 2, h.b.cell 3⟩

set_option maxRecDepth 10000 in
set_option maxHeartbeats 400000 in
theorem walkG (N0 : Nd) (a0 b0 k0 : Option Addr) (c0 d0 m0 : Nat) (N1 : Nd) (a1 b1 k1 : Option Addr) (c1 d1 m1 : Nat) (w : World) (h0 : LsAt w b0 (tV N0.texts)) (h1 : LsAt w b1 (tV N1.texts)) (hT : Tabs8 w) (hg : great N0 = true ∨ great N0 = false ∧ great N1 = true) :
    Calls Tryd.prog 5 #[.agg #[.int .i64 N0.kind, .slice a0 N0.ints.length c0, .slice b0 N0.texts.length d0, .slice k0 N0.kids.length m0], .agg #[.int .i64 N1.kind, .slice a1 N1.ints.length c1, .slice b1 N1.texts.length d1, .slice k1 N1.kids.length m1]] w fun e w' => e = .returned (.bool true) ∧ Below w.heap.size w w' := by
  have HS : Hid _ := B2.start w #[.int .i64 N0.kind, .slice a0 N0.ints.length c0, .slice b0 N0.texts.length d0, .slice k0 N0.kids.length m0] #[.int .i64 N1.kind, .slice a1 N1.ints.length c1, .slice b1 N1.texts.length d1, .slice k1 N1.kids.length m1] hT
  have HA : Hid _ := fun (W : World) (t : Tabs8 W) => awake_any W t
  have HG : Hid _ := fun (W : World) (hb : Below w.heap.size w W) => great_any N0 a0 b0 k0 c0 d0 m0 W (h0.belowB hb)
  have HH : Hid _ := fun (W : World) (hb : Below w.heap.size w W) => great_any N1 a1 b1 k1 c1 d1 m1 W (h1.belowB hb)
  clear h0 h1 hT
  generalize great N0 = G at *
  generalize great N1 = H at *
  go_enter Tryd.func5, Tryd.ntmps5
  go_wp2_with fail
  refine (HA.out _ HS.out.t).mono ?_
  rintro e w2 ⟨rfl, b2⟩
  have S2 := HS.out.more b2
  obtain ⟨q0, q1, q2, q3, -, -, -, -⟩ := S2.cells
  have HS2 : Hid _ := S2
  clear S2 b2 HS
  go_wp2_with fail
  refine (HG.out _ HS2.out.bel).mono ?_
  rintro e w3 ⟨rfl, b3⟩
  have S3 := HS2.out.more b3
  obtain ⟨-, -, -, -, q0, q1, q2, q3⟩ := S3.cells
  have HS3 : Hid _ := S3
  clear S3 b3 HS2
  rcases hg with rfl | ⟨rfl, rfl⟩
  · go_wp2_with fail
    refine (HA.out _ HS3.out.t).mono ?_
    rintro e w4 ⟨rfl, b4⟩
    have HB4 : Hid _ := (HS3.out.more b4).bel
    clear b4
    go_wp2_with fail
    go_ret
    exact ⟨rfl, HB4.out⟩
  · go_wp2_with fail
    refine (HH.out _ HS3.out.bel).mono ?_
    rintro e w4 ⟨rfl, b4⟩
    have HS4 : Hid _ := HS3.out.more b4
    clear b4 HS3
    go_wp2_with fail
    refine (HA.out _ HS4.out.t).mono ?_
    rintro e w5 ⟨rfl, b5⟩
    have HB5 : Hid _ := (HS4.out.more b5).bel
    clear b5
    go_wp2_with fail
    go_ret
    exact ⟨rfl, HB5.out⟩

set_option maxRecDepth 10000 in
set_option maxHeartbeats 4000000 in
theorem walkF (N0 : Nd) (a0 b0 k0 : Option Addr) (c0 d0 m0 : Nat) (N1 : Nd) (a1 b1 k1 : Option Addr) (c1 d1 m1 : Nat) (w : World) (h : NdAt w N0 a0 b0 k0) (h' : NdAt w N1 a1 b1 k1) (hT : Tabs8 w) (hg : great N0 = false) (hg' : great N1 = false) :
    Calls Tryd.prog 5 #[.agg #[.int .i64 N0.kind, .slice a0 N0.ints.length c0, .slice b0 N0.texts.length d0, .slice k0 N0.kids.length m0], .agg #[.int .i64 N1.kind, .slice a1 N1.ints.length c1, .slice b1 N1.texts.length d1, .slice k1 N1.kids.length m1]] w fun e w' => e = .returned (.bool true) ∧ Below w.heap.size w w' := by
  have HS : Hid _ := B2.start w #[.int .i64 N0.kind, .slice a0 N0.ints.length c0, .slice b0 N0.texts.length d0, .slice k0 N0.kids.length m0] #[.int .i64 N1.kind, .slice a1 N1.ints.length c1, .slice b1 N1.texts.length d1, .slice k1 N1.kids.length m1] hT
  have HA : Hid _ := fun (W : World) (t : Tabs8 W) => awake_any W t
  have HG : Hid _ := fun (W : World) (hb : Below w.heap.size w W) => great_any N0 a0 b0 k0 c0 d0 m0 W (h.t.belowB hb)
  have HH : Hid _ := fun (W : World) (hb : Below w.heap.size w W) => great_any N1 a1 b1 k1 c1 d1 m1 W (h'.t.belowB hb)
  rw [hg] at HG
  rw [hg'] at HH
  obtain ⟨g1, g2, g3, -⟩ := great_no hg
  obtain ⟨j1, j2, j3, -⟩ := great_no hg'
  have H1 : Hid _ := fun (W : World) (hb : Below w.heap.size w W) => rcopy_any N0 a0 b0 k0 c0 d0 m0 W (h.belowB hb) g1 g2 g3
  have H2 : Hid _ := fun (W : World) (hb : Below w.heap.size w W) => rcopy_any N1 a1 b1 k1 c1 d1 m1 W (h'.belowB hb) j1 j2 j3
  have H3 : Hid _ := fun (u1 u2 u3 v1 v2 v3 : Option Addr) (e1 e2 e3 f1 f2 f3 : Nat) (W : World) (hN : NdAt W N0 u1 u2 u3) (hM : NdAt W N1 v1 v2 v3) => diff_any N0 N1 u1 u2 u3 v1 v2 v3 e1 e2 e3 f1 f2 f3 W hN hM g1 g2
  have H4 : Hid _ := fun (W : World) (hb : Below w.heap.size w W) => rdiff_any N0 N1 a0 b0 k0 a1 b1 k1 c0 d0 m0 c1 d1 m1 W (h.belowB hb) (h'.belowB hb) g1 g2
  have hLn := dL_len N0 N1 g1 g2
  have H5 : Hid _ := fun (u v : Option Addr) (e f : Nat) (W : World) (hu : LsAt W u (stV (dL N0 N1))) (hv : LsAt W v (stV (dL N0 N1))) => samesets_yes (dL N0 N1) u v e f W hu hv (by omega)
  have H6 : Hid (cmp N0 N1 = true → ∀ (u : Option Addr) (e : Nat) (W : World) (hb : Below w.heap.size w W) (hu : LsAt W u (stV (dL N0 N1))), Calls Tryd.prog 13 #[.agg #[.int .i64 N0.kind, .slice a0 N0.ints.length c0, .slice b0 N0.texts.length d0, .slice k0 N0.kids.length m0], .slice u (dL N0 N1).length e] W fun e w' =>
      ∃ p1 i1 p2 i2 p3 i3, e = .returned (.tuple #[.agg #[.int .i64 N0.kind, .slice p1 N1.ints.length i1, .slice p2 N1.texts.length i2, .slice p3 N0.kids.length i3], .int .i64 0]) ∧ NdAt w' ⟨N0.kind, N1.ints, N1.texts, N0.kids⟩ p1 p2 p3 ∧ Below W.heap.size W w') := fun hc u e W hb hu => by
    have := set_any N0 (dL N0 N1) a0 b0 k0 u c0 d0 m0 e W (h.belowB hb) hu g1 g2 g3 (by omega)
    rw [set_dL hc] at this
    refine Calls.mono this ?_
    rintro e w' ⟨p1, i1, p2, i2, p3, i3, rfl, hO, hb'⟩
    exact ⟨p1, i1, p2, i2, p3, i3, rfl, hO.ndAt, hb'⟩
  have H7 : Hid (cmp N0 N1 = true → ∀ (u1 u2 u3 v1 v2 : Option Addr) (e1 e2 e3 f1 f2 : Nat) (W : World) (hb : Below w.heap.size w W) (hN : NdAt W ⟨N0.kind, N1.ints, N1.texts, N0.kids⟩ u1 u2 u3) (hi : LsAt W v1 (iV N1.ints)) (ht : LsAt W v2 (tV N1.texts)), Calls Tryd.prog 15 #[.agg #[.int .i64 N0.kind, .slice u1 N1.ints.length e1, .slice u2 N1.texts.length e2, .slice u3 N0.kids.length e3], .agg #[.int .i64 N1.kind, .slice v1 N1.ints.length f1, .slice v2 N1.texts.length f2, .slice k0 N0.kids.length m0]] W fun e w' => e = .returned (.bool true) ∧ Below W.heap.size W w') := fun hc u1 u2 u3 v1 v2 e1 e2 e3 f1 f2 W hb hN hi ht => by
    rw [← (cmp_is hc).1]
    exact same8_yes ⟨N0.kind, N1.ints, N1.texts, N0.kids⟩ u1 u2 u3 v1 v2 k0 e1 e2 e3 f1 f2 m0 W hN ⟨hi, ht, h.k.belowB hb⟩ j1 j2 g3
  clear h h' hT hg hg'
  generalize cmp N0 N1 = q at *
  generalize dL N0 N1 = L at *
  go_enter Tryd.func5, Tryd.ntmps5
  go_wp2_with fail
  refine (HA.out _ HS.out.t).mono ?_
  rintro e w2 ⟨rfl, b2⟩
  have S2 := HS.out.more b2
  obtain ⟨q0, q1, q2, q3, -, -, -, -⟩ := S2.cells
  have HS2 : Hid _ := S2
  clear S2 b2 HS
  go_wp2_with fail
  refine (HG.out _ HS2.out.bel).mono ?_
  rintro e w3 ⟨rfl, b3⟩
  have S3 := HS2.out.more b3
  obtain ⟨-, -, -, -, q0, q1, q2, q3⟩ := S3.cells
  have HS3 : Hid _ := S3
  clear S3 b3 HS2
  go_wp2_with fail
  refine (HH.out _ HS3.out.bel).mono ?_
  rintro e w4 ⟨rfl, b4⟩
  have HS4 : Hid _ := HS3.out.more b4
  clear b4 HS3 q0 q1 q2 q3 HG HH HA
  go_wp2_with fail
  have R0 : B2 w w4.drew #[.int .i64 N0.kind, .slice a0 N0.ints.length c0, .slice b0 N0.texts.length d0, .slice k0 N0.kids.length m0] #[.int .i64 N1.kind, .slice a1 N1.ints.length c1, .slice b1 N1.texts.length d1, .slice k1 N1.kids.length m1] := HS4.out.more (Below.refl _ _).drew
  clear HS4
  go_region_held3 (fun W => W.cell? ⟨w.heap.size, 0, none⟩ = some (.int .i64 N0.kind) ∧ W.cell? ⟨w.heap.size, 1, none⟩ = some (.slice a0 N0.ints.length c0) ∧ W.cell? ⟨w.heap.size, 2, none⟩ = some (.slice b0 N0.texts.length d0) ∧ W.cell? ⟨w.heap.size, 3, none⟩ = some (.slice k0 N0.kids.length m0) ∧ W.cell? ⟨w.heap.size + 1, 0, none⟩ = some (.int .i64 N1.kind) ∧ W.cell? ⟨w.heap.size + 1, 1, none⟩ = some (.slice a1 N1.ints.length c1) ∧ W.cell? ⟨w.heap.size + 1, 2, none⟩ = some (.slice b1 N1.texts.length d1) ∧ W.cell? ⟨w.heap.size + 1, 3, none⟩ = some (.slice k1 N1.kids.length m1)) (first | exact R3.cells | exact R2.cells | exact R1.cells | exact R0.cells)
    ((first | (go_at_call 16; refine (H3.out _ _ _ _ _ _ _ _ _ _ _ _ _ hA5 hB5).mono ?_; rintro e w7 ⟨al, cl, rfl, hl7, b7⟩; have R3 := R2.more b7) | (go_at_call 11; refine (H2.out _ R1.bel).mono ?_; rintro e w6 ⟨v1, f1, v2, f2, v3, f3, rfl, hO6, b6⟩; have R2 := R1.more b6; have hA5 := hA4.belowB b6; have hB5 := hO6.ndAt) | (go_at_call 11; refine (H1.out _ R0.bel).mono ?_; rintro e w5 ⟨u1, e1, u2, e2, u3, e3, rfl, hO5, b5⟩; have R1 := R0.more b5; have hA4 := hO5.ndAt)))
  have HL7 : Hid _ := LsAt.of_own4 hl7
  obtain ⟨q0, q1, q2, q3, s0, s1, s2, s3⟩ := R3.cells
  have HS7 : Hid _ := R3
  clear R0 R1 R2 R3 hA4 hA5 hB5 hO5 hO6 hl7 b5 b6 b7 H1 H3
  go_wp2_with fail
  refine (H4.out _ HS7.out.bel).mono ?_
  rintro e w8 ⟨am, cm, rfl, hl8, b8⟩
  have HS8 : Hid _ := And.intro (HS7.out.more b8) (And.intro (LsAt.belowB HL7.out b8) (LsAt.of_own4 hl8))
  clear hl8 b8 HS7 HL7 q0 q1 q2 q3 s0 s1 s2 s3 H4
  cases q
  · go_wp2_with fail
    refine (H5.out _ _ _ _ _ HS8.out.2.1 HS8.out.2.2).mono ?_
    rintro e w9 ⟨rfl, b9⟩
    have HB9 : Hid _ := (HS8.out.1.more b9).bel
    clear b9 HS8
    go_wp2_with fail
    go_ret
    exact ⟨rfl, HB9.out⟩
  · go_wp2_with fail
    refine (H5.out _ _ _ _ _ HS8.out.2.1 HS8.out.2.2).mono ?_
    rintro e w9 ⟨rfl, b9⟩
    have S9 := HS8.out.1.more b9
    obtain ⟨q0, q1, q2, q3, -, -, -, -⟩ := S9.cells
    have HS9 : Hid _ := And.intro S9 (HS8.out.2.1.belowB b9)
    clear S9 b9 HS8 H5
    go_wp2_with fail
    refine (H6.out (by first | rfl | trivial) _ _ _ HS9.out.1.bel HS9.out.2).mono ?_
    rintro e w10 ⟨p1, i1, p2, i2, p3, i3, rfl, hN10, b10⟩
    have S10 := HS9.out.1.more b10
    have T10 := AtN.new w10 26 #[.int .i64 N0.kind, .slice p1 N1.ints.length i1, .slice p2 N1.texts.length i2, .slice p3 N0.kids.length i3]
    have M10 : Below w10.heap.size w10 (w10.alloc (.cells #[.int .i64 N0.kind, .slice p1 N1.ints.length i1, .slice p2 N1.texts.length i2, .slice p3 N0.kids.length i3] 26)) := (Below.refl _ _).alloc (Nat.le_refl _) _
    have la := S10.a.lt
    have lb := S10.b.lt
    obtain ⟨-, -, -, -, s0, s1, s2, s3⟩ := S10.cells
    have HS10 : Hid _ := And.intro (S10.more M10) (And.intro T10 (hN10.belowB M10))
    clear S10 T10 M10 hN10 b10 HS9 q0 q1 q2 q3 H6
    go_wp2_with fail
    refine (H2.out _ HS10.out.1.bel).mono ?_
    rintro e w11 ⟨v1, f1, v2, f2, v3, f3, rfl, hO11, b11⟩
    have S11 := HS10.out.1.more b11
    have T11 := HS10.out.2.1.belowAll b11
    have N11 := HS10.out.2.2.belowB b11
    have M11 : Below w11.heap.size w11 (w11.alloc (.cells #[.int .i64 N1.kind, .slice v1 N1.ints.length f1, .slice v2 N1.texts.length f2, .slice k0 N0.kids.length m0] 26)) := (Below.refl _ _).alloc (Nat.le_refl _) _
    have l0 := S11.a.lt
    have l1 := T11.lt
    obtain ⟨-, -, -, q3, -, -, -, -⟩ := S11.cells
    have t0 : w11.cell? ⟨w10.heap.size, 0, none⟩ = some (.int .i64 N0.kind) := T11.cell 0
    have t1 : w11.cell? ⟨w10.heap.size, 1, none⟩ = some (.slice p1 N1.ints.length i1) := T11.cell 1
    have t2 : w11.cell? ⟨w10.heap.size, 2, none⟩ = some (.slice p2 N1.texts.length i2) := T11.cell 2
    have t3 : w11.cell? ⟨w10.heap.size, 3, none⟩ = some (.slice p3 N0.kids.length i3) := T11.cell 3
    have HS11 : Hid _ := And.intro (S11.more M11) (And.intro (N11.belowB M11) (And.intro (hO11.ndAt.i.belowB M11) (hO11.ndAt.t.belowB M11)))
    clear S11 T11 N11 M11 hO11 b11 HS10 s0 s1 s2 s3 la lb
    go_wp2_with fail
    refine (H7.out (by first | rfl | trivial) _ _ _ _ _ _ _ _ _ _ _ HS11.out.1.bel HS11.out.2.1 HS11.out.2.2.1 HS11.out.2.2.2).mono ?_
    rintro e w12 ⟨rfl, b12⟩
    have HB : Hid _ := (HS11.out.1.more b12).bel
    clear b12 HS11
    go_wp2_with fail
    go_ret
    exact ⟨rfl, HB.out⟩

set_option maxRecDepth 10000 in
set_option maxHeartbeats 400000 in
theorem walk (N0 : Nd) (a0 b0 k0 : Option Addr) (c0 d0 m0 : Nat) (N1 : Nd) (a1 b1 k1 : Option Addr) (c1 d1 m1 : Nat) (w : World) (w0 : IsNd w N0 a0 b0 k0) (w1 : IsNd w N1 a1 b1 k1) (hT : Tabs8 w) :
    Calls Tryd.prog 5 #[.agg #[.int .i64 N0.kind, .slice a0 N0.ints.length c0, .slice b0 N0.texts.length d0, .slice k0 N0.kids.length m0], .agg #[.int .i64 N1.kind, .slice a1 N1.ints.length c1, .slice b1 N1.texts.length d1, .slice k1 N1.kids.length m1]] w fun e w' => e = .returned (.bool true) ∧ Below w.heap.size w w' := by
  cases hg : great N0 with
  | true => exact walkG N0 a0 b0 k0 c0 d0 m0 N1 a1 b1 k1 c1 d1 m1 w w0.1.t w1.1.t hT (.inl hg)
  | false =>
    cases hg' : great N1 with
    | true => exact walkG N0 a0 b0 k0 c0 d0 m0 N1 a1 b1 k1 c1 d1 m1 w w0.1.t w1.1.t hT (.inr ⟨hg, hg'⟩)
    | false => exact walkF N0 a0 b0 k0 c0 d0 m0 N1 a1 b1 k1 c1 d1 m1 w w0.1 w1.1 hT hg hg'

set_option maxRecDepth 100000 in
theorem lifted (os : Os) (started : os.Started) (H : Type) (enc : TypeId × Value → H) :
    ReturnsInHanded {} Tryd.checked os 5 .any (fun w args => (Rows.fieldDiffsSpec.pre enc Tryd.prog Tryd.f5 [] false w args ∧ laidMetH Tryd.prog laid2 w) ∧ sizedMet enc Tryd.prog Tryd.f5 (OpenSpec.ofChange Rows.fieldDiffsSpec) false w args)
      (Rows.fieldDiffsSpec.post enc Tryd.prog Tryd.f5 false true false false) := by
  refine returnsInHanded_of_change_and (C := Tryd.checked) (X := fun w _ => laidMetH Tryd.prog laid2 w) (fun _ _ _ hh h => h.of_heap hh) own started (by kernel_rfl) Tryd.func5
    (ChangeSpec.witness_shaped (enc := enc) (C := Tryd.checked) (os := os) (X := fun w _ => laidMetH Tryd.prog laid2 w) false (World.doorLaid Tryd.prog 400 os) #[.agg #[.int .i64 0, .slice none 0 0, .slice none 0 0, .slice none 0 0], .agg #[.int .i64 0, .slice none 0 0, .slice none 0 0, .slice none 0 0]] 8 rfl (World.shaped_of_RefB (by kernel_rfl) (by kernel_rfl)) (by kernel_rfl) (by kernel_rfl) (by kernel_rfl) (door_met os _)) ?_
  intro W base args ds gs before hval0 hW _ _ hL _
  have hval : ∀ (j : Nat) t v, Tryd.f5.params[j]? = some t → args[j]? = some v → Value.okWide Tryd.prog W .any base t v := hval0
  have hW' := hW
  obtain ⟨p, q, hA0, hV, rfl, hfz, hnd⟩ := hW
  have hA : DataW.TrodAll enc Tryd.prog W 0 (fun _ => true) true Tryd.f5.params.toList args.toList ds p := hA0
  rw [Tryd.params5] at hA hval
  obtain ⟨v0, vs0, d0, ds0, p0, q0, hargs, rfl, rfl, h0, r0⟩ := trodAll_cons hA
  obtain ⟨v1, vs1, d1, ds1, p1, q1, rfl, rfl, rfl, h1, r1⟩ := trodAll_cons r0
  obtain ⟨rfl, rfl, rfl⟩ := trodAll_nil r1
  obtain rfl : args = #[v0, v1] := by cases args; simp_all
  obtain ⟨rfl, rfl⟩ := trodVars_none hV
  have K0 := h0
  have lt0 : ∀ x ∈ p0, x.block < W.heap.size := by obtain ⟨m, hm⟩ := K0; exact DataW.trod_lt m _ _ _ hm
  obtain ⟨N0, a0, b0, k0, c0, d0, m0, rfl, w0⟩ := open_node Tryd.underlying26 (by kernel_rfl) (by kernel_rfl) Tryd.underlying3 Tryd.underlying22 Tryd.underlying23 Tryd.underlying24 Tryd.underlying2 Tryd.underlying9 Tryd.underlying3 (by kernel_rfl) (by kernel_rfl) (by kernel_rfl) (hval 0 26 v0 rfl rfl) h0
  have K1 := h1
  have lt1 : ∀ x ∈ p1, x.block < W.heap.size := by obtain ⟨m, hm⟩ := K1; exact DataW.trod_lt m _ _ _ hm
  obtain ⟨N1, a1, b1, k1, c1, d1, m1, rfl, w1⟩ := open_node Tryd.underlying26 (by kernel_rfl) (by kernel_rfl) Tryd.underlying3 Tryd.underlying22 Tryd.underlying23 Tryd.underlying24 Tryd.underlying2 Tryd.underlying9 Tryd.underlying3 (by kernel_rfl) (by kernel_rfl) (by kernel_rfl) (hval 1 26 v1 rfl rfl) h1
  clear hA0 hval0
  refine (walk N0 a0 b0 k0 c0 d0 m0 N1 a1 b1 k1 c1 d1 m1 W w0 w1 (tabs_of hL)).mono fun e W' ⟨he, bel⟩ => ?_
  subst he
  exact ⟨_, rfl, _, _, _, [], _, [], hW', trodAll_mk1 (shut_bool Tryd.underlying4 _), (trodAll_cons_mk (Below.trod laidOut (by kernel_rfl) (of_decide_eq_true (by kernel_rfl)) K0 bel lt0) (trodAll_cons_mk (Below.trod laidOut (by kernel_rfl) (of_decide_eq_true (by kernel_rfl)) K1 bel lt1) trodAll_mk0)), rfl, bel.frame _, fun h => by cases h⟩

theorem row : Rows.fieldDiffsRow.holds Tryd.pinned (OpenSpec.ofChange Rows.fieldDiffsSpec) :=
  OpenClaim.holds_of_wide 5 Tryd.f5 rfl rfl rfl rfl rfl rfl rfl ⟨rfl, rfl, rfl, rfl, rfl⟩ rfl rfl rfl rfl rfl (by kernel_rfl) Tryd.func5 (by kernel_rfl)
    (of_decide_eq_true (by kernel_rfl)) (by unfold Func.isWrapper; first | (rw [if_pos (by decide +kernel)]; kernel_rfl) | (rw [if_neg (by decide +kernel)]; exact ⟨rfl, rfl⟩))
    (fun os started H enc _ => lifted os started H enc)

/-- No parameter wants a stand-in; the program's own looks are off: what the card asks. -/
theorem plain (f : FuncId) (fn : Func) (hf : Tryd.pinned.checked.prog.funcNamed Rows.fieldDiffsRow.func = some f) (hfn : Tryd.pinned.checked.prog.funcs[f]? = some fn) :
    false = Tryd.pinned.checked.prog.looks [] ∧ ∀ (j : Nat) t, fn.params[j]? = some t → Tryd.pinned.checked.prog.wantsStandIn t = false := by
  obtain rfl : f = 5 := Option.some.inj ((show Tryd.prog.funcNamed Rows.fieldDiffsRow.func = some 5 by kernel_rfl).symm.trans hf) |>.symm
  obtain rfl : fn = Tryd.f5 := (Option.some.inj (Tryd.func5.symm.trans hfn)).symm
  refine ⟨by kernel_rfl, fun j t ht => ?_⟩
  have hm := Array.mem_of_getElem? ht
  have hall : (Tryd.f5.params.toList.all fun u => !Tryd.prog.wantsStandIn u) = true := by kernel_rfl
  exact (show Tryd.prog.wantsStandIn t = false by simpa using List.all_eq_true.1 hall t (by simpa using hm))

/-- ████ THE CARD ████ -/
theorem over : Rows.FieldDiffsCardSaid :=
  Claim7.holds_tied_plain_at .later [] _ _ _ _ row (fun _ h => by cases h) (by kernel_rfl) (fun _ h => by cases h) fieldDiffs_row_tie rfl ⟨rfl, rfl⟩ (by kernel_rfl) rfl plain (by kernel_rfl)

end Go.Proofs.YtaochgndednamaaDoor.fieldDiffs

namespace Go.Proofs.YtaochgndednamaaDoor
theorem fieldDiffs_holds : Rows.FieldDiffsCardSaid := fieldDiffs.over
#print axioms fieldDiffs_holds
end Go.Proofs.YtaochgndednamaaDoor
