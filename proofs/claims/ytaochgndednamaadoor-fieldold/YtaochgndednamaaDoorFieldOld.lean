/- For every node and every number: field's Copy answers the same node, and what is written into the copy is not seen in the one that it was made of (more than the law plays with is let go by the law itself); nothing that came in is changed. The package schema's tables hold what the program's text lays into them when the call begins (the card ties that). -/
import Derived.Test.YtaochgndednamaaDoorRows
import Derived.Test.YtaochgndednamaaDoorCards
import Derived.Test.YtaochgndednamaaDoorTie
import Derived.WalkKit
import Derived.ProofKit
import Derived.OpenShut
import Derived.ShutString
import Derived.Below
import Derived.Test.YtaochgndednamaaDoorFLaid
import Derived.Test.YtaochgndednamaaDoorAwake08b
import Derived.Test.YtaochgndednamaaDoorFIn
import Derived.ChangeOld
import Derived.LaidMore
import Derived.SevenTiedAt
namespace Go.Proofs.YtaochgndednamaaDoor.fieldOld
open Go.ChangeShapes Go.WideShapes Go.ChangeAt Go.RowKit
open Go.ChangeMaps (open_string shut_string)
set_option linter.unusedVariables false

theorem own : ownKnob Tryd.prog.godebug = none := by kernel_rfl
theorem laidOut : laidOutB Tryd.prog = true := by kernel_rfl

/-- The argument's block. -/
structure B1 (w W : World) (cs : Array Value) : Prop where
  a : AtN 26 W w.heap.size cs
  t : Tabs8 W
  bel : Below w.heap.size w W
theorem B1.more {w W W' : World} {cs : Array Value} (h : B1 w W cs) (hb : Below W.heap.size W W') : B1 w W' cs := ⟨h.a.belowAll hb, h.t.below hb, bjoin h.bel hb h.bel.size⟩
theorem B1.start (w : World) (cs : Array Value) (hT : Tabs8 w) : B1 w (w.alloc (.cells cs 26)) cs :=
  have hb : Below w.heap.size w (w.alloc (.cells cs 26)) := (Below.refl w.heap.size w).alloc (Nat.le_refl _) _
  ⟨AtN.new w 26 _, hT.below hb, hb⟩

/-- While the copy is written into: V the world in which it was asked for. -/
structure OI (V W : World) (g : Nat) (N M : Nd) (u1 u2 u3 : Option Addr) (e1 e2 e3 : Nat) : Prop where
  c : AtN 26 W g #[.int .i64 N.kind, .slice u1 N.ints.length e1, .slice u2 N.texts.length e2, .slice u3 N.kids.length e3]
  own : OwnNd W V.heap.size M (.slice u1 N.ints.length e1) (.slice u2 N.texts.length e2) (.slice u3 N.kids.length e3)
  bel : Below V.heap.size V W
  li : M.ints.length = N.ints.length
  lt : M.texts.length = N.texts.length
  lk : M.kids.length = N.kids.length

set_option maxRecDepth 10000 in
set_option maxHeartbeats 400000 in
theorem walkG (N0 : Nd) (a0 b0 k0 : Option Addr) (c0 d0 m0 : Nat) (a1 : Int) (w : World) (h : LsAt w b0 (tV N0.texts)) (hT : Tabs8 w) (hg : great N0 = true) :
    Calls Tryd.prog 7 #[.agg #[.int .i64 N0.kind, .slice a0 N0.ints.length c0, .slice b0 N0.texts.length d0, .slice k0 N0.kids.length m0], .int .i64 a1] w fun e w' => e = .returned (.bool true) ∧ Below w.heap.size w w' := by
  have HS : Hid _ := B1.start w #[.int .i64 N0.kind, .slice a0 N0.ints.length c0, .slice b0 N0.texts.length d0, .slice k0 N0.kids.length m0] hT
  have HA : Hid _ := fun (W : World) (t : Tabs8 W) => awake_any W t
  have HG : Hid _ := fun (W : World) (hb : Below w.heap.size w W) => great_any N0 a0 b0 k0 c0 d0 m0 W (h.belowB hb)
  rw [hg] at HG
  clear h hT hg
  go_enter Tryd.func7, Tryd.ntmps7
  go_wp2_with fail
  refine (HA.out _ HS.out.t).mono ?_
  rintro e w2 ⟨rfl, b2⟩
  have S2 := HS.out.more b2
  have q0 : w2.cell? ⟨w.heap.size, 0, none⟩ = some (.int .i64 N0.kind) := S2.a.cell 0
  have q1 : w2.cell? ⟨w.heap.size, 1, none⟩ = some (.slice a0 N0.ints.length c0) := S2.a.cell 1
  have q2 : w2.cell? ⟨w.heap.size, 2, none⟩ = some (.slice b0 N0.texts.length d0) := S2.a.cell 2
  have q3 : w2.cell? ⟨w.heap.size, 3, none⟩ = some (.slice k0 N0.kids.length m0) := S2.a.cell 3
  have HS2 : Hid _ := S2
  clear S2 b2 HS
  go_wp2_with fail
  refine (HG.out _ HS2.out.bel).mono ?_
  rintro e w3 ⟨rfl, b3⟩
  have HS3 : Hid _ := HS2.out.more b3
  clear b3 HS2 q0 q1 q2 q3
  go_wp2_with fail
  refine (HA.out _ HS3.out.t).mono ?_
  rintro e w4 ⟨rfl, b4⟩
  have HB4 : Hid _ := (HS3.out.more b4).bel
  clear b4
  go_wp2_with fail
  go_ret
  exact ⟨rfl, HB4.out⟩

set_option maxRecDepth 10000 in
set_option maxHeartbeats 2000000 in
theorem walkF (N0 : Nd) (a0 b0 k0 : Option Addr) (c0 d0 m0 : Nat) (a1 : Int) (w : World) (h : NdAt w N0 a0 b0 k0) (hT : Tabs8 w) (hg : great N0 = false) :
    Calls Tryd.prog 7 #[.agg #[.int .i64 N0.kind, .slice a0 N0.ints.length c0, .slice b0 N0.texts.length d0, .slice k0 N0.kids.length m0], .int .i64 a1] w fun e w' => e = .returned (.bool true) ∧ Below w.heap.size w w' := by
  have HS : Hid _ := B1.start w #[.int .i64 N0.kind, .slice a0 N0.ints.length c0, .slice b0 N0.texts.length d0, .slice k0 N0.kids.length m0] hT
  have HA : Hid _ := fun (W : World) (t : Tabs8 W) => awake_any W t
  have HG : Hid _ := fun (W : World) (hb : Below w.heap.size w W) => great_any N0 a0 b0 k0 c0 d0 m0 W (h.t.belowB hb)
  rw [hg] at HG
  obtain ⟨g1, g2, g3, -⟩ := great_no hg
  have HR : Hid _ := fun (W : World) (hb : Below w.heap.size w W) => rcopy_any N0 a0 b0 k0 c0 d0 m0 W (h.belowB hb) g1 g2 g3
  have HC : Hid _ := fun (u1 u2 u3 : Option Addr) (e1 e2 e3 : Nat) (W : World) (hN : NdAt W N0 u1 u2 u3) => copy_any N0 u1 u2 u3 e1 e2 e3 W hN g1 g2 g3
  have HM : Hid _ := fun (u1 u2 u3 : Option Addr) (e1 e2 e3 : Nat) (W : World) (hN : NdAt W N0 u1 u2 u3) (hb : Below w.heap.size w W) => same8_yes N0 u1 u2 u3 a0 b0 k0 e1 e2 e3 c0 d0 m0 W hN (h.belowB hb) g1 g2 g3
  clear h hT hg
  go_enter Tryd.func7, Tryd.ntmps7
  go_wp2_with fail
  refine (HA.out _ HS.out.t).mono ?_
  rintro e w2 ⟨rfl, b2⟩
  have S2 := HS.out.more b2
  have q0 : w2.cell? ⟨w.heap.size, 0, none⟩ = some (.int .i64 N0.kind) := S2.a.cell 0
  have q1 : w2.cell? ⟨w.heap.size, 1, none⟩ = some (.slice a0 N0.ints.length c0) := S2.a.cell 1
  have q2 : w2.cell? ⟨w.heap.size, 2, none⟩ = some (.slice b0 N0.texts.length d0) := S2.a.cell 2
  have q3 : w2.cell? ⟨w.heap.size, 3, none⟩ = some (.slice k0 N0.kids.length m0) := S2.a.cell 3
  have HS2 : Hid _ := S2
  clear S2 b2 HS
  go_wp2_with fail
  refine (HG.out _ HS2.out.bel).mono ?_
  rintro e w3 ⟨rfl, b3⟩
  have S3 := HS2.out.more b3
  have q0 : w3.cell? ⟨w.heap.size, 0, none⟩ = some (.int .i64 N0.kind) := S3.a.cell 0
  have q1 : w3.cell? ⟨w.heap.size, 1, none⟩ = some (.slice a0 N0.ints.length c0) := S3.a.cell 1
  have q2 : w3.cell? ⟨w.heap.size, 2, none⟩ = some (.slice b0 N0.texts.length d0) := S3.a.cell 2
  have q3 : w3.cell? ⟨w.heap.size, 3, none⟩ = some (.slice k0 N0.kids.length m0) := S3.a.cell 3
  have HS3 : Hid _ := S3
  clear S3 b3 HS2
  go_wp2_with fail
  refine (HR.out _ HS3.out.bel).mono ?_
  rintro e w4 ⟨u1, e1, u2, e2, u3, e3, rfl, hO4, b4⟩
  have S4 := HS3.out.more b4
  have HS4 : Hid _ := And.intro S4 hO4.ndAt
  clear S4 hO4 b4 HS3
  go_wp2_with fail
  refine (HC.out _ _ _ _ _ _ _ HS4.out.2).mono ?_
  rintro e w5 ⟨p1, i1, p2, i2, p3, i3, rfl, hO5, b5⟩
  have S5 := (HS4.out.1.more b5).more ((Below.refl w5.heap.size w5).alloc (Nat.le_refl _) (.cells #[.int .i64 N0.kind, .slice p1 N0.ints.length i1, .slice p2 N0.texts.length i2, .slice p3 N0.kids.length i3] 26))
  have T5 := AtN.new w5 26 #[.int .i64 N0.kind, .slice p1 N0.ints.length i1, .slice p2 N0.texts.length i2, .slice p3 N0.kids.length i3]
  have N5 := hO5.ndAt.alloc (.cells #[.int .i64 N0.kind, .slice p1 N0.ints.length i1, .slice p2 N0.texts.length i2, .slice p3 N0.kids.length i3] 26)
  have l5 : w.heap.size < w5.heap.size := (HS4.out.1.more b5).a.lt
  have q0 : w5.cell? ⟨w.heap.size, 0, none⟩ = some (.int .i64 N0.kind) := (HS4.out.1.more b5).a.cell 0
  have q1 : w5.cell? ⟨w.heap.size, 1, none⟩ = some (.slice a0 N0.ints.length c0) := (HS4.out.1.more b5).a.cell 1
  have q2 : w5.cell? ⟨w.heap.size, 2, none⟩ = some (.slice b0 N0.texts.length d0) := (HS4.out.1.more b5).a.cell 2
  have q3 : w5.cell? ⟨w.heap.size, 3, none⟩ = some (.slice k0 N0.kids.length m0) := (HS4.out.1.more b5).a.cell 3
  have HS5 : Hid _ := And.intro S5 (And.intro T5 N5)
  clear S5 T5 N5 hO5 b5 HS4
  go_wp2_with fail
  refine (HR.out _ HS5.out.1.bel).mono ?_
  rintro e w6 ⟨u1, e1, u2, e2, u3, e3, rfl, hO6, b6⟩
  have M6 : Below (w5.alloc (.cells #[.int .i64 N0.kind, .slice p1 N0.ints.length i1, .slice p2 N0.texts.length i2, .slice p3 N0.kids.length i3] 26)).heap.size (w5.alloc (.cells #[.int .i64 N0.kind, .slice p1 N0.ints.length i1, .slice p2 N0.texts.length i2, .slice p3 N0.kids.length i3] 26)) (w6.alloc (.cells #[.int .i64 N0.kind, .slice u1 N0.ints.length e1, .slice u2 N0.texts.length e2, .slice u3 N0.kids.length e3] 26)) := balloc b6 b6.size _
  have S6 := HS5.out.1.more M6
  have T6 := HS5.out.2.1.belowAll M6
  have N6 := HS5.out.2.2.belowB M6
  have U6 := AtN.new w6 26 #[.int .i64 N0.kind, .slice u1 N0.ints.length e1, .slice u2 N0.texts.length e2, .slice u3 N0.kids.length e3]
  have V6 := hO6.ndAt.alloc (.cells #[.int .i64 N0.kind, .slice u1 N0.ints.length e1, .slice u2 N0.texts.length e2, .slice u3 N0.kids.length e3] 26)
  have HS6 : Hid _ := And.intro S6 (And.intro T6 (And.intro N6 (And.intro U6 V6)))
  clear S6 T6 N6 U6 V6 hO6 b6 HS5 M6 q0 q1 q2 q3
  go_wp2_with fail
  generalize w6.alloc (.cells #[.int .i64 N0.kind, .slice u1 N0.ints.length e1, .slice u2 N0.texts.length e2, .slice u3 N0.kids.length e3] 26) = V at *
  refine (HC.out _ _ _ _ _ _ _ HS6.out.2.2.2.2).mono ?_
  rintro e w7 ⟨v1, j1, v2, j2, v3, j3, rfl, hO7, b7⟩
  have I0 : OI V (w7.alloc (.cells #[.int .i64 N0.kind, .slice v1 N0.ints.length j1, .slice v2 N0.texts.length j2, .slice v3 N0.kids.length j3] 26)) w7.heap.size N0 N0 v1 v2 v3 j1 j2 j3 := ⟨AtN.new w7 26 _, hO7.alloc _, balloc b7 b7.size _, rfl, rfl, rfl⟩
  have HI : Hid _ := I0
  clear I0 hO7 b7
  go_wp2_with fail
  go_loopw [28] (fun iv wr => ∃ (i : Nat) (M : Nd), iv = .int .i64 i ∧ i ≤ N0.ints.length ∧ OI V wr w7.heap.size N0 M v1 v2 v3 j1 j2 j3) (fun iv _ => N0.ints.length - (intOf iv).toNat)
  case atStart => exact ⟨0, _, rfl, by omega, HI.out⟩
  case round =>
    clear HI
    obtain ⟨i, M, rfl, hi, hI⟩ := hrel
    have x1 : wr.cell? ⟨w7.heap.size, 1, none⟩ = some (.slice v1 N0.ints.length j1) := hI.c.cell 1
    by_cases hlt : i < N0.ints.length
    · have hlt' : (i : Int) < N0.ints.length := by omega
      obtain ⟨g, u, rfl, s1, s2, s3, s4, s5⟩ := hI.own.storeI hI.li i hlt
      have hg := s4 _ _ _ (by decide) hI.c
      have HI : Hid _ := (⟨hI.c.setOther _ hg _, s5 a1, set_below hI.bel _ s3 _, by simpa using hI.li, hI.lt, hI.lk⟩ : OI V (wr.setCell ⟨g, i, none⟩ (.int .i64 a1)) w7.heap.size N0 ⟨M.kind, M.ints.set i a1, M.texts, M.kids⟩ (some ⟨g, 0, none⟩) v2 v3 j1 j2 j3)
      clear hI s4 s5 HS6 HA HG HR HC HM
      go_wp2_with fail
      go_roundw
      case rel => exact ⟨i + 1, _, by go_num, by omega, HI.out⟩
      case measure => simp [intOf]; omega
    · have hlt' : ¬ (i : Int) < N0.ints.length := by omega
      have x2 : wr.cell? ⟨w7.heap.size, 2, none⟩ = some (.slice v2 N0.texts.length j2) := hI.c.cell 2
      have HI : Hid _ := hI
      clear hI
      go_wp2_with fail
      go_loopw [40] (fun iv wr => ∃ (i : Nat) (M : Nd), iv = .int .i64 i ∧ i ≤ N0.texts.length ∧ OI V wr w7.heap.size N0 M v1 v2 v3 j1 j2 j3) (fun iv _ => N0.texts.length - (intOf iv).toNat)
      case atStart => exact ⟨0, _, rfl, by omega, HI.out⟩
      case round =>
        clear HI x1 x2
        obtain ⟨i, M, rfl, hi, hI⟩ := hrel
        have x2 : wr.cell? ⟨w7.heap.size, 2, none⟩ = some (.slice v2 N0.texts.length j2) := hI.c.cell 2
        by_cases hlt : i < N0.texts.length
        · have hlt' : (i : Int) < N0.texts.length := by omega
          obtain ⟨g, u, rfl, s1, s2, s3, s4, s5⟩ := hI.own.storeT hI.lt i hlt
          have hg := s4 _ _ _ (by decide) hI.c
          have HI : Hid _ := (⟨hI.c.setOther _ hg _, s5 ⟨#[120]⟩, set_below hI.bel _ s3 _, hI.li, by simpa using hI.lt, hI.lk⟩ : OI V (wr.setCell ⟨g, i, none⟩ (.string ⟨#[120]⟩)) w7.heap.size N0 ⟨M.kind, M.ints, M.texts.set i ⟨#[120]⟩, M.kids⟩ v1 (some ⟨g, 0, none⟩) v3 j1 j2 j3)
          clear hI s4 s5 HS6 HA HG HR HC HM
          go_wp2_with fail
          go_roundw
          case rel => exact ⟨i + 1, _, by go_num, by omega, HI.out⟩
          case measure => simp [intOf]; omega
        · have hlt' : ¬ (i : Int) < N0.texts.length := by omega
          have x3 : wr.cell? ⟨w7.heap.size, 3, none⟩ = some (.slice v3 N0.kids.length j3) := hI.c.cell 3
          have HI : Hid _ := hI
          clear hI
          go_wp2_with fail
          go_loopw [51] (fun iv wr => ∃ (i : Nat) (M : Nd), iv = .int .i64 i ∧ i ≤ N0.kids.length ∧ OI V wr w7.heap.size N0 M v1 v2 v3 j1 j2 j3) (fun iv _ => N0.kids.length - (intOf iv).toNat)
          case atStart => exact ⟨0, _, rfl, by omega, HI.out⟩
          case round =>
            clear HI x2 x3
            obtain ⟨i, M, rfl, hi, hI⟩ := hrel
            have x3 : wr.cell? ⟨w7.heap.size, 3, none⟩ = some (.slice v3 N0.kids.length j3) := hI.c.cell 3
            by_cases hlt : i < N0.kids.length
            · have hlt' : (i : Int) < N0.kids.length := by omega
              obtain ⟨g, u, rfl, s1, s2, s3, s4, s5⟩ := hI.own.storeK hI.lk i hlt
              have hg := s4 _ _ _ (by decide) hI.c
              have HI : Hid _ := (⟨hI.c.setOther _ hg _, s5 (-1), set_below hI.bel _ s3 _, hI.li, hI.lt, by simpa using hI.lk⟩ : OI V (wr.setCell ⟨g, i, none⟩ (.int .i64 (-1))) w7.heap.size N0 ⟨M.kind, M.ints, M.texts, M.kids.set i (-1)⟩ v1 v2 (some ⟨g, 0, none⟩) j1 j2 j3)
              clear hI s4 s5 HS6 HA HG HR HC HM
              go_wp2_with fail
              go_roundw
              case rel => exact ⟨i + 1, _, by go_num, by omega, HI.out⟩
              case measure => simp [intOf]; omega
            · have hlt' : ¬ (i : Int) < N0.kids.length := by omega
              have S8 := HS6.out.1.more hI.bel
              have T8 := HS6.out.2.1.belowAll hI.bel
              have N8 := HS6.out.2.2.1.belowB hI.bel
              have U8 := HS6.out.2.2.2.1.belowAll hI.bel
              have V8 := HS6.out.2.2.2.2.belowB hI.bel
              have q0 : wr.cell? ⟨w.heap.size, 0, none⟩ = some (.int .i64 N0.kind) := S8.a.cell 0
              have q1 : wr.cell? ⟨w.heap.size, 1, none⟩ = some (.slice a0 N0.ints.length c0) := S8.a.cell 1
              have q2 : wr.cell? ⟨w.heap.size, 2, none⟩ = some (.slice b0 N0.texts.length d0) := S8.a.cell 2
              have q3 : wr.cell? ⟨w.heap.size, 3, none⟩ = some (.slice k0 N0.kids.length m0) := S8.a.cell 3
              have r0 : wr.cell? ⟨w5.heap.size, 0, none⟩ = some (.int .i64 N0.kind) := T8.cell 0
              have r1 : wr.cell? ⟨w5.heap.size, 1, none⟩ = some (.slice p1 N0.ints.length i1) := T8.cell 1
              have r2 : wr.cell? ⟨w5.heap.size, 2, none⟩ = some (.slice p2 N0.texts.length i2) := T8.cell 2
              have r3 : wr.cell? ⟨w5.heap.size, 3, none⟩ = some (.slice p3 N0.kids.length i3) := T8.cell 3
              have HS8 : Hid _ := And.intro S8 (And.intro U8 (And.intro N8 V8))
              clear S8 T8 N8 U8 V8 hI HS6 x3
              go_wp2_with fail
              refine (HM.out _ _ _ _ _ _ _ HS8.out.2.2.1 HS8.out.1.bel).mono ?_
              rintro e w9 ⟨rfl, b9⟩
              have S9 := HS8.out.1.more b9
              have U9 := HS8.out.2.1.belowAll b9
              have q0 : w9.cell? ⟨w.heap.size, 0, none⟩ = some (.int .i64 N0.kind) := S9.a.cell 0
              have q1 : w9.cell? ⟨w.heap.size, 1, none⟩ = some (.slice a0 N0.ints.length c0) := S9.a.cell 1
              have q2 : w9.cell? ⟨w.heap.size, 2, none⟩ = some (.slice b0 N0.texts.length d0) := S9.a.cell 2
              have q3 : w9.cell? ⟨w.heap.size, 3, none⟩ = some (.slice k0 N0.kids.length m0) := S9.a.cell 3
              have r0 : w9.cell? ⟨w6.heap.size, 0, none⟩ = some (.int .i64 N0.kind) := U9.cell 0
              have r1 : w9.cell? ⟨w6.heap.size, 1, none⟩ = some (.slice u1 N0.ints.length e1) := U9.cell 1
              have r2 : w9.cell? ⟨w6.heap.size, 2, none⟩ = some (.slice u2 N0.texts.length e2) := U9.cell 2
              have r3 : w9.cell? ⟨w6.heap.size, 3, none⟩ = some (.slice u3 N0.kids.length e3) := U9.cell 3
              have HS9 : Hid _ := And.intro S9 (HS8.out.2.2.2.belowB b9)
              clear S9 U9 HS8 b9
              go_wp2_with fail
              refine (HM.out _ _ _ _ _ _ _ HS9.out.2 HS9.out.1.bel).mono ?_
              rintro e w10 ⟨rfl, b10⟩
              have HB : Hid _ := (HS9.out.1.more b10).bel
              clear HS9 b10
              go_wp2_with fail
              go_ret
              exact ⟨rfl, HB.out⟩

set_option maxRecDepth 10000 in
set_option maxHeartbeats 400000 in
theorem walk (N0 : Nd) (a0 b0 k0 : Option Addr) (c0 d0 m0 : Nat) (a1 : Int) (w : World) (w0 : IsNd w N0 a0 b0 k0) (w1 : (Lit.int .i64 a1).wf = true) (hT : Tabs8 w) :
    Calls Tryd.prog 7 #[.agg #[.int .i64 N0.kind, .slice a0 N0.ints.length c0, .slice b0 N0.texts.length d0, .slice k0 N0.kids.length m0], .int .i64 a1] w fun e w' => e = .returned (.bool true) ∧ Below w.heap.size w w' := by
  cases hg : great N0 with
  | true => exact walkG N0 a0 b0 k0 c0 d0 m0 a1 w w0.1.t hT hg
  | false => exact walkF N0 a0 b0 k0 c0 d0 m0 a1 w w0.1 hT hg

set_option maxRecDepth 100000 in
theorem lifted (os : Os) (started : os.Started) (H : Type) (enc : TypeId × Value → H) :
    ReturnsInHanded {} Tryd.checked os 7 .any (fun w args => (Rows.fieldOldSpec.pre enc Tryd.prog Tryd.f7 [] false w args ∧ laidMetH Tryd.prog laid2 w) ∧ sizedMet enc Tryd.prog Tryd.f7 (OpenSpec.ofChange Rows.fieldOldSpec) false w args)
      (Rows.fieldOldSpec.post enc Tryd.prog Tryd.f7 false true false false) := by
  refine returnsInHanded_of_change_and (C := Tryd.checked) (X := fun w _ => laidMetH Tryd.prog laid2 w) (fun _ _ _ hh h => h.of_heap hh) own started (by kernel_rfl) Tryd.func7
    (ChangeSpec.witness_shaped (enc := enc) (C := Tryd.checked) (os := os) (X := fun w _ => laidMetH Tryd.prog laid2 w) false (World.doorLaid Tryd.prog 400 os) #[.agg #[.int .i64 0, .slice none 0 0, .slice none 0 0, .slice none 0 0], .int .i64 0] 8 rfl (World.shaped_of_RefB (by kernel_rfl) (by kernel_rfl)) (by kernel_rfl) (by kernel_rfl) (by kernel_rfl) (door_met os _)) ?_
  intro W base args ds gs before hval0 hW _ _ hL _
  have hval : ∀ (j : Nat) t v, Tryd.f7.params[j]? = some t → args[j]? = some v → Value.okWide Tryd.prog W .any base t v := hval0
  have hW' := hW
  obtain ⟨p, q, hA0, hV, rfl, hfz, hnd⟩ := hW
  have hA : DataW.TrodAll enc Tryd.prog W 0 (fun _ => true) true Tryd.f7.params.toList args.toList ds p := hA0
  rw [Tryd.params7] at hA hval
  obtain ⟨v0, vs0, d0, ds0, p0, q0, hargs, rfl, rfl, h0, r0⟩ := trodAll_cons hA
  obtain ⟨v1, vs1, d1, ds1, p1, q1, rfl, rfl, rfl, h1, r1⟩ := trodAll_cons r0
  obtain ⟨rfl, rfl, rfl⟩ := trodAll_nil r1
  obtain rfl : args = #[v0, v1] := by cases args; simp_all
  obtain ⟨rfl, rfl⟩ := trodVars_none hV
  have K0 := h0
  have lt0 : ∀ x ∈ p0, x.block < W.heap.size := by obtain ⟨m, hm⟩ := K0; exact DataW.trod_lt m _ _ _ hm
  obtain ⟨N0, a0, b0, k0, c0, d0, m0, rfl, w0⟩ := open_node Tryd.underlying26 (by kernel_rfl) (by kernel_rfl) Tryd.underlying3 Tryd.underlying22 Tryd.underlying23 Tryd.underlying24 Tryd.underlying2 Tryd.underlying9 Tryd.underlying3 (by kernel_rfl) (by kernel_rfl) (by kernel_rfl) (hval 0 26 v0 rfl rfl) h0
  obtain ⟨a1, rfl, rfl, rfl, w1⟩ := open_int Tryd.underlying2 (hval 1 2 v1 rfl rfl) h1
  clear hA0 hval0
  refine (walk N0 a0 b0 k0 c0 d0 m0 a1 W w0 w1 (tabs_of hL)).mono fun e W' ⟨he, bel⟩ => ?_
  subst he
  exact ⟨_, rfl, _, _, _, [], _, [], hW', trodAll_mk1 (shut_bool Tryd.underlying4 _), (trodAll_cons_mk (Below.trod laidOut (by kernel_rfl) (of_decide_eq_true (by kernel_rfl)) K0 bel lt0) (trodAll_cons_mk (shut_int Tryd.underlying2 w1) trodAll_mk0)), rfl, bel.frame _, fun h => by cases h⟩

theorem row : Rows.fieldOldRow.holds Tryd.pinned (OpenSpec.ofChange Rows.fieldOldSpec) :=
  OpenClaim.holds_of_wide 7 Tryd.f7 rfl rfl rfl rfl rfl rfl rfl ⟨rfl, rfl, rfl, rfl, rfl⟩ rfl rfl rfl rfl rfl (by kernel_rfl) Tryd.func7 (by kernel_rfl)
    (of_decide_eq_true (by kernel_rfl)) (by unfold Func.isWrapper; first | (rw [if_pos (by decide +kernel)]; kernel_rfl) | (rw [if_neg (by decide +kernel)]; exact ⟨rfl, rfl⟩))
    (fun os started H enc _ => lifted os started H enc)

/-- No parameter wants a stand-in; the program's own looks are off: what the card asks. -/
theorem plain (f : FuncId) (fn : Func) (hf : Tryd.pinned.checked.prog.funcNamed Rows.fieldOldRow.func = some f) (hfn : Tryd.pinned.checked.prog.funcs[f]? = some fn) :
    false = Tryd.pinned.checked.prog.looks [] ∧ ∀ (j : Nat) t, fn.params[j]? = some t → Tryd.pinned.checked.prog.wantsStandIn t = false := by
  obtain rfl : f = 7 := Option.some.inj ((show Tryd.prog.funcNamed Rows.fieldOldRow.func = some 7 by kernel_rfl).symm.trans hf) |>.symm
  obtain rfl : fn = Tryd.f7 := (Option.some.inj (Tryd.func7.symm.trans hfn)).symm
  refine ⟨by kernel_rfl, fun j t ht => ?_⟩
  have hm := Array.mem_of_getElem? ht
  have hall : (Tryd.f7.params.toList.all fun u => !Tryd.prog.wantsStandIn u) = true := by kernel_rfl
  exact (show Tryd.prog.wantsStandIn t = false by simpa using List.all_eq_true.1 hall t (by simpa using hm))

/-- ████ THE CARD ████ -/
theorem over : Rows.FieldOldCardSaid :=
  Claim7.holds_tied_plain_at .later [] _ _ _ _ row (fun _ h => by cases h) (by kernel_rfl) (fun _ h => by cases h) fieldOld_row_tie rfl ⟨rfl, rfl⟩ (by kernel_rfl) rfl plain (by kernel_rfl)

end Go.Proofs.YtaochgndednamaaDoor.fieldOld

namespace Go.Proofs.YtaochgndednamaaDoor
theorem fieldOld_holds : Rows.FieldOldCardSaid := fieldOld.over
#print axioms fieldOld_holds
end Go.Proofs.YtaochgndednamaaDoor
