/- For every two nodes and every place: without the set that stands there, the sets that field's Diff answers do not make the one node's fields the other one's (more than the law plays with is let go by the law itself); nothing that came in is changed. The package schema's tables hold what the program's text lays into them when the call begins (the card ties that). -/
import Derived.Test.YtaochgndednamaaDoorRows
import Derived.Test.YtaochgndednamaaDoorCards
import Derived.Test.YtaochgndednamaaDoorTie
import Derived.WalkKit
import Derived.ProofKit
import Derived.OpenShut
import Derived.ShutString
import Derived.Below
import Derived.Test.YtaochgndednamaaDoorFLaid
import Derived.Test.YtaochgndednamaaDoorAwake08b
import Derived.Test.YtaochgndednamaaDoorFIn
import Derived.Test.YtaochgndednamaaDoorFPure
import Derived.Test.YtaochgndednamaaDoorFSR
import Derived.ChangeOld
import Derived.LaidMore
import Derived.SevenTiedAt
namespace Go.Proofs.YtaochgndednamaaDoor.fieldLeast
open Go.ChangeShapes Go.WideShapes Go.ChangeAt Go.RowKit
open Go.ChangeMaps (open_string shut_string)
set_option linter.unusedVariables false

theorem own : ownKnob Tryd.prog.godebug = none := by kernel_rfl
theorem laidOut : laidOutB Tryd.prog = true := by kernel_rfl

/-- The two arguments' blocks. -/
structure B2 (w W : World) (cs ds : Array Value) : Prop where
  a : AtN 26 W w.heap.size cs
  b : AtN 26 W (w.heap.size + 1) ds
  t : Tabs8 W
  bel : Below w.heap.size w W
theorem B2.more {w W W' : World} {cs ds : Array Value} (h : B2 w W cs ds) (hb : Below W.heap.size W W') : B2 w W' cs ds := ⟨h.a.belowAll hb, h.b.belowAll hb, h.t.below hb, bjoin h.bel hb h.bel.size⟩
theorem B2.start (w : World) (cs ds : Array Value) (hT : Tabs8 w) : B2 w ((w.alloc (.cells cs 26)).alloc (.cells ds 26)) cs ds :=
  have hb : Below w.heap.size w ((w.alloc (.cells cs 26)).alloc (.cells ds 26)) := ((Below.refl w.heap.size w).alloc (Nat.le_refl _) _).alloc (by simp) _
  ⟨(AtN.new w 26 _).alloc _, mk_at (AtN.new (w.alloc _) 26 _) (show _ = w.heap.size + 1 by simp), hT.below hb, hb⟩
/-- The cells of both. -/
def C2 (w : World) (N0 : Nd) (a0 b0 k0 : Option Addr) (c0 d0 m0 : Nat) (N1 : Nd) (a1 b1 k1 : Option Addr) (c1 d1 m1 : Nat) (W : World) : Prop :=
  W.cell? ⟨w.heap.size, 0, none⟩ = some (.int .i64 N0.kind) ∧ W.cell? ⟨w.heap.size, 1, none⟩ = some (.slice a0 N0.ints.length c0) ∧ W.cell? ⟨w.heap.size, 2, none⟩ = some (.slice b0 N0.texts.length d0) ∧ W.cell? ⟨w.heap.size, 3, none⟩ = some (.slice k0 N0.kids.length m0) ∧ W.cell? ⟨w.heap.size + 1, 0, none⟩ = some (.int .i64 N1.kind) ∧ W.cell? ⟨w.heap.size + 1, 1, none⟩ = some (.slice a1 N1.ints.length c1) ∧ W.cell? ⟨w.heap.size + 1, 2, none⟩ = some (.slice b1 N1.texts.length d1) ∧ W.cell? ⟨w.heap.size + 1, 3, none⟩ = some (.slice k1 N1.kids.length m1)
theorem B2.cells {w W : World} {N0 : Nd} {a0 b0 k0 : Option Addr} {c0 d0 m0 : Nat} {N1 : Nd} {a1 b1 k1 : Option Addr} {c1 d1 m1 : Nat} (h : B2 w W #[.int .i64 N0.kind, .slice a0 N0.ints.length c0, .slice b0 N0.texts.length d0, .slice k0 N0.kids.length m0] #[.int .i64 N1.kind, .slice a1 N1.ints.length c1, .slice b1 N1.texts.length d1, .slice k1 N1.kids.length m1]) : C2 w N0 a0 b0 k0 c0 d0 m0 N1 a1 b1 k1 c1 d1 m1 W :=
  ⟨h.a.cell 0, h.a.cell 1, h.a.cell 2, h.a.cell 3, h.b.cell 0, h.b.cell 1, h.b.cell 2, h.b.cell 3⟩

/-- The facts of the region that asks for the node with all sets but one. -/
def lF (N : Nd) (a0 b0 k0 : Option Addr) (c0 d0 m0 : Nat) (gl cl i : Nat) (L : List St) (R : Nd × Int) (B : Nat) : Nat → (Option Tmp → Value) → World → Prop
  | 0, V, _ => V (some 41) = .agg #[.int .i64 N.kind, .slice a0 N.ints.length c0, .slice b0 N.texts.length d0, .slice k0 N.kids.length m0]
  | 1, V, W => W.ownsRow B 51 4 (V (some 42)) 0 []
  | 2, V, _ => V (some 43) = .slice (some ⟨gl, 0, none⟩) L.length cl
  | 3, V, _ => V (some 44) = .int .i64 i
  | 4, V, _ => V (some 45) = .slice (some ⟨gl, 0, none⟩) i cl
  | 5, V, W => W.ownsRow B 51 4 (V (some 46)) i (stV (L.take i))
  | 6, V, _ => V (some 47) = .slice (some ⟨gl, 0, none⟩) L.length cl
  | 7, V, _ => V (some 48) = .int .i64 i
  | 8, V, _ => V (some 49) = .int .i64 ((i : Int) + 1)
  | 9, V, _ => ∃ y c, V (some 50) = .slice (some y) (L.length - (i + 1)) c ∧ (0 < L.length - (i + 1) → y = ⟨gl, (i + 1) * 4, none⟩)
  | 10, V, W => W.ownsRow B 51 4 (V (some 51)) (but L i).length (stV (but L i))
  | 11, V, W => TupIs R B (V (some 52)) W
  | 12, V, W => TupIs R B (V (some 40)) W
  | 13, V, W => AggIs R.1 B (V (some 53)) W
  | 14, V, _ => V (some 54) = .int .i64 R.2
  | 15, V, W => BlkIs B (V (some 9)) W
  | 16, V, W => PutIs R.1 B (V (some 9)) W
  | 17, V, _ => V (some 10) = .int .i64 R.2
  | _, _, _ => True
def lR (B : Nat) (i : Nat) (w w' : World) : Prop := if i = 16 then Stored B w w' else if i = 5 ∨ i = 10 then RowGrown B w w' else w.grownBy w' none
def lC (j : Nat) : Nat := if j = 1 then 5 else if j = 5 then 10 else 1000
def lD (i j : Nat) : Bool := (i == 10 && j == 1) || (i == 5 && j == 10)

theorem lF_stab (N : Nd) (a0 b0 k0 : Option Addr) (c0 d0 m0 : Nat) (gl cl q : Nat) (L : List St) (R : Nd × Int) (B : Nat) : ∀ i j V w w', i ≠ j → lC j ≠ i → lD i j = false → lR B i w w' → lF N a0 b0 k0 c0 d0 m0 gl cl q L R B j V w → lF N a0 b0 k0 c0 d0 m0 gl cl q L R B j V w' := by
  intro i j V w w' hne hc hd hR h
  unfold lR at hR
  by_cases h16 : i = 16
  · rw [if_pos h16] at hR
    match j, h with
    | 0, h | 2, h | 3, h | 4, h | 6, h | 7, h | 8, h | 9, h | 14, h | 17, h => exact h
    | 1, h | 5, h | 10, h => exact hR.row h (by decide)
    | 11, h | 12, h => exact TupIs.st h hR
    | 13, h => exact AggIs.st h hR
    | 15, h => exact BlkIs.st h hR
    | 16, _ => omega
    | n + 18, _ => trivial
  · rw [if_neg h16] at hR
    by_cases h5 : i = 5 ∨ i = 10
    · rw [if_pos h5] at hR
      match j, h with
      | 0, h | 2, h | 3, h | 4, h | 6, h | 7, h | 8, h | 9, h | 14, h | 17, h => exact h
      | 1, _ =>
        rcases h5 with rfl | rfl
        · exact absurd rfl hc
        · exact absurd hd (by decide)
      | 5, _ =>
        rcases h5 with rfl | rfl
        · exact absurd rfl hne
        · exact absurd rfl hc
      | 10, _ =>
        rcases h5 with rfl | rfl
        · exact absurd hd (by decide)
        · exact absurd rfl hne
      | 11, h | 12, h => exact TupIs.rg h hR
      | 13, h => exact AggIs.rg h hR
      | 15, h => exact BlkIs.rg h hR
      | 16, h => exact PutIs.rg h hR
      | n + 18, _ => trivial
    · rw [if_neg h5] at hR
      match j, h with
      | 0, h | 2, h | 3, h | 4, h | 6, h | 7, h | 8, h | 9, h | 14, h | 17, h => exact h
      | 1, h | 5, h | 10, h => exact grown_row hR h
      | 11, h | 12, h => exact TupIs.grown h hR
      | 13, h => exact AggIs.grown h hR
      | 15, h => exact BlkIs.grown h hR
      | 16, h => exact PutIs.grown h hR
      | n + 18, _ => trivial

set_option maxRecDepth 10000 in
set_option maxHeartbeats 400000 in
theorem walkG (N0 : Nd) (a0 b0 k0 : Option Addr) (c0 d0 m0 : Nat) (N1 : Nd) (a1 b1 k1 : Option Addr) (c1 d1 m1 : Nat) (a2 : Int) (w : World) (h0 : LsAt w b0 (tV N0.texts)) (h1 : LsAt w b1 (tV N1.texts)) (hT : Tabs8 w) (hg : great N0 = true ∨ great N0 = false ∧ great N1 = true) :
    Calls Tryd.prog 6 #[.agg #[.int .i64 N0.kind, .slice a0 N0.ints.length c0, .slice b0 N0.texts.length d0, .slice k0 N0.kids.length m0], .agg #[.int .i64 N1.kind, .slice a1 N1.ints.length c1, .slice b1 N1.texts.length d1, .slice k1 N1.kids.length m1], .int .i64 a2] w fun e w' => e = .returned (.bool true) ∧ Below w.heap.size w w' := by
  have HS : Hid _ := B2.start w #[.int .i64 N0.kind, .slice a0 N0.ints.length c0, .slice b0 N0.texts.length d0, .slice k0 N0.kids.length m0] #[.int .i64 N1.kind, .slice a1 N1.ints.length c1, .slice b1 N1.texts.length d1, .slice k1 N1.kids.length m1] hT
  have HA : Hid _ := fun (W : World) (t : Tabs8 W) => awake_any W t
  have HG : Hid _ := fun (W : World) (hb : Below w.heap.size w W) => great_any N0 a0 b0 k0 c0 d0 m0 W (h0.belowB hb)
  have HH : Hid _ := fun (W : World) (hb : Below w.heap.size w W) => great_any N1 a1 b1 k1 c1 d1 m1 W (h1.belowB hb)
  clear h0 h1 hT
  generalize great N0 = G at *
  generalize great N1 = H at *
  go_enter Tryd.func6, Tryd.ntmps6
  go_wp2_with fail
  refine (HA.out _ HS.out.t).mono ?_
  rintro e w2 ⟨rfl, b2⟩
  have S2 := HS.out.more b2
  obtain ⟨q0, q1, q2, q3, -, -, -, -⟩ := S2.cells
  have HS2 : Hid _ := S2
  clear S2 b2 HS
  go_wp2_with fail
  refine (HG.out _ HS2.out.bel).mono ?_
  rintro e w3 ⟨rfl, b3⟩
  have S3 := HS2.out.more b3
  obtain ⟨-, -, -, -, q0, q1, q2, q3⟩ := S3.cells
  have HS3 : Hid _ := S3
  clear S3 b3 HS2
  rcases hg with rfl | ⟨rfl, rfl⟩
  · go_wp2_with fail
    refine (HA.out _ HS3.out.t).mono ?_
    rintro e w4 ⟨rfl, b4⟩
    have HB4 : Hid _ := (HS3.out.more b4).bel
    clear b4
    go_wp2_with fail
    go_ret
    exact ⟨rfl, HB4.out⟩
  · go_wp2_with fail
    refine (HH.out _ HS3.out.bel).mono ?_
    rintro e w4 ⟨rfl, b4⟩
    have HS4 : Hid _ := HS3.out.more b4
    clear b4 HS3
    go_wp2_with fail
    refine (HA.out _ HS4.out.t).mono ?_
    rintro e w5 ⟨rfl, b5⟩
    have HB5 : Hid _ := (HS4.out.more b5).bel
    clear b5
    go_wp2_with fail
    go_ret
    exact ⟨rfl, HB5.out⟩

set_option maxRecDepth 10000 in
set_option maxHeartbeats 4000000 in
theorem walkF (N0 : Nd) (a0 b0 k0 : Option Addr) (c0 d0 m0 : Nat) (N1 : Nd) (a1 b1 k1 : Option Addr) (c1 d1 m1 : Nat) (a2 : Int) (w : World) (h : NdAt w N0 a0 b0 k0) (h' : NdAt w N1 a1 b1 k1) (hT : Tabs8 w) (hg : great N0 = false) (hg' : great N1 = false) :
    Calls Tryd.prog 6 #[.agg #[.int .i64 N0.kind, .slice a0 N0.ints.length c0, .slice b0 N0.texts.length d0, .slice k0 N0.kids.length m0], .agg #[.int .i64 N1.kind, .slice a1 N1.ints.length c1, .slice b1 N1.texts.length d1, .slice k1 N1.kids.length m1], .int .i64 a2] w fun e w' => e = .returned (.bool true) ∧ Below w.heap.size w w' := by
  have HS : Hid _ := B2.start w #[.int .i64 N0.kind, .slice a0 N0.ints.length c0, .slice b0 N0.texts.length d0, .slice k0 N0.kids.length m0] #[.int .i64 N1.kind, .slice a1 N1.ints.length c1, .slice b1 N1.texts.length d1, .slice k1 N1.kids.length m1] hT
  have HA : Hid _ := fun (W : World) (t : Tabs8 W) => awake_any W t
  have HG : Hid _ := fun (W : World) (hb : Below w.heap.size w W) => great_any N0 a0 b0 k0 c0 d0 m0 W (h.t.belowB hb)
  have HH : Hid _ := fun (W : World) (hb : Below w.heap.size w W) => great_any N1 a1 b1 k1 c1 d1 m1 W (h'.t.belowB hb)
  rw [hg] at HG
  rw [hg'] at HH
  obtain ⟨g1, g2, g3, -⟩ := great_no hg
  obtain ⟨j1, j2, j3, -⟩ := great_no hg'
  have H3 : Hid _ := fun (W : World) (hb : Below w.heap.size w W) => diff_any N0 N1 a0 b0 k0 a1 b1 k1 c0 d0 m0 c1 d1 m1 W (h.belowB hb) (h'.belowB hb) g1 g2
  have hLn := dL_len N0 N1 g1 g2
  have H6 : Hid (cmp N0 N1 = true → ∀ (i : Nat) (hi : i < (dL N0 N1).length) (u : Option Addr) (e : Nat) (W : World) (hb : Below w.heap.size w W) (hu : LsAt W u (stV (but (dL N0 N1) i))), Calls Tryd.prog 13 #[.agg #[.int .i64 N0.kind, .slice a0 N0.ints.length c0, .slice b0 N0.texts.length d0, .slice k0 N0.kids.length m0], .slice u (but (dL N0 N1) i).length e] W fun e w' => NdErr W w' e (putL N0 (but (dL N0 N1) i), 0)) := fun hc i hi u e W hb hu => by
    have := set_any N0 (but (dL N0 N1) i) a0 b0 k0 u c0 d0 m0 e W (h.belowB hb) hu g1 g2 g3 (by simp only [but, List.length_append, List.length_take, List.length_drop]; omega)
    rw [set_but hc i] at this
    exact this
  have H7 : Hid (cmp N0 N1 = true → ∀ (i : Nat) (hi : i < (dL N0 N1).length) (u1 u2 u3 : Option Addr) (e1 e2 e3 : Nat) (W : World) (hb : Below w.heap.size w W) (hN : NdAt W (putL N0 (but (dL N0 N1) i)) u1 u2 u3), Calls Tryd.prog 19 #[.agg #[.int .i64 (putL N0 (but (dL N0 N1) i)).kind, .slice u1 (putL N0 (but (dL N0 N1) i)).ints.length e1, .slice u2 (putL N0 (but (dL N0 N1) i)).texts.length e2, .slice u3 (putL N0 (but (dL N0 N1) i)).kids.length e3], .agg #[.int .i64 N1.kind, .slice a1 N1.ints.length c1, .slice b1 N1.texts.length d1, .slice k1 N1.kids.length m1]] W fun e w' => e = .returned (.bool false) ∧ Below W.heap.size W w') := fun hc i hi u1 u2 u3 e1 e2 e3 W hb hN => by
    obtain ⟨-, -, p3, p4⟩ := putL_len (but (dL N0 N1) i) N0
    have := own_any (putL N0 (but (dL N0 N1) i)) N1 u1 u2 u3 a1 b1 k1 e1 e2 e3 c1 d1 m1 W hN (h'.belowB hb) (by rw [p3]; exact g1) (by rw [p4]; exact g2)
    rw [own_but hc i hi] at this
    exact this
  clear h h' hT hg hg'
  generalize cmp N0 N1 = q at *
  generalize dL N0 N1 = L at *
  obtain ⟨i0, hi0, hz0, hz1, hz2⟩ := info_parts Tryd.infoSet
  go_enter Tryd.func6, Tryd.ntmps6
  go_wp2_with fail
  refine (HA.out _ HS.out.t).mono ?_
  rintro e w2 ⟨rfl, b2⟩
  have S2 := HS.out.more b2
  obtain ⟨q0, q1, q2, q3, -, -, -, -⟩ := S2.cells
  have HS2 : Hid _ := S2
  clear S2 b2 HS
  go_wp2_with fail
  refine (HG.out _ HS2.out.bel).mono ?_
  rintro e w3 ⟨rfl, b3⟩
  have S3 := HS2.out.more b3
  obtain ⟨-, -, -, -, q0, q1, q2, q3⟩ := S3.cells
  have HS3 : Hid _ := S3
  clear S3 b3 HS2
  go_wp2_with fail
  refine (HH.out _ HS3.out.bel).mono ?_
  rintro e w4 ⟨rfl, b4⟩
  have S4 := HS3.out.more b4
  obtain ⟨q0, q1, q2, q3, s0, s1, s2, s3⟩ := S4.cells
  have HS4 : Hid _ := S4
  clear S4 b4 HS3 HG HH HA
  go_wp2_with fail
  refine (H3.out _ HS4.out.bel).mono ?_
  rintro e w5 ⟨al, cl, rfl, hl5, b5⟩
  have S5 := HS4.out.more b5
  have HS5 : Hid _ := S5
  have HL5 : Hid _ := hl5
  clear S5 hl5 b5 HS4 q0 q1 q2 q3 s0 s1 s2 s3 H3
  cases q
  · go_wp2_with fail
    go_ret
    exact ⟨rfl, HS5.out.bel⟩
  · by_cases hneg : a2 < 0
    · go_wp2_with fail
      go_ret
      exact ⟨rfl, HS5.out.bel⟩
    · obtain ⟨i, rfl⟩ : ∃ i : Nat, a2 = (i : Int) := ⟨a2.toNat, by omega⟩
      by_cases hlt : i < L.length
      · have hlt' : (i : Int) < L.length := by omega
        obtain ⟨gl, rfl, hcl⟩ : ∃ gl, al = some ⟨gl, 0, none⟩ ∧ L.length ≤ cl := by
          rcases (Hid.out HL5).2 with ⟨_, h2⟩ | ⟨g, cap', cur, e, _, _, h4, _⟩
          · omega
          · simp only [Value.slice.injEq] at e
            obtain ⟨rfl, _, rfl⟩ := e
            exact ⟨g, rfl, h4⟩
        have HL6 : Hid _ := LsAt.of_own4 HL5.out
        have HB6 : Hid (LsAt w5 (some ⟨gl, 0, none⟩) (stV L) → True) := fun _ => trivial
        have hgl : ∀ (W : World), Below w5.heap.size w5 W → ∀ j u, (stV L)[j]? = some u → W.cell? ⟨gl, j, none⟩ = some u := fun W hb j u hu => by
          have := (LsAt.belowB HL6.out hb).news j u hu
          rwa [show (⟨gl, 0, none⟩ : Addr).add j = ⟨gl, j, none⟩ by unfold Addr.add; split <;> simp_all] at this
        have HGL : Hid _ := hgl
        have H6' : Hid _ := H6.out (by first | rfl | trivial) i hlt
        have H7' : Hid _ := H7.out (by first | rfl | trivial) i hlt
        have hbl : (but L i).length = i + (L.length - (i + 1)) := by simp only [but, List.length_append, List.length_take, List.length_drop]; omega
        have HBL : Hid _ := hbl
        clear HL5 HL6 HB6 hgl H6 H7 hbl
        generalize (putL N0 (but L i)) = M at *
        go_wp2_with fail
        refine facts_region2 (fun W => Below w5.heap.size w5 W) (lR w5.heap.size) lC lD (lF N0 a0 b0 k0 c0 d0 m0 gl cl i L (M, 0) w5.heap.size) (by kernel_rfl) (by kernel_rfl) (Below.refl _ _).drew ?hdead (lF_stab N0 a0 b0 k0 c0 d0 m0 gl cl i L (M, 0) w5.heap.size) ?gl ?loc ?step ?fin
        case hdead =>
          intro x y ox oy hx hy hd
          simp only [lD, Bool.or_eq_true, Bool.and_eq_true, beq_iff_eq] at hd
          rcases hd with ⟨rfl, rfl⟩ | ⟨rfl, rfl⟩
          · obtain rfl := Option.some.inj hx
            exact .inl (by kernel_rfl)
          · obtain rfl := Option.some.inj hy
            exact .inr (by kernel_rfl)
        case gl =>
          intro x W W' hR hb
          unfold lR at hR
          by_cases h16 : x = 16
          · rw [if_pos h16] at hR
            exact hR.below hb hb.size
          · rw [if_neg h16] at hR
            by_cases h5 : x = 5 ∨ x = 10
            · rw [if_pos h5] at hR
              exact hR.below hb hb.size
            · rw [if_neg h5] at hR
              exact hb.grown hR hb.size (by simp)
        case loc =>
          intro j o V V' W ho hd hk h
          rcases j with _|_|_|_|_|_|_|_|_|_|_|_|_|_|_|_|_|_|j
          · obtain rfl := Option.some.inj ho
            have e : V (some 41) = V' (some 41) := hd
            simp only [lF] at h ⊢
            rw [← e]; exact h
          · obtain rfl := Option.some.inj ho
            have e : V (some 42) = V' (some 42) := hd
            simp only [lF] at h ⊢
            rw [← e]; exact h
          · obtain rfl := Option.some.inj ho
            have e : V (some 43) = V' (some 43) := hd
            simp only [lF] at h ⊢
            rw [← e]; exact h
          · obtain rfl := Option.some.inj ho
            have e : V (some 44) = V' (some 44) := hd
            simp only [lF] at h ⊢
            rw [← e]; exact h
          · obtain rfl := Option.some.inj ho
            have e : V (some 45) = V' (some 45) := hd
            simp only [lF] at h ⊢
            rw [← e]; exact h
          · obtain rfl := Option.some.inj ho
            have e : V (some 46) = V' (some 46) := hd
            simp only [lF] at h ⊢
            rw [← e]; exact h
          · obtain rfl := Option.some.inj ho
            have e : V (some 47) = V' (some 47) := hd
            simp only [lF] at h ⊢
            rw [← e]; exact h
          · obtain rfl := Option.some.inj ho
            have e : V (some 48) = V' (some 48) := hd
            simp only [lF] at h ⊢
            rw [← e]; exact h
          · obtain rfl := Option.some.inj ho
            have e : V (some 49) = V' (some 49) := hd
            simp only [lF] at h ⊢
            rw [← e]; exact h
          · obtain rfl := Option.some.inj ho
            have e : V (some 50) = V' (some 50) := hd
            simp only [lF] at h ⊢
            rw [← e]; exact h
          · obtain rfl := Option.some.inj ho
            have e : V (some 51) = V' (some 51) := hd
            simp only [lF] at h ⊢
            rw [← e]; exact h
          · obtain rfl := Option.some.inj ho
            have e : V (some 52) = V' (some 52) := hd
            simp only [lF] at h ⊢
            rw [← e]; exact h
          · obtain rfl := Option.some.inj ho
            have e : V (some 40) = V' (some 40) := hd
            simp only [lF] at h ⊢
            rw [← e]; exact h
          · obtain rfl := Option.some.inj ho
            have e : V (some 53) = V' (some 53) := hd
            simp only [lF] at h ⊢
            rw [← e]; exact h
          · obtain rfl := Option.some.inj ho
            have e : V (some 54) = V' (some 54) := hd
            simp only [lF] at h ⊢
            rw [← e]; exact h
          · obtain rfl := Option.some.inj ho
            have e : V (some 9) = V' (some 9) := hd
            simp only [lF] at h ⊢
            rw [← e]; exact h
          · obtain rfl := Option.some.inj ho
            have e : V (some 9) = V' (some 9) := hk 15 _ (by kernel_rfl) rfl
            simp only [lF] at h ⊢
            rw [← e]; exact h
          · obtain rfl := Option.some.inj ho
            have e : V (some 10) = V' (some 10) := hd
            simp only [lF] at h ⊢
            rw [← e]; exact h
          · exact absurd ho (by simp)
        case step =>
          intro x o ho a W hG hoff hdep K hK
          have t2 : a.tmps[2]?.getD undef = .int .i64 i := hoff 2 (by kernel_rfl)
          have t3 : a.tmps[3]?.getD undef = .pointer (some ⟨w.heap.size, 0, none⟩) := hoff 3 (by kernel_rfl)
          have t7 : a.tmps[7]?.getD undef = .slice (some ⟨gl, 0, none⟩) L.length cl := hoff 7 (by kernel_rfl)
          have hsz : w5.heap.size ≤ W.heap.size := hG.size
          clear hoff H7'
          rcases x with _|_|_|_|_|_|_|_|_|_|_|_|_|_|_|_|_|_|x
          · obtain rfl := Option.some.inj ho
            have A0 := (HS5.out.more hG).cells
            obtain ⟨q0, q1, q2, q3, -, -, -, -⟩ := A0
            clear hdep HS5 H6' HGL HBL hG
            go_simp
            exact hK _ _ (grown_refl _ _) (fun V' h1 _ => h1)
          · obtain rfl := Option.some.inj ho
            clear hdep HS5 H6' HGL HBL hG
            go_simp
            exact hK _ _ (World.grownBy_alloc _ _ _) (fun V' h1 _ => by
              have e : V' (some 42) = .slice (some ⟨W.heap.size, 0, none⟩) 0 0 := h1
              simp only [lF]
              rw [e]
              exact World.ownsRow_lit W #[] 0 hsz (by decide) (by simp))
          · obtain rfl := Option.some.inj ho
            clear hdep HS5 H6' HGL HBL hG
            go_simp
            exact hK _ _ (grown_refl _ _) (fun V' h1 _ => h1)
          · obtain rfl := Option.some.inj ho
            clear hdep HS5 H6' HGL HBL hG
            go_simp
            exact hK _ _ (grown_refl _ _) (fun V' h1 _ => h1)
          · obtain rfl := Option.some.inj ho
            have x1 : a.tmps[43]?.getD undef = .slice (some ⟨gl, 0, none⟩) L.length cl := hdep 2 (by kernel_rfl) (.inr (by decide))
            have x2 : a.tmps[44]?.getD undef = .int .i64 i := hdep 3 (by kernel_rfl) (.inr (by decide))
            have hic : (i : Int) ≤ cl := by omega
            clear hdep HS5 H6' HGL HBL hG
            go_simp
            exact hK _ _ (grown_refl _ _) (fun V' h1 _ => h1)
          · obtain rfl := Option.some.inj ho
            have x1 : W.ownsRow w5.heap.size 51 4 (a.tmps[42]?.getD undef) 0 [] := hdep 1 (by kernel_rfl) (.inl rfl)
            have x2 : a.tmps[45]?.getD undef = .slice (some ⟨gl, 0, none⟩) i cl := hdep 4 (by kernel_rfl) (.inr (by decide))
            have hnew : ∀ j u, (stV (L.take i))[j]? = some u → W.cell? ((⟨gl, 0, none⟩ : Addr).add j) = some u := fun j u hu => by
              have hj : j < (stV (L.take i)).length := (List.getElem?_eq_some_iff.1 hu).1
              rw [stV_length, List.length_take] at hj
              rw [stV_take L i (by omega), List.getElem?_take_of_lt (by omega)] at hu
              rw [show (⟨gl, 0, none⟩ : Addr).add j = ⟨gl, j, none⟩ by unfold Addr.add; split <;> simp_all]
              exact HGL.out W hG j u hu
            clear hdep HS5 H6' HGL HBL hG
            refine step_append_own8 W rfl (.tmp 42) (.tmp 45) 36 rfl w5.heap.size 51 i0 (.agg #[.bool false, .int .i64 0, .int .i64 0, .string ⟨#[]⟩]) 4 40 Tryd.underlying36 hi0 hz0 hz1 hz2 rfl (by decide) _ 0 [] rfl (by simpa [Act.eval] using x1) ⟨gl, 0, none⟩ i cl (stV (L.take i)) (by simpa [Act.eval] using x2) (by rw [stV_length, List.length_take]; omega) hnew (stV_cell _) (by unfold maxLen; omega) (by omega) hsz ?_
            intro v' w' ho' hg'
            have ho2 : w'.ownsRow w5.heap.size 51 4 v' i (stV (L.take i)) := by simpa using ho'
            exact hK _ _ ⟨_, _, _, by simpa [Act.eval] using x1, by simpa [Act.eval] using hg'⟩ (fun V' h1 _ => by
              have e : V' (some 46) = v' := h1
              simp only [lF]
              rw [e]; exact ho2)
          · obtain rfl := Option.some.inj ho
            clear hdep HS5 H6' HGL HBL hG
            go_simp
            exact hK _ _ (grown_refl _ _) (fun V' h1 _ => h1)
          · obtain rfl := Option.some.inj ho
            clear hdep HS5 H6' HGL HBL hG
            go_simp
            exact hK _ _ (grown_refl _ _) (fun V' h1 _ => h1)
          · obtain rfl := Option.some.inj ho
            have x2 : a.tmps[48]?.getD undef = .int .i64 i := hdep 7 (by kernel_rfl) (.inr (by decide))
            clear hdep HS5 H6' HGL HBL hG
            go_simp
            exact hK _ _ (grown_refl _ _) (fun V' h1 _ => by
              have e : V' (some 49) = .int .i64 (IntKind.i64.wrap ((i : Int) + 1)) := h1
              simp only [lF]
              rw [e, IntKind.wrap_i64, show ((i : Int) + 1 + 9223372036854775808) % 18446744073709551616 - 9223372036854775808 = (i : Int) + 1 by omega])
          · obtain rfl := Option.some.inj ho
            have x1 : a.tmps[47]?.getD undef = .slice (some ⟨gl, 0, none⟩) L.length cl := hdep 6 (by kernel_rfl) (.inr (by decide))
            have x2 : a.tmps[49]?.getD undef = .int .i64 ((i : Int) + 1) := hdep 8 (by kernel_rfl) (.inr (by decide))
            have hic : (i : Int) + 1 ≤ L.length := by omega
            have hi0' : 0 ≤ (i : Int) + 1 := by omega
            clear hdep HS5 H6' HGL HBL hG
            go_simp
            by_cases hce : cl = i + 1
            · rw [if_pos hce]
              exact hK _ _ (grown_refl _ _) (fun V' h1 _ => ⟨_, _, h1, fun h => by omega⟩)
            · rw [if_neg hce]
              exact hK _ _ (grown_refl _ _) (fun V' h1 _ => ⟨_, _, h1, fun _ => rfl⟩)
          · obtain rfl := Option.some.inj ho
            have x1 : W.ownsRow w5.heap.size 51 4 (a.tmps[46]?.getD undef) i (stV (L.take i)) := hdep 5 (by kernel_rfl) (.inl rfl)
            have x2 : ∃ y c, a.tmps[50]?.getD undef = .slice (some y) (L.length - (i + 1)) c ∧ (0 < L.length - (i + 1) → y = ⟨gl, (i + 1) * 4, none⟩) := hdep 9 (by kernel_rfl) (.inr (by decide))
            obtain ⟨y, cx, x2, hy⟩ := x2
            have hnew : ∀ j u, (stV (L.drop (i + 1)))[j]? = some u → W.cell? (y.add j) = some u := fun j u hu => by
              have hj : j < (stV (L.drop (i + 1))).length := (List.getElem?_eq_some_iff.1 hu).1
              rw [stV_length, List.length_drop] at hj
              rw [hy (by omega)]
              rw [stV_drop L (i + 1) (by omega), List.getElem?_drop] at hu
              rw [show (⟨gl, (i + 1) * 4, none⟩ : Addr).add j = ⟨gl, (i + 1) * 4 + j, none⟩ by unfold Addr.add; split <;> simp_all]
              exact HGL.out W hG _ u hu
            have HBL' := HBL.out
            clear hdep HS5 H6' HGL HBL hG
            refine step_append_own8 W rfl (.tmp 46) (.tmp 50) 36 rfl w5.heap.size 51 i0 (.agg #[.bool false, .int .i64 0, .int .i64 0, .string ⟨#[]⟩]) 4 40 Tryd.underlying36 hi0 hz0 hz1 hz2 rfl (by decide) _ i (stV (L.take i)) rfl (by simpa [Act.eval] using x1) y (L.length - (i + 1)) cx (stV (L.drop (i + 1))) (by simpa [Act.eval] using x2) (by rw [stV_length, List.length_drop]) hnew (stV_cell _) (by unfold maxLen; omega) (by omega) hsz ?_
            intro v' w' ho' hg'
            have ho2 : w'.ownsRow w5.heap.size 51 4 v' (but L i).length (stV (but L i)) := by
              rw [HBL']
              unfold but
              rw [stV_append]
              exact ho'
            exact hK _ _ ⟨_, _, _, by simpa [Act.eval] using x1, by simpa [Act.eval] using hg'⟩ (fun V' h1 _ => by
              have e : V' (some 51) = v' := h1
              simp only [lF]
              rw [e]; exact ho2)
          · obtain rfl := Option.some.inj ho
            have x0 : a.tmps[41]?.getD undef = .agg #[.int .i64 N0.kind, .slice a0 N0.ints.length c0, .slice b0 N0.texts.length d0, .slice k0 N0.kids.length m0] := hdep 0 (by kernel_rfl) (.inr (by decide))
            have x3 : W.ownsRow w5.heap.size 51 4 (a.tmps[51]?.getD undef) (but L i).length (stV (but L i)) := hdep 10 (by kernel_rfl) (.inr (by decide))
            obtain ⟨b, d, xb⟩ := own_shape8 x3
            rw [xb] at x3
            have HX : Hid _ := Hid.out H6' b d W (bjoin HS5.out.bel hG HS5.out.bel.size) (LsAt.of_own4 x3)
            clear hdep x3 HS5 H6' HGL HBL hG
            go_simp
            refine Calls.mono HX.out ?_
            rintro e w' ⟨p1, j1, p2, j2, p3, j3, rfl, hO, hb⟩
            exact hK _ _ (below_grown0 hb _) (fun V' h1 _ => by
              have e : V' (some 52) = _ := h1
              simp only [lF]
              rw [e]
              exact ⟨p1, j1, p2, j2, p3, j3, rfl, hO.mono hsz⟩)
          · obtain rfl := Option.some.inj ho
            have x4 : TupIs (M, 0) w5.heap.size (a.tmps[52]?.getD undef) W := hdep 11 (by kernel_rfl) (.inr (by decide))
            obtain ⟨p1, j1, p2, j2, p3, j3, xe, hO⟩ := x4
            clear hdep HS5 H6' HGL HBL hG
            have HO : Hid _ := hO
            clear hO
            go_simp
            exact hK _ _ (grown_refl _ _) (fun V' h1 _ => by
              have e : V' (some 40) = _ := h1
              simp only [lF]
              rw [e]
              exact ⟨p1, j1, p2, j2, p3, j3, rfl, HO.out⟩)
          · obtain rfl := Option.some.inj ho
            have x4 : TupIs (M, 0) w5.heap.size (a.tmps[40]?.getD undef) W := hdep 12 (by kernel_rfl) (.inr (by decide))
            obtain ⟨p1, j1, p2, j2, p3, j3, xe, hO⟩ := x4
            clear hdep HS5 H6' HGL HBL hG
            have HO : Hid _ := hO
            clear hO
            go_simp
            exact hK _ _ (grown_refl _ _) (fun V' h1 _ => by
              have e : V' (some 53) = _ := h1
              simp only [lF]
              rw [e]
              exact ⟨p1, j1, p2, j2, p3, j3, rfl, HO.out⟩)
          · obtain rfl := Option.some.inj ho
            have x4 : TupIs (M, 0) w5.heap.size (a.tmps[40]?.getD undef) W := hdep 12 (by kernel_rfl) (.inr (by decide))
            obtain ⟨p1, j1, p2, j2, p3, j3, xe, hO⟩ := x4
            clear hdep hO HS5 H6' HGL HBL hG
            go_simp
            exact hK _ _ (grown_refl _ _) (fun V' h1 _ => h1)
          · obtain rfl := Option.some.inj ho
            clear hdep HS5 H6' HGL HBL hG
            go_simp
            exact hK _ _ (World.grownBy_alloc _ _ _) (fun V' h1 _ => by
              have e : V' (some 9) = .pointer (some ⟨W.heap.size, 0, none⟩) := h1
              simp only [lF]
              rw [e]
              exact ⟨W.heap.size, _, _, _, _, rfl, hsz, AtN.new W 26 _⟩)
          · obtain rfl := Option.some.inj ho
            have x8 : BlkIs w5.heap.size (a.tmps[9]?.getD undef) W := hdep 15 (by kernel_rfl) (.inr (by decide))
            have x6 : AggIs M w5.heap.size (a.tmps[53]?.getD undef) W := hdep 13 (by kernel_rfl) (.inr (by decide))
            obtain ⟨g, y0, y1, y2, y3, xe, hB, A⟩ := x8
            obtain ⟨p1, j1, p2, j2, p3, j3, xf, hO⟩ := x6
            have x0 : W.cell? ⟨g, 0, none⟩ = some y0 := A.cell 0
            have x1 : W.cell? ⟨g, 1, none⟩ = some y1 := A.cell 1
            have x2 : W.cell? ⟨g, 2, none⟩ = some y2 := A.cell 2
            have x3 : W.cell? ⟨g, 3, none⟩ = some y3 := A.cell 3
            have f0 := A.fz 0
            have f1 := A.fz 1
            have f2 := A.fz 2
            have f3 := A.fz 3
            have HX : Hid _ := And.intro (stored4 (B := w5.heap.size) A hB (.int .i64 M.kind) (.slice p1 M.ints.length j1) (.slice p2 M.texts.length j2) (.slice p3 M.kids.length j3)) (And.intro (at_set4 A (.int .i64 M.kind) (.slice p1 M.ints.length j1) (.slice p2 M.texts.length j2) (.slice p3 M.kids.length j3)) hO)
            clear hdep hO A HS5 H6' HGL HBL hG
            go_simp
            exact hK undef _ HX.out.1 (fun V' _ h2 => by
              have e : V' (some 9) = .pointer (some ⟨g, 0, none⟩) := (h2 15 _ (by kernel_rfl) rfl).trans xe
              simp only [lF]
              rw [e]
              exact ⟨g, p1, j1, p2, j2, p3, j3, rfl, HX.out.2.1, HX.out.1.nd HX.out.2.2⟩)
          · obtain rfl := Option.some.inj ho
            have x7 : a.tmps[54]?.getD undef = .int .i64 0 := hdep 14 (by kernel_rfl) (.inr (by decide))
            clear hdep HS5 H6' HGL HBL hG
            go_simp
            exact hK _ _ (grown_refl _ _) (fun V' h1 _ => h1)
          · exact absurd ho (by simp)
        case fin =>
          intro V W hG hF
          have y16 : PutIs M w5.heap.size (V (some 9)) W := hF 16 _ rfl (by decide)
          have y17 : V (some 10) = .int .i64 0 := hF 17 _ rfl (by decide)
          obtain ⟨g9, p1, j1, p2, j2, p3, j3, y9, A9, O9⟩ := y16
          have S6 := HS5.out.more hG
          obtain ⟨-, -, -, -, s0, s1, s2, s3⟩ := S6.cells
          have r0 : W.cell? ⟨g9, 0, none⟩ = some (.int .i64 M.kind) := A9.cell 0
          have r1 : W.cell? ⟨g9, 1, none⟩ = some (.slice p1 M.ints.length j1) := A9.cell 1
          have r2 : W.cell? ⟨g9, 2, none⟩ = some (.slice p2 M.texts.length j2) := A9.cell 2
          have r3 : W.cell? ⟨g9, 3, none⟩ = some (.slice p3 M.kids.length j3) := A9.cell 3
          have HS6 : Hid _ := And.intro S6 O9.ndAt
          clear S6 A9 O9 HS5 hF hG H6' HGL HBL
          simp only [fillA, Act.put, List.setIfInBounds_toArray, List.set_cons_zero, List.set_cons_succ, y9, y17]
          generalize V (some 41) = z41
          generalize V (some 42) = z42
          generalize V (some 43) = z43
          generalize V (some 44) = z44
          generalize V (some 45) = z45
          generalize V (some 46) = z46
          generalize V (some 47) = z47
          generalize V (some 48) = z48
          generalize V (some 49) = z49
          generalize V (some 50) = z50
          generalize V (some 51) = z51
          generalize V (some 52) = z52
          generalize V (some 40) = z40
          generalize V (some 53) = z53
          generalize V (some 54) = z54
          clear y9 y17
          go_wp2_with fail
          refine (Hid.out H7' _ _ _ _ _ _ _ HS6.out.1.bel HS6.out.2).mono ?_
          rintro e w7 ⟨rfl, b7⟩
          have HB : Hid _ := (HS6.out.1.more b7).bel
          clear HS6 b7
          go_wp2_with fail
          go_ret
          exact ⟨rfl, HB.out⟩
      · have hlt' : ¬ (i : Int) < L.length := by omega
        go_wp2_with fail
        go_ret
        exact ⟨rfl, HS5.out.bel⟩

set_option maxRecDepth 10000 in
set_option maxHeartbeats 400000 in
theorem walk (N0 : Nd) (a0 b0 k0 : Option Addr) (c0 d0 m0 : Nat) (N1 : Nd) (a1 b1 k1 : Option Addr) (c1 d1 m1 : Nat) (a2 : Int) (w : World) (w0 : IsNd w N0 a0 b0 k0) (w1 : IsNd w N1 a1 b1 k1) (w2 : (Lit.int .i64 a2).wf = true) (hT : Tabs8 w) :
    Calls Tryd.prog 6 #[.agg #[.int .i64 N0.kind, .slice a0 N0.ints.length c0, .slice b0 N0.texts.length d0, .slice k0 N0.kids.length m0], .agg #[.int .i64 N1.kind, .slice a1 N1.ints.length c1, .slice b1 N1.texts.length d1, .slice k1 N1.kids.length m1], .int .i64 a2] w fun e w' => e = .returned (.bool true) ∧ Below w.heap.size w w' := by
  cases hg : great N0 with
  | true => exact walkG N0 a0 b0 k0 c0 d0 m0 N1 a1 b1 k1 c1 d1 m1 a2 w w0.1.t w1.1.t hT (.inl hg)
  | false =>
    cases hg' : great N1 with
    | true => exact walkG N0 a0 b0 k0 c0 d0 m0 N1 a1 b1 k1 c1 d1 m1 a2 w w0.1.t w1.1.t hT (.inr ⟨hg, hg'⟩)
    | false => exact walkF N0 a0 b0 k0 c0 d0 m0 N1 a1 b1 k1 c1 d1 m1 a2 w w0.1 w1.1 hT hg hg'

set_option maxRecDepth 100000 in
theorem lifted (os : Os) (started : os.Started) (H : Type) (enc : TypeId × Value → H) :
    ReturnsInHanded {} Tryd.checked os 6 .any (fun w args => (Rows.fieldLeastSpec.pre enc Tryd.prog Tryd.f6 [] false w args ∧ laidMetH Tryd.prog laid2 w) ∧ sizedMet enc Tryd.prog Tryd.f6 (OpenSpec.ofChange Rows.fieldLeastSpec) false w args)
      (Rows.fieldLeastSpec.post enc Tryd.prog Tryd.f6 false true false false) := by
  refine returnsInHanded_of_change_and (C := Tryd.checked) (X := fun w _ => laidMetH Tryd.prog laid2 w) (fun _ _ _ hh h => h.of_heap hh) own started (by kernel_rfl) Tryd.func6
    (ChangeSpec.witness_shaped (enc := enc) (C := Tryd.checked) (os := os) (X := fun w _ => laidMetH Tryd.prog laid2 w) false (World.doorLaid Tryd.prog 400 os) #[.agg #[.int .i64 0, .slice none 0 0, .slice none 0 0, .slice none 0 0], .agg #[.int .i64 0, .slice none 0 0, .slice none 0 0, .slice none 0 0], .int .i64 0] 8 rfl (World.shaped_of_RefB (by kernel_rfl) (by kernel_rfl)) (by kernel_rfl) (by kernel_rfl) (by kernel_rfl) (door_met os _)) ?_
  intro W base args ds gs before hval0 hW _ _ hL _
  have hval : ∀ (j : Nat) t v, Tryd.f6.params[j]? = some t → args[j]? = some v → Value.okWide Tryd.prog W .any base t v := hval0
  have hW' := hW
  obtain ⟨p, q, hA0, hV, rfl, hfz, hnd⟩ := hW
  have hA : DataW.TrodAll enc Tryd.prog W 0 (fun _ => true) true Tryd.f6.params.toList args.toList ds p := hA0
  rw [Tryd.params6] at hA hval
  obtain ⟨v0, vs0, d0, ds0, p0, q0, hargs, rfl, rfl, h0, r0⟩ := trodAll_cons hA
  obtain ⟨v1, vs1, d1, ds1, p1, q1, rfl, rfl, rfl, h1, r1⟩ := trodAll_cons r0
  obtain ⟨v2, vs2, d2, ds2, p2, q2, rfl, rfl, rfl, h2, r2⟩ := trodAll_cons r1
  obtain ⟨rfl, rfl, rfl⟩ := trodAll_nil r2
  obtain rfl : args = #[v0, v1, v2] := by cases args; simp_all
  obtain ⟨rfl, rfl⟩ := trodVars_none hV
  have K0 := h0
  have lt0 : ∀ x ∈ p0, x.block < W.heap.size := by obtain ⟨m, hm⟩ := K0; exact DataW.trod_lt m _ _ _ hm
  obtain ⟨N0, a0, b0, k0, c0, d0, m0, rfl, w0⟩ := open_node Tryd.underlying26 (by kernel_rfl) (by kernel_rfl) Tryd.underlying3 Tryd.underlying22 Tryd.underlying23 Tryd.underlying24 Tryd.underlying2 Tryd.underlying9 Tryd.underlying3 (by kernel_rfl) (by kernel_rfl) (by kernel_rfl) (hval 0 26 v0 rfl rfl) h0
  have K1 := h1
  have lt1 : ∀ x ∈ p1, x.block < W.heap.size := by obtain ⟨m, hm⟩ := K1; exact DataW.trod_lt m _ _ _ hm
  obtain ⟨N1, a1, b1, k1, c1, d1, m1, rfl, w1⟩ := open_node Tryd.underlying26 (by kernel_rfl) (by kernel_rfl) Tryd.underlying3 Tryd.underlying22 Tryd.underlying23 Tryd.underlying24 Tryd.underlying2 Tryd.underlying9 Tryd.underlying3 (by kernel_rfl) (by kernel_rfl) (by kernel_rfl) (hval 1 26 v1 rfl rfl) h1
  obtain ⟨a2, rfl, rfl, rfl, w2⟩ := open_int Tryd.underlying3 (hval 2 3 v2 rfl rfl) h2
  clear hA0 hval0
  refine (walk N0 a0 b0 k0 c0 d0 m0 N1 a1 b1 k1 c1 d1 m1 a2 W w0 w1 w2 (tabs_of hL)).mono fun e W' ⟨he, bel⟩ => ?_
  subst he
  exact ⟨_, rfl, _, _, _, [], _, [], hW', trodAll_mk1 (shut_bool Tryd.underlying4 _), (trodAll_cons_mk (Below.trod laidOut (by kernel_rfl) (of_decide_eq_true (by kernel_rfl)) K0 bel lt0) (trodAll_cons_mk (Below.trod laidOut (by kernel_rfl) (of_decide_eq_true (by kernel_rfl)) K1 bel lt1) (trodAll_cons_mk (shut_int Tryd.underlying3 w2) trodAll_mk0))), rfl, bel.frame _, fun h => by cases h⟩

theorem row : Rows.fieldLeastRow.holds Tryd.pinned (OpenSpec.ofChange Rows.fieldLeastSpec) :=
  OpenClaim.holds_of_wide 6 Tryd.f6 rfl rfl rfl rfl rfl rfl rfl ⟨rfl, rfl, rfl, rfl, rfl⟩ rfl rfl rfl rfl rfl (by kernel_rfl) Tryd.func6 (by kernel_rfl)
    (of_decide_eq_true (by kernel_rfl)) (by unfold Func.isWrapper; first | (rw [if_pos (by decide +kernel)]; kernel_rfl) | (rw [if_neg (by decide +kernel)]; exact ⟨rfl, rfl⟩))
    (fun os started H enc _ => lifted os started H enc)

/-- No parameter wants a stand-in; the program's own looks are off: what the card asks. -/
theorem plain (f : FuncId) (fn : Func) (hf : Tryd.pinned.checked.prog.funcNamed Rows.fieldLeastRow.func = some f) (hfn : Tryd.pinned.checked.prog.funcs[f]? = some fn) :
    false = Tryd.pinned.checked.prog.looks [] ∧ ∀ (j : Nat) t, fn.params[j]? = some t → Tryd.pinned.checked.prog.wantsStandIn t = false := by
  obtain rfl : f = 6 := Option.some.inj ((show Tryd.prog.funcNamed Rows.fieldLeastRow.func = some 6 by kernel_rfl).symm.trans hf) |>.symm
  obtain rfl : fn = Tryd.f6 := (Option.some.inj (Tryd.func6.symm.trans hfn)).symm
  refine ⟨by kernel_rfl, fun j t ht => ?_⟩
  have hm := Array.mem_of_getElem? ht
  have hall : (Tryd.f6.params.toList.all fun u => !Tryd.prog.wantsStandIn u) = true := by kernel_rfl
  exact (show Tryd.prog.wantsStandIn t = false by simpa using List.all_eq_true.1 hall t (by simpa using hm))

/-- ████ THE CARD ████ -/
theorem over : Rows.FieldLeastCardSaid :=
  Claim7.holds_tied_plain_at .later [] _ _ _ _ row (fun _ h => by cases h) (by kernel_rfl) (fun _ h => by cases h) fieldLeast_row_tie rfl ⟨rfl, rfl⟩ (by kernel_rfl) rfl plain (by kernel_rfl)

end Go.Proofs.YtaochgndednamaaDoor.fieldLeast

namespace Go.Proofs.YtaochgndednamaaDoor
theorem fieldLeast_holds : Rows.FieldLeastCardSaid := fieldLeast.over
#print axioms fieldLeast_holds
end Go.Proofs.YtaochgndednamaaDoor
