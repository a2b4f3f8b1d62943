/- For every node and every list of sets: field's Set answers the node that the document says, or the error; and the node that it was asked of stays as it was (more than the law plays with is let go by the law itself); nothing that came in is changed. The package schema's tables hold what the program's text lays into them when the call begins (the card ties that). -/
import Derived.Test.YtaochgndednamaaDoorRows
import Derived.Test.YtaochgndednamaaDoorCards
import Derived.Test.YtaochgndednamaaDoorTie
import Derived.WalkKit
import Derived.ProofKit
import Derived.OpenShut
import Derived.ShutString
import Derived.Below
import Derived.Test.YtaochgndednamaaDoorFLaid
import Derived.Test.YtaochgndednamaaDoorAwake08b
import Derived.Test.YtaochgndednamaaDoorFIn
import Derived.Test.YtaochgndednamaaDoorFSR
import Derived.ChangeOld
import Derived.LaidMore
import Derived.SevenTiedAt
namespace Go.Proofs.YtaochgndednamaaDoor.fieldSets
open Go.ChangeShapes Go.WideShapes Go.ChangeAt Go.RowKit
open Go.ChangeMaps (open_string shut_string)
set_option linter.unusedVariables false

theorem own : ownKnob Tryd.prog.godebug = none := by kernel_rfl
theorem laidOut : laidOutB Tryd.prog = true := by kernel_rfl

/-- The argument's block. -/
structure B1 (w W : World) (cs : Array Value) : Prop where
  a : AtN 26 W w.heap.size cs
  t : Tabs8 W
  bel : Below w.heap.size w W
theorem B1.more {w W W' : World} {cs : Array Value} (h : B1 w W cs) (hb : Below W.heap.size W W') : B1 w W' cs := ⟨h.a.belowAll hb, h.t.below hb, bjoin h.bel hb h.bel.size⟩
theorem B1.start (w : World) (cs : Array Value) (hT : Tabs8 w) : B1 w (w.alloc (.cells cs 26)) cs :=
  have hb : Below w.heap.size w (w.alloc (.cells cs 26)) := (Below.refl w.heap.size w).alloc (Nat.le_refl _) _
  ⟨AtN.new w 26 _, hT.below hb, hb⟩

/-- The facts of the region that asks for the set node. -/
def sF (N : Nd) (u1 u2 u3 : Option Addr) (e1 e2 e3 : Nat) (a1 : Option Addr) (c1 : Nat) (L : List St) (R : Nd × Int) (B : Nat) : Nat → (Option Tmp → Value) → World → Prop
  | 0, V, _ => V (some 25) = .agg #[.int .i64 N.kind, .slice u1 N.ints.length e1, .slice u2 N.texts.length e2, .slice u3 N.kids.length e3]
  | 1, V, W => W.ownsRow B 51 4 (V (some 26)) 0 [] ∧ ∃ g, V (some 26) = .slice (some ⟨g, 0, none⟩) 0 0
  | 2, V, _ => V (some 27) = .slice a1 L.length c1
  | 3, V, W => W.ownsRow B 51 4 (V (some 28)) L.length (stV L)
  | 4, V, W => TupIs R B (V (some 29)) W
  | 5, V, W => TupIs R B (V (some 24)) W
  | 6, V, W => AggIs R.1 B (V (some 30)) W
  | 7, V, _ => V (some 31) = .int .i64 R.2
  | 8, V, W => BlkIs B (V (some 6)) W
  | 9, V, W => PutIs R.1 B (V (some 6)) W
  | 10, V, _ => V (some 7) = .int .i64 R.2
  | _, _, _ => True
def sR (B : Nat) (i : Nat) (w w' : World) : Prop := if i = 9 then Stored B w w' else w.grownBy w' none

theorem sF_stab (N : Nd) (u1 u2 u3 : Option Addr) (e1 e2 e3 : Nat) (a1 : Option Addr) (c1 : Nat) (L : List St) (R : Nd × Int) (B : Nat) : ∀ i j V w w', i ≠ j → (1000 : Nat) ≠ i → (false = false) → sR B i w w' → sF N u1 u2 u3 e1 e2 e3 a1 c1 L R B j V w → sF N u1 u2 u3 e1 e2 e3 a1 c1 L R B j V w' := by
  intro i j V w w' hne _ _ hR h
  unfold sR at hR
  by_cases h9 : i = 9
  · rw [if_pos h9] at hR
    match j, h with
    | 0, h | 2, h | 7, h | 10, h => exact h
    | 1, h => exact ⟨hR.row h.1 (by decide), h.2⟩
    | 3, h => exact hR.row h (by decide)
    | 4, h | 5, h => exact TupIs.st h hR
    | 6, h => exact AggIs.st h hR
    | 8, h => exact BlkIs.st h hR
    | 9, _ => omega
    | n + 11, _ => trivial
  · rw [if_neg h9] at hR
    match j, h with
    | 0, h | 2, h | 7, h | 10, h => exact h
    | 1, h => exact ⟨grown_row hR h.1, h.2⟩
    | 3, h => exact grown_row hR h
    | 4, h | 5, h => exact TupIs.grown h hR
    | 6, h => exact AggIs.grown h hR
    | 8, h => exact BlkIs.grown h hR
    | 9, h => exact PutIs.grown h hR
    | n + 11, _ => trivial

set_option maxRecDepth 10000 in
set_option maxHeartbeats 400000 in
theorem walkG (N0 : Nd) (a0 b0 k0 : Option Addr) (c0 d0 m0 : Nat) (n1 : Nat) (a1 : Option Addr) (c1 : Nat) (w : World) (h : LsAt w b0 (tV N0.texts)) (hT : Tabs8 w) (hg : great N0 = true ∨ great N0 = false ∧ 100 < n1) :
    Calls Tryd.prog 4 #[.agg #[.int .i64 N0.kind, .slice a0 N0.ints.length c0, .slice b0 N0.texts.length d0, .slice k0 N0.kids.length m0], .slice a1 n1 c1] w fun e w' => e = .returned (.bool true) ∧ Below w.heap.size w w' := by
  have HS : Hid _ := B1.start w #[.int .i64 N0.kind, .slice a0 N0.ints.length c0, .slice b0 N0.texts.length d0, .slice k0 N0.kids.length m0] hT
  have HA : Hid _ := fun (W : World) (t : Tabs8 W) => awake_any W t
  have HG : Hid _ := fun (W : World) (hb : Below w.heap.size w W) => great_any N0 a0 b0 k0 c0 d0 m0 W (h.belowB hb)
  clear h hT
  generalize great N0 = G at *
  go_enter Tryd.func4, Tryd.ntmps4
  go_wp2_with fail
  refine (HA.out _ HS.out.t).mono ?_
  rintro e w2 ⟨rfl, b2⟩
  have S2 := HS.out.more b2
  have q0 : w2.cell? ⟨w.heap.size, 0, none⟩ = some (.int .i64 N0.kind) := S2.a.cell 0
  have q1 : w2.cell? ⟨w.heap.size, 1, none⟩ = some (.slice a0 N0.ints.length c0) := S2.a.cell 1
  have q2 : w2.cell? ⟨w.heap.size, 2, none⟩ = some (.slice b0 N0.texts.length d0) := S2.a.cell 2
  have q3 : w2.cell? ⟨w.heap.size, 3, none⟩ = some (.slice k0 N0.kids.length m0) := S2.a.cell 3
  have HS2 : Hid _ := S2
  clear S2 b2 HS
  go_wp2_with fail
  refine (HG.out _ HS2.out.bel).mono ?_
  rintro e w3 ⟨rfl, b3⟩
  have HS3 : Hid _ := HS2.out.more b3
  clear b3 HS2 q0 q1 q2 q3
  rcases hg with rfl | ⟨rfl, hn⟩
  · go_wp2_with fail
    refine (HA.out _ HS3.out.t).mono ?_
    rintro e w4 ⟨rfl, b4⟩
    have HB4 : Hid _ := (HS3.out.more b4).bel
    clear b4
    go_wp2_with fail
    go_ret
    exact ⟨rfl, HB4.out⟩
  · have hn' : (100 : Int) < n1 := by omega
    go_wp2_with fail
    refine (HA.out _ HS3.out.t).mono ?_
    rintro e w4 ⟨rfl, b4⟩
    have HB4 : Hid _ := (HS3.out.more b4).bel
    clear b4
    go_wp2_with fail
    go_ret
    exact ⟨rfl, HB4.out⟩

set_option maxRecDepth 10000 in
set_option maxHeartbeats 4000000 in
theorem walkF (N0 : Nd) (a0 b0 k0 : Option Addr) (c0 d0 m0 : Nat) (L1 : List St) (a1 : Option Addr) (c1 : Nat) (w : World) (h : NdAt w N0 a0 b0 k0) (hL : LsAt w a1 (stV L1)) (hT : Tabs8 w) (hg : great N0 = false) (hn : ¬ 100 < L1.length) :
    Calls Tryd.prog 4 #[.agg #[.int .i64 N0.kind, .slice a0 N0.ints.length c0, .slice b0 N0.texts.length d0, .slice k0 N0.kids.length m0], .slice a1 L1.length c1] w fun e w' => e = .returned (.bool true) ∧ Below w.heap.size w w' := by
  have HS : Hid _ := B1.start w #[.int .i64 N0.kind, .slice a0 N0.ints.length c0, .slice b0 N0.texts.length d0, .slice k0 N0.kids.length m0] hT
  have HA : Hid _ := fun (W : World) (t : Tabs8 W) => awake_any W t
  have HG : Hid _ := fun (W : World) (hb : Below w.heap.size w W) => great_any N0 a0 b0 k0 c0 d0 m0 W (h.t.belowB hb)
  rw [hg] at HG
  obtain ⟨g1, g2, g3, -⟩ := great_no hg
  have HR : Hid _ := fun (W : World) (hb : Below w.heap.size w W) => rcopy_any N0 a0 b0 k0 c0 d0 m0 W (h.belowB hb) g1 g2 g3
  obtain ⟨R, hR⟩ : ∃ R, setR N0 L1 = R := ⟨_, rfl⟩
  have hRl : R.1.ints.length ≤ 100 ∧ R.1.texts.length ≤ 100 ∧ R.1.kids.length ≤ 300 := by
    rw [← hR]
    unfold setR
    split
    · obtain ⟨-, p2, p3, p4⟩ := putL_len L1 N0
      exact ⟨by rw [p3]; exact g1, by rw [p4]; exact g2, by rw [p2]; exact g3⟩
    · exact ⟨by decide, by decide, by decide⟩
  have HC : Hid _ := fun (u1 u2 u3 b : Option Addr) (e1 e2 e3 d : Nat) (W : World) (hN : NdAt W N0 u1 u2 u3) (hW : LsAt W b (stV L1)) => set_any N0 L1 u1 u2 u3 b e1 e2 e3 d W hN hW g1 g2 g3 (by omega)
  have HD : Hid _ := fun (W : World) (hb : Below w.heap.size w W) => rset_any N0 L1 a0 b0 k0 a1 c0 d0 m0 c1 W (h.belowB hb) (hL.belowB hb) g1 g2 g3 (by omega)
  rw [hR] at HC HD
  have HE : Hid _ := fun (u1 u2 u3 v1 v2 v3 : Option Addr) (e1 e2 e3 f1 f2 f3 : Nat) (W : World) (hN : NdAt W R.1 u1 u2 u3) (hM : NdAt W R.1 v1 v2 v3) => same8_yes R.1 u1 u2 u3 v1 v2 v3 e1 e2 e3 f1 f2 f3 W hN hM hRl.1 hRl.2.1 hRl.2.2
  have HL : Hid _ := hL
  have hn' : ¬ (100 : Int) < L1.length := by omega
  have HM : Hid _ := fun (u1 u2 u3 : Option Addr) (e1 e2 e3 : Nat) (W : World) (hN : NdAt W N0 u1 u2 u3) (hb : Below w.heap.size w W) => same8_yes N0 u1 u2 u3 a0 b0 k0 e1 e2 e3 c0 d0 m0 W hN (h.belowB hb) g1 g2 g3
  clear h hT hg hR hL hRl
  go_enter Tryd.func4, Tryd.ntmps4
  go_wp2_with fail
  refine (HA.out _ HS.out.t).mono ?_
  rintro e w2 ⟨rfl, b2⟩
  have S2 := HS.out.more b2
  have q0 : w2.cell? ⟨w.heap.size, 0, none⟩ = some (.int .i64 N0.kind) := S2.a.cell 0
  have q1 : w2.cell? ⟨w.heap.size, 1, none⟩ = some (.slice a0 N0.ints.length c0) := S2.a.cell 1
  have q2 : w2.cell? ⟨w.heap.size, 2, none⟩ = some (.slice b0 N0.texts.length d0) := S2.a.cell 2
  have q3 : w2.cell? ⟨w.heap.size, 3, none⟩ = some (.slice k0 N0.kids.length m0) := S2.a.cell 3
  have HS2 : Hid _ := S2
  clear S2 b2 HS
  go_wp2_with fail
  refine (HG.out _ HS2.out.bel).mono ?_
  rintro e w3 ⟨rfl, b3⟩
  have S3 := HS2.out.more b3
  have q0 : w3.cell? ⟨w.heap.size, 0, none⟩ = some (.int .i64 N0.kind) := S3.a.cell 0
  have q1 : w3.cell? ⟨w.heap.size, 1, none⟩ = some (.slice a0 N0.ints.length c0) := S3.a.cell 1
  have q2 : w3.cell? ⟨w.heap.size, 2, none⟩ = some (.slice b0 N0.texts.length d0) := S3.a.cell 2
  have q3 : w3.cell? ⟨w.heap.size, 3, none⟩ = some (.slice k0 N0.kids.length m0) := S3.a.cell 3
  have HS3 : Hid _ := S3
  clear S3 b3 HS2
  go_wp2_with fail
  refine (HR.out _ HS3.out.bel).mono ?_
  rintro e w4 ⟨u1, e1, u2, e2, u3, e3, rfl, hO4, b4⟩
  have M4 : Below w3.heap.size w3 (w4.alloc (.cells #[.int .i64 N0.kind, .slice u1 N0.ints.length e1, .slice u2 N0.texts.length e2, .slice u3 N0.kids.length e3] 26)) := balloc b4 b4.size _
  have S4 := HS3.out.more M4
  have T4 := AtN.new w4 26 #[.int .i64 N0.kind, .slice u1 N0.ints.length e1, .slice u2 N0.texts.length e2, .slice u3 N0.kids.length e3]
  have N4 := hO4.ndAt.alloc (.cells #[.int .i64 N0.kind, .slice u1 N0.ints.length e1, .slice u2 N0.texts.length e2, .slice u3 N0.kids.length e3] 26)
  have HS4 : Hid _ := And.intro S4 (And.intro T4 N4)
  clear S4 T4 N4 hO4 b4 HS3 M4 q0 q1 q2 q3
  obtain ⟨i0, hi0, hz0, hz1, hz2⟩ := info_parts Tryd.infoSet
  go_wp2_with fail
  generalize w4.alloc (.cells #[.int .i64 N0.kind, .slice u1 N0.ints.length e1, .slice u2 N0.texts.length e2, .slice u3 N0.kids.length e3] 26) = W0 at *
  generalize w4.heap.size = g5 at *
  refine facts_region2 (fun W => Below W0.heap.size W0 W) (sR W0.heap.size) (fun _ => 1000) (fun _ _ => false) (sF N0 u1 u2 u3 e1 e2 e3 a1 c1 L1 R W0.heap.size) (by kernel_rfl) (by kernel_rfl) (Below.refl _ _).drew (fun _ _ _ _ _ _ h => by cases h) (sF_stab N0 u1 u2 u3 e1 e2 e3 a1 c1 L1 R W0.heap.size) ?gl ?loc ?step ?fin
  case gl =>
    intro i W W' hR hb
    unfold sR at hR
    by_cases h9 : i = 9
    · rw [if_pos h9] at hR
      exact hR.below hb hb.size
    · rw [if_neg h9] at hR
      exact hb.grown hR hb.size (by simp)
  case loc =>
    intro j o V V' W ho hd hk h
    rcases j with _|_|_|_|_|_|_|_|_|_|_|j
    · obtain rfl := Option.some.inj ho
      have e : V (some 25) = V' (some 25) := hd
      simp only [sF] at h ⊢
      rw [← e]; exact h
    · obtain rfl := Option.some.inj ho
      have e : V (some 26) = V' (some 26) := hd
      simp only [sF] at h ⊢
      rw [← e]; exact h
    · obtain rfl := Option.some.inj ho
      have e : V (some 27) = V' (some 27) := hd
      simp only [sF] at h ⊢
      rw [← e]; exact h
    · obtain rfl := Option.some.inj ho
      have e : V (some 28) = V' (some 28) := hd
      simp only [sF] at h ⊢
      rw [← e]; exact h
    · obtain rfl := Option.some.inj ho
      have e : V (some 29) = V' (some 29) := hd
      simp only [sF] at h ⊢
      rw [← e]; exact h
    · obtain rfl := Option.some.inj ho
      have e : V (some 24) = V' (some 24) := hd
      simp only [sF] at h ⊢
      rw [← e]; exact h
    · obtain rfl := Option.some.inj ho
      have e : V (some 30) = V' (some 30) := hd
      simp only [sF] at h ⊢
      rw [← e]; exact h
    · obtain rfl := Option.some.inj ho
      have e : V (some 31) = V' (some 31) := hd
      simp only [sF] at h ⊢
      rw [← e]; exact h
    · obtain rfl := Option.some.inj ho
      have e : V (some 6) = V' (some 6) := hd
      simp only [sF] at h ⊢
      rw [← e]; exact h
    · obtain rfl := Option.some.inj ho
      have e : V (some 6) = V' (some 6) := hk 8 _ (by kernel_rfl) rfl
      simp only [sF] at h ⊢
      rw [← e]; exact h
    · obtain rfl := Option.some.inj ho
      have e : V (some 7) = V' (some 7) := hd
      simp only [sF] at h ⊢
      rw [← e]; exact h
    · exact absurd ho (by simp)
  case step =>
    intro i o ho a W hG hoff hdep K hK
    have t1 : a.tmps[1]?.getD undef = .slice a1 L1.length c1 := hoff 1 (by kernel_rfl)
    have t5 : a.tmps[5]?.getD undef = .pointer (some ⟨g5, 0, none⟩) := hoff 5 (by kernel_rfl)
    have hsz : W0.heap.size ≤ W.heap.size := hG.size
    clear hoff HA HG HR HD HE HM
    rcases i with _|_|_|_|_|_|_|_|_|_|_|i
    · obtain rfl := Option.some.inj ho
      have A0 := HS4.out.2.1.belowAll hG
      have d0 : W.cell? ⟨g5, 0, none⟩ = some (.int .i64 N0.kind) := A0.cell 0
      have d1 : W.cell? ⟨g5, 1, none⟩ = some (.slice u1 N0.ints.length e1) := A0.cell 1
      have d2 : W.cell? ⟨g5, 2, none⟩ = some (.slice u2 N0.texts.length e2) := A0.cell 2
      have d3 : W.cell? ⟨g5, 3, none⟩ = some (.slice u3 N0.kids.length e3) := A0.cell 3
      clear hdep A0 HS4 HL HC hG
      go_simp
      exact hK _ _ (grown_refl _ _) (fun V' h1 _ => h1)
    · obtain rfl := Option.some.inj ho
      clear hdep HS4 HL HC hG
      go_simp
      exact hK _ _ (World.grownBy_alloc _ _ _) (fun V' h1 _ => by
        have e : V' (some 26) = .slice (some ⟨W.heap.size, 0, none⟩) 0 0 := h1
        simp only [sF]
        rw [e]
        exact ⟨World.ownsRow_lit W #[] 0 hsz (by decide) (by simp), _, rfl⟩)
    · obtain rfl := Option.some.inj ho
      clear hdep HS4 HL HC hG
      go_simp
      exact hK _ _ (grown_refl _ _) (fun V' h1 _ => h1)
    · obtain rfl := Option.some.inj ho
      have x1 : W.ownsRow W0.heap.size 51 4 (a.tmps[26]?.getD undef) 0 [] ∧ ∃ g, (a.tmps[26]?.getD undef) = .slice (some ⟨g, 0, none⟩) 0 0 := hdep 1 (by kernel_rfl) (.inr (by decide))
      have x2 : a.tmps[27]?.getD undef = .slice a1 L1.length c1 := hdep 2 (by kernel_rfl) (.inr (by decide))
      obtain ⟨x0, g, xg⟩ := x1
      rw [xg] at x0
      have hLW := LsAt.belowB HL.out (HS4.out.1.bel.trans (hG.mono HS4.out.1.bel.size))
      clear hdep HS4 HL HC hG
      by_cases hm : 0 < L1.length
      · obtain ⟨y, rfl⟩ : ∃ y, a1 = some y := by
          obtain ⟨b, o, hb, _⟩ := hLW
          exact ⟨_, hb (by rw [stV_length]; omega)⟩
        refine step_append_grows rfl (.tmp 26) (.tmp 27) 36 rfl 51 i0 (.agg #[.bool false, .int .i64 0, .int .i64 0, .string ⟨#[]⟩]) 4 40 Tryd.underlying36 hi0 hz0 hz1 hz2 rfl (by decide) (some ⟨g, 0, none⟩) 0 0 [] (by simpa [Act.eval] using xg) (by simp) rfl (by simp) y L1.length c1 (stV L1) (by simpa [Act.eval] using x2) (stV_length L1) hLW.news (stV_cell L1) (by omega) (by unfold maxLen; omega) (by omega) ?_
        intro v' w' ho' hg'
        have ho2 : w'.ownsRow W0.heap.size 51 4 v' L1.length (stV L1) := by simpa using own_mono ho' hsz
        exact hK _ _ hg' (fun V' h1 _ => by
          have e : V' (some 28) = v' := h1
          simp only [sF]
          rw [e]; exact ho2)
      · have hz : L1.length = 0 := by omega
        rw [hz] at x2
        have ho2 : W.ownsRow W0.heap.size 51 4 (.slice (some ⟨g, 0, none⟩) 0 0) L1.length (stV L1) := by
          have : L1 = [] := List.length_eq_zero_iff.1 hz
          rw [this]; exact x0
        rcases a1 with _ | y <;> (go_simp; exact hK _ _ (grown_refl _ _) (fun V' h1 _ => by
          have e : V' (some 28) = .slice (some ⟨g, 0, none⟩) 0 0 := h1
          simp only [sF]
          rw [e]; exact ho2))
    · obtain rfl := Option.some.inj ho
      have x0 : a.tmps[25]?.getD undef = .agg #[.int .i64 N0.kind, .slice u1 N0.ints.length e1, .slice u2 N0.texts.length e2, .slice u3 N0.kids.length e3] := hdep 0 (by kernel_rfl) (.inr (by decide))
      have x3 : W.ownsRow W0.heap.size 51 4 (a.tmps[28]?.getD undef) L1.length (stV L1) := hdep 3 (by kernel_rfl) (.inr (by decide))
      obtain ⟨b, d, xb⟩ := own_shape8 x3
      rw [xb] at x3
      have hW := LsAt.of_own4 x3
      have hN := HS4.out.2.2.belowB hG
      have HX : Hid _ := HC.out _ _ _ _ e1 e2 e3 d W hN hW
      clear hdep HS4 HL HC hG x3 hW hN
      go_simp
      refine Calls.mono HX.out ?_
      rintro e w' ⟨p1, j1, p2, j2, p3, j3, rfl, hO, hb⟩
      exact hK _ _ (below_grown0 hb _) (fun V' h1 _ => by
        have e : V' (some 29) = _ := h1
        simp only [sF]
        rw [e]
        exact ⟨p1, j1, p2, j2, p3, j3, rfl, hO.mono hsz⟩)
    · obtain rfl := Option.some.inj ho
      have x4 : TupIs R W0.heap.size (a.tmps[29]?.getD undef) W := hdep 4 (by kernel_rfl) (.inr (by decide))
      obtain ⟨p1, j1, p2, j2, p3, j3, xe, hO⟩ := x4
      clear hdep HS4 HL HC hG
      have HO : Hid _ := hO
      clear hO
      go_simp
      exact hK _ _ (grown_refl _ _) (fun V' h1 _ => by
        have e : V' (some 24) = _ := h1
        simp only [sF]
        rw [e]
        exact ⟨p1, j1, p2, j2, p3, j3, rfl, HO.out⟩)
    · obtain rfl := Option.some.inj ho
      have x4 : TupIs R W0.heap.size (a.tmps[24]?.getD undef) W := hdep 5 (by kernel_rfl) (.inr (by decide))
      obtain ⟨p1, j1, p2, j2, p3, j3, xe, hO⟩ := x4
      clear hdep HS4 HL HC hG
      have HO : Hid _ := hO
      clear hO
      go_simp
      exact hK _ _ (grown_refl _ _) (fun V' h1 _ => by
        have e : V' (some 30) = _ := h1
        simp only [sF]
        rw [e]
        exact ⟨p1, j1, p2, j2, p3, j3, rfl, HO.out⟩)
    · obtain rfl := Option.some.inj ho
      have x4 : TupIs R W0.heap.size (a.tmps[24]?.getD undef) W := hdep 5 (by kernel_rfl) (.inr (by decide))
      obtain ⟨p1, j1, p2, j2, p3, j3, xe, hO⟩ := x4
      clear hdep HS4 HL HC hG hO
      go_simp
      exact hK _ _ (grown_refl _ _) (fun V' h1 _ => h1)
    · obtain rfl := Option.some.inj ho
      clear hdep HS4 HL HC hG
      go_simp
      exact hK _ _ (World.grownBy_alloc _ _ _) (fun V' h1 _ => by
        have e : V' (some 6) = .pointer (some ⟨W.heap.size, 0, none⟩) := h1
        simp only [sF]
        rw [e]
        exact ⟨W.heap.size, _, _, _, _, rfl, hsz, AtN.new W 26 _⟩)
    · obtain rfl := Option.some.inj ho
      have x8 : BlkIs W0.heap.size (a.tmps[6]?.getD undef) W := hdep 8 (by kernel_rfl) (.inr (by decide))
      have x6 : AggIs R.1 W0.heap.size (a.tmps[30]?.getD undef) W := hdep 6 (by kernel_rfl) (.inr (by decide))
      obtain ⟨g, y0, y1, y2, y3, xe, hB, A⟩ := x8
      obtain ⟨p1, j1, p2, j2, p3, j3, xf, hO⟩ := x6
      have x0 : W.cell? ⟨g, 0, none⟩ = some y0 := A.cell 0
      have x1 : W.cell? ⟨g, 1, none⟩ = some y1 := A.cell 1
      have x2 : W.cell? ⟨g, 2, none⟩ = some y2 := A.cell 2
      have x3 : W.cell? ⟨g, 3, none⟩ = some y3 := A.cell 3
      have f0 := A.fz 0
      have f1 := A.fz 1
      have f2 := A.fz 2
      have f3 := A.fz 3
      have HX : Hid _ := And.intro (stored4 (B := W0.heap.size) A hB (.int .i64 R.1.kind) (.slice p1 R.1.ints.length j1) (.slice p2 R.1.texts.length j2) (.slice p3 R.1.kids.length j3)) (And.intro (at_set4 A (.int .i64 R.1.kind) (.slice p1 R.1.ints.length j1) (.slice p2 R.1.texts.length j2) (.slice p3 R.1.kids.length j3)) hO)
      clear hO A HS4 HL HC hG
      clear hdep
      go_simp
      exact hK undef _ HX.out.1 (fun V' _ h2 => by
        have e : V' (some 6) = .pointer (some ⟨g, 0, none⟩) := (h2 8 _ (by kernel_rfl) rfl).trans xe
        simp only [sF]
        rw [e]
        exact ⟨g, p1, j1, p2, j2, p3, j3, rfl, HX.out.2.1, HX.out.1.nd HX.out.2.2⟩)
    · obtain rfl := Option.some.inj ho
      have x7 : a.tmps[31]?.getD undef = .int .i64 R.2 := hdep 7 (by kernel_rfl) (.inr (by decide))
      clear hdep HS4 HL HC hG
      go_simp
      exact hK _ _ (grown_refl _ _) (fun V' h1 _ => h1)
    · exact absurd ho (by simp)
  case fin =>
    intro V W hG hF
    have y9 : PutIs R.1 W0.heap.size (V (some 6)) W := hF 9 _ rfl (by decide)
    have y10 : V (some 7) = .int .i64 R.2 := hF 10 _ rfl (by decide)
    obtain ⟨g6, p1, j1, p2, j2, p3, j3, y6, A6, O6⟩ := y9
    have S5 := HS4.out.1.more hG
    have T5 := HS4.out.2.1.belowAll hG
    have N5 := HS4.out.2.2.belowB hG
    have q0 : W.cell? ⟨w.heap.size, 0, none⟩ = some (.int .i64 N0.kind) := S5.a.cell 0
    have q1 : W.cell? ⟨w.heap.size, 1, none⟩ = some (.slice a0 N0.ints.length c0) := S5.a.cell 1
    have q2 : W.cell? ⟨w.heap.size, 2, none⟩ = some (.slice b0 N0.texts.length d0) := S5.a.cell 2
    have q3 : W.cell? ⟨w.heap.size, 3, none⟩ = some (.slice k0 N0.kids.length m0) := S5.a.cell 3
    have HS5 : Hid _ := And.intro S5 (And.intro T5 (And.intro N5 (And.intro A6 O6.ndAt)))
    clear S5 T5 N5 A6 O6 HS4 HC HL hF hG
    simp only [fillA, Act.put, List.setIfInBounds_toArray, List.set_cons_zero, List.set_cons_succ, y6, y10]
    generalize V (some 25) = z25
    generalize V (some 26) = z26
    generalize V (some 27) = z27
    generalize V (some 28) = z28
    generalize V (some 29) = z29
    generalize V (some 24) = z24
    generalize V (some 30) = z30
    generalize V (some 31) = z31
    clear y6 y10
    go_wp2_with fail
    refine (HD.out _ HS5.out.1.bel).mono ?_
    rintro e w6 ⟨s1, l1, s2, l2, s3, l3, rfl, hO6, b6⟩
    have M6 : Below W.heap.size W (w6.alloc (.cells #[.int .i64 R.1.kind, .slice s1 R.1.ints.length l1, .slice s2 R.1.texts.length l2, .slice s3 R.1.kids.length l3] 26)) := balloc b6 b6.size _
    have S6 := HS5.out.1.more M6
    have T6 := HS5.out.2.1.belowAll M6
    have N6 := HS5.out.2.2.1.belowB M6
    have A6 := HS5.out.2.2.2.1.belowAll M6
    have D6 := HS5.out.2.2.2.2.belowB M6
    have E6 := AtN.new w6 26 #[.int .i64 R.1.kind, .slice s1 R.1.ints.length l1, .slice s2 R.1.texts.length l2, .slice s3 R.1.kids.length l3]
    have F6 := hO6.ndAt.alloc (.cells #[.int .i64 R.1.kind, .slice s1 R.1.ints.length l1, .slice s2 R.1.texts.length l2, .slice s3 R.1.kids.length l3] 26)
    have l6 : g6 < w6.heap.size := (HS5.out.2.2.2.1.belowAll b6).lt
    have v0 : w6.cell? ⟨g6, 0, none⟩ = some (.int .i64 R.1.kind) := (HS5.out.2.2.2.1.belowAll b6).cell 0
    have v1 : w6.cell? ⟨g6, 1, none⟩ = some (.slice p1 R.1.ints.length j1) := (HS5.out.2.2.2.1.belowAll b6).cell 1
    have v2 : w6.cell? ⟨g6, 2, none⟩ = some (.slice p2 R.1.texts.length j2) := (HS5.out.2.2.2.1.belowAll b6).cell 2
    have v3 : w6.cell? ⟨g6, 3, none⟩ = some (.slice p3 R.1.kids.length j3) := (HS5.out.2.2.2.1.belowAll b6).cell 3
    have HS6 : Hid _ := And.intro S6 (And.intro T6 (And.intro N6 (And.intro D6 F6)))
    clear S6 T6 N6 A6 D6 E6 F6 M6 hO6 b6 HS5 q0 q1 q2 q3 HD
    go_wp2_with fail
    refine (HE.out _ _ _ _ _ _ _ _ _ _ _ _ _ HS6.out.2.2.2.1 HS6.out.2.2.2.2).mono ?_
    rintro e w7 ⟨rfl, b7⟩
    have S7 := HS6.out.1.more b7
    have T7 := HS6.out.2.1.belowAll b7
    have q0 : w7.cell? ⟨w.heap.size, 0, none⟩ = some (.int .i64 N0.kind) := S7.a.cell 0
    have q1 : w7.cell? ⟨w.heap.size, 1, none⟩ = some (.slice a0 N0.ints.length c0) := S7.a.cell 1
    have q2 : w7.cell? ⟨w.heap.size, 2, none⟩ = some (.slice b0 N0.texts.length d0) := S7.a.cell 2
    have q3 : w7.cell? ⟨w.heap.size, 3, none⟩ = some (.slice k0 N0.kids.length m0) := S7.a.cell 3
    have r0 : w7.cell? ⟨g5, 0, none⟩ = some (.int .i64 N0.kind) := T7.cell 0
    have r1 : w7.cell? ⟨g5, 1, none⟩ = some (.slice u1 N0.ints.length e1) := T7.cell 1
    have r2 : w7.cell? ⟨g5, 2, none⟩ = some (.slice u2 N0.texts.length e2) := T7.cell 2
    have r3 : w7.cell? ⟨g5, 3, none⟩ = some (.slice u3 N0.kids.length e3) := T7.cell 3
    have HS7 : Hid _ := And.intro S7 (HS6.out.2.2.1.belowB b7)
    clear S7 T7 HS6 b7
    go_wp2_with fail
    refine (HM.out _ _ _ _ _ _ _ HS7.out.2 HS7.out.1.bel).mono ?_
    rintro e w8 ⟨rfl, b8⟩
    have HB : Hid _ := (HS7.out.1.more b8).bel
    clear HS7 b8
    go_wp2_with fail
    go_ret
    exact ⟨rfl, HB.out⟩

set_option maxRecDepth 10000 in
set_option maxHeartbeats 400000 in
theorem walk (N0 : Nd) (a0 b0 k0 : Option Addr) (c0 d0 m0 : Nat) (a1 : Option Addr) (c1 : Nat) (L1 : List St) (w : World) (w0 : IsNd w N0 a0 b0 k0) (w1 : LsAt w a1 (stV L1)) (hT : Tabs8 w) :
    Calls Tryd.prog 4 #[.agg #[.int .i64 N0.kind, .slice a0 N0.ints.length c0, .slice b0 N0.texts.length d0, .slice k0 N0.kids.length m0], .slice a1 L1.length c1] w fun e w' => e = .returned (.bool true) ∧ Below w.heap.size w w' := by
  cases hg : great N0 with
  | true => exact walkG N0 a0 b0 k0 c0 d0 m0 L1.length a1 c1 w w0.1.t hT (.inl hg)
  | false =>
    by_cases hn : 100 < L1.length
    · exact walkG N0 a0 b0 k0 c0 d0 m0 L1.length a1 c1 w w0.1.t hT (.inr ⟨hg, hn⟩)
    · exact walkF N0 a0 b0 k0 c0 d0 m0 L1 a1 c1 w w0.1 w1 hT hg hn

set_option maxRecDepth 100000 in
theorem lifted (os : Os) (started : os.Started) (H : Type) (enc : TypeId × Value → H) :
    ReturnsInHanded {} Tryd.checked os 4 .any (fun w args => (Rows.fieldSetsSpec.pre enc Tryd.prog Tryd.f4 [] false w args ∧ laidMetH Tryd.prog laid2 w) ∧ sizedMet enc Tryd.prog Tryd.f4 (OpenSpec.ofChange Rows.fieldSetsSpec) false w args)
      (Rows.fieldSetsSpec.post enc Tryd.prog Tryd.f4 false true false false) := by
  refine returnsInHanded_of_change_and (C := Tryd.checked) (X := fun w _ => laidMetH Tryd.prog laid2 w) (fun _ _ _ hh h => h.of_heap hh) own started (by kernel_rfl) Tryd.func4
    (ChangeSpec.witness_shaped (enc := enc) (C := Tryd.checked) (os := os) (X := fun w _ => laidMetH Tryd.prog laid2 w) false (World.doorLaid Tryd.prog 400 os) #[.agg #[.int .i64 0, .slice none 0 0, .slice none 0 0, .slice none 0 0], .slice none 0 0] 8 rfl (World.shaped_of_RefB (by kernel_rfl) (by kernel_rfl)) (by kernel_rfl) (by kernel_rfl) (by kernel_rfl) (door_met os _)) ?_
  intro W base args ds gs before hval0 hW _ _ hL _
  have hval : ∀ (j : Nat) t v, Tryd.f4.params[j]? = some t → args[j]? = some v → Value.okWide Tryd.prog W .any base t v := hval0
  have hW' := hW
  obtain ⟨p, q, hA0, hV, rfl, hfz, hnd⟩ := hW
  have hA : DataW.TrodAll enc Tryd.prog W 0 (fun _ => true) true Tryd.f4.params.toList args.toList ds p := hA0
  rw [Tryd.params4] at hA hval
  obtain ⟨v0, vs0, d0, ds0, p0, q0, hargs, rfl, rfl, h0, r0⟩ := trodAll_cons hA
  obtain ⟨v1, vs1, d1, ds1, p1, q1, rfl, rfl, rfl, h1, r1⟩ := trodAll_cons r0
  obtain ⟨rfl, rfl, rfl⟩ := trodAll_nil r1
  obtain rfl : args = #[v0, v1] := by cases args; simp_all
  obtain ⟨rfl, rfl⟩ := trodVars_none hV
  have K0 := h0
  have lt0 : ∀ x ∈ p0, x.block < W.heap.size := by obtain ⟨m, hm⟩ := K0; exact DataW.trod_lt m _ _ _ hm
  obtain ⟨N0, a0, b0, k0, c0, d0, m0, rfl, w0⟩ := open_node Tryd.underlying26 (by kernel_rfl) (by kernel_rfl) Tryd.underlying3 Tryd.underlying22 Tryd.underlying23 Tryd.underlying24 Tryd.underlying2 Tryd.underlying9 Tryd.underlying3 (by kernel_rfl) (by kernel_rfl) (by kernel_rfl) (hval 0 26 v0 rfl rfl) h0
  obtain ⟨a1, len1, c1, rfl⟩ := okWide_slice Tryd.underlying36 (hval 1 36 v1 rfl rfl)
  have K1 := h1
  have lt1 : ∀ x ∈ p1, x.block < W.heap.size := by obtain ⟨m, hm⟩ := K1; exact DataW.trod_lt m _ _ _ hm
  obtain ⟨L1, rfl, w1⟩ := open_sets Tryd.underlying36 Tryd.underlying51 (by kernel_rfl) rfl rfl rfl rfl (by kernel_rfl) (by kernel_rfl) (by kernel_rfl) (by kernel_rfl) Tryd.underlying4 Tryd.underlying3 Tryd.underlying2 Tryd.underlying9 h1
  clear hA0 hval0
  refine (walk N0 a0 b0 k0 c0 d0 m0 a1 c1 L1 W w0 w1 (tabs_of hL)).mono fun e W' ⟨he, bel⟩ => ?_
  subst he
  exact ⟨_, rfl, _, _, _, [], _, [], hW', trodAll_mk1 (shut_bool Tryd.underlying4 _), (trodAll_cons_mk (Below.trod laidOut (by kernel_rfl) (of_decide_eq_true (by kernel_rfl)) K0 bel lt0) (trodAll_cons_mk (Below.trod laidOut (by kernel_rfl) (of_decide_eq_true (by kernel_rfl)) K1 bel lt1) trodAll_mk0)), rfl, bel.frame _, fun h => by cases h⟩

theorem row : Rows.fieldSetsRow.holds Tryd.pinned (OpenSpec.ofChange Rows.fieldSetsSpec) :=
  OpenClaim.holds_of_wide 4 Tryd.f4 rfl rfl rfl rfl rfl rfl rfl ⟨rfl, rfl, rfl, rfl, rfl⟩ rfl rfl rfl rfl rfl (by kernel_rfl) Tryd.func4 (by kernel_rfl)
    (of_decide_eq_true (by kernel_rfl)) (by unfold Func.isWrapper; first | (rw [if_pos (by decide +kernel)]; kernel_rfl) | (rw [if_neg (by decide +kernel)]; exact ⟨rfl, rfl⟩))
    (fun os started H enc _ => lifted os started H enc)

/-- No parameter wants a stand-in; the program's own looks are off: what the card asks. -/
theorem plain (f : FuncId) (fn : Func) (hf : Tryd.pinned.checked.prog.funcNamed Rows.fieldSetsRow.func = some f) (hfn : Tryd.pinned.checked.prog.funcs[f]? = some fn) :
    false = Tryd.pinned.checked.prog.looks [] ∧ ∀ (j : Nat) t, fn.params[j]? = some t → Tryd.pinned.checked.prog.wantsStandIn t = false := by
  obtain rfl : f = 4 := Option.some.inj ((show Tryd.prog.funcNamed Rows.fieldSetsRow.func = some 4 by kernel_rfl).symm.trans hf) |>.symm
  obtain rfl : fn = Tryd.f4 := (Option.some.inj (Tryd.func4.symm.trans hfn)).symm
  refine ⟨by kernel_rfl, fun j t ht => ?_⟩
  have hm := Array.mem_of_getElem? ht
  have hall : (Tryd.f4.params.toList.all fun u => !Tryd.prog.wantsStandIn u) = true := by kernel_rfl
  exact (show Tryd.prog.wantsStandIn t = false by simpa using List.all_eq_true.1 hall t (by simpa using hm))

/-- ████ THE CARD ████ -/
theorem over : Rows.FieldSetsCardSaid :=
  Claim7.holds_tied_plain_at .later [] _ _ _ _ row (fun _ h => by cases h) (by kernel_rfl) (fun _ h => by cases h) fieldSets_row_tie rfl ⟨rfl, rfl⟩ (by kernel_rfl) rfl plain (by kernel_rfl)

end Go.Proofs.YtaochgndednamaaDoor.fieldSets

namespace Go.Proofs.YtaochgndednamaaDoor
theorem fieldSets_holds : Rows.FieldSetsCardSaid := fieldSets.over
#print axioms fieldSets_holds
end Go.Proofs.YtaochgndednamaaDoor
