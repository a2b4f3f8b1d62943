/- 'awake' itself. -/
import Derived.Test.YtaochgndednamaaDoorAwake08
namespace Go.Proofs.YtaochgndednamaaDoor
open Go.RowKit

/-- What 'awake' has laid, from block s on. -/
structure AwI (w : World) (s : Nat) (ax : Option Addr) (cx : Nat) (W : World) : Prop where
  sp : AtN 28 W s #[.slice ax 1 cx, .int .i64 1, .int .i64 0, .int .i64 0]
  a : AtN 26 W (s + 1 + 1 + 1) #[.int .i64 4, .slice (some ⟨s + 1, 0, none⟩) 1 1, .slice (some ⟨s + 1 + 1, 0, none⟩) 1 1, .slice none 0 0]
  b : AtN 26 W (s + 1 + 1 + 1 + 1 + 1 + 1) #[.int .i64 4, .slice (some ⟨s + 1 + 1 + 1 + 1, 0, none⟩) 1 1, .slice (some ⟨s + 1 + 1 + 1 + 1 + 1, 0, none⟩) 1 1, .slice none 0 0]
  na : NdAt W nA (some ⟨s + 1, 0, none⟩) (some ⟨s + 1 + 1, 0, none⟩) none
  nb : NdAt W nB (some ⟨s + 1 + 1 + 1 + 1, 0, none⟩) (some ⟨s + 1 + 1 + 1 + 1 + 1, 0, none⟩) none
  c : LsAt W ax (iV [3])
  t : Tabs8 W
  bel : Below w.heap.size w W
theorem AwI.more {w W W' : World} {s : Nat} {ax : Option Addr} {cx : Nat} (h : AwI w s ax cx W) (hb : Below W.heap.size W W') : AwI w s ax cx W' :=
  ⟨h.sp.belowAll hb, h.a.belowAll hb, h.b.belowAll hb, h.na.belowB hb, h.nb.belowB hb, h.c.belowB hb, h.t.below hb, bjoin h.bel hb h.bel.size⟩
theorem AwI.alloc {w W : World} {s : Nat} {ax : Option Addr} {cx : Nat} (h : AwI w s ax cx W) (o : Obj) : AwI w s ax cx (W.alloc o) := h.more ((Below.refl W.heap.size W).alloc (Nat.le_refl _) o)

theorem lsAt_e {w : World} {a a' : Option Addr} {cs cs' : List Value} (h : LsAt w a cs) (ha : a = a') (hc : cs = cs') : LsAt w a' cs' := by subst ha; subst hc; exact h

theorem awI_start (w w1 : World) (ax : Option Addr) (cx : Nat) (hC : LsAt w1 ax (iV [3])) (hT : Tabs8 w) (hb : Below w.heap.size w w1) :
    AwI w w1.heap.size ax cx (((((((w1.alloc (.cells #[.slice ax 1 cx, .int .i64 1, .int .i64 0, .int .i64 0] 28)).alloc (.cells #[.int .i64 5] 2)).alloc (.cells #[.string ⟨#[119, 111, 111, 100]⟩] 9)).alloc (.cells #[.int .i64 4, .slice (some ⟨w1.heap.size + 1, 0, none⟩) 1 1, .slice (some ⟨w1.heap.size + 1 + 1, 0, none⟩) 1 1, .slice none 0 0] 26)).alloc (.cells #[.int .i64 6] 2)).alloc (.cells #[.string ⟨#[119, 111, 111, 100]⟩] 9)).alloc (.cells #[.int .i64 4, .slice (some ⟨w1.heap.size + 1 + 1 + 1 + 1, 0, none⟩) 1 1, .slice (some ⟨w1.heap.size + 1 + 1 + 1 + 1 + 1, 0, none⟩) 1 1, .slice none 0 0] 26)) := by
  have q1 := AtN.new w1 28 #[.slice ax 1 cx, .int .i64 1, .int .i64 0, .int .i64 0]
  have z1 : (w1.alloc (.cells #[.slice ax 1 cx, .int .i64 1, .int .i64 0, .int .i64 0] 28)).heap.size = w1.heap.size + 1 := by simp
  have hC1 := hC.alloc (.cells #[.slice ax 1 cx, .int .i64 1, .int .i64 0, .int .i64 0] 28)
  have hT1 := (hT.below hb).below ((Below.refl w1.heap.size w1).alloc (Nat.le_refl _) (.cells #[.slice ax 1 cx, .int .i64 1, .int .i64 0, .int .i64 0] 28))
  have B1 := balloc hb hb.size (.cells #[.slice ax 1 cx, .int .i64 1, .int .i64 0, .int .i64 0] 28)
  generalize w1.alloc (.cells #[.slice ax 1 cx, .int .i64 1, .int .i64 0, .int .i64 0] 28) = w2 at *
  have q2 := LsAt.new w2 #[.int .i64 5] 2
  have z2 : (w2.alloc (.cells #[.int .i64 5] 2)).heap.size = w1.heap.size + 1 + 1 := by simp [z1]
  have M2 : Below w2.heap.size w2 (w2.alloc (.cells #[.int .i64 5] 2)) := (Below.refl _ _).alloc (Nat.le_refl _) _
  rw [z1] at q2
  generalize w2.alloc (.cells #[.int .i64 5] 2) = w3 at *
  have q3 := LsAt.new w3 #[.string ⟨#[119, 111, 111, 100]⟩] 9
  have z3 : (w3.alloc (.cells #[.string ⟨#[119, 111, 111, 100]⟩] 9)).heap.size = w1.heap.size + 1 + 1 + 1 := by simp [z2]
  have M3 : Below w3.heap.size w3 (w3.alloc (.cells #[.string ⟨#[119, 111, 111, 100]⟩] 9)) := (Below.refl _ _).alloc (Nat.le_refl _) _
  rw [z2] at q3
  generalize w3.alloc (.cells #[.string ⟨#[119, 111, 111, 100]⟩] 9) = w4 at *
  have q4 := AtN.new w4 26 #[.int .i64 4, .slice (some ⟨w1.heap.size + 1, 0, none⟩) 1 1, .slice (some ⟨w1.heap.size + 1 + 1, 0, none⟩) 1 1, .slice none 0 0]
  have z4 : (w4.alloc (.cells #[.int .i64 4, .slice (some ⟨w1.heap.size + 1, 0, none⟩) 1 1, .slice (some ⟨w1.heap.size + 1 + 1, 0, none⟩) 1 1, .slice none 0 0] 26)).heap.size = w1.heap.size + 1 + 1 + 1 + 1 := by simp [z3]
  have M4 : Below w4.heap.size w4 (w4.alloc (.cells #[.int .i64 4, .slice (some ⟨w1.heap.size + 1, 0, none⟩) 1 1, .slice (some ⟨w1.heap.size + 1 + 1, 0, none⟩) 1 1, .slice none 0 0] 26)) := (Below.refl _ _).alloc (Nat.le_refl _) _
  rw [z3] at q4
  generalize w4.alloc (.cells #[.int .i64 4, .slice (some ⟨w1.heap.size + 1, 0, none⟩) 1 1, .slice (some ⟨w1.heap.size + 1 + 1, 0, none⟩) 1 1, .slice none 0 0] 26) = w5 at *
  have q5 := LsAt.new w5 #[.int .i64 6] 2
  have z5 : (w5.alloc (.cells #[.int .i64 6] 2)).heap.size = w1.heap.size + 1 + 1 + 1 + 1 + 1 := by simp [z4]
  have M5 : Below w5.heap.size w5 (w5.alloc (.cells #[.int .i64 6] 2)) := (Below.refl _ _).alloc (Nat.le_refl _) _
  rw [z4] at q5
  generalize w5.alloc (.cells #[.int .i64 6] 2) = w6 at *
  have q6 := LsAt.new w6 #[.string ⟨#[119, 111, 111, 100]⟩] 9
  have z6 : (w6.alloc (.cells #[.string ⟨#[119, 111, 111, 100]⟩] 9)).heap.size = w1.heap.size + 1 + 1 + 1 + 1 + 1 + 1 := by simp [z5]
  have M6 : Below w6.heap.size w6 (w6.alloc (.cells #[.string ⟨#[119, 111, 111, 100]⟩] 9)) := (Below.refl _ _).alloc (Nat.le_refl _) _
  rw [z5] at q6
  generalize w6.alloc (.cells #[.string ⟨#[119, 111, 111, 100]⟩] 9) = w7 at *
  have q7 := AtN.new w7 26 #[.int .i64 4, .slice (some ⟨w1.heap.size + 1 + 1 + 1 + 1, 0, none⟩) 1 1, .slice (some ⟨w1.heap.size + 1 + 1 + 1 + 1 + 1, 0, none⟩) 1 1, .slice none 0 0]
  have M7 : Below w7.heap.size w7 (w7.alloc (.cells #[.int .i64 4, .slice (some ⟨w1.heap.size + 1 + 1 + 1 + 1, 0, none⟩) 1 1, .slice (some ⟨w1.heap.size + 1 + 1 + 1 + 1 + 1, 0, none⟩) 1 1, .slice none 0 0] 26)) := (Below.refl _ _).alloc (Nat.le_refl _) _
  rw [z6] at q7
  generalize w7.alloc (.cells #[.int .i64 4, .slice (some ⟨w1.heap.size + 1 + 1 + 1 + 1, 0, none⟩) 1 1, .slice (some ⟨w1.heap.size + 1 + 1 + 1 + 1 + 1, 0, none⟩) 1 1, .slice none 0 0] 26) = w8 at *
  have N67 := bjoin M6 M7 M6.size
  have N57 := bjoin M5 N67 M5.size
  have N47 := bjoin M4 N57 M4.size
  have N37 := bjoin M3 N47 M3.size
  have N27 := bjoin M2 N37 M2.size
  exact ⟨q1.belowAll N27, q4.belowAll N57, q7, ⟨q2.belowB N37, q3.belowB N47, LsAt.nil _ _⟩, ⟨q5.belowB N67, q6.belowB M7, LsAt.nil _ _⟩, hC1.belowB N27, hT1.below N27, bjoin B1 N27 B1.size⟩

/-- What the last question reads. -/
def Kc (s g gl ol : Nat) (ax u1 u2 u3 : Option Addr) (cx k1 k2 k3 : Nat) (W : World) : Prop :=
  W.cell? ⟨s + 1 + 1 + 1, 0, none⟩ = some (.int .i64 4) ∧ W.cell? ⟨s + 1 + 1 + 1, 1, none⟩ = some (.slice (some ⟨s + 1, 0, none⟩) 1 1) ∧ W.cell? ⟨s + 1 + 1 + 1, 2, none⟩ = some (.slice (some ⟨s + 1 + 1, 0, none⟩) 1 1) ∧ W.cell? ⟨s + 1 + 1 + 1, 3, none⟩ = some (.slice none 0 0) ∧ W.cell? ⟨s, 0, none⟩ = some (.slice ax 1 cx) ∧ W.cell? ⟨s, 1, none⟩ = some (.int .i64 1) ∧ W.cell? ⟨s, 2, none⟩ = some (.int .i64 0) ∧ W.cell? ⟨s, 3, none⟩ = some (.int .i64 0) ∧ W.cell? ⟨g, 0, none⟩ = some (.int .i64 4) ∧ W.cell? ⟨g, 1, none⟩ = some (.slice u1 1 k1) ∧ W.cell? ⟨g, 2, none⟩ = some (.slice u2 1 k2) ∧ W.cell? ⟨g, 3, none⟩ = some (.slice u3 0 k3) ∧ W.cell? ⟨s + 1 + 1 + 1 + 1 + 1 + 1, 0, none⟩ = some (.int .i64 4) ∧ W.cell? ⟨s + 1 + 1 + 1 + 1 + 1 + 1, 1, none⟩ = some (.slice (some ⟨s + 1 + 1 + 1 + 1, 0, none⟩) 1 1) ∧ W.cell? ⟨s + 1 + 1 + 1 + 1 + 1 + 1, 2, none⟩ = some (.slice (some ⟨s + 1 + 1 + 1 + 1 + 1, 0, none⟩) 1 1) ∧ W.cell? ⟨s + 1 + 1 + 1 + 1 + 1 + 1, 3, none⟩ = some (.slice none 0 0) ∧ W.cell? ⟨gl, ol, none⟩ = some (.bool false) ∧ W.cell? ⟨gl, ol + 1, none⟩ = some (.int .i64 0) ∧ W.cell? ⟨gl, ol + 2, none⟩ = some (.int .i64 6) ∧ W.cell? ⟨gl, ol + 3, none⟩ = some (.string ⟨#[]⟩)
theorem cell_more {W W' : World} {p : Addr} {v : Value} (hb : Below W.heap.size W W') (h : W.cell? p = some v) : W'.cell? p = some v := (hb.cell (block_lt_of_cell h)).trans h
theorem Kc.more {s g gl ol : Nat} {ax u1 u2 u3 : Option Addr} {cx k1 k2 k3 : Nat} {W W' : World} (h : Kc s g gl ol ax u1 u2 u3 cx k1 k2 k3 W) (hb : Below W.heap.size W W') : Kc s g gl ol ax u1 u2 u3 cx k1 k2 k3 W' := by
  obtain ⟨h0, h1, h2, h3, h4, h5, h6, h7, h8, h9, h10, h11, h12, h13, h14, h15, h16, h17, h18, h19⟩ := h
  exact ⟨cell_more hb h0, cell_more hb h1, cell_more hb h2, cell_more hb h3, cell_more hb h4, cell_more hb h5, cell_more hb h6, cell_more hb h7, cell_more hb h8, cell_more hb h9, cell_more hb h10, cell_more hb h11, cell_more hb h12, cell_more hb h13, cell_more hb h14, cell_more hb h15, cell_more hb h16, cell_more hb h17, cell_more hb h18, cell_more hb h19⟩
structure AwR (w : World) (s g gl ol : Nat) (ax u1 u2 u3 : Option Addr) (cx k1 k2 k3 : Nat) (W : World) : Prop where
  a : AwI w s ax cx W
  n : NdAt W nB u1 u2 u3
  c : Kc s g gl ol ax u1 u2 u3 cx k1 k2 k3 W
theorem AwR.more {w : World} {s g gl ol : Nat} {ax u1 u2 u3 : Option Addr} {cx k1 k2 k3 : Nat} {W W' : World} (h : AwR w s g gl ol ax u1 u2 u3 cx k1 k2 k3 W) (hb : Below W.heap.size W W') : AwR w s g gl ol ax u1 u2 u3 cx k1 k2 k3 W' := ⟨h.a.more hb, h.n.belowB hb, h.c.more hb⟩
theorem awR_of {w W : World} {s g : Nat} {al ax u1 u2 u3 : Option Addr} {cx k1 k2 k3 : Nat} (h : AwI w s ax cx W) (hn : NdAt W nB u1 u2 u3) (hg : AtN 26 W g #[.int .i64 4, .slice u1 1 k1, .slice u2 1 k2, .slice u3 0 k3]) (hl : LsAt W al (stV oneS)) :
    ∃ gl ol, al = some ⟨gl, ol, none⟩ ∧ AwR w s g gl ol ax u1 u2 u3 cx k1 k2 k3 W := by
  obtain ⟨gl, ol, rfl, -, z0, z1, z2, z3⟩ := hl.set4 0 (by decide)
  refine ⟨gl, ol, rfl, h, hn, ?_⟩
  exact ⟨h.a.cell 0, h.a.cell 1, h.a.cell 2, h.a.cell 3, h.sp.cell 0, h.sp.cell 1, h.sp.cell 2, h.sp.cell 3, hg.cell 0, hg.cell 1, hg.cell 2, hg.cell 3, h.b.cell 0, h.b.cell 1, h.b.cell 2, h.b.cell 3, by simpa [oneS] using z0, by simpa [oneS] using z1, by simpa [oneS] using z2, by simpa [oneS, noT] using z3⟩

set_option maxRecDepth 10000 in
set_option maxHeartbeats 1000000 in
theorem awake_any (w : World) (hT : Tabs8 w) :
    Calls Tryd.prog 8 #[] w fun e w' => e = .returned (.bool true) ∧ Below w.heap.size w w' := by
  have HT : Hid _ := hT
  clear hT
  go_enter Tryd.func8, Tryd.ntmps8
  go_wp2_with fail
  refine (new_c4 w HT.out.k).mono ?_
  rintro e w1 ⟨ax, cx, rfl, hC, b1⟩
  have HA : Hid _ := awI_start w w1 ax cx hC HT.out b1
  clear hC b1 HT
  go_wp2_with fail
  generalize (((((((w1.alloc (.cells #[.slice ax 1 cx, .int .i64 1, .int .i64 0, .int .i64 0] 28)).alloc (.cells #[.int .i64 5] 2)).alloc (.cells #[.string ⟨#[119, 111, 111, 100]⟩] 9)).alloc (.cells #[.int .i64 4, .slice (some ⟨w1.heap.size + 1, 0, none⟩) 1 1, .slice (some ⟨w1.heap.size + 1 + 1, 0, none⟩) 1 1, .slice none 0 0] 26)).alloc (.cells #[.int .i64 6] 2)).alloc (.cells #[.string ⟨#[119, 111, 111, 100]⟩] 9)).alloc (.cells #[.int .i64 4, .slice (some ⟨w1.heap.size + 1 + 1 + 1 + 1, 0, none⟩) 1 1, .slice (some ⟨w1.heap.size + 1 + 1 + 1 + 1 + 1, 0, none⟩) 1 1, .slice none 0 0] 26)) = W0 at *
  generalize w1.heap.size = s at *
  refine (diff_c _ _ _ _ _ _ _ _ _ _ _ _ W0 HA.out.na HA.out.nb).mono ?_
  rintro e w2 ⟨al, cl, rfl, hl, b2⟩
  have A2 := HA.out.more b2
  have x0 : w2.cell? ⟨s + 1 + 1 + 1, 0, none⟩ = some (.int .i64 4) := A2.a.cell 0
  have x1 : w2.cell? ⟨s + 1 + 1 + 1, 1, none⟩ = some (.slice (some ⟨s + 1, 0, none⟩) 1 1) := A2.a.cell 1
  have x2 : w2.cell? ⟨s + 1 + 1 + 1, 2, none⟩ = some (.slice (some ⟨s + 1 + 1, 0, none⟩) 1 1) := A2.a.cell 2
  have x3 : w2.cell? ⟨s + 1 + 1 + 1, 3, none⟩ = some (.slice none 0 0) := A2.a.cell 3
  have HA2 : Hid _ := A2
  have HL : Hid _ := hl
  clear HA b2 A2 hl
  go_wp2_with fail
  refine (set_c1 _ _ _ _ _ _ _ _ w2 HA2.out.na HL.out).mono ?_
  rintro e w3 ⟨u1, k1, u2, k2, u3, k3, rfl, hN, b3⟩
  have A3 := (HA2.out.more b3).alloc (.cells #[.int .i64 4, .slice u1 1 k1, .slice u2 1 k2, .slice u3 0 k3] 26)
  have T3 := AtN.new w3 26 #[.int .i64 4, .slice u1 1 k1, .slice u2 1 k2, .slice u3 0 k3]
  have N3 := hN.alloc (.cells #[.int .i64 4, .slice u1 1 k1, .slice u2 1 k2, .slice u3 0 k3] 26)
  have L3 := (LsAt.belowB HL.out b3).alloc (.cells #[.int .i64 4, .slice u1 1 k1, .slice u2 1 k2, .slice u3 0 k3] 26)
  have hs3 : s + 1 + 1 + 1 < w3.heap.size := (HA2.out.more b3).a.lt
  have y0 : w3.cell? ⟨s + 1 + 1 + 1, 0, none⟩ = some (.int .i64 4) := (HA2.out.more b3).a.cell 0
  have y1 : w3.cell? ⟨s + 1 + 1 + 1, 1, none⟩ = some (.slice (some ⟨s + 1, 0, none⟩) 1 1) := (HA2.out.more b3).a.cell 1
  have y2 : w3.cell? ⟨s + 1 + 1 + 1, 2, none⟩ = some (.slice (some ⟨s + 1 + 1, 0, none⟩) 1 1) := (HA2.out.more b3).a.cell 2
  have y3 : w3.cell? ⟨s + 1 + 1 + 1, 3, none⟩ = some (.slice none 0 0) := (HA2.out.more b3).a.cell 3
  have HA3 : Hid _ := And.intro A3 (And.intro T3 (And.intro N3 L3))
  clear HA2 HL b3 hN A3 T3 N3 L3 x0 x1 x2 x3
  go_wp2_with fail
  have HD : Hid _ := HA3.out.1.alloc (.cells #[.bool false, .int .i64 1, .int .i64 0, .string ⟨#[]⟩] 51)
  have HD2 : Hid _ := lsAt_e (LsAt.new (w3.alloc (.cells #[.int .i64 4, .slice u1 1 k1, .slice u2 1 k2, .slice u3 0 k3] 26)) #[.bool false, .int .i64 1, .int .i64 0, .string ⟨#[]⟩] 51) (show _ = some (⟨w3.heap.size + 1, 0, none⟩ : Addr) by simp) (show _ = stV badS by rfl)
  refine (set_c2 _ _ _ _ _ _ _ _ _ HD.out.na HD2.out).mono ?_
  rintro e w4 ⟨t1, j1, t2, j2, t3, j3, rfl, b4⟩
  have M4 : Below (w3.alloc (.cells #[.int .i64 4, .slice u1 1 k1, .slice u2 1 k2, .slice u3 0 k3] 26)).heap.size (w3.alloc (.cells #[.int .i64 4, .slice u1 1 k1, .slice u2 1 k2, .slice u3 0 k3] 26)) (w4.alloc (.cells #[.int .i64 0, .slice t1 0 j1, .slice t2 0 j2, .slice t3 0 j3] 26)) := balloc (bjoin ((Below.refl _ _).alloc (Nat.le_refl _) _) b4 (by simp)) (by have := b4.size; simp at this ⊢; omega) _
  obtain ⟨gl, ol, rfl, R⟩ := awR_of (HA3.out.1.more M4) (HA3.out.2.2.1.belowB M4) (HA3.out.2.1.belowAll M4) (HA3.out.2.2.2.belowB M4)
  have hq := eq_set6
  have HR : Hid _ := R
  clear M4 b4 HD HD2 HA3 R y0 y1 y2 y3
  go_wp2_with fail
  generalize (w4.alloc (.cells #[.int .i64 0, .slice t1 0 j1, .slice t2 0 j2, .slice t3 0 j3] 26)) = W4 at *
  have R0 : AwR w s w3.heap.size gl ol ax u1 u2 u3 cx k1 k2 k3 W4.drew := HR.out.more (Below.refl _ _).drew
  clear HR
  go_region_held3 (fun W => W.cell? ⟨s + 1 + 1 + 1, 0, none⟩ = some (.int .i64 4) ∧ W.cell? ⟨s + 1 + 1 + 1, 1, none⟩ = some (.slice (some ⟨s + 1, 0, none⟩) 1 1) ∧ W.cell? ⟨s + 1 + 1 + 1, 2, none⟩ = some (.slice (some ⟨s + 1 + 1, 0, none⟩) 1 1) ∧ W.cell? ⟨s + 1 + 1 + 1, 3, none⟩ = some (.slice none 0 0) ∧ W.cell? ⟨s, 0, none⟩ = some (.slice ax 1 cx) ∧ W.cell? ⟨s, 1, none⟩ = some (.int .i64 1) ∧ W.cell? ⟨s, 2, none⟩ = some (.int .i64 0) ∧ W.cell? ⟨s, 3, none⟩ = some (.int .i64 0) ∧ W.cell? ⟨w3.heap.size, 0, none⟩ = some (.int .i64 4) ∧ W.cell? ⟨w3.heap.size, 1, none⟩ = some (.slice u1 1 k1) ∧ W.cell? ⟨w3.heap.size, 2, none⟩ = some (.slice u2 1 k2) ∧ W.cell? ⟨w3.heap.size, 3, none⟩ = some (.slice u3 0 k3) ∧ W.cell? ⟨s + 1 + 1 + 1 + 1 + 1 + 1, 0, none⟩ = some (.int .i64 4) ∧ W.cell? ⟨s + 1 + 1 + 1 + 1 + 1 + 1, 1, none⟩ = some (.slice (some ⟨s + 1 + 1 + 1 + 1, 0, none⟩) 1 1) ∧ W.cell? ⟨s + 1 + 1 + 1 + 1 + 1 + 1, 2, none⟩ = some (.slice (some ⟨s + 1 + 1 + 1 + 1 + 1, 0, none⟩) 1 1) ∧ W.cell? ⟨s + 1 + 1 + 1 + 1 + 1 + 1, 3, none⟩ = some (.slice none 0 0) ∧ W.cell? ⟨gl, ol, none⟩ = some (.bool false) ∧ W.cell? ⟨gl, ol + 1, none⟩ = some (.int .i64 0) ∧ W.cell? ⟨gl, ol + 2, none⟩ = some (.int .i64 6) ∧ W.cell? ⟨gl, ol + 3, none⟩ = some (.string ⟨#[]⟩)) (first | exact R5.c | exact R4.c | exact R3.c | exact R2.c | exact R1.c | exact R0.c)
    ((first | (go_at_call 15; refine (same_cA _ _ _ _ _ _ _ _ _ _ _ _ _ hn8 R4.a.na).mono ?_; rintro e w9 ⟨rfl, b9⟩; have R5 := R4.more b9) | (go_at_call 20; refine (copy_c _ _ _ _ _ _ _ R3.a.na).mono ?_; rintro e w8 ⟨v1, i1, v2, i2, v3, i3, rfl, hn8, b8⟩; have R4 := R3.more b8) | (go_at_call 15; refine (same_cB _ _ _ _ _ _ _ _ _ _ _ _ _ R2.n R2.a.nb).mono ?_; rintro e w7 ⟨rfl, b7⟩; have R3 := R2.more b7) | (go_at_call 10; refine (check_c2 _ _ _ R1.a.c R1.a.t.s).mono ?_; rintro e w6 ⟨rfl, b6⟩; have R2 := R1.more b6) | (go_at_call 10; refine (check_c1 _ _ _ _ _ _ _ _ _ R0.a.na R0.a.c R0.a.t.s).mono ?_; rintro e w5 ⟨rfl, b5⟩; have R1 := R0.more b5)))
  go_wp2_with fail
  go_ret
  exact ⟨rfl, R5.a.bel⟩

end Go.Proofs.YtaochgndednamaaDoor
