/- What the law's own awake asks: the document's answers for a small scene. -/
import Derived.Test.YtnmdkbeicggfhaaCLaw
namespace Go.Proofs.Ytnmdkbeicggfhaa
open Go.RowKit Go.Maps Go.WideMaps Go.Sort

/-- The scene: three nodes, the first with the third and the second as kids. -/
def aX (a3 : Option Addr) (c3 : Nat) : List Nx := [⟨⟨1, [], [], [2, 1]⟩, none, 0, none, 0, a3, c3⟩, ⟨⟨3, [], [], []⟩, none, 0, none, 0, none, 0⟩, ⟨⟨4, [], [], []⟩, none, 0, none, 0, none, 0⟩]
theorem aX_ed (a3 : Option Addr) (c3 : Nat) (x y : Nat) : Ed (kX (aX a3 c3)) x y ↔ x = 0 ∧ (y = 2 ∨ y = 1) := by
  have hk : kX (aX a3 c3) = [[2, 1], [], []] := rfl
  unfold Ed
  rw [hk]
  match x with
  | 0 => simp
  | 1 => simp
  | 2 => simp
  | n + 3 => simp
theorem aX_ok (a3 : Option Addr) (c3 : Nat) : ∀ i, i < (aX a3 c3).length → okAt (aX a3 c3) i := by
  intro i hi j hj
  match i, hi with
  | 0, _ =>
    match j, hj with
    | 0, _ => rfl
    | 1, _ => rfl
  | 1, _ => exact absurd hj (by simp [aX])
  | 2, _ => exact absurd hj (by simp [aX])
theorem aX_no (a3 : Option Addr) (c3 : Nat) (x : Nat) : ¬ Lead (Ed (kX (aX a3 c3))) x x := by
  rintro ⟨c, e, r⟩
  obtain ⟨rfl, h⟩ := (aX_ed a3 c3 _ _).1 e
  have := r.stop (fun y q => by have := (aX_ed a3 c3 _ _).1 q; omega)
  omega
theorem aX_right (a3 : Option Addr) (c3 : Nat) : RightIs (aX a3 c3) 0 := by
  refine ⟨rfl, aX_ok a3 c3, aX_no a3 c3, fun x hx => ?_⟩
  match x, hx with
  | 0, _ => exact Rt.refl _ _
  | 1, _ => exact Rt.one ((aX_ed a3 c3 _ _).2 ⟨rfl, .inr rfl⟩)
  | 2, _ => exact Rt.one ((aX_ed a3 c3 _ _).2 ⟨rfl, .inl rfl⟩)
theorem aX_small (a3 : Option Addr) (c3 : Nat) : Small (aX a3 c3) := by
  refine ⟨by simp [aX], fun i hi => ?_⟩
  match i, hi with
  | 0, _ => rfl
  | 1, _ => rfl
  | 2, _ => rfl
theorem aX_ord (a3 : Option Addr) (c3 : Nat) : oX (aX a3 c3) 0 = [2, 1, 0] := by
  show ordO [[2, 1], [], []] 0 = _
  decide
theorem aX_can (a3 : Option Addr) (c3 : Nat) : cX (aX a3 c3) 0 = [⟨4, [], [], []⟩, ⟨3, [], [], []⟩, ⟨1, [], [], [0, 1]⟩] := by
  unfold cX pX
  rw [aX_ord]
  rfl
theorem aX_places (a3 : Option Addr) (c3 : Nat) : plX (aX a3 c3) 0 = [2, 1, 0] := by
  unfold plX
  rw [aX_ord]
  rfl
theorem aX_not (a3 : Option Addr) (c3 : Nat) : ¬ IsCan (aX a3 c3) 0 := fun h => by
  have := ((isCan_iff _ _).1 h).2.1
  simp [aX] at this
theorem three_nd {Y : List Nx} {n0 n1 n2 : Nd} (h : Y.map Nx.nd = [n0, n1, n2]) : ∃ y0 y1 y2, Y = [y0, y1, y2] ∧ y0.nd = n0 ∧ y1.nd = n1 ∧ y2.nd = n2 := by
  match Y, h with
  | [y0, y1, y2], h =>
    simp at h
    exact ⟨y0, y1, y2, rfl, h.1, h.2.1, h.2.2⟩

/-- The scene of awake in memory. -/
structure Aw (W : World) (bi bn bs : Nat) : Prop where
  i : AtN 3 W bi #[.int .i64 2, .int .i64 1]
  n : AtN 40 W bn #[.int .i64 1, .slice none 0 0, .slice none 0 0, .slice (some ⟨bi, 0, none⟩) 2 2, .int .i64 3, .slice none 0 0, .slice none 0 0, .slice none 0 0, .int .i64 4, .slice none 0 0, .slice none 0 0, .slice none 0 0]
  s : AtN 24 W bs #[.slice (some ⟨bn, 0, none⟩) 3 3, .int .i64 0]
theorem Aw.below {W W' : World} {bi bn bs : Nat} (h : Aw W bi bn bs) (hb : Below W.heap.size W W') : Aw W' bi bn bs := ⟨h.i.belowAll hb, h.n.belowAll hb, h.s.belowAll hb⟩
theorem Aw.a {W : World} {bi bn bs : Nat} (h : Aw W bi bn bs) : ScAt W (some ⟨bn, 0, none⟩) (aX (some ⟨bi, 0, none⟩) 2) := by
  refine ⟨at_ls h.n, fun i hi => ?_⟩
  match i, hi with
  | 0, _ => exact ⟨LsAt.nil _ _, LsAt.nil _ _, at_ls h.i⟩
  | 1, _ => exact ⟨LsAt.nil _ _, LsAt.nil _ _, LsAt.nil _ _⟩
  | 2, _ => exact ⟨LsAt.nil _ _, LsAt.nil _ _, LsAt.nil _ _⟩

section
variable {W : World} {bi bn bs : Nat}
theorem aw_canon (h : Aw W bi bn bs) : Calls Try.prog 11 #[.agg #[.slice (some ⟨bn, 0, none⟩) 3 3, .int .i64 0]] W fun e w' => ∃ y0 y1 y2 a' c', e = .returned (.tuple #[.agg #[.slice a' 3 c', .int .i64 2], .int .i64 0]) ∧ y0.nd = ⟨4, [], [], []⟩ ∧ y1.nd = ⟨3, [], [], []⟩ ∧ y2.nd = ⟨1, [], [], [0, 1]⟩ ∧ ScAt w' a' [y0, y1, y2] ∧ Below W.heap.size W w' := by
  have := canon_any (aX (some ⟨bi, 0, none⟩) 2) (some ⟨bn, 0, none⟩) 3 0 W h.a (aX_small _ _)
  refine Calls.mono this ?_
  rintro e w' ⟨h1, -, hb⟩
  obtain ⟨Y, a', c', rfl, hY, hs⟩ := h1 (aX_right _ _)
  rw [aX_can] at hY
  obtain ⟨y0, y1, y2, rfl, e0, e1, e2⟩ := three_nd hY
  exact ⟨y0, y1, y2, a', c', rfl, e0, e1, e2, hs, hb⟩
theorem aw_none (W : World) : Calls Try.prog 11 #[.agg #[.slice none 0 0, .int .i64 0]] W fun e w' => e = .returned (.tuple #[.agg #[.slice none 0 0, .int .i64 0], .int .i64 13]) ∧ Below W.heap.size W w' := by
  have := canon_any [] none 0 0 W ⟨LsAt.nil _ _, fun i hi => by simp at hi⟩ ⟨by simp, fun i hi => by simp at hi⟩
  refine Calls.mono this ?_
  rintro e w' ⟨-, h2, hb⟩
  obtain ⟨n, z, rfl, hc, hn⟩ := h2 (fun q => by have := q.1; cases this)
  rcases hc with ⟨_, rfl, _⟩ | ⟨q, _⟩ | ⟨q, _⟩
  · exact ⟨rfl, hb⟩
  · cases q
  · cases q
theorem aw_numbers (h : Aw W bi bn bs) : Calls Try.prog 13 #[.agg #[.slice (some ⟨bn, 0, none⟩) 3 3, .int .i64 0]] W fun e w' => ∃ g, e = .returned (.slice (some ⟨g, 0, none⟩) 3 3) ∧ LsAt w' (some ⟨g, 0, none⟩) (nV [2, 1, 0]) ∧ Below W.heap.size W w' := by
  have := numbers_any (aX (some ⟨bi, 0, none⟩) 2) (some ⟨bn, 0, none⟩) 3 0 W h.a (aX_small _ _)
  refine Calls.mono this ?_
  rintro e w' ⟨h1, -, hb⟩
  obtain ⟨g, rfl, hg⟩ := h1 (aX_right _ _)
  rw [plX_cells, aX_places] at hg
  exact ⟨g, rfl, at_ls hg, hb⟩
theorem aw_isnt (h : Aw W bi bn bs) : Calls Try.prog 19 #[.agg #[.slice (some ⟨bn, 0, none⟩) 3 3, .int .i64 0]] W fun e w' => e = .returned (.bool false) ∧ Below W.heap.size W w' := by
  have := is_any (aX (some ⟨bi, 0, none⟩) 2) (some ⟨bn, 0, none⟩) 3 0 W h.a (aX_small _ _)
  refine Calls.mono this ?_
  rintro e w' ⟨b, rfl, hb, hB⟩
  cases b with
  | false => exact ⟨rfl, hB⟩
  | true => exact absurd (hb.1 rfl) (aX_not _ _)
theorem aw_is {y0 y1 y2 : Nx} {a' : Option Addr} {c' : Nat} (h0 : y0.nd = ⟨4, [], [], []⟩) (h1 : y1.nd = ⟨3, [], [], []⟩) (h2 : y2.nd = ⟨1, [], [], [0, 1]⟩) (hs : ScAt W a' [y0, y1, y2]) : Calls Try.prog 19 #[.agg #[.slice a' 3 c', .int .i64 2]] W fun e w' => e = .returned (.bool true) ∧ Below W.heap.size W w' := by
  have hY : [y0, y1, y2].map Nx.nd = cX (aX none 2) 0 := by rw [aX_can]; simp [h0, h1, h2]
  have hc : IsCan [y0, y1, y2] 2 := can_isCan (aX_right none 2) hY
  have hsm : Small [y0, y1, y2] := (can_ren (aX_right none 2) hY).small (aX_small _ _)
  have := is_any [y0, y1, y2] a' c' 2 W hs hsm
  refine Calls.mono this ?_
  rintro e w' ⟨b, rfl, hb, hB⟩
  cases b with
  | true => exact ⟨rfl, hB⟩
  | false => exact absurd (hb.2 hc) (by simp)
end

set_option maxRecDepth 10000 in
set_option maxHeartbeats 2000000 in
theorem awake_any (w : World) :
    Calls Try.prog 9 #[] w fun e w' => e = .returned (.bool true) ∧ Below w.heap.size w w' := by
  have HA0 : Hid (∀ o1 o2 o3 : Obj, o1 = .cells #[.int .i64 2, .int .i64 1] 3 → o2 = .cells #[.int .i64 1, .slice none 0 0, .slice none 0 0, .slice (some ⟨w.heap.size, 0, none⟩) 2 2, .int .i64 3, .slice none 0 0, .slice none 0 0, .slice none 0 0, .int .i64 4, .slice none 0 0, .slice none 0 0, .slice none 0 0] 40 → o3 = .cells #[.slice (some ⟨w.heap.size + 1, 0, none⟩) 3 3, .int .i64 0] 24 → Aw (((w.alloc o1).alloc o2).alloc o3) w.heap.size (w.heap.size + 1) (w.heap.size + 1 + 1) ∧ Below w.heap.size w (((w.alloc o1).alloc o2).alloc o3)) := by
    rintro _ _ _ rfl rfl rfl
    exact ⟨⟨((AtN.new w 3 _).alloc _).alloc _, (mk_at (AtN.new (w.alloc _) 40 _) (show _ = w.heap.size + 1 by simp)).alloc _, mk_at (AtN.new ((w.alloc _).alloc _) 24 _) (show _ = w.heap.size + 1 + 1 by simp)⟩, (((Below.refl w.heap.size w).alloc (Nat.le_refl _) _).alloc (by simp) _).alloc (by simp; omega) _⟩
  go_enter Try.func9, Try.ntmps9
  go_wp2_with fail
  obtain ⟨h1, h2⟩ := HA0.out _ _ _ rfl rfl rfl
  refine (aw_canon h1).mono ?_
  rintro e w1 ⟨y0, y1, y2, a', c', rfl, e0, e1, e2, hs, hb1⟩
  have HA1 : Hid (Aw w1 w.heap.size (w.heap.size + 1) (w.heap.size + 1 + 1) ∧ Below w.heap.size w w1) := ⟨h1.below hb1, h2.trans (hb1.mono h2.size)⟩
  have HY : Hid (y0.nd = ⟨4, [], [], []⟩ ∧ y1.nd = ⟨3, [], [], []⟩ ∧ y2.nd = ⟨1, [], [], [0, 1]⟩) := ⟨e0, e1, e2⟩
  have HC1 : Hid (∀ o : Obj, o = .cells #[.slice a' 3 c', .int .i64 2] 24 → AtN 24 (w1.alloc o) w1.heap.size #[.slice a' 3 c', .int .i64 2] ∧ ScAt (w1.alloc o) a' [y0, y1, y2] ∧ Aw (w1.alloc o) w.heap.size (w.heap.size + 1) (w.heap.size + 1 + 1) ∧ Below w.heap.size w (w1.alloc o)) := by
    rintro _ rfl
    exact ⟨AtN.new w1 24 _, hs.alloc _, HA1.out.1.below ((Below.refl w1.heap.size w1).alloc (Nat.le_refl _) _), HA1.out.2.alloc HA1.out.2.size _⟩
  clear HA0 h1 h2 hb1 e0 e1 e2 hs HA1
  go_wp2_with fail
  obtain ⟨k1, k2, k3, k4⟩ := HC1.out _ rfl
  refine (aw_none _).mono ?_
  rintro e w2 ⟨rfl, hb2⟩
  have HC2 : Hid (AtN 24 w2 w1.heap.size #[.slice a' 3 c', .int .i64 2] ∧ ScAt w2 a' [y0, y1, y2] ∧ Aw w2 w.heap.size (w.heap.size + 1) (w.heap.size + 1 + 1) ∧ Below w.heap.size w w2) := ⟨k1.belowAll hb2, k2.belowB hb2, k3.below hb2, k4.trans (hb2.mono k4.size)⟩
  clear HC1 k1 k2 k3 k4 hb2
  obtain ⟨W3, hW3⟩ : ∃ W3, W3 = w2.alloc (.cells #[.slice none 0 0, .int .i64 0] 24) := ⟨_, rfl⟩
  have HC3 : Hid (AtN 24 W3 w1.heap.size #[.slice a' 3 c', .int .i64 2] ∧ ScAt W3 a' [y0, y1, y2] ∧ Aw W3 w.heap.size (w.heap.size + 1) (w.heap.size + 1 + 1) ∧ Below w.heap.size w W3) := by
    rw [hW3]
    exact ⟨HC2.out.1.alloc _, HC2.out.2.1.alloc _, HC2.out.2.2.1.below ((Below.refl w2.heap.size w2).alloc (Nat.le_refl _) _), HC2.out.2.2.2.alloc HC2.out.2.2.2.size _⟩
  have s0 : W3.cell? ⟨w1.heap.size, 0, none⟩ = some (.slice a' 3 c') := HC3.out.1.cell 0
  have s1 : W3.cell? ⟨w1.heap.size, 1, none⟩ = some (.int .i64 2) := HC3.out.1.cell 1
  obtain ⟨b, o, rfl, hbl, p0, _, _, _⟩ := HC3.out.2.1.node (i := 0) (by simp)
  obtain ⟨b', o', hbo, _, p1, _, _, _⟩ := HC3.out.2.1.node (i := 1) (by simp)
  simp only [Option.some.injEq, Addr.mk.injEq, and_true] at hbo
  obtain ⟨rfl, rfl⟩ := hbo
  obtain ⟨b', o', hbo, _, _, _, _, p2⟩ := HC3.out.2.1.node (i := 2) (by simp)
  simp only [Option.some.injEq, Addr.mk.injEq, and_true] at hbo
  obtain ⟨rfl, rfl⟩ := hbo
  have q0 : W3.cell? ⟨b, o, none⟩ = some (.int .i64 4) := by rw [show ([y0, y1, y2].getD 0 noNx).nd.kind = 4 from congrArg Nd.kind HY.out.1] at p0; simpa using p0
  have q1 : W3.cell? ⟨b, o + 4, none⟩ = some (.int .i64 3) := by rw [show ([y0, y1, y2].getD 1 noNx).nd.kind = 3 from congrArg Nd.kind HY.out.2.1] at p1; simpa using p1
  have q2 : W3.cell? ⟨b, o + 8 + 3, none⟩ = some (.slice y2.a3 2 y2.c3) := by rw [show ([y0, y1, y2].getD 2 noNx).nd.kids.length = 2 by show y2.nd.kids.length = 2; rw [HY.out.2.2]; rfl] at p2; simpa using p2
  have HK : Hid (LsAt W3 y2.a3 (nV [0, 1])) := by
    have := (HC3.out.2.1.each 2 (by simp)).k
    rw [show ([y0, y1, y2].getD 2 noNx).nd.kids = [0, 1] from congrArg Nd.kids HY.out.2.2] at this
    exact this
  clear p0 p1 p2 HC2
  have HI : Hid (∀ o : Obj, o = .cells #[.int .i64 0, .int .i64 1] 3 → Calls Try.prog 17 #[.slice y2.a3 2 y2.c3, .slice (some ⟨w2.heap.size + 1, 0, none⟩) 2 2] (W3.alloc o) fun e w' => e = .returned (.bool true) ∧ Below (W3.alloc o).heap.size (W3.alloc o) w') := by
    rintro _ rfl
    have hz : W3.heap.size = w2.heap.size + 1 := by rw [hW3]; simp
    rw [← hz]
    exact ints_any [0, 1] [0, 1] y2.a3 (some ⟨W3.heap.size, 0, none⟩) y2.c3 2 _ (LsAt.alloc HK.out _) (at_ls (AtN.new W3 3 _)) (by simp)
  have HC4 : Hid (∀ ob : Obj, ob = .cells #[.int .i64 0, .int .i64 1] 3 → AtN 24 (W3.alloc ob) w1.heap.size #[.slice (some ⟨b, o, none⟩) 3 c', .int .i64 2] ∧ ScAt (W3.alloc ob) (some ⟨b, o, none⟩) [y0, y1, y2] ∧ Aw (W3.alloc ob) w.heap.size (w.heap.size + 1) (w.heap.size + 1 + 1) ∧ Below w.heap.size w (W3.alloc ob)) := by
    rintro _ rfl
    exact ⟨HC3.out.1.alloc _, HC3.out.2.1.alloc _, HC3.out.2.2.1.below ((Below.refl W3.heap.size W3).alloc (Nat.le_refl _) _), HC3.out.2.2.2.alloc HC3.out.2.2.2.size _⟩
  clear HC3 HK
  subst hW3
  go_wp2_with fail
  refine (HI.out _ rfl).mono ?_
  rintro e w4 ⟨rfl, hb4⟩
  obtain ⟨k1, k2, k3, k4⟩ := HC4.out _ rfl
  have HC5 : Hid (AtN 24 w4 w1.heap.size #[.slice (some ⟨b, o, none⟩) 3 c', .int .i64 2] ∧ ScAt w4 (some ⟨b, o, none⟩) [y0, y1, y2] ∧ Aw w4 w.heap.size (w.heap.size + 1) (w.heap.size + 1 + 1) ∧ Below w.heap.size w w4) := ⟨k1.belowAll hb4, k2.belowB hb4, k3.below hb4, k4.trans (hb4.mono k4.size)⟩
  clear HI HC4 k1 k2 k3 k4 hb4 s0 s1 q0 q1 q2
  have x0 : w4.cell? ⟨w.heap.size + 1 + 1, 0, none⟩ = some (.slice (some ⟨w.heap.size + 1, 0, none⟩) 3 3) := HC5.out.2.2.1.s.cell 0
  have x1 : w4.cell? ⟨w.heap.size + 1 + 1, 1, none⟩ = some (.int .i64 0) := HC5.out.2.2.1.s.cell 1
  go_wp2_with fail
  refine (aw_numbers HC5.out.2.2.1).mono ?_
  rintro e w5 ⟨g, rfl, hl5, hb5⟩
  have HC6 : Hid (AtN 24 w5 w1.heap.size #[.slice (some ⟨b, o, none⟩) 3 c', .int .i64 2] ∧ ScAt w5 (some ⟨b, o, none⟩) [y0, y1, y2] ∧ Aw w5 w.heap.size (w.heap.size + 1) (w.heap.size + 1 + 1) ∧ Below w.heap.size w w5) := ⟨HC5.out.1.belowAll hb5, HC5.out.2.1.belowB hb5, HC5.out.2.2.1.below hb5, HC5.out.2.2.2.trans (hb5.mono HC5.out.2.2.2.size)⟩
  have HI : Hid (∀ ob : Obj, ob = .cells #[.int .i64 2, .int .i64 1, .int .i64 0] 3 → Calls Try.prog 17 #[.slice (some ⟨g, 0, none⟩) 3 3, .slice (some ⟨w5.heap.size, 0, none⟩) 3 3] (w5.alloc ob) fun e w' => e = .returned (.bool true) ∧ Below (w5.alloc ob).heap.size (w5.alloc ob) w') := by
    rintro _ rfl
    exact ints_any [2, 1, 0] [2, 1, 0] (some ⟨g, 0, none⟩) (some ⟨w5.heap.size, 0, none⟩) 3 3 _ (hl5.alloc _) (at_ls (AtN.new w5 3 _)) (by simp)
  have HC7 : Hid (∀ ob : Obj, AtN 24 (w5.alloc ob) w1.heap.size #[.slice (some ⟨b, o, none⟩) 3 c', .int .i64 2] ∧ ScAt (w5.alloc ob) (some ⟨b, o, none⟩) [y0, y1, y2] ∧ Aw (w5.alloc ob) w.heap.size (w.heap.size + 1) (w.heap.size + 1 + 1) ∧ Below w.heap.size w (w5.alloc ob)) := fun ob => ⟨HC6.out.1.alloc _, HC6.out.2.1.alloc _, HC6.out.2.2.1.below ((Below.refl w5.heap.size w5).alloc (Nat.le_refl _) _), HC6.out.2.2.2.alloc HC6.out.2.2.2.size _⟩
  clear HC5 HC6 hl5 hb5 x0 x1
  go_wp2_with fail
  refine (HI.out _ rfl).mono ?_
  rintro e w6 ⟨rfl, hb6⟩
  obtain ⟨k1, k2, k3, k4⟩ := HC7.out (.cells #[.int .i64 2, .int .i64 1, .int .i64 0] 3)
  have HC8 : Hid (AtN 24 w6 w1.heap.size #[.slice (some ⟨b, o, none⟩) 3 c', .int .i64 2] ∧ ScAt w6 (some ⟨b, o, none⟩) [y0, y1, y2] ∧ Aw w6 w.heap.size (w.heap.size + 1) (w.heap.size + 1 + 1) ∧ Below w.heap.size w w6) := ⟨k1.belowAll hb6, k2.belowB hb6, k3.below hb6, k4.trans (hb6.mono k4.size)⟩
  clear HI HC7 k1 k2 k3 k4 hb6
  have s0 : w6.cell? ⟨w1.heap.size, 0, none⟩ = some (.slice (some ⟨b, o, none⟩) 3 c') := HC8.out.1.cell 0
  have s1 : w6.cell? ⟨w1.heap.size, 1, none⟩ = some (.int .i64 2) := HC8.out.1.cell 1
  go_wp2_with fail
  refine (aw_is HY.out.1 HY.out.2.1 HY.out.2.2 HC8.out.2.1).mono ?_
  rintro e w7 ⟨rfl, hb7⟩
  have HC9 : Hid (Aw w7 w.heap.size (w.heap.size + 1) (w.heap.size + 1 + 1) ∧ Below w.heap.size w w7) := ⟨HC8.out.2.2.1.below hb7, HC8.out.2.2.2.trans (hb7.mono HC8.out.2.2.2.size)⟩
  clear HC8 s0 s1 hb7
  have x0 : w7.cell? ⟨w.heap.size + 1 + 1, 0, none⟩ = some (.slice (some ⟨w.heap.size + 1, 0, none⟩) 3 3) := HC9.out.1.s.cell 0
  have x1 : w7.cell? ⟨w.heap.size + 1 + 1, 1, none⟩ = some (.int .i64 0) := HC9.out.1.s.cell 1
  go_wp2_with fail
  refine (aw_isnt HC9.out.1).mono ?_
  rintro e w8 ⟨rfl, hb8⟩
  have HB : Hid (Below w.heap.size w w8) := HC9.out.2.trans (hb8.mono HC9.out.2.size)
  clear HC9 hb8 x0 x1
  go_wp2_with fail
  go_ret
  exact ⟨rfl, HB.out⟩

end Go.Proofs.Ytnmdkbeicggfhaa
