/- What the law's own awake asks: the document's answers for a box alone. -/
import Derived.Test.YtdioecmpcppleaaDoorLVal
namespace Go.Proofs.YtdioecmpcppleaaDoor
open Go.RowKit Go.Maps Go.WideMaps Go.Sort

theorem ls_of {T : TypeId} {W : World} {g : Nat} {cs : List Value} (h : AtN T W g cs.toArray) : LsAt W (some ⟨g, 0, none⟩) cs := by
  refine ⟨g, 0, fun _ => rfl, fun i _ => ⟨h.lt, ?_⟩⟩
  rw [Nat.zero_add, h.cell]
  simp

def woodT : ByteArray := ⟨#[119, 111, 111, 100]⟩
/-- The scene: a box alone. -/
def aX (a1 a2 : Option Addr) : List Nx := [⟨⟨3, [1, 2, 3], [woodT], []⟩, a1, 3, a2, 1, none, 0⟩]
section
variable (a1 a2 : Option Addr)
theorem aX_ed (x y : Nat) : ¬ Ed (kX (aX a1 a2)) x y := by
  have hk : kX (aX a1 a2) = [[]] := rfl
  unfold Ed
  rw [hk]
  match x with
  | 0 => simp
  | n + 1 => simp
theorem aX_right : RightIs (aX a1 a2) 0 := by
  refine ⟨rfl, fun i hi j hj => ?_, fun x h => ?_, fun x hx => ?_⟩
  · match i, hi with
    | 0, _ => exact absurd hj (by simp [aX])
  · obtain ⟨c, e, _⟩ := h
    exact aX_ed a1 a2 _ _ e
  · match x, hx with
    | 0, _ => exact Rt.refl _ _
theorem aX_small : Small (aX a1 a2) := by
  refine ⟨by simp [aX], fun i hi => ?_⟩
  match i, hi with
  | 0, _ => rfl
theorem aX_fn : FnX (aX a1 a2) := by
  intro i hi j hj
  match i, hi with
  | 0, _ =>
    have : j < 3 := hj
    rcases (by omega : j = 0 ∨ j = 1 ∨ j = 2) with rfl | rfl | rfl
    · show (-9223372036854775808 : Int) ≤ 1 ∧ (1 : Int) ≤ 9223372036854775807; omega
    · show (-9223372036854775808 : Int) ≤ 2 ∧ (2 : Int) ≤ 9223372036854775807; omega
    · show (-9223372036854775808 : Int) ≤ 3 ∧ (3 : Int) ≤ 9223372036854775807; omega
theorem aX_depth : DepthIs (aX a1 a2) 0 1 := by
  refine ⟨fun q => absurd (aX_right a1 a2) q, fun _ => ⟨fun _ => 1, fun a ha => ?_, rfl, fun x _ => ⟨Nat.le_refl _, by simp [aX]⟩⟩⟩
  match a, ha with
  | 0, _ => rfl
theorem aX_ty : tyE (aX a1 a2) = 0 := by
  have h : tyN ⟨3, [1, 2, 3], [woodT], []⟩ = 0 := by decide +kernel
  unfold tyE aX tyG
  simp only [h]
  rfl
theorem aX_txb : txb (aX a1 a2) = 4 := by
  unfold txb aX
  show sum6 (itn [woodT]) = 4
  decide +kernel
theorem aX_edg : edg (aX a1 a2) = 0 := rfl
theorem aX_me : meC (aX a1 a2) 1 = #[.int .i64 0, .int .i64 1, .int .i64 0, .int .i64 1, .int .i64 4] := by
  unfold meC
  rw [aX_txb]
  rfl
theorem aX_ml : meL (aX a1 a2) 1 = ⟨0, 1, 0, 1, 4⟩ := by
  unfold meL
  rw [aX_txb]
  rfl
/-- Within limits that may be: by the texts' bytes. -/
theorem aX_va (x e z : Int) (h : VaIs (aX a1 a2) 0 ⟨0, 1, 0, 1, x⟩ 1 e z) (hx : x = 4 ∨ x = 3 ∨ x = -1) : (x = 4 → e = 0 ∧ z = 0) ∧ (x = 3 → e = 19 ∧ z = -1) ∧ (x = -1 → e = 1 ∧ z = -1) := by
  unfold VaIs at h
  rw [aX_ty, aX_ml] at h
  rcases h with ⟨h1, rfl, rfl⟩ | ⟨_, h2, _⟩ | ⟨h1, _, n, y, hc, h2⟩
  · have : x = -1 := by
      rcases hx with rfl | rfl | rfl
      · exact absurd h1 (by decide)
      · exact absurd h1 (by decide)
      · rfl
    subst this
    exact ⟨fun q => by omega, fun q => by omega, fun _ => ⟨rfl, rfl⟩⟩
  · exact absurd rfl h2
  · have hn : n = 0 := hc.right.2 (aX_right a1 a2)
    rcases h2 with ⟨h3, _⟩ | ⟨_, ⟨h3, rfl, rfl⟩ | ⟨h3, rfl, rfl⟩⟩
    · exact absurd hn h3
    · rcases hx with rfl | rfl | rfl
      · exact absurd h3 (by decide)
      · exact ⟨fun q => by omega, fun _ => ⟨rfl, rfl⟩, fun q => by omega⟩
      · exact absurd h1 (by decide)
    · rcases hx with rfl | rfl | rfl
      · exact ⟨fun _ => ⟨rfl, rfl⟩, fun q => by omega, fun q => by omega⟩
      · exact absurd h3 (by decide)
      · exact absurd h1 (by decide)
end

/-- The scene of awake in memory, and the limits. -/
structure Aw (w W : World) (x : Int) : Prop where
  i : AtN 2 W w.heap.size #[.int .i64 1, .int .i64 2, .int .i64 3]
  t : AtN 9 W (w.heap.size + 1) #[.string ⟨#[119, 111, 111, 100]⟩]
  n : AtN 50 W (w.heap.size + 1 + 1) #[.int .i64 3, .slice (some ⟨w.heap.size, 0, none⟩) 3 3, .slice (some ⟨w.heap.size + 1, 0, none⟩) 1 1, .slice none 0 0]
  s : AtN 24 W (w.heap.size + 1 + 1 + 1) #[.slice (some ⟨w.heap.size + 1 + 1, 0, none⟩) 1 1, .int .i64 0]
  l : AtN 26 W (w.heap.size + 1 + 1 + 1 + 1) #[.int .i64 0, .int .i64 1, .int .i64 0, .int .i64 1, .int .i64 x]
  bel : Below w.heap.size w W
section
variable {w W W' : World} {x : Int}
theorem Aw.on (h : Aw w W x) (hb : Below W.heap.size W W') : Aw w W' x := ⟨h.i.belowAll hb, h.t.belowAll hb, h.n.belowAll hb, h.s.belowAll hb, h.l.belowAll hb, h.bel.trans (hb.mono h.bel.size)⟩
theorem Aw.set (h : Aw w W x) (y : Int) : Aw w (W.setCell ⟨w.heap.size + 1 + 1 + 1 + 1, 4, none⟩ (.int .i64 y)) y :=
  ⟨h.i.setOther _ (by simp; omega) _, h.t.setOther _ (by simp; omega) _, h.n.setOther _ (by simp; omega) _, h.s.setOther _ (by simp) _, h.l.set 4 _, set_below h.bel _ (by simp; omega) _⟩
theorem Aw.sc (h : Aw w W x) : ScAt W (some ⟨w.heap.size + 1 + 1, 0, none⟩) (aX (some ⟨w.heap.size, 0, none⟩) (some ⟨w.heap.size + 1, 0, none⟩)) := by
  refine ⟨ls_of h.n, fun i hi => ?_⟩
  match i, hi with
  | 0, _ => exact ⟨ls_of h.i, ls_of h.t, LsAt.nil _ _⟩
theorem aw_valid (h : Aw w W x) (ht : Tabs12 w) (hx : x = 4 ∨ x = 3 ∨ x = -1) (e z : Int) (he : (x = 4 ∧ e = 0 ∧ z = 0) ∨ (x = 3 ∧ e = 19 ∧ z = -1) ∨ (x = -1 ∧ e = 1 ∧ z = -1)) :
    Calls Tryd.prog 10 #[.agg #[.slice (some ⟨w.heap.size + 1 + 1, 0, none⟩) 1 1, .int .i64 0], .agg #[.int .i64 0, .int .i64 1, .int .i64 0, .int .i64 1, .int .i64 x]] W fun r w' => r = .returned (.tuple #[.int .i64 e, .int .i64 z]) ∧ Below W.heap.size W w' := by
  refine Calls.mono (valid_any (aX (some ⟨w.heap.size, 0, none⟩) (some ⟨w.heap.size + 1, 0, none⟩)) (some ⟨w.heap.size + 1 + 1, 0, none⟩) 1 0 ⟨0, 1, 0, 1, x⟩ 1 W h.sc (aX_small _ _) (aX_fn _ _) (ht.on h.bel) (aX_depth _ _)) ?_
  rintro r w' ⟨n, y, rfl, hv, hb⟩
  obtain ⟨h4, h3, h1⟩ := aX_va _ _ x n y hv hx
  refine ⟨?_, hb⟩
  rcases he with ⟨q, rfl, rfl⟩ | ⟨q, rfl, rfl⟩ | ⟨q, rfl, rfl⟩
  · obtain ⟨rfl, rfl⟩ := h4 q; rfl
  · obtain ⟨rfl, rfl⟩ := h3 q; rfl
  · obtain ⟨rfl, rfl⟩ := h1 q; rfl
theorem aw_measure (h : Aw w W x) :
    Calls Tryd.prog 15 #[.agg #[.slice (some ⟨w.heap.size + 1 + 1, 0, none⟩) 1 1, .int .i64 0]] W fun r w' => r = .returned (.agg #[.int .i64 0, .int .i64 1, .int .i64 0, .int .i64 1, .int .i64 4]) ∧ Below W.heap.size W w' := by
  have := measure_any (aX (some ⟨w.heap.size, 0, none⟩) (some ⟨w.heap.size + 1, 0, none⟩)) (some ⟨w.heap.size + 1 + 1, 0, none⟩) 1 0 1 W h.sc (aX_small _ _) (aX_depth _ _)
  rw [aX_me] at this
  exact this
theorem aw_right (W : World) : Calls Tryd.prog 17 #[.agg #[.int .i64 0, .int .i64 1, .int .i64 0, .int .i64 1, .int .i64 (-1)]] W fun e w' => e = .returned (.bool false) ∧ Below W.heap.size W w' := okl_any ⟨0, 1, 0, 1, -1⟩ W
theorem aw_zero (W : World) : Calls Tryd.prog 17 #[.agg #[.int .i64 0, .int .i64 0, .int .i64 0, .int .i64 0, .int .i64 0]] W fun e w' => e = .returned (.bool true) ∧ Below W.heap.size W w' := okl_any ⟨0, 0, 0, 0, 0⟩ W
theorem eq_lim (W : World) : (binOp .eql 26 (.agg #[.int .i64 0, .int .i64 1, .int .i64 0, .int .i64 1, .int .i64 4]) (.agg #[.int .i64 0, .int .i64 1, .int .i64 0, .int .i64 1, .int .i64 4])).run Tryd.prog W = .ok (.bool true) W := by kernel_rfl
end

set_option maxRecDepth 10000 in
set_option maxHeartbeats 1000000 in
theorem awake_any (w : World) (ht : Tabs12 w) :
    Calls Tryd.prog 8 #[] w fun e w' => e = .returned (.bool true) ∧ Below w.heap.size w w' := by
  have HT : Hid (Tabs12 w) := ht
  have HA0 : Hid (∀ o1 o2 o3 o4 o5 : Obj, o1 = .cells #[.int .i64 1, .int .i64 2, .int .i64 3] 2 → o2 = .cells #[.string ⟨#[119, 111, 111, 100]⟩] 9 → o3 = .cells #[.int .i64 3, .slice (some ⟨w.heap.size, 0, none⟩) 3 3, .slice (some ⟨w.heap.size + 1, 0, none⟩) 1 1, .slice none 0 0] 50 → o4 = .cells #[.slice (some ⟨w.heap.size + 1 + 1, 0, none⟩) 1 1, .int .i64 0] 24 →
      o5 = .cells #[.int .i64 0, .int .i64 1, .int .i64 0, .int .i64 1, .int .i64 4] 26 → Aw w (((((w.alloc o1).alloc o2).alloc o3).alloc o4).alloc o5) 4) := by
    rintro _ _ _ _ _ rfl rfl rfl rfl rfl
    exact ⟨((((AtN.new w 2 _).alloc _).alloc _).alloc _).alloc _, (((mk_at (AtN.new (w.alloc _) 9 _) (show _ = w.heap.size + 1 by simp)).alloc _).alloc _).alloc _, ((mk_at (AtN.new ((w.alloc _).alloc _) 50 _) (show _ = w.heap.size + 1 + 1 by simp)).alloc _).alloc _,
      (mk_at (AtN.new (((w.alloc _).alloc _).alloc _) 24 _) (show _ = w.heap.size + 1 + 1 + 1 by simp)).alloc _, mk_at (AtN.new ((((w.alloc _).alloc _).alloc _).alloc _) 26 _) (show _ = w.heap.size + 1 + 1 + 1 + 1 by simp),
      (((((Below.refl w.heap.size w).alloc (Nat.le_refl _) _).alloc (by simp) _).alloc (by simp; omega) _).alloc (by simp; omega) _).alloc (by simp; omega) _⟩
  clear ht
  go_enter Tryd.func8, Tryd.ntmps8
  go_wp2_with fail
  have h0 := HA0.out _ _ _ _ _ rfl rfl rfl rfl rfl
  refine (aw_valid h0 HT.out (.inl rfl) 0 0 (.inl ⟨rfl, rfl, rfl⟩)).mono ?_
  rintro e w1 ⟨rfl, hb1⟩
  have HA1 : Hid (Aw w w1 4) := h0.on hb1
  clear HA0 h0 hb1
  have y4 : w1.cell? ⟨w.heap.size + 1 + 1 + 1 + 1, 4, none⟩ = some (.int .i64 4) := HA1.out.l.cell 4
  have f4 : w1.frozen? ⟨w.heap.size + 1 + 1 + 1 + 1, 4, none⟩ = false := HA1.out.l.fz 4
  have HA2 : Hid (Aw w (w1.setCell ⟨w.heap.size + 1 + 1 + 1 + 1, 4, none⟩ (.int .i64 3)) 3) := HA1.out.set 3
  obtain ⟨w2, hw2⟩ : ∃ w2, w1.setCell ⟨w.heap.size + 1 + 1 + 1 + 1, 4, none⟩ (.int .i64 3) = w2 := ⟨_, rfl⟩
  rw [hw2] at HA2
  have s0 : w2.cell? ⟨w.heap.size + 1 + 1 + 1, 0, none⟩ = some (.slice (some ⟨w.heap.size + 1 + 1, 0, none⟩) 1 1) := HA2.out.s.cell 0
  have s1 : w2.cell? ⟨w.heap.size + 1 + 1 + 1, 1, none⟩ = some (.int .i64 0) := HA2.out.s.cell 1
  have l0 : w2.cell? ⟨w.heap.size + 1 + 1 + 1 + 1, 0, none⟩ = some (.int .i64 0) := HA2.out.l.cell 0
  have l1 : w2.cell? ⟨w.heap.size + 1 + 1 + 1 + 1, 1, none⟩ = some (.int .i64 1) := HA2.out.l.cell 1
  have l2 : w2.cell? ⟨w.heap.size + 1 + 1 + 1 + 1, 2, none⟩ = some (.int .i64 0) := HA2.out.l.cell 2
  have l3 : w2.cell? ⟨w.heap.size + 1 + 1 + 1 + 1, 3, none⟩ = some (.int .i64 1) := HA2.out.l.cell 3
  have l4 : w2.cell? ⟨w.heap.size + 1 + 1 + 1 + 1, 4, none⟩ = some (.int .i64 3) := HA2.out.l.cell 4
  clear HA1
  go_wp2_with fail
  clear hw2 s0 s1 l0 l1 l2 l3 l4 y4 f4
  refine (aw_valid HA2.out HT.out (.inr (.inl rfl)) 19 (-1) (.inr (.inl ⟨rfl, rfl, rfl⟩))).mono ?_
  rintro e w3 ⟨rfl, hb3⟩
  have HA3 : Hid (Aw w w3 3) := HA2.out.on hb3
  clear HA2 hb3
  have y4 : w3.cell? ⟨w.heap.size + 1 + 1 + 1 + 1, 4, none⟩ = some (.int .i64 3) := HA3.out.l.cell 4
  have f4 : w3.frozen? ⟨w.heap.size + 1 + 1 + 1 + 1, 4, none⟩ = false := HA3.out.l.fz 4
  have HA4 : Hid (Aw w (w3.setCell ⟨w.heap.size + 1 + 1 + 1 + 1, 4, none⟩ (.int .i64 (-1))) (-1)) := HA3.out.set (-1)
  obtain ⟨w4, hw4⟩ : ∃ w4, w3.setCell ⟨w.heap.size + 1 + 1 + 1 + 1, 4, none⟩ (.int .i64 (-1)) = w4 := ⟨_, rfl⟩
  rw [hw4] at HA4
  have s0 : w4.cell? ⟨w.heap.size + 1 + 1 + 1, 0, none⟩ = some (.slice (some ⟨w.heap.size + 1 + 1, 0, none⟩) 1 1) := HA4.out.s.cell 0
  have s1 : w4.cell? ⟨w.heap.size + 1 + 1 + 1, 1, none⟩ = some (.int .i64 0) := HA4.out.s.cell 1
  have l0 : w4.cell? ⟨w.heap.size + 1 + 1 + 1 + 1, 0, none⟩ = some (.int .i64 0) := HA4.out.l.cell 0
  have l1 : w4.cell? ⟨w.heap.size + 1 + 1 + 1 + 1, 1, none⟩ = some (.int .i64 1) := HA4.out.l.cell 1
  have l2 : w4.cell? ⟨w.heap.size + 1 + 1 + 1 + 1, 2, none⟩ = some (.int .i64 0) := HA4.out.l.cell 2
  have l3 : w4.cell? ⟨w.heap.size + 1 + 1 + 1 + 1, 3, none⟩ = some (.int .i64 1) := HA4.out.l.cell 3
  have l4 : w4.cell? ⟨w.heap.size + 1 + 1 + 1 + 1, 4, none⟩ = some (.int .i64 (-1)) := HA4.out.l.cell 4
  clear HA3
  go_wp2_with fail
  clear hw4 s0 s1 l0 l1 l2 l3 l4 y4 f4
  refine (aw_valid HA4.out HT.out (.inr (.inr rfl)) 1 (-1) (.inr (.inr ⟨rfl, rfl, rfl⟩))).mono ?_
  rintro e w5 ⟨rfl, hb5⟩
  have HA5 : Hid (Aw w w5 (-1)) := HA4.out.on hb5
  clear HA4 hb5
  have s0 : w5.cell? ⟨w.heap.size + 1 + 1 + 1, 0, none⟩ = some (.slice (some ⟨w.heap.size + 1 + 1, 0, none⟩) 1 1) := HA5.out.s.cell 0
  have s1 : w5.cell? ⟨w.heap.size + 1 + 1 + 1, 1, none⟩ = some (.int .i64 0) := HA5.out.s.cell 1
  have l0 : w5.cell? ⟨w.heap.size + 1 + 1 + 1 + 1, 0, none⟩ = some (.int .i64 0) := HA5.out.l.cell 0
  have l1 : w5.cell? ⟨w.heap.size + 1 + 1 + 1 + 1, 1, none⟩ = some (.int .i64 1) := HA5.out.l.cell 1
  have l2 : w5.cell? ⟨w.heap.size + 1 + 1 + 1 + 1, 2, none⟩ = some (.int .i64 0) := HA5.out.l.cell 2
  have l3 : w5.cell? ⟨w.heap.size + 1 + 1 + 1 + 1, 3, none⟩ = some (.int .i64 1) := HA5.out.l.cell 3
  have l4 : w5.cell? ⟨w.heap.size + 1 + 1 + 1 + 1, 4, none⟩ = some (.int .i64 (-1)) := HA5.out.l.cell 4
  go_wp2_with fail
  clear s0 s1 l0 l1 l2 l3 l4
  refine (aw_measure HA5.out).mono ?_
  rintro e w6 ⟨rfl, hb6⟩
  have HA6 : Hid (Aw w w6 (-1)) := HA5.out.on hb6
  have heq := eq_lim
  clear HA5 hb6
  have l0 : w6.cell? ⟨w.heap.size + 1 + 1 + 1 + 1, 0, none⟩ = some (.int .i64 0) := HA6.out.l.cell 0
  have l1 : w6.cell? ⟨w.heap.size + 1 + 1 + 1 + 1, 1, none⟩ = some (.int .i64 1) := HA6.out.l.cell 1
  have l2 : w6.cell? ⟨w.heap.size + 1 + 1 + 1 + 1, 2, none⟩ = some (.int .i64 0) := HA6.out.l.cell 2
  have l3 : w6.cell? ⟨w.heap.size + 1 + 1 + 1 + 1, 3, none⟩ = some (.int .i64 1) := HA6.out.l.cell 3
  have l4 : w6.cell? ⟨w.heap.size + 1 + 1 + 1 + 1, 4, none⟩ = some (.int .i64 (-1)) := HA6.out.l.cell 4
  go_wp2_with fail
  clear l0 l1 l2 l3 l4 heq
  refine (aw_right w6).mono ?_
  rintro e w7 ⟨rfl, hb7⟩
  have HB7 : Hid (Below w.heap.size w w7) := HA6.out.bel.trans (hb7.mono HA6.out.bel.size)
  clear HA6 hb7
  go_wp2_with fail
  refine (aw_zero w7).mono ?_
  rintro e w8 ⟨rfl, hb8⟩
  have HB8 : Hid (Below w.heap.size w w8) := HB7.out.trans (hb8.mono HB7.out.size)
  clear HB7 hb8
  go_wp2_with fail
  go_ret
  exact ⟨rfl, HB8.out⟩

end Go.Proofs.YtdioecmpcppleaaDoor
