/- What the law's own awake asks: the document's answers for three small scenes. -/
import Derived.Test.YtlfibkfjklggeaaGScp2
namespace Go.Proofs.Ytlfibkfjklggeaa
open Go.RowKit Go.Maps Go.WideMaps Go.Sort

/-- Rising lists with the same numbers are one. -/
theorem rising_eq : ∀ (l m : List Nat), l.Pairwise (· < ·) → m.Pairwise (· < ·) → (∀ x, x ∈ l ↔ x ∈ m) → l = m
  | [], [], _, _, _ => rfl
  | [], y :: m, _, _, h => by have := (h y).2 (by simp); simp at this
  | x :: l, [], _, _, h => by have := (h x).1 (by simp); simp at this
  | x :: l, y :: m, hl, hm, h => by
    rw [List.pairwise_cons] at hl hm
    have hxy : x = y := by
      rcases List.mem_cons.1 ((h x).1 (by simp)) with q | q
      · exact q
      · rcases List.mem_cons.1 ((h y).2 (by simp)) with p | p
        · exact p.symm
        · have := hl.1 y p
          have := hm.1 x q
          omega
    subst hxy
    rw [rising_eq l m hl.2 hm.2 (fun z => ?_)]
    constructor
    · intro q
      rcases List.mem_cons.1 ((h z).1 (by simp [q])) with p | p
      · subst p; exact absurd (hl.1 z q) (by omega)
      · exact p
    · intro q
      rcases List.mem_cons.1 ((h z).2 (by simp [q])) with p | p
      · subst p; exact absurd (hm.1 z q) (by omega)
      · exact p

theorem CheckIs.zero {X : List Nx} {r e z : Int} (h : CheckIs X r e z) (hr : RightIs X r) : e = 0 ∧ z = 0 := by
  have he := h.right.2 hr
  refine ⟨he, ?_⟩
  rcases h with ⟨h1, q, _⟩ | ⟨_, i, _, q, _⟩ | ⟨_, _, ⟨i, q, _⟩ | ⟨_, ⟨i, q, _⟩ | ⟨_, q, _⟩⟩⟩
  · omega
  · omega
  · omega
  · omega
  · exact q
theorem CheckIs.cyc {X : List Nx} {r e z : Int} {i : Nat} (h : CheckIs X r e z) (h1 : isPb X.length r = true) (h2 : ∀ i, i < X.length → okAt X i) (h3 : FirstCyc (kX X) i) : e = 14 ∧ z = i := by
  rcases h with ⟨q, _⟩ | ⟨_, j, hj, _, _, q, _⟩ | ⟨_, _, ⟨j, rfl, rfl, q⟩ | ⟨q, _⟩⟩
  · rw [h1] at q; cases q
  · exact absurd (h2 j hj) q
  · refine ⟨rfl, ?_⟩
    rcases Nat.lt_trichotomy i j with p | p | p
    · exact absurd h3.1 (q.2 i p)
    · rw [p]
    · exact absurd q.1 (h3.2 j p)
  · exact absurd h3.1 (q i)
theorem CheckIs.loose {X : List Nx} {r e z : Int} {i : Nat} (h : CheckIs X r e z) (h1 : isPb X.length r = true) (h2 : ∀ i, i < X.length → okAt X i) (h3 : ∀ x, ¬ Lead (Ed (kX X)) x x) (h4 : i < X.length) (h5 : ¬ Rt (Ed (kX X)) r.toNat i) (h6 : ∀ j, j < i → Rt (Ed (kX X)) r.toNat j) : e = 15 ∧ z = i := by
  rcases h with ⟨q, _⟩ | ⟨_, j, hj, _, _, q, _⟩ | ⟨_, _, ⟨j, _, _, q⟩ | ⟨_, ⟨j, rfl, rfl, hj, q1, q2⟩ | ⟨_, _, q⟩⟩⟩
  · rw [h1] at q; cases q
  · exact absurd (h2 j hj) q
  · exact absurd q.1 (h3 j)
  · refine ⟨rfl, ?_⟩
    rcases Nat.lt_trichotomy i j with p | p | p
    · exact absurd (q2 i p) h5
    · rw [p]
    · exact absurd (h6 j p) q1
  · exact absurd (q i h4) h5

/-- The first scene: two nodes, the first with the second twice as kid. -/
def aX (a3 : Option Addr) (c3 : Nat) : List Nx := [⟨⟨0, [], [], [1, 1]⟩, none, 0, none, 0, a3, c3⟩, ⟨⟨0, [], [], []⟩, none, 0, none, 0, none, 0⟩]
/-- The second: the second with the first one. -/
def bX (a3 : Option Addr) (c3 : Nat) (b3 : Option Addr) (d3 : Nat) : List Nx := [⟨⟨0, [], [], [1, 1]⟩, none, 0, none, 0, a3, c3⟩, ⟨⟨0, [], [], [0]⟩, none, 0, none, 0, b3, d3⟩]
theorem aX_ed (a3 : Option Addr) (c3 : Nat) (x y : Nat) : Ed (kX (aX a3 c3)) x y ↔ x = 0 ∧ y = 1 := by
  have hk : kX (aX a3 c3) = [[1, 1], []] := rfl
  unfold Ed
  rw [hk]
  match x with
  | 0 => simp
  | 1 => simp
  | n + 2 => simp
theorem aX_ok (a3 : Option Addr) (c3 : Nat) : ∀ i, i < (aX a3 c3).length → okAt (aX a3 c3) i := by
  intro i hi j hj
  match i, hi with
  | 0, _ =>
    match j, hj with
    | 0, _ => rfl
    | 1, _ => rfl
  | 1, _ => exact absurd hj (by simp [aX])
theorem aX_no (a3 : Option Addr) (c3 : Nat) (x : Nat) : ¬ Lead (Ed (kX (aX a3 c3))) x x := by
  rintro ⟨c, e, r⟩
  obtain ⟨rfl, rfl⟩ := (aX_ed a3 c3 _ _).1 e
  have := r.stop (fun y q => by have := (aX_ed a3 c3 _ _).1 q; omega)
  omega
theorem aX_right (a3 : Option Addr) (c3 : Nat) : RightIs (aX a3 c3) 0 := by
  refine ⟨rfl, aX_ok a3 c3, aX_no a3 c3, fun x hx => ?_⟩
  match x, hx with
  | 0, _ => exact Rt.refl _ _
  | 1, _ => exact Rt.one ((aX_ed a3 c3 _ _).2 ⟨rfl, rfl⟩)
theorem aX_small (a3 : Option Addr) (c3 : Nat) : Small (aX a3 c3) := by
  refine ⟨by simp [aX], fun i hi => ?_⟩
  match i, hi with
  | 0, _ => rfl
  | 1, _ => rfl
theorem aX_depth (a3 : Option Addr) (c3 : Nat) {d : Nat} (h : DepthIs (aX a3 c3) 0 d) : d = 2 := by
  obtain ⟨f, hf, hd, _⟩ := h.2 (aX_right a3 c3)
  have h1 : f 1 = 1 := hf 1 (by show 1 < 2; omega)
  have h0 : f 0 = max (max 0 (f 1)) (f 1) + 1 := hf 0 (by show 0 < 2; omega)
  rw [h1] at h0
  have hd' : d = f 0 := hd
  omega
theorem aX_loose (a3 : Option Addr) (c3 : Nat) {e z : Int} (h : CheckIs (aX a3 c3) 1 e z) : e = 15 ∧ z = 0 :=
  h.loose (i := 0) rfl (aX_ok a3 c3) (aX_no a3 c3) (by simp [aX]) (fun q => by
    have := q.stop (fun y e => by have := ((aX_ed a3 c3 _ _).1 e).1; simp at this)
    simp at this) (fun j hj => by omega)
theorem bX_ed (a3 : Option Addr) (c3 : Nat) (b3 : Option Addr) (d3 : Nat) (x y : Nat) : Ed (kX (bX a3 c3 b3 d3)) x y ↔ (x = 0 ∧ y = 1) ∨ (x = 1 ∧ y = 0) := by
  have hk : kX (bX a3 c3 b3 d3) = [[1, 1], [0]] := rfl
  unfold Ed
  rw [hk]
  match x with
  | 0 => simp
  | 1 => simp
  | n + 2 => simp
theorem bX_ok (a3 : Option Addr) (c3 : Nat) (b3 : Option Addr) (d3 : Nat) : ∀ i, i < (bX a3 c3 b3 d3).length → okAt (bX a3 c3 b3 d3) i := by
  intro i hi j hj
  match i, hi with
  | 0, _ =>
    match j, hj with
    | 0, _ => rfl
    | 1, _ => rfl
  | 1, _ =>
    match j, hj with
    | 0, _ => rfl
theorem bX_small (a3 : Option Addr) (c3 : Nat) (b3 : Option Addr) (d3 : Nat) : Small (bX a3 c3 b3 d3) := by
  refine ⟨by simp [bX], fun i hi => ?_⟩
  match i, hi with
  | 0, _ => rfl
  | 1, _ => rfl
theorem bX_cyc (a3 : Option Addr) (c3 : Nat) (b3 : Option Addr) (d3 : Nat) {e z : Int} (h : CheckIs (bX a3 c3 b3 d3) 1 e z) : e = 14 ∧ z = 0 :=
  h.cyc (i := 0) rfl (bX_ok a3 c3 b3 d3) ⟨⟨1, (bX_ed a3 c3 b3 d3 _ _).2 (.inl ⟨rfl, rfl⟩), Rt.one ((bX_ed a3 c3 b3 d3 _ _).2 (.inr ⟨rfl, rfl⟩))⟩, fun j hj => by omega⟩
theorem bX_below (a3 : Option Addr) (c3 : Nat) (b3 : Option Addr) (d3 : Nat) {l : List Nat} (h : BelowIs (bX a3 c3 b3 d3) 1 1 l) : l = [0, 1] := by
  obtain ⟨h1, h2⟩ := h.2 ⟨rfl, bX_ok a3 c3 b3 d3, rfl⟩
  refine rising_eq l [0, 1] h1 (by simp) (fun x => ?_)
  rw [h2 x]
  have e1 : Rt (Ed (kX (bX a3 c3 b3 d3))) 1 0 := Rt.one ((bX_ed a3 c3 b3 d3 _ _).2 (.inr ⟨rfl, rfl⟩))
  constructor
  · intro q
    have := Ok9.rt (kX_ok (bX_ok a3 c3 b3 d3)) (by show 1 < 2; omega) q
    have hx : x < 2 := this
    match x, hx with
    | 0, _ => simp
    | 1, _ => simp
  · intro q
    simp only [List.mem_cons, List.not_mem_nil, or_false] at q
    rcases q with rfl | rfl
    · exact e1
    · exact Rt.refl _ _

/-- The scene of awake in memory. -/
structure Aw (W : World) (bi bn bs : Nat) (k2 : Value) (r : Int) : Prop where
  i : AtN 3 W bi #[.int .i64 1, .int .i64 1]
  n : AtN 45 W bn #[.int .i64 0, .slice none 0 0, .slice none 0 0, .slice (some ⟨bi, 0, none⟩) 2 2, .int .i64 0, .slice none 0 0, .slice none 0 0, k2]
  s : AtN 24 W bs #[.slice (some ⟨bn, 0, none⟩) 2 2, .int .i64 r]
theorem Aw.below {W W' : World} {bi bn bs : Nat} {k2 : Value} {r : Int} (h : Aw W bi bn bs k2 r) (hb : Below W.heap.size W W') : Aw W' bi bn bs k2 r := ⟨h.i.belowAll hb, h.n.belowAll hb, h.s.belowAll hb⟩
theorem at_ls {T : TypeId} {W : World} {g : Nat} {cs : List Value} (h : AtN T W g cs.toArray) : LsAt W (some ⟨g, 0, none⟩) cs := h.lsQ.toAt
theorem Aw.a {W : World} {bi bn bs : Nat} {r : Int} (h : Aw W bi bn bs (.slice none 0 0) r) : ScAt W (some ⟨bn, 0, none⟩) (aX (some ⟨bi, 0, none⟩) 2) := by
  refine ⟨at_ls h.n, fun i hi => ?_⟩
  match i, hi with
  | 0, _ => exact ⟨LsAt.nil _ _, LsAt.nil _ _, at_ls h.i⟩
  | 1, _ => exact ⟨LsAt.nil _ _, LsAt.nil _ _, LsAt.nil _ _⟩
theorem Aw.b {W : World} {bi bn bs b3 : Nat} {r : Int} (h : Aw W bi bn bs (.slice (some ⟨b3, 0, none⟩) 1 1) r) (h3 : AtN 3 W b3 #[.int .i64 0]) : ScAt W (some ⟨bn, 0, none⟩) (bX (some ⟨bi, 0, none⟩) 2 (some ⟨b3, 0, none⟩) 1) := by
  refine ⟨at_ls h.n, fun i hi => ?_⟩
  match i, hi with
  | 0, _ => exact ⟨LsAt.nil _ _, LsAt.nil _ _, at_ls h.i⟩
  | 1, _ => exact ⟨LsAt.nil _ _, LsAt.nil _ _, at_ls h3⟩

section
variable {W : World} {bi bn bs b3 : Nat} {r : Int}
theorem aw_check0 (h : Aw W bi bn bs (.slice none 0 0) r) : Calls Try.prog 10 #[.agg #[.slice (some ⟨bn, 0, none⟩) 2 2, .int .i64 0]] W fun e w' => e = .returned (.tuple #[.int .i64 0, .int .i64 0]) ∧ Below W.heap.size W w' := by
  have := check_any (aX (some ⟨bi, 0, none⟩) 2) (some ⟨bn, 0, none⟩) 2 0 W h.a (aX_small _ _)
  refine Calls.mono this ?_
  rintro e w' ⟨n, z, rfl, hc, hb⟩
  obtain ⟨rfl, rfl⟩ := hc.zero (aX_right _ _)
  exact ⟨rfl, hb⟩
theorem aw_depth (h : Aw W bi bn bs (.slice none 0 0) r) : Calls Try.prog 20 #[.agg #[.slice (some ⟨bn, 0, none⟩) 2 2, .int .i64 0]] W fun e w' => e = .returned (.int .i64 2) ∧ Below W.heap.size W w' := by
  have := depth_any (aX (some ⟨bi, 0, none⟩) 2) (some ⟨bn, 0, none⟩) 2 0 W h.a (aX_small _ _)
  refine Calls.mono this ?_
  rintro e w' ⟨d, rfl, hd, hb⟩
  obtain rfl := aX_depth _ _ hd
  exact ⟨rfl, hb⟩
theorem aw_edges (h : Aw W bi bn bs (.slice none 0 0) r) : Calls Try.prog 13 #[.agg #[.slice (some ⟨bn, 0, none⟩) 2 2, .int .i64 0]] W fun e w' => e = .returned (.int .i64 2) ∧ Below W.heap.size W w' :=
  edges_any (aX (some ⟨bi, 0, none⟩) 2) (some ⟨bn, 0, none⟩) 2 0 W h.a (aX_small _ _)
theorem aw_check1 (h : Aw W bi bn bs (.slice none 0 0) r) : Calls Try.prog 10 #[.agg #[.slice (some ⟨bn, 0, none⟩) 2 2, .int .i64 1]] W fun e w' => e = .returned (.tuple #[.int .i64 15, .int .i64 0]) ∧ Below W.heap.size W w' := by
  have := check_any (aX (some ⟨bi, 0, none⟩) 2) (some ⟨bn, 0, none⟩) 2 1 W h.a (aX_small _ _)
  refine Calls.mono this ?_
  rintro e w' ⟨n, z, rfl, hc, hb⟩
  obtain ⟨rfl, rfl⟩ := aX_loose _ _ hc
  exact ⟨rfl, hb⟩
theorem aw_check2 (h : Aw W bi bn bs (.slice (some ⟨b3, 0, none⟩) 1 1) r) (h3 : AtN 3 W b3 #[.int .i64 0]) : Calls Try.prog 10 #[.agg #[.slice (some ⟨bn, 0, none⟩) 2 2, .int .i64 1]] W fun e w' => e = .returned (.tuple #[.int .i64 14, .int .i64 0]) ∧ Below W.heap.size W w' := by
  have := check_any (bX (some ⟨bi, 0, none⟩) 2 (some ⟨b3, 0, none⟩) 1) (some ⟨bn, 0, none⟩) 2 1 W (h.b h3) (bX_small _ _ _ _)
  refine Calls.mono this ?_
  rintro e w' ⟨n, z, rfl, hc, hb⟩
  obtain ⟨rfl, rfl⟩ := bX_cyc _ _ _ _ hc
  exact ⟨rfl, hb⟩
def AwBelow (W w' : World) (e : Ending) : Prop := ∃ a c, e = .returned (.slice a 2 c) ∧ LsAt w' a (nV [0, 1]) ∧ Below W.heap.size W w'
theorem aw_below (h : Aw W bi bn bs (.slice (some ⟨b3, 0, none⟩) 1 1) r) (h3 : AtN 3 W b3 #[.int .i64 0]) : Calls Try.prog 15 #[.agg #[.slice (some ⟨bn, 0, none⟩) 2 2, .int .i64 1], .int .i64 1] W fun e w' => AwBelow W w' e := by
  have := below_any (bX (some ⟨bi, 0, none⟩) 2 (some ⟨b3, 0, none⟩) 1) (some ⟨bn, 0, none⟩) 2 1 1 W (h.b h3) (bX_small _ _ _ _)
  refine Calls.mono this ?_
  rintro e w' ⟨l, a, c, rfl, hl, hi, _, hb⟩
  obtain rfl := bX_below _ _ _ _ hi
  exact ⟨a, c, rfl, hl, hb⟩
end

end Go.Proofs.Ytlfibkfjklggeaa
