/- What the law's own awake asks: the document's answers for two small scenes with one tree. -/
import Derived.Test.YtcdpjaaiojpelaaDoorCLaw
import Derived.Test.YtcdpjaaiojpelaaDoorVEq
namespace Go.Proofs.YtcdpjaaiojpelaaDoor
open Go.RowKit Go.Maps Go.WideMaps Go.Sort

/-- A group of two boxes that are alike. -/
def aA (a3 : Option Addr) (c3 : Nat) : List Nx := [⟨⟨1, [], [], [1, 2]⟩, none, 0, none, 0, a3, c3⟩, ⟨⟨3, [], [], []⟩, none, 0, none, 0, none, 0⟩, ⟨⟨3, [], [], []⟩, none, 0, none, 0, none, 0⟩]
/-- A group of one box twice. -/
def bB (a3 : Option Addr) (c3 : Nat) : List Nx := [⟨⟨3, [], [], []⟩, none, 0, none, 0, none, 0⟩, ⟨⟨1, [], [], [0, 0]⟩, none, 0, none, 0, a3, c3⟩]
section
variable {a3 : Option Addr} {c3 : Nat}
theorem aA_ed (x y : Nat) : Ed (kX (aA a3 c3)) x y ↔ x = 0 ∧ (y = 1 ∨ y = 2) := by
  have hk : kX (aA a3 c3) = [[1, 2], [], []] := rfl
  unfold Ed
  rw [hk]
  match x with
  | 0 => simp
  | 1 => simp
  | 2 => simp
  | n + 3 => simp
theorem aA_right : RightIs (aA a3 c3) 0 := by
  refine ⟨rfl, fun i hi j hj => ?_, ?_, fun x hx => ?_⟩
  · match i, hi with
    | 0, _ =>
      match j, hj with
      | 0, _ => rfl
      | 1, _ => rfl
    | 1, _ => exact absurd hj (by simp [aA])
    | 2, _ => exact absurd hj (by simp [aA])
  · rintro x ⟨c, e, r⟩
    obtain ⟨rfl, h⟩ := (aA_ed _ _).1 e
    have := r.stop (fun y q => by have := (aA_ed _ _).1 q; omega)
    omega
  · match x, hx with
    | 0, _ => exact Rt.refl _ _
    | 1, _ => exact Rt.one ((aA_ed _ _).2 ⟨rfl, .inl rfl⟩)
    | 2, _ => exact Rt.one ((aA_ed _ _).2 ⟨rfl, .inr rfl⟩)
theorem aA_small : Small (aA a3 c3) := by
  refine ⟨by simp [aA], fun i hi => ?_⟩
  match i, hi with
  | 0, _ => rfl
  | 1, _ => rfl
  | 2, _ => rfl
theorem rg_lit {k : Int} {l : List Int} (h : 0 ≤ k ∧ k < 10) (hl : ∀ z ∈ l, 0 ≤ z ∧ z < 10) : RgN ⟨k, [], [], l⟩ := ⟨⟨by show _ ≤ k; omega, by show k ≤ _; omega⟩, by simp, fun z hz => by have := hl z hz; exact ⟨by omega, by omega⟩⟩
theorem aA_rg : RgX (aA a3 c3) := by
  intro i hi
  match i, hi with
  | 0, _ => exact rg_lit (by omega) (by simp)
  | 1, _ => exact rg_lit (by omega) (by simp)
  | 2, _ => exact rg_lit (by omega) (by simp)
theorem aA_can : cX (aA a3 c3) 0 = [⟨3, [], [], []⟩, ⟨3, [], [], []⟩, ⟨1, [], [], [0, 1]⟩] := by
  have ho : oX (aA a3 c3) 0 = [1, 2, 0] := by
    show ordO [[1, 2], [], []] 0 = _
    decide
  unfold cX pX
  rw [ho]
  rfl
theorem bB_ed (x y : Nat) : Ed (kX (bB a3 c3)) x y ↔ x = 1 ∧ y = 0 := by
  have hk : kX (bB a3 c3) = [[], [0, 0]] := rfl
  unfold Ed
  rw [hk]
  match x with
  | 0 => simp
  | 1 => simp
  | n + 2 => simp
theorem bB_right : RightIs (bB a3 c3) 1 := by
  refine ⟨rfl, fun i hi j hj => ?_, ?_, fun x hx => ?_⟩
  · match i, hi with
    | 0, _ => exact absurd hj (by simp [bB])
    | 1, _ =>
      match j, hj with
      | 0, _ => rfl
      | 1, _ => rfl
  · rintro x ⟨c, e, r⟩
    obtain ⟨rfl, h⟩ := (bB_ed _ _).1 e
    have := r.stop (fun y q => by have := (bB_ed _ _).1 q; omega)
    omega
  · match x, hx with
    | 0, _ => exact Rt.one ((bB_ed _ _).2 ⟨rfl, rfl⟩)
    | 1, _ => exact Rt.refl _ _
theorem bB_small : Small (bB a3 c3) := by
  refine ⟨by simp [bB], fun i hi => ?_⟩
  match i, hi with
  | 0, _ => rfl
  | 1, _ => rfl
theorem bB_rg : RgX (bB a3 c3) := by
  intro i hi
  match i, hi with
  | 0, _ => exact rg_lit (by omega) (by simp)
  | 1, _ => exact rg_lit (by omega) (by simp)
theorem bB_can : cX (bB a3 c3) 1 = [⟨3, [], [], []⟩, ⟨1, [], [], [0, 0]⟩] := by
  have ho : oX (bB a3 c3) 1 = [0, 1] := by
    show ordO [[], [0, 0]] 1 = _
    decide
  unfold cX pX
  rw [ho]
  rfl
theorem sh_a : shL [⟨3, [], [], []⟩, ⟨3, [], [], []⟩, ⟨1, [], [], [0, 1]⟩] = [⟨3, [], [], []⟩, ⟨1, [], [], [0, 0]⟩] := by rfl
theorem sh_b : shL [⟨3, [], [], []⟩, ⟨1, [], [], [0, 0]⟩] = [⟨3, [], [], []⟩, ⟨1, [], [], [0, 0]⟩] := by rfl
theorem ab_same {b3 : Option Addr} {d3 : Nat} : SameT (aA a3 c3) (bB b3 d3) 0 1 := by
  refine (sameT_iff aA_right bB_right).2 ((sh_same (cX_cn aA_right) (cX_cn bB_right)).1 ?_)
  rw [aA_can, bB_can, sh_a, sh_b]
end

/-- The scenes of awake in memory. -/
structure Aw (W : World) (bi bn bs ci cn cs : Nat) : Prop where
  i : AtN 3 W bi #[.int .i64 1, .int .i64 2]
  n : AtN 42 W bn #[.int .i64 1, .slice none 0 0, .slice none 0 0, .slice (some ⟨bi, 0, none⟩) 2 2, .int .i64 3, .slice none 0 0, .slice none 0 0, .slice none 0 0, .int .i64 3, .slice none 0 0, .slice none 0 0, .slice none 0 0]
  s : AtN 24 W bs #[.slice (some ⟨bn, 0, none⟩) 3 3, .int .i64 0]
  i2 : AtN 3 W ci #[.int .i64 0, .int .i64 0]
  n2 : AtN 42 W cn #[.int .i64 3, .slice none 0 0, .slice none 0 0, .slice none 0 0, .int .i64 1, .slice none 0 0, .slice none 0 0, .slice (some ⟨ci, 0, none⟩) 2 2]
  s2 : AtN 24 W cs #[.slice (some ⟨cn, 0, none⟩) 2 2, .int .i64 1]
  tab : Tab W
section
variable {W W' : World} {bi bn bs ci cn cs : Nat}
theorem Aw.below (h : Aw W bi bn bs ci cn cs) (hb : Below W.heap.size W W') : Aw W' bi bn bs ci cn cs := ⟨h.i.belowAll hb, h.n.belowAll hb, h.s.belowAll hb, h.i2.belowAll hb, h.n2.belowAll hb, h.s2.belowAll hb, h.tab.on hb⟩
theorem Aw.a (h : Aw W bi bn bs ci cn cs) : ScAt W (some ⟨bn, 0, none⟩) (aA (some ⟨bi, 0, none⟩) 2) := by
  refine ⟨at_ls h.n, fun i hi => ?_⟩
  match i, hi with
  | 0, _ => exact ⟨LsAt.nil _ _, LsAt.nil _ _, at_ls h.i⟩
  | 1, _ => exact ⟨LsAt.nil _ _, LsAt.nil _ _, LsAt.nil _ _⟩
  | 2, _ => exact ⟨LsAt.nil _ _, LsAt.nil _ _, LsAt.nil _ _⟩
theorem Aw.b (h : Aw W bi bn bs ci cn cs) : ScAt W (some ⟨cn, 0, none⟩) (bB (some ⟨ci, 0, none⟩) 2) := by
  refine ⟨at_ls h.n2, fun i hi => ?_⟩
  match i, hi with
  | 0, _ => exact ⟨LsAt.nil _ _, LsAt.nil _ _, LsAt.nil _ _⟩
  | 1, _ => exact ⟨LsAt.nil _ _, LsAt.nil _ _, at_ls h.i2⟩
theorem aw_share (h : Aw W bi bn bs ci cn cs) : Calls Tryd.prog 16 #[.agg #[.slice (some ⟨bn, 0, none⟩) 3 3, .int .i64 0]] W fun e w' => ∃ L a' c', e = .returned (.tuple #[.agg #[.slice a' 2 c', .int .i64 1], .int .i64 0]) ∧ List.map Nx.nd L = [⟨3, [], [], []⟩, ⟨1, [], [], [0, 0]⟩] ∧ L.length = 2 ∧ ScAt w' a' L ∧ Below W.heap.size W w' := by
  have := ushare_any (aA (some ⟨bi, 0, none⟩) 2) (some ⟨bn, 0, none⟩) 3 0 W h.a aA_small aA_rg h.tab
  refine Calls.mono this ?_
  rintro e w' ⟨h1, -, hb⟩
  obtain ⟨L, a', c', rfl, hL, hs⟩ := h1 aA_right
  rw [aA_can, sh_a] at hL
  have hl : L.length = 2 := by simpa using congrArg List.length hL
  exact ⟨L, a', c', by rw [hl]; rfl, hL, hl, hs, hb⟩
theorem aw_equal (h : Aw W bi bn bs ci cn cs) : Calls Tryd.prog 10 #[.agg #[.slice (some ⟨bn, 0, none⟩) 3 3, .int .i64 0], .agg #[.slice (some ⟨cn, 0, none⟩) 2 2, .int .i64 1]] W fun e w' => e = .returned (.bool true) ∧ Below W.heap.size W w' := by
  have := uequal_any (aA (some ⟨bi, 0, none⟩) 2) (bB (some ⟨ci, 0, none⟩) 2) (some ⟨bn, 0, none⟩) (some ⟨cn, 0, none⟩) 3 2 0 1 W h.a h.b aA_small bB_small aA_rg bB_rg h.tab
  refine Calls.mono this ?_
  rintro e w' ⟨b, rfl, hb, hB⟩
  rw [hb.2 ⟨aA_right, bB_right, ab_same⟩]
  exact ⟨rfl, hB⟩
theorem aw_none (h : Aw W bi bn bs ci cn cs) : Calls Tryd.prog 10 #[.agg #[.slice (some ⟨bn, 0, none⟩) 3 3, .int .i64 0], .agg #[.slice none 0 0, .int .i64 0]] W fun e w' => e = .returned (.bool false) ∧ Below W.heap.size W w' := by
  have := uequal_any (aA (some ⟨bi, 0, none⟩) 2) [] (some ⟨bn, 0, none⟩) none 3 0 0 0 W h.a ⟨LsAt.nil _ _, fun i hi => by simp at hi⟩ aA_small ⟨by simp, fun i hi => by simp at hi⟩ aA_rg (fun i hi => by simp at hi) h.tab
  refine Calls.mono this ?_
  rintro e w' ⟨b, rfl, hb, hB⟩
  cases b with
  | false => exact ⟨rfl, hB⟩
  | true => exact absurd (hb.1 rfl).2.1.1 (by decide)
theorem aw_size (h : Aw W bi bn bs ci cn cs) : Calls Tryd.prog 14 #[.agg #[.slice (some ⟨bn, 0, none⟩) 3 3, .int .i64 0], .int .i64 99] W fun e w' => e = .returned (.int .i64 3) ∧ Below W.heap.size W w' := by
  have := usize_any (aA (some ⟨bi, 0, none⟩) 2) (some ⟨bn, 0, none⟩) 3 0 99 W h.a aA_small (by omega)
  refine Calls.mono this ?_
  rintro e w' ⟨h1, -, hb⟩
  refine ⟨(h1 aA_right).trans ?_, hb⟩
  rw [aA_can]
  rfl
theorem aw_size2 (h : Aw W bi bn bs ci cn cs) : Calls Tryd.prog 14 #[.agg #[.slice (some ⟨cn, 0, none⟩) 2 2, .int .i64 1], .int .i64 99] W fun e w' => e = .returned (.int .i64 3) ∧ Below W.heap.size W w' := by
  have := usize_any (bB (some ⟨ci, 0, none⟩) 2) (some ⟨cn, 0, none⟩) 2 1 99 W h.b bB_small (by omega)
  refine Calls.mono this ?_
  rintro e w' ⟨h1, -, hb⟩
  refine ⟨(h1 bB_right).trans ?_, hb⟩
  rw [bB_can]
  rfl
theorem aw_size3 (h : Aw W bi bn bs ci cn cs) : Calls Tryd.prog 14 #[.agg #[.slice (some ⟨cn, 0, none⟩) 2 2, .int .i64 1], .int .i64 2] W fun e w' => e = .returned (.int .i64 2) ∧ Below W.heap.size W w' := by
  have := usize_any (bB (some ⟨ci, 0, none⟩) 2) (some ⟨cn, 0, none⟩) 2 1 2 W h.b bB_small (by omega)
  refine Calls.mono this ?_
  rintro e w' ⟨h1, -, hb⟩
  refine ⟨(h1 bB_right).trans ?_, hb⟩
  rw [bB_can]
  rfl
theorem aw_same {L : List Nx} {a' : Option Addr} {c' : Nat} (h : Aw W bi bn bs ci cn cs) (hL : L.map Nx.nd = [⟨3, [], [], []⟩, ⟨1, [], [], [0, 0]⟩]) (hl : L.length = 2) (hs : ScAt W a' L) : Calls Tryd.prog 18 #[.agg #[.slice a' 2 c', .int .i64 1], .agg #[.slice (some ⟨cn, 0, none⟩) 2 2, .int .i64 1]] W fun e w' => e = .returned (.bool true) ∧ Below W.heap.size W w' := by
  have hsm : Small L := same_small (X := bB (some ⟨ci, 0, none⟩) 2) (by rw [hL]; rfl) bB_small
  have := ssame_yes L (bB (some ⟨ci, 0, none⟩) 2) a' (some ⟨cn, 0, none⟩) c' 2 1 W hs h.b hsm (by rw [hL]; rfl)
  rw [hl] at this
  exact this
end

set_option maxRecDepth 10000 in
set_option maxHeartbeats 2000000 in
theorem awake_any (w : World) (ht : Tab w) :
    Calls Tryd.prog 8 #[] w fun e w' => e = .returned (.bool true) ∧ Below w.heap.size w w' := by
  have HA0 : Hid (∀ o1 o2 o3 o4 o5 o6 : Obj, o1 = .cells #[.int .i64 1, .int .i64 2] 3 → o2 = .cells #[.int .i64 1, .slice none 0 0, .slice none 0 0, .slice (some ⟨w.heap.size, 0, none⟩) 2 2, .int .i64 3, .slice none 0 0, .slice none 0 0, .slice none 0 0, .int .i64 3, .slice none 0 0, .slice none 0 0, .slice none 0 0] 42 → o3 = .cells #[.slice (some ⟨w.heap.size + 1, 0, none⟩) 3 3, .int .i64 0] 24 →
      o4 = .cells #[.int .i64 0, .int .i64 0] 3 → o5 = .cells #[.int .i64 3, .slice none 0 0, .slice none 0 0, .slice none 0 0, .int .i64 1, .slice none 0 0, .slice none 0 0, .slice (some ⟨w.heap.size + 1 + 1 + 1, 0, none⟩) 2 2] 42 → o6 = .cells #[.slice (some ⟨w.heap.size + 1 + 1 + 1 + 1, 0, none⟩) 2 2, .int .i64 1] 24 →
      Aw ((((((w.alloc o1).alloc o2).alloc o3).alloc o4).alloc o5).alloc o6) w.heap.size (w.heap.size + 1) (w.heap.size + 1 + 1) (w.heap.size + 1 + 1 + 1) (w.heap.size + 1 + 1 + 1 + 1) (w.heap.size + 1 + 1 + 1 + 1 + 1) ∧ Below w.heap.size w ((((((w.alloc o1).alloc o2).alloc o3).alloc o4).alloc o5).alloc o6)) := by
    rintro _ _ _ _ _ _ rfl rfl rfl rfl rfl rfl
    have hb : Below w.heap.size w ((((((w.alloc (.cells #[.int .i64 1, .int .i64 2] 3)).alloc (.cells #[.int .i64 1, .slice none 0 0, .slice none 0 0, .slice (some ⟨w.heap.size, 0, none⟩) 2 2, .int .i64 3, .slice none 0 0, .slice none 0 0, .slice none 0 0, .int .i64 3, .slice none 0 0, .slice none 0 0, .slice none 0 0] 42)).alloc (.cells #[.slice (some ⟨w.heap.size + 1, 0, none⟩) 3 3, .int .i64 0] 24)).alloc (.cells #[.int .i64 0, .int .i64 0] 3)).alloc (.cells #[.int .i64 3, .slice none 0 0, .slice none 0 0, .slice none 0 0, .int .i64 1, .slice none 0 0, .slice none 0 0, .slice (some ⟨w.heap.size + 1 + 1 + 1, 0, none⟩) 2 2] 42)).alloc (.cells #[.slice (some ⟨w.heap.size + 1 + 1 + 1 + 1, 0, none⟩) 2 2, .int .i64 1] 24)) :=
      ((((((Below.refl w.heap.size w).alloc (Nat.le_refl _) _).alloc (by simp) _).alloc (by simp; omega) _).alloc (by simp; omega) _).alloc (by simp; omega) _).alloc (by simp; omega) _
    exact ⟨⟨(((((AtN.new w 3 _).alloc _).alloc _).alloc _).alloc _).alloc _, ((((mk_at (AtN.new (w.alloc _) 42 _) (show _ = w.heap.size + 1 by simp)).alloc _).alloc _).alloc _).alloc _, (((mk_at (AtN.new ((w.alloc _).alloc _) 24 _) (show _ = w.heap.size + 1 + 1 by simp)).alloc _).alloc _).alloc _, ((mk_at (AtN.new (((w.alloc _).alloc _).alloc _) 3 _) (show _ = w.heap.size + 1 + 1 + 1 by simp)).alloc _).alloc _, (mk_at (AtN.new ((((w.alloc _).alloc _).alloc _).alloc _) 42 _) (show _ = w.heap.size + 1 + 1 + 1 + 1 by simp)).alloc _, mk_at (AtN.new (((((w.alloc _).alloc _).alloc _).alloc _).alloc _) 24 _) (show _ = w.heap.size + 1 + 1 + 1 + 1 + 1 by simp), ht.on hb⟩, hb⟩
  clear ht
  go_enter Tryd.func8, Tryd.ntmps8
  go_wp2_with fail
  obtain ⟨h1, h2⟩ := HA0.out _ _ _ _ _ _ rfl rfl rfl rfl rfl rfl
  refine (aw_share h1).mono ?_
  rintro e w1 ⟨L, a', c', rfl, hL, hl, hs, hb1⟩
  have HA1 : Hid (Aw w1 w.heap.size (w.heap.size + 1) (w.heap.size + 1 + 1) (w.heap.size + 1 + 1 + 1) (w.heap.size + 1 + 1 + 1 + 1) (w.heap.size + 1 + 1 + 1 + 1 + 1) ∧ Below w.heap.size w w1) := ⟨h1.below hb1, h2.trans (hb1.mono h2.size)⟩
  have HL : Hid (L.map Nx.nd = [⟨3, [], [], []⟩, ⟨1, [], [], [0, 0]⟩] ∧ L.length = 2) := ⟨hL, hl⟩
  have HC1 : Hid (∀ o : Obj, o = .cells #[.slice a' 2 c', .int .i64 1] 24 → AtN 24 (w1.alloc o) w1.heap.size #[.slice a' 2 c', .int .i64 1] ∧ ScAt (w1.alloc o) a' L ∧ Aw (w1.alloc o) w.heap.size (w.heap.size + 1) (w.heap.size + 1 + 1) (w.heap.size + 1 + 1 + 1) (w.heap.size + 1 + 1 + 1 + 1) (w.heap.size + 1 + 1 + 1 + 1 + 1) ∧ Below w.heap.size w (w1.alloc o)) := by
    rintro _ rfl
    exact ⟨AtN.new w1 24 _, hs.alloc _, HA1.out.1.below ((Below.refl w1.heap.size w1).alloc (Nat.le_refl _) _), HA1.out.2.alloc HA1.out.2.size _⟩
  have x0 : w1.cell? ⟨w.heap.size + 1 + 1, 0, none⟩ = some (.slice (some ⟨w.heap.size + 1, 0, none⟩) 3 3) := HA1.out.1.s.cell 0
  have x1 : w1.cell? ⟨w.heap.size + 1 + 1, 1, none⟩ = some (.int .i64 0) := HA1.out.1.s.cell 1
  have x2 : w1.cell? ⟨w.heap.size + 1 + 1 + 1 + 1 + 1, 0, none⟩ = some (.slice (some ⟨w.heap.size + 1 + 1 + 1 + 1, 0, none⟩) 2 2) := HA1.out.1.s2.cell 0
  have x3 : w1.cell? ⟨w.heap.size + 1 + 1 + 1 + 1 + 1, 1, none⟩ = some (.int .i64 1) := HA1.out.1.s2.cell 1
  have l1 := HA1.out.1.s.lt
  have l2 := HA1.out.1.s2.lt
  clear HA0 h1 h2 hb1 hL hl hs HA1
  go_wp2_with fail
  obtain ⟨k1, k2, k3, k4⟩ := HC1.out _ rfl
  refine (aw_equal k3).mono ?_
  rintro e w2 ⟨rfl, hb⟩
  have HC2 : Hid (AtN 24 w2 w1.heap.size #[.slice a' 2 c', .int .i64 1] ∧ ScAt w2 a' L ∧ Aw w2 w.heap.size (w.heap.size + 1) (w.heap.size + 1 + 1) (w.heap.size + 1 + 1 + 1) (w.heap.size + 1 + 1 + 1 + 1) (w.heap.size + 1 + 1 + 1 + 1 + 1) ∧ Below w.heap.size w w2) := ⟨k1.belowAll hb, k2.belowB hb, k3.below hb, k4.trans (hb.mono k4.size)⟩
  clear HC1 k1 k2 k3 k4 hb x0 x1 x2 x3
  have x0 : w2.cell? ⟨w.heap.size + 1 + 1, 0, none⟩ = some (.slice (some ⟨w.heap.size + 1, 0, none⟩) 3 3) := HC2.out.2.2.1.s.cell 0
  have x1 : w2.cell? ⟨w.heap.size + 1 + 1, 1, none⟩ = some (.int .i64 0) := HC2.out.2.2.1.s.cell 1
  have x2 : w2.cell? ⟨w.heap.size + 1 + 1 + 1 + 1 + 1, 0, none⟩ = some (.slice (some ⟨w.heap.size + 1 + 1 + 1 + 1, 0, none⟩) 2 2) := HC2.out.2.2.1.s2.cell 0
  have x3 : w2.cell? ⟨w.heap.size + 1 + 1 + 1 + 1 + 1, 1, none⟩ = some (.int .i64 1) := HC2.out.2.2.1.s2.cell 1
  have y0 : w2.cell? ⟨w1.heap.size, 0, none⟩ = some (.slice a' 2 c') := HC2.out.1.cell 0
  have y1 : w2.cell? ⟨w1.heap.size, 1, none⟩ = some (.int .i64 1) := HC2.out.1.cell 1
  go_wp2_with fail
  refine (aw_size HC2.out.2.2.1).mono ?_
  rintro e w3 ⟨rfl, hb⟩
  have HC3 : Hid (AtN 24 w3 w1.heap.size #[.slice a' 2 c', .int .i64 1] ∧ ScAt w3 a' L ∧ Aw w3 w.heap.size (w.heap.size + 1) (w.heap.size + 1 + 1) (w.heap.size + 1 + 1 + 1) (w.heap.size + 1 + 1 + 1 + 1) (w.heap.size + 1 + 1 + 1 + 1 + 1) ∧ Below w.heap.size w w3) := ⟨HC2.out.1.belowAll hb, HC2.out.2.1.belowB hb, HC2.out.2.2.1.below hb, HC2.out.2.2.2.trans (hb.mono HC2.out.2.2.2.size)⟩
  clear HC2 hb x0 x1 x2 x3 y0 y1
  have x0 : w3.cell? ⟨w.heap.size + 1 + 1, 0, none⟩ = some (.slice (some ⟨w.heap.size + 1, 0, none⟩) 3 3) := HC3.out.2.2.1.s.cell 0
  have x1 : w3.cell? ⟨w.heap.size + 1 + 1, 1, none⟩ = some (.int .i64 0) := HC3.out.2.2.1.s.cell 1
  have x2 : w3.cell? ⟨w.heap.size + 1 + 1 + 1 + 1 + 1, 0, none⟩ = some (.slice (some ⟨w.heap.size + 1 + 1 + 1 + 1, 0, none⟩) 2 2) := HC3.out.2.2.1.s2.cell 0
  have x3 : w3.cell? ⟨w.heap.size + 1 + 1 + 1 + 1 + 1, 1, none⟩ = some (.int .i64 1) := HC3.out.2.2.1.s2.cell 1
  have y0 : w3.cell? ⟨w1.heap.size, 0, none⟩ = some (.slice a' 2 c') := HC3.out.1.cell 0
  have y1 : w3.cell? ⟨w1.heap.size, 1, none⟩ = some (.int .i64 1) := HC3.out.1.cell 1
  go_wp2_with fail
  refine (aw_size2 HC3.out.2.2.1).mono ?_
  rintro e w4 ⟨rfl, hb⟩
  have HC4 : Hid (AtN 24 w4 w1.heap.size #[.slice a' 2 c', .int .i64 1] ∧ ScAt w4 a' L ∧ Aw w4 w.heap.size (w.heap.size + 1) (w.heap.size + 1 + 1) (w.heap.size + 1 + 1 + 1) (w.heap.size + 1 + 1 + 1 + 1) (w.heap.size + 1 + 1 + 1 + 1 + 1) ∧ Below w.heap.size w w4) := ⟨HC3.out.1.belowAll hb, HC3.out.2.1.belowB hb, HC3.out.2.2.1.below hb, HC3.out.2.2.2.trans (hb.mono HC3.out.2.2.2.size)⟩
  clear HC3 hb x0 x1 x2 x3 y0 y1
  have x0 : w4.cell? ⟨w.heap.size + 1 + 1, 0, none⟩ = some (.slice (some ⟨w.heap.size + 1, 0, none⟩) 3 3) := HC4.out.2.2.1.s.cell 0
  have x1 : w4.cell? ⟨w.heap.size + 1 + 1, 1, none⟩ = some (.int .i64 0) := HC4.out.2.2.1.s.cell 1
  have x2 : w4.cell? ⟨w.heap.size + 1 + 1 + 1 + 1 + 1, 0, none⟩ = some (.slice (some ⟨w.heap.size + 1 + 1 + 1 + 1, 0, none⟩) 2 2) := HC4.out.2.2.1.s2.cell 0
  have x3 : w4.cell? ⟨w.heap.size + 1 + 1 + 1 + 1 + 1, 1, none⟩ = some (.int .i64 1) := HC4.out.2.2.1.s2.cell 1
  have y0 : w4.cell? ⟨w1.heap.size, 0, none⟩ = some (.slice a' 2 c') := HC4.out.1.cell 0
  have y1 : w4.cell? ⟨w1.heap.size, 1, none⟩ = some (.int .i64 1) := HC4.out.1.cell 1
  go_wp2_with fail
  refine (aw_size3 HC4.out.2.2.1).mono ?_
  rintro e w5 ⟨rfl, hb⟩
  have HC5 : Hid (AtN 24 w5 w1.heap.size #[.slice a' 2 c', .int .i64 1] ∧ ScAt w5 a' L ∧ Aw w5 w.heap.size (w.heap.size + 1) (w.heap.size + 1 + 1) (w.heap.size + 1 + 1 + 1) (w.heap.size + 1 + 1 + 1 + 1) (w.heap.size + 1 + 1 + 1 + 1 + 1) ∧ Below w.heap.size w w5) := ⟨HC4.out.1.belowAll hb, HC4.out.2.1.belowB hb, HC4.out.2.2.1.below hb, HC4.out.2.2.2.trans (hb.mono HC4.out.2.2.2.size)⟩
  clear HC4 hb x0 x1 x2 x3 y0 y1
  have x0 : w5.cell? ⟨w.heap.size + 1 + 1, 0, none⟩ = some (.slice (some ⟨w.heap.size + 1, 0, none⟩) 3 3) := HC5.out.2.2.1.s.cell 0
  have x1 : w5.cell? ⟨w.heap.size + 1 + 1, 1, none⟩ = some (.int .i64 0) := HC5.out.2.2.1.s.cell 1
  have x2 : w5.cell? ⟨w.heap.size + 1 + 1 + 1 + 1 + 1, 0, none⟩ = some (.slice (some ⟨w.heap.size + 1 + 1 + 1 + 1, 0, none⟩) 2 2) := HC5.out.2.2.1.s2.cell 0
  have x3 : w5.cell? ⟨w.heap.size + 1 + 1 + 1 + 1 + 1, 1, none⟩ = some (.int .i64 1) := HC5.out.2.2.1.s2.cell 1
  have y0 : w5.cell? ⟨w1.heap.size, 0, none⟩ = some (.slice a' 2 c') := HC5.out.1.cell 0
  have y1 : w5.cell? ⟨w1.heap.size, 1, none⟩ = some (.int .i64 1) := HC5.out.1.cell 1
  go_wp2_with fail
  refine (aw_same HC5.out.2.2.1 HL.out.1 HL.out.2 HC5.out.2.1).mono ?_
  rintro e w6 ⟨rfl, hb⟩
  have HC6 : Hid (AtN 24 w6 w1.heap.size #[.slice a' 2 c', .int .i64 1] ∧ ScAt w6 a' L ∧ Aw w6 w.heap.size (w.heap.size + 1) (w.heap.size + 1 + 1) (w.heap.size + 1 + 1 + 1) (w.heap.size + 1 + 1 + 1 + 1) (w.heap.size + 1 + 1 + 1 + 1 + 1) ∧ Below w.heap.size w w6) := ⟨HC5.out.1.belowAll hb, HC5.out.2.1.belowB hb, HC5.out.2.2.1.below hb, HC5.out.2.2.2.trans (hb.mono HC5.out.2.2.2.size)⟩
  clear HC5 hb x0 x1 x2 x3 y0 y1
  have x0 : w6.cell? ⟨w.heap.size + 1 + 1, 0, none⟩ = some (.slice (some ⟨w.heap.size + 1, 0, none⟩) 3 3) := HC6.out.2.2.1.s.cell 0
  have x1 : w6.cell? ⟨w.heap.size + 1 + 1, 1, none⟩ = some (.int .i64 0) := HC6.out.2.2.1.s.cell 1
  have x2 : w6.cell? ⟨w.heap.size + 1 + 1 + 1 + 1 + 1, 0, none⟩ = some (.slice (some ⟨w.heap.size + 1 + 1 + 1 + 1, 0, none⟩) 2 2) := HC6.out.2.2.1.s2.cell 0
  have x3 : w6.cell? ⟨w.heap.size + 1 + 1 + 1 + 1 + 1, 1, none⟩ = some (.int .i64 1) := HC6.out.2.2.1.s2.cell 1
  have y0 : w6.cell? ⟨w1.heap.size, 0, none⟩ = some (.slice a' 2 c') := HC6.out.1.cell 0
  have y1 : w6.cell? ⟨w1.heap.size, 1, none⟩ = some (.int .i64 1) := HC6.out.1.cell 1
  go_wp2_with fail
  refine (aw_none HC6.out.2.2.1).mono ?_
  rintro e w7 ⟨rfl, hb⟩
  have HC7 : Hid (AtN 24 w7 w1.heap.size #[.slice a' 2 c', .int .i64 1] ∧ ScAt w7 a' L ∧ Aw w7 w.heap.size (w.heap.size + 1) (w.heap.size + 1 + 1) (w.heap.size + 1 + 1 + 1) (w.heap.size + 1 + 1 + 1 + 1) (w.heap.size + 1 + 1 + 1 + 1 + 1) ∧ Below w.heap.size w w7) := ⟨HC6.out.1.belowAll hb, HC6.out.2.1.belowB hb, HC6.out.2.2.1.below hb, HC6.out.2.2.2.trans (hb.mono HC6.out.2.2.2.size)⟩
  clear HC6 hb x0 x1 x2 x3 y0 y1
  have x0 : w7.cell? ⟨w.heap.size + 1 + 1, 0, none⟩ = some (.slice (some ⟨w.heap.size + 1, 0, none⟩) 3 3) := HC7.out.2.2.1.s.cell 0
  have x1 : w7.cell? ⟨w.heap.size + 1 + 1, 1, none⟩ = some (.int .i64 0) := HC7.out.2.2.1.s.cell 1
  have x2 : w7.cell? ⟨w.heap.size + 1 + 1 + 1 + 1 + 1, 0, none⟩ = some (.slice (some ⟨w.heap.size + 1 + 1 + 1 + 1, 0, none⟩) 2 2) := HC7.out.2.2.1.s2.cell 0
  have x3 : w7.cell? ⟨w.heap.size + 1 + 1 + 1 + 1 + 1, 1, none⟩ = some (.int .i64 1) := HC7.out.2.2.1.s2.cell 1
  have y0 : w7.cell? ⟨w1.heap.size, 0, none⟩ = some (.slice a' 2 c') := HC7.out.1.cell 0
  have y1 : w7.cell? ⟨w1.heap.size, 1, none⟩ = some (.int .i64 1) := HC7.out.1.cell 1
  go_wp2_with fail
  go_ret
  exact ⟨rfl, HC7.out.2.2.2⟩

end Go.Proofs.YtcdpjaaiojpelaaDoor
