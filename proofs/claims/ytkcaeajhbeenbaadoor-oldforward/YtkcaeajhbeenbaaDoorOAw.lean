/- What the law's own awake asks: a small scene of version 1. -/
import Derived.Test.YtkcaeajhbeenbaaDoorOAx
import Derived.Test.YtkcaeajhbeenbaaDoorOIs
import Derived.Test.YtkcaeajhbeenbaaDoorOFg
import Derived.Test.YtkcaeajhbeenbaaDoorOVa
import Derived.Deep.RegionHeld3
namespace Go.Proofs.YtkcaeajhbeenbaaDoor
open Go.RowKit Go.Maps Go.WideMaps Go.Sort

/-- The scene of awake in memory. -/
structure Bw (w W : World) : Prop where
  k : AtN 3 W w.heap.size #[.int .i64 1, .int .i64 2]
  t : AtN 9 W (w.heap.size + 1) #[.string bT]
  i : AtN 2 W (w.heap.size + 1 + 1) #[.int .i64 9]
  n : AtN 48 W (w.heap.size + 1 + 1 + 1) #[.int .i64 1, .slice none 0 0, .slice none 0 0, .slice (some ⟨w.heap.size, 0, none⟩) 2 2, .int .i64 5, .slice none 0 0, .slice (some ⟨w.heap.size + 1, 0, none⟩) 1 1, .slice none 0 0, .int .i64 6, .slice (some ⟨w.heap.size + 1 + 1, 0, none⟩) 1 1, .slice none 0 0, .slice none 0 0]
  s : AtN 24 W (w.heap.size + 1 + 1 + 1 + 1) #[.slice (some ⟨w.heap.size + 1 + 1 + 1, 0, none⟩) 3 3, .int .i64 0]
  bel : Below w.heap.size w W
section
variable {w W W' : World}
theorem Bw.more (h : Bw w W) (hb : Below W.heap.size W W') : Bw w W' := ⟨h.k.belowAll hb, h.t.belowAll hb, h.i.belowAll hb, h.n.belowAll hb, h.s.belowAll hb, h.bel.trans (hb.mono h.bel.size)⟩
theorem Bw.sc (h : Bw w W) : ScAt W (some ⟨w.heap.size + 1 + 1 + 1, 0, none⟩) (bX w.heap.size (w.heap.size + 1) (w.heap.size + 1 + 1)) := ⟨at_ls (cs := nxV (bX w.heap.size (w.heap.size + 1) (w.heap.size + 1 + 1))) h.n, fun j hj => by
  match j, hj with
  | 0, _ => exact ⟨LsAt.nil _ _, LsAt.nil _ _, at_ls (cs := iV [1, 2]) h.k⟩
  | 1, _ => exact ⟨LsAt.nil _ _, at_ls (cs := tV [bT]) h.t, LsAt.nil _ _⟩
  | 2, _ => exact ⟨at_ls (cs := iV [9]) h.i, LsAt.nil _ _, LsAt.nil _ _⟩⟩
theorem bw_typed (h : Bw w W) (ht : Tabs16 W) : Calls Tryd.prog 13 #[.agg #[.slice (some ⟨w.heap.size + 1 + 1 + 1, 0, none⟩) 3 3, .int .i64 0]] W fun e w' => e = .returned (.tuple #[.int .i64 0, .int .i64 0]) ∧ Below W.heap.size W w' := by
  have := otyped_any (bX w.heap.size (w.heap.size + 1) (w.heap.size + 1 + 1)) (some ⟨w.heap.size + 1 + 1 + 1, 0, none⟩) 3 0 W h.sc (bX_small _ _ _) (bX_fn _ _ _) ht
  rw [bX_ty, bX_tz] at this
  exact this
theorem bw_valid (h : Bw w W) (ht : Tabs16 W) : Calls Tryd.prog 10 #[.agg #[.slice (some ⟨w.heap.size + 1 + 1 + 1, 0, none⟩) 3 3, .int .i64 0], .agg #[.int .i64 16777216, .int .i64 16777216, .int .i64 16777216, .int .i64 16777216, .int .i64 16777216]] W fun e w' => e = .returned (.tuple #[.int .i64 0, .int .i64 0]) ∧ Below W.heap.size W w' := by
  obtain ⟨d, hd⟩ := depth_there (bX w.heap.size (w.heap.size + 1) (w.heap.size + 1 + 1)) 0
  refine Calls.mono (ovalid_any (bX w.heap.size (w.heap.size + 1) (w.heap.size + 1 + 1)) (some ⟨w.heap.size + 1 + 1 + 1, 0, none⟩) 3 0 wL d W h.sc (bX_small _ _ _) (bX_fn _ _ _) ht hd) ?_
  rintro e w' ⟨n, z, rfl, hv, hb⟩
  obtain ⟨rfl, rfl⟩ := (bX_vo _ _ _ hd).uniq hv
  exact ⟨rfl, hb⟩
theorem bw_flat (h : Bw w W) : Calls Tryd.prog 15 #[.agg #[.slice (some ⟨w.heap.size + 1 + 1 + 1, 0, none⟩) 3 3, .int .i64 0]] W fun e w' => ∃ (y0 y1 y2 : Nx) (a : Option Addr) (c : Nat), e = .returned (.tuple #[.agg #[.slice a 3 c, .int .i64 0], .int .i64 0]) ∧ y0.nd = ⟨1, [], [], [2, 1]⟩ ∧ y1.nd = bN2 ∧ ScAt w' a [y0, y1, y2] ∧ Small [y0, y1, y2] ∧ FowIs [y0, y1, y2] 0 ∧ Below W.heap.size W w' := by
  refine Calls.mono (oflat_any (bX w.heap.size (w.heap.size + 1) (w.heap.size + 1 + 1)) (some ⟨w.heap.size + 1 + 1 + 1, 0, none⟩) 3 0 W h.sc (bX_small _ _ _)) ?_
  rintro e w' ⟨h1, -, hb⟩
  obtain ⟨T, a, c, rfl, hT, hl, hs⟩ := h1 (bX_right _ _ _)
  have hF := flt_of (bX_small _ _ _) (bX_right _ _ _) hT
  rw [bX_flat] at hT
  obtain ⟨y0, y1, y2, rfl, e0, e1, e2⟩ := three_nds hT
  exact ⟨y0, y1, y2, a, c, rfl, e0, e1, hs, hF.small (bX_small _ _ _), hF.fw, hb⟩
theorem fow_yes {X : List Nx} {a : Option Addr} {c : Nat} {r : Int} (h : ScAt W a X) (hX : Small X) (hf : FowIs X r) : Calls Tryd.prog 16 #[.agg #[.slice a X.length c, .int .i64 r]] W fun e w' => e = .returned (.bool true) ∧ Below W.heap.size W w' := by
  refine Calls.mono (ois_any X a c r W h hX) ?_
  rintro e w' ⟨b, rfl, hb, hB⟩
  rw [hb.2 hf]
  exact ⟨rfl, hB⟩
theorem fow_none (W : World) : Calls Tryd.prog 16 #[.agg #[.slice none 0 0, .int .i64 0]] W fun e w' => e = .returned (.bool false) ∧ Below W.heap.size W w' := by
  refine Calls.mono (ois_any [] none 0 0 W ⟨LsAt.nil _ _, fun i hi => by simp at hi⟩ ⟨by simp, fun i hi => by simp at hi⟩) ?_
  rintro e w' ⟨b, rfl, hb, hB⟩
  cases b with
  | false => exact ⟨rfl, hB⟩
  | true => exact absurd (hb.1 rfl) none_fw
end

set_option maxRecDepth 10000 in
set_option maxHeartbeats 2000000 in
theorem awake_any (w : World) (ht : Tabs16 w) :
    Calls Tryd.prog 8 #[] w fun e w' => e = .returned (.bool true) ∧ Below w.heap.size w w' := by
  have HA : Hid (∀ o1 o2 o3 o4 o5 : Obj, o1 = .cells #[.int .i64 1, .int .i64 2] 3 → o2 = .cells #[.string bT] 9 → o3 = .cells #[.int .i64 9] 2 → o4 = .cells #[.int .i64 1, .slice none 0 0, .slice none 0 0, .slice (some ⟨w.heap.size, 0, none⟩) 2 2, .int .i64 5, .slice none 0 0, .slice (some ⟨w.heap.size + 1, 0, none⟩) 1 1, .slice none 0 0, .int .i64 6, .slice (some ⟨w.heap.size + 1 + 1, 0, none⟩) 1 1, .slice none 0 0, .slice none 0 0] 48 → o5 = .cells #[.slice (some ⟨w.heap.size + 1 + 1 + 1, 0, none⟩) 3 3, .int .i64 0] 24 → Bw w (((((w.alloc o1).alloc o2).alloc o3).alloc o4).alloc o5)) := by
    rintro _ _ _ _ _ rfl rfl rfl rfl rfl
    exact ⟨((((AtN.new w 3 _).alloc _).alloc _).alloc _).alloc _, (((mk_at (AtN.new (w.alloc _) 9 _) (show _ = w.heap.size + 1 by simp)).alloc _).alloc _).alloc _, ((mk_at (AtN.new ((w.alloc _).alloc _) 2 _) (show _ = w.heap.size + 1 + 1 by simp)).alloc _).alloc _, (mk_at (AtN.new (((w.alloc _).alloc _).alloc _) 48 _) (show _ = w.heap.size + 1 + 1 + 1 by simp)).alloc _, mk_at (AtN.new ((((w.alloc _).alloc _).alloc _).alloc _) 24 _) (show _ = w.heap.size + 1 + 1 + 1 + 1 by simp), (((((Below.refl w.heap.size w).alloc (Nat.le_refl _) _).alloc (by simp) _).alloc (by simp; omega) _).alloc (by simp; omega) _).alloc (by simp; omega) _⟩
  have HTy : Hid (∀ W, Bw w W → Calls Tryd.prog 13 #[.agg #[.slice (some ⟨w.heap.size + 1 + 1 + 1, 0, none⟩) 3 3, .int .i64 0]] W fun e w' => e = .returned (.tuple #[.int .i64 0, .int .i64 0]) ∧ Below W.heap.size W w') := fun W h => bw_typed h (ht.on h.bel)
  have HVa : Hid (∀ W, Bw w W → Calls Tryd.prog 10 #[.agg #[.slice (some ⟨w.heap.size + 1 + 1 + 1, 0, none⟩) 3 3, .int .i64 0], .agg #[.int .i64 16777216, .int .i64 16777216, .int .i64 16777216, .int .i64 16777216, .int .i64 16777216]] W fun e w' => e = .returned (.tuple #[.int .i64 0, .int .i64 0]) ∧ Below W.heap.size W w') := fun W h => bw_valid h (ht.on h.bel)
  clear ht
  go_enter Tryd.func8, Tryd.ntmps8
  go_wp2_with fail
  refine Calls.mono (HTy.out _ (HA.out _ _ _ _ _ rfl rfl rfl rfl rfl)) ?_
  rintro e w1 ⟨rfl, hb1⟩
  have H1 : Hid (Bw w w1) := (HA.out _ _ _ _ _ rfl rfl rfl rfl rfl).more hb1
  have HD : Hid (Bw w w1.drew) := H1.out.more (bel_drew w1)
  have K0 : w1.cell? ⟨w.heap.size + 1 + 1 + 1 + 1, 0, none⟩ = some (.slice (some ⟨w.heap.size + 1 + 1 + 1, 0, none⟩) 3 3) ∧ w1.cell? ⟨w.heap.size + 1 + 1 + 1 + 1, 1, none⟩ = some (.int .i64 0) := ⟨H1.out.s.cell 0, H1.out.s.cell 1⟩
  have Kd : w1.drew.cell? ⟨w.heap.size + 1 + 1 + 1 + 1, 0, none⟩ = some (.slice (some ⟨w.heap.size + 1 + 1 + 1, 0, none⟩) 3 3) ∧ w1.drew.cell? ⟨w.heap.size + 1 + 1 + 1 + 1, 1, none⟩ = some (.int .i64 0) := ⟨HD.out.s.cell 0, HD.out.s.cell 1⟩
  clear HTy HA hb1
  go_wp2_with fail
  go_region_held3 (fun W => W.cell? ⟨w.heap.size + 1 + 1 + 1 + 1, 0, none⟩ = some (.slice (some ⟨w.heap.size + 1 + 1 + 1, 0, none⟩) 3 3) ∧ W.cell? ⟨w.heap.size + 1 + 1 + 1 + 1, 1, none⟩ = some (.int .i64 0)) (first | exact K3 | exact K2 | exact Kd | exact K0)
    ((first | (go_at_call 10; refine Calls.mono (HVa.out _ H2.out) ?_; rintro e w3 ⟨rfl, hb3⟩; have H3 : Hid (Bw w w3) := H2.out.more hb3; have K3 : w3.cell? ⟨w.heap.size + 1 + 1 + 1 + 1, 0, none⟩ = some (.slice (some ⟨w.heap.size + 1 + 1 + 1, 0, none⟩) 3 3) ∧ w3.cell? ⟨w.heap.size + 1 + 1 + 1 + 1, 1, none⟩ = some (.int .i64 0) := ⟨H3.out.s.cell 0, H3.out.s.cell 1⟩) | (go_at_call 27; refine Calls.mono (wide_any _) ?_; rintro e w2 ⟨rfl, hb2⟩; have H2 : Hid (Bw w w2) := HD.out.more hb2; have K2 : w2.cell? ⟨w.heap.size + 1 + 1 + 1 + 1, 0, none⟩ = some (.slice (some ⟨w.heap.size + 1 + 1 + 1, 0, none⟩) 3 3) ∧ w2.cell? ⟨w.heap.size + 1 + 1 + 1 + 1, 1, none⟩ = some (.int .i64 0) := ⟨H2.out.s.cell 0, H2.out.s.cell 1⟩)))
  obtain ⟨x0, x1⟩ := K3
  clear H1 H2 HD K0 Kd K2 hb2 hb3 HVa
  go_wp2_with fail
  refine Calls.mono (bw_flat H3.out) ?_
  rintro e w4 ⟨y0, y1, y2, a, c, rfl, hy0, hy1, hs4, hsm, hfw, hb4⟩
  have HY : Hid (y0.nd = ⟨1, [], [], [2, 1]⟩ ∧ y1.nd = bN2 ∧ Small [y0, y1, y2] ∧ FowIs [y0, y1, y2] 0) := ⟨hy0, hy1, hsm, hfw⟩
  have HC5 : Hid (∀ o : Obj, o = .cells #[.slice a 3 c, .int .i64 0] 24 → AtN 24 (w4.alloc o) w4.heap.size #[.slice a 3 c, .int .i64 0] ∧ ScAt (w4.alloc o) a [y0, y1, y2] ∧ Bw w (w4.alloc o)) := by
    rintro _ rfl
    exact ⟨AtN.new w4 24 _, hs4.alloc _, (H3.out.more hb4).more ((Below.refl w4.heap.size w4).alloc (Nat.le_refl _) _)⟩
  have x0 : ∀ o, (w4.alloc o).cell? ⟨w.heap.size + 1 + 1 + 1 + 1, 0, none⟩ = some (.slice (some ⟨w.heap.size + 1 + 1 + 1, 0, none⟩) 3 3) := fun o => (((H3.out.more hb4).s).alloc o).cell 0
  have x1 : ∀ o, (w4.alloc o).cell? ⟨w.heap.size + 1 + 1 + 1 + 1, 1, none⟩ = some (.int .i64 0) := fun o => (((H3.out.more hb4).s).alloc o).cell 1
  clear H3 hb4 hs4 hy0 hy1 hsm hfw
  go_wp2_with fail
  obtain ⟨k1, k2, k3⟩ := HC5.out _ rfl
  refine Calls.mono (fow_yes (X := bX w.heap.size (w.heap.size + 1) (w.heap.size + 1 + 1)) k3.sc (bX_small _ _ _) (bX_fw _ _ _)) ?_
  rintro e w5 ⟨rfl, hb5⟩
  have HC6 : Hid (AtN 24 w5 w4.heap.size #[.slice a 3 c, .int .i64 0] ∧ ScAt w5 a [y0, y1, y2] ∧ Bw w w5) := ⟨k1.belowAll hb5, k2.belowB hb5, k3.more hb5⟩
  clear HC5 k1 k2 k3 hb5 x0 x1
  have s0 : w5.cell? ⟨w4.heap.size, 0, none⟩ = some (.slice a 3 c) := HC6.out.1.cell 0
  have s1 : w5.cell? ⟨w4.heap.size, 1, none⟩ = some (.int .i64 0) := HC6.out.1.cell 1
  go_wp2_with fail
  refine Calls.mono (fow_yes (X := [y0, y1, y2]) HC6.out.2.1 HY.out.2.2.1 HY.out.2.2.2) ?_
  rintro e w6 ⟨rfl, hb6⟩
  have HC7 : Hid (AtN 24 w6 w4.heap.size #[.slice a 3 c, .int .i64 0] ∧ ScAt w6 a [y0, y1, y2] ∧ Bw w w6) := ⟨HC6.out.1.belowAll hb6, HC6.out.2.1.belowB hb6, HC6.out.2.2.more hb6⟩
  clear HC6 s0 s1 hb6
  have s0 : w6.cell? ⟨w4.heap.size, 0, none⟩ = some (.slice a 3 c) := HC7.out.1.cell 0
  obtain ⟨b, o, rfl, hbl, _, _, _, p0⟩ := HC7.out.2.1.node (i := 0) (by simp)
  obtain ⟨b', o', hbo, _, p1, _, _, _⟩ := HC7.out.2.1.node (i := 1) (by simp)
  simp only [Option.some.injEq, Addr.mk.injEq, and_true] at hbo
  obtain ⟨rfl, rfl⟩ := hbo
  have q1 : w6.cell? ⟨b, o + 4, none⟩ = some (.int .i64 6) := by rw [show ([y0, y1, y2].getD 1 noNx).nd.kind = 6 from congrArg Nd.kind HY.out.2.1] at p1; simpa using p1
  have q2 : w6.cell? ⟨b, o + 3, none⟩ = some (.slice y0.a3 2 y0.c3) := by rw [show ([y0, y1, y2].getD 0 noNx).nd.kids.length = 2 by show y0.nd.kids.length = 2; rw [HY.out.1]; rfl] at p0; simpa using p0
  have HI : Hid (∀ ob : Obj, ob = .cells #[.int .i64 2, .int .i64 1] 3 → Calls Tryd.prog 28 #[.slice y0.a3 2 y0.c3, .slice (some ⟨w6.heap.size, 0, none⟩) 2 2] (w6.alloc ob) (fun e w' => e = .returned (.bool true) ∧ Below (w6.alloc ob).heap.size (w6.alloc ob) w') ∧ Bw w (w6.alloc ob)) := by
    rintro _ rfl
    have hK : LsAt w6 y0.a3 (nV [2, 1]) := by
      have := (HC7.out.2.1.each 0 (by simp)).k
      rw [show ([y0, y1, y2].getD 0 noNx).nd.kids = [2, 1] from congrArg Nd.kids HY.out.1] at this
      exact this
    exact ⟨ints_any [2, 1] [2, 1] y0.a3 (some ⟨w6.heap.size, 0, none⟩) y0.c3 2 _ (hK.alloc _) (at_ls (AtN.new w6 3 _)) (by simp), HC7.out.2.2.more ((Below.refl w6.heap.size w6).alloc (Nat.le_refl _) _)⟩
  clear p0 p1 HC7 HY
  go_wp2_with fail
  obtain ⟨hc7, h7⟩ := HI.out _ rfl
  refine hc7.mono ?_
  rintro e w7 ⟨rfl, hb7⟩
  have H7 : Hid (Bw w w7) := h7.more hb7
  clear HI hc7 h7 hb7 s0 q1 q2
  go_wp2_with fail
  refine Calls.mono (fow_none _) ?_
  rintro e w8 ⟨rfl, hb8⟩
  have HB8 : Hid (Below w.heap.size w w8) := (H7.out.more hb8).bel
  clear H7 hb8
  go_wp2_with fail
  go_ret
  exact ⟨rfl, HB8.out⟩
end Go.Proofs.YtkcaeajhbeenbaaDoor
