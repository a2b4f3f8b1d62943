/- The contract of ref's Equal. -/
import Derived.Test.YtcdpjaaiojpelaaDoorVAl
import Derived.Test.YtcdpjaaiojpelaaDoorGReg5
namespace Go.Proofs.YtcdpjaaiojpelaaDoor
open Go.RowKit Go.Maps Go.WideMaps Go.Sort

theorem alk_bools (A B : List Nd) : ∃ f : Nat → Nat → Bool, ∀ i j, f i j = true ↔ Alk A B i j := by
  have h1 : ∀ i, ∃ g : Nat → Bool, ∀ j, g j = true ↔ Alk A B i j := fun i => Classical.skolem.1 (fun j => bool_of (Alk A B i j))
  exact Classical.skolem.1 h1

set_option maxRecDepth 100000 in
set_option maxHeartbeats 4000000 in
theorem requal_any (X Y : List Nx) (a b : Option Addr) (c d : Nat) (r s : Int) (w : World) (t : Bool) (h : ScAt w a X) (h' : ScAt w b Y) (hX : Small X) (hY : Small Y) (rX : RightIs X r) (rY : RightIs Y s) (ht : t = true ↔ SameT X Y r s) :
    Calls Tryd.prog 13 #[.agg #[.slice a X.length c, .int .i64 r], .agg #[.slice b Y.length d, .int .i64 s]] w fun e w' => e = .returned (.bool t) ∧ Below w.heap.size w w' := by
  obtain ⟨p, hp⟩ : ∃ p : Nat, (X.length : Int) - 1 = (p : Int) ∧ p + 1 = X.length := ⟨X.length - 1, by have := rX.root; omega, by have := rX.root; omega⟩
  obtain ⟨q, hq⟩ : ∃ q : Nat, (Y.length : Int) - 1 = (q : Int) ∧ q + 1 = Y.length := ⟨Y.length - 1, by have := rY.root; omega, by have := rY.root; omega⟩
  have HA : Hid (∀ (o1 o2 : Obj), o1 = .cells #[.slice a X.length c, .int .i64 r] 24 → o2 = .cells #[.slice b Y.length d, .int .i64 s] 24 → AtN 24 ((w.alloc o1).alloc o2) (w.heap.size + 1) #[.slice b Y.length d, .int .i64 s] ∧ Below w.heap.size w ((w.alloc o1).alloc o2)) := by
    rintro _ _ rfl rfl
    exact ⟨mk_at (AtN.new (w.alloc _) 24 _) (show _ = w.heap.size + 1 by simp), ((Below.refl w.heap.size w).alloc (Nat.le_refl _) _).alloc (by simp) _⟩
  have HS : Hid (ScAt w a X ∧ ScAt w b Y ∧ Small X ∧ Small Y ∧ RightIs X r ∧ RightIs Y s) := ⟨h, h', hX, hY, rX, rY⟩
  have Ht : Hid (t = true ↔ SameT X Y r s) := ht
  clear h h' hX hY rX rY ht
  go_enter Tryd.func13, Tryd.ntmps13
  go_wp2_with fail
  obtain ⟨h1, h2⟩ := HA.out _ _ rfl rfl
  refine (rcanon_any X a c r _ (HS.out.1.belowB h2) HS.out.2.2.1 HS.out.2.2.2.2.1).mono ?_
  rintro e w1 ⟨Z, ax, cx, rfl, hZ, sZ, hb1⟩
  rw [hp.1]
  have HW1 : Hid (∀ o : Obj, o = .cells #[.slice ax Z.length cx, .int .i64 (p : Int)] 24 → AtN 24 (w1.alloc o) w1.heap.size #[.slice ax Z.length cx, .int .i64 (p : Int)] ∧ ScAt (w1.alloc o) ax Z ∧ AtN 24 (w1.alloc o) (w.heap.size + 1) #[.slice b Y.length d, .int .i64 s] ∧ Below w.heap.size w (w1.alloc o)) := by
    rintro _ rfl
    have hbw := h2.trans (hb1.mono h2.size)
    exact ⟨AtN.new w1 24 _, sZ.alloc _, (h1.belowAll hb1).alloc _, hbw.alloc hbw.size _⟩
  have HZ : Hid (Z.map Nx.nd = cX X r) := hZ
  have k0 : w1.cell? ⟨w.heap.size + 1, 0, none⟩ = some (.slice b Y.length d) := (h1.belowAll hb1).cell 0
  have k1 : w1.cell? ⟨w.heap.size + 1, 1, none⟩ = some (.int .i64 s) := (h1.belowAll hb1).cell 1
  have k2 := (h1.belowAll hb1).lt
  clear HA h1 h2 hb1 hZ sZ
  go_wp2_with fail
  obtain ⟨h1, h2, h3, h4⟩ := HW1.out _ rfl
  refine (rcanon_any Y b d s _ (HS.out.2.1.belowB h4) HS.out.2.2.2.1 HS.out.2.2.2.2.2).mono ?_
  rintro e w2 ⟨V, ay, cy, rfl, hV, sV, hb2⟩
  rw [hq.1]
  have HW2 : Hid (∀ o : Obj, o = .cells #[.slice ay V.length cy, .int .i64 (q : Int)] 24 → AtN 24 (w2.alloc o) w1.heap.size #[.slice ax Z.length cx, .int .i64 (p : Int)] ∧ ScAt (w2.alloc o) ax Z ∧ AtN 24 (w2.alloc o) w2.heap.size #[.slice ay V.length cy, .int .i64 (q : Int)] ∧ ScAt (w2.alloc o) ay V ∧ Below w.heap.size w (w2.alloc o)) := by
    rintro _ rfl
    have hbw := h4.trans (hb2.mono h4.size)
    exact ⟨(h1.belowAll hb2).alloc _, (h2.belowB hb2).alloc _, AtN.new w2 24 _, sV.alloc _, hbw.alloc hbw.size _⟩
  have HV : Hid (V.map Nx.nd = cX Y s) := hV
  clear HW1 h1 h2 h3 h4 hb2 hV sV k0 k1 k2
  go_wp2_with fail
  obtain ⟨h1, h2, h3, h4, h5⟩ := HW2.out _ rfl
  have HK : Hid _ := And.intro h1 (And.intro h2 (And.intro h3 (And.intro h4 h5)))
  clear HW2 h1 h2 h3 h4 h5
  generalize w2.alloc (.cells #[.slice ay V.length cy, .int .i64 (q : Int)] 24) = W0 at *
  obtain ⟨gx, hgx⟩ : ∃ gx, gx = w1.heap.size := ⟨_, rfl⟩
  obtain ⟨gy, hgy⟩ : ∃ gy, gy = w2.heap.size := ⟨_, rfl⟩
  rw [← hgx, ← hgy] at HK ⊢
  clear hgx hgy
  have hZl : Z.length = X.length := (can_ren HS.out.2.2.2.2.1 HZ.out).len
  have hVl : V.length = Y.length := (can_ren HS.out.2.2.2.2.2 HV.out).len
  obtain ⟨f, hf⟩ := alk_bools (Z.map Nx.nd) (V.map Nx.nd)
  have hft : f p q = t := by
    rw [Bool.eq_iff_iff, hf, Ht.out, sameT_iff HS.out.2.2.2.2.1 HS.out.2.2.2.2.2, HZ.out, HV.out, cX_len HS.out.2.2.2.2.1, cX_len HS.out.2.2.2.2.2, show X.length - 1 = p by omega, show Y.length - 1 = q by omega]
  have HAl : Hid (∀ W, Below W0.heap.size W0 W → Calls Tryd.prog 29 #[.agg #[.slice ax Z.length cx, .int .i64 (p : Int)], .agg #[.slice ay V.length cy, .int .i64 (q : Int)]] W fun e w' => AlikeOut Z V f W w' e) := fun W hW =>
    alike_any Z V ax ay cx cy _ _ W f (HK.out.2.1.belowB hW) (HK.out.2.2.2.1.belowB hW) ((can_ren HS.out.2.2.2.2.1 HZ.out).small HS.out.2.2.1) ((can_ren HS.out.2.2.2.2.2 HV.out).small HS.out.2.2.2.1) (by rw [HZ.out]; exact (cX_cn HS.out.2.2.2.2.1).dn) (by rw [HV.out]; exact (cX_cn HS.out.2.2.2.2.2).dn) hf
  have HAf : Hid (∀ (W : World) (a' : Option Addr) (c' : Nat) (R : List Rw), R.length = Z.length → LsAt W a' (rwV V.length R) → (∀ i, i < Z.length → LsAt W (R.getD i noRw).a (bbV (rowB f V.length i))) → ∃ ba oa c2 b3 o3 c3, (Value.slice a' Z.length c') = .slice (some ⟨ba, oa, none⟩) Z.length c2 ∧ W.cell? ⟨ba, oa + p, none⟩ = some (.slice (some ⟨b3, o3, none⟩) V.length c3) ∧ W.cell? ⟨b3, o3 + q, none⟩ = some (.bool t) ∧ ba < W.heap.size ∧ b3 < W.heap.size) := fun W a' c' R h1 h2 h3 => by
    obtain ⟨ba, oa, rfl, l1, e1⟩ := h2.at (rwV_at V.length R p (by omega))
    obtain ⟨b3, o3, g1, l3, e3⟩ := (h3 p (by omega)).at (rowB_at f V.length p q (by omega))
    rw [g1] at e1
    rw [hft] at e3
    exact ⟨ba, oa, c', b3, o3, _, rfl, e1, e3, l1, l3⟩
  have HB0 : Hid (Below w.heap.size w W0) := HK.out.2.2.2.2
  have x0 : W0.cell? ⟨gx, 0, none⟩ = some (.slice ax Z.length cx) := HK.out.1.cell 0
  have x1 : W0.cell? ⟨gx, 1, none⟩ = some (.int .i64 (p : Int)) := HK.out.1.cell 1
  have lx := HK.out.1.lt
  have y0 : W0.cell? ⟨gy, 0, none⟩ = some (.slice ay V.length cy) := HK.out.2.2.1.cell 0
  have y1 : W0.cell? ⟨gy, 1, none⟩ = some (.int .i64 (q : Int)) := HK.out.2.2.1.cell 1
  have ly := HK.out.2.2.1.lt
  have hpz : (p : Int) < Z.length := by omega
  have hqv : (q : Int) < V.length := by omega
  have hpz' : p < Z.length := by omega
  have hqv' : q < V.length := by omega
  clear HK HZ HV Ht HS hf hft hp hq hZl hVl
  refine facts_region6 (fun W => Below W0.heap.size W0 W) (fun ix v W => match ix with | 0 => v = .agg #[.slice ax Z.length cx, .int .i64 (p : Int)] | 1 => v = .agg #[.slice ay V.length cy, .int .i64 (q : Int)] | 2 => ∃ ba oa c' b3 o3 c3, v = .slice (some ⟨ba, oa, none⟩) Z.length c' ∧ W.cell? ⟨ba, oa + p, none⟩ = some (.slice (some ⟨b3, o3, none⟩) V.length c3) ∧ W.cell? ⟨b3, o3 + q, none⟩ = some (.bool t) ∧ ba < W.heap.size ∧ b3 < W.heap.size | 3 => v = .pointer (some ⟨gx, 1, none⟩) | 4 => v = .int .i64 (p : Int) | 5 => ∃ ba oa b3 o3 c3, v = .pointer (some ⟨ba, oa + p, none⟩) ∧ W.cell? ⟨ba, oa + p, none⟩ = some (.slice (some ⟨b3, o3, none⟩) V.length c3) ∧ W.cell? ⟨b3, o3 + q, none⟩ = some (.bool t) ∧ ba < W.heap.size ∧ b3 < W.heap.size | 6 => ∃ b3 o3 c3, v = .slice (some ⟨b3, o3, none⟩) V.length c3 ∧ W.cell? ⟨b3, o3 + q, none⟩ = some (.bool t) ∧ b3 < W.heap.size | 7 => v = .pointer (some ⟨gy, 1, none⟩) | 8 => v = .int .i64 (q : Int) | 9 => ∃ b3 o3, v = .pointer (some ⟨b3, o3 + q, none⟩) ∧ W.cell? ⟨b3, o3 + q, none⟩ = some (.bool t) ∧ b3 < W.heap.size | 10 => v = .bool t | 11 => v = .bool t | _ => True) (by kernel_rfl) (by kernel_rfl) (Below.refl _ _).drew ?step ?fin
  case step =>
    intro i' o' ho act W hG hoff hdep K hQ hK
    rcases i' with _|_|_|_|_|_|_|_|_|_|_|_|i'
    · obtain rfl := Option.some.inj ho
      have t5 : act.tmps[5]?.getD undef = .pointer (some ⟨gx, 0, none⟩) := hoff 5 (by kernel_rfl)
      have u0 := (hG.cell (p := ⟨gx, 0, none⟩) lx).trans x0
      have u1 := (hG.cell (p := ⟨gx, 1, none⟩) lx).trans x1
      clear hdep hoff hG
      go_simp
      exact hQ _ (rfl)
    · obtain rfl := Option.some.inj ho
      have t6 : act.tmps[6]?.getD undef = .pointer (some ⟨gy, 0, none⟩) := hoff 6 (by kernel_rfl)
      have u0 := (hG.cell (p := ⟨gy, 0, none⟩) ly).trans y0
      have u1 := (hG.cell (p := ⟨gy, 1, none⟩) ly).trans y1
      clear hdep hoff hG
      go_simp
      exact hQ _ (rfl)
    · obtain rfl := Option.some.inj ho
      have e0 : act.tmps[11]?.getD undef = .agg #[.slice ax Z.length cx, .int .i64 (p : Int)] := hdep 0 _ (by kernel_rfl) rfl
      have e1 : act.tmps[12]?.getD undef = .agg #[.slice ay V.length cy, .int .i64 (q : Int)] := hdep 1 _ (by kernel_rfl) rfl
      clear hdep hoff
      have HG : Hid (Below W0.heap.size W0 W) := hG
      have HC : Hid _ := HAl.out W hG
      clear hG
      go_simp
      refine Calls.mono HC.out ?_
      rintro e w' ⟨a', c', R, rfl, hR1, hR2, hR3, hb⟩
      exact hK _ _ (HG.out.trans (hb.mono HG.out.size)) (fun j u hj h => by
          rcases j with _|_|_|_|_|_|_|_|_|_|_|_|j
          · exact h
          · exact h
          · exact absurd rfl hj
          · exact h
          · exact h
          · obtain ⟨ba, oa, b3, o3, c3, h1, h2, h3, h4, h5⟩ := h; exact ⟨ba, oa, b3, o3, c3, h1, (hb.cell (p := ⟨ba, oa + p, none⟩) h4).trans h2, (hb.cell (p := ⟨b3, o3 + q, none⟩) h5).trans h3, Nat.lt_of_lt_of_le h4 hb.size, Nat.lt_of_lt_of_le h5 hb.size⟩
          · obtain ⟨b3, o3, c3, h1, h3, h5⟩ := h; exact ⟨b3, o3, c3, h1, (hb.cell (p := ⟨b3, o3 + q, none⟩) h5).trans h3, Nat.lt_of_lt_of_le h5 hb.size⟩
          · exact h
          · exact h
          · obtain ⟨b3, o3, h1, h3, h5⟩ := h; exact ⟨b3, o3, h1, (hb.cell (p := ⟨b3, o3 + q, none⟩) h5).trans h3, Nat.lt_of_lt_of_le h5 hb.size⟩
          · exact h
          · exact h
          · trivial) (HAf.out _ _ _ _ hR1 hR2 hR3)
    · obtain rfl := Option.some.inj ho
      have t5 : act.tmps[5]?.getD undef = .pointer (some ⟨gx, 0, none⟩) := hoff 5 (by kernel_rfl)
      clear hdep hoff hG
      go_simp
      exact hQ _ (rfl)
    · obtain rfl := Option.some.inj ho
      have e3 : act.tmps[14]?.getD undef = .pointer (some ⟨gx, 1, none⟩) := hdep 3 _ (by kernel_rfl) rfl
      have u0 := (hG.cell (p := ⟨gx, 0, none⟩) lx).trans x0
      have u1 := (hG.cell (p := ⟨gx, 1, none⟩) lx).trans x1
      clear hdep hoff hG
      go_simp
      exact hQ _ (rfl)
    · obtain rfl := Option.some.inj ho
      have e2 : ∃ ba oa c' b3 o3 c3, act.tmps[13]?.getD undef = .slice (some ⟨ba, oa, none⟩) Z.length c' ∧ W.cell? ⟨ba, oa + p, none⟩ = some (.slice (some ⟨b3, o3, none⟩) V.length c3) ∧ W.cell? ⟨b3, o3 + q, none⟩ = some (.bool t) ∧ ba < W.heap.size ∧ b3 < W.heap.size := hdep 2 _ (by kernel_rfl) rfl
      have e4 : act.tmps[15]?.getD undef = .int .i64 (p : Int) := hdep 4 _ (by kernel_rfl) rfl
      obtain ⟨ba, oa, c', b3, o3, c3, g1, g2, g3, g4, g5⟩ := e2
      clear hdep hoff hG
      go_simp
      exact hQ _ (⟨ba, oa, b3, o3, c3, rfl, g2, g3, g4, g5⟩)
    · obtain rfl := Option.some.inj ho
      have e5 : ∃ ba oa b3 o3 c3, act.tmps[16]?.getD undef = .pointer (some ⟨ba, oa + p, none⟩) ∧ W.cell? ⟨ba, oa + p, none⟩ = some (.slice (some ⟨b3, o3, none⟩) V.length c3) ∧ W.cell? ⟨b3, o3 + q, none⟩ = some (.bool t) ∧ ba < W.heap.size ∧ b3 < W.heap.size := hdep 5 _ (by kernel_rfl) rfl
      obtain ⟨ba, oa, b3, o3, c3, g1, g2, g3, g4, g5⟩ := e5
      clear hdep hoff hG
      go_simp
      exact hQ _ (⟨b3, o3, c3, rfl, g3, g5⟩)
    · obtain rfl := Option.some.inj ho
      have t6 : act.tmps[6]?.getD undef = .pointer (some ⟨gy, 0, none⟩) := hoff 6 (by kernel_rfl)
      clear hdep hoff hG
      go_simp
      exact hQ _ (rfl)
    · obtain rfl := Option.some.inj ho
      have e7 : act.tmps[18]?.getD undef = .pointer (some ⟨gy, 1, none⟩) := hdep 7 _ (by kernel_rfl) rfl
      have u0 := (hG.cell (p := ⟨gy, 0, none⟩) ly).trans y0
      have u1 := (hG.cell (p := ⟨gy, 1, none⟩) ly).trans y1
      clear hdep hoff hG
      go_simp
      exact hQ _ (rfl)
    · obtain rfl := Option.some.inj ho
      have e6 : ∃ b3 o3 c3, act.tmps[17]?.getD undef = .slice (some ⟨b3, o3, none⟩) V.length c3 ∧ W.cell? ⟨b3, o3 + q, none⟩ = some (.bool t) ∧ b3 < W.heap.size := hdep 6 _ (by kernel_rfl) rfl
      have e8 : act.tmps[19]?.getD undef = .int .i64 (q : Int) := hdep 8 _ (by kernel_rfl) rfl
      obtain ⟨b3, o3, c3, g1, g3, g5⟩ := e6
      clear hdep hoff hG
      go_simp
      exact hQ _ (⟨b3, o3, rfl, g3, g5⟩)
    · obtain rfl := Option.some.inj ho
      have e9 : ∃ b3 o3, act.tmps[20]?.getD undef = .pointer (some ⟨b3, o3 + q, none⟩) ∧ W.cell? ⟨b3, o3 + q, none⟩ = some (.bool t) ∧ b3 < W.heap.size := hdep 9 _ (by kernel_rfl) rfl
      obtain ⟨b3, o3, g1, g3, g5⟩ := e9
      clear hdep hoff hG
      go_simp
      exact hQ _ (rfl)
    · obtain rfl := Option.some.inj ho
      have e10 : act.tmps[21]?.getD undef = .bool t := hdep 10 _ (by kernel_rfl) rfl
      clear hdep hoff hG
      go_simp
      exact hQ _ (rfl)
    · exact absurd ho (by simp)
  case fin =>
    intro Vv W hG hF
    have y11 : Vv (some 4) = .bool t := hF 11 _ rfl
    have HB : Hid (Below w.heap.size w W) := HB0.out.trans (hG.mono HB0.out.size)
    clear hF hG
    simp only [fillA, Act.put, List.setIfInBounds_toArray, List.set_cons_zero, List.set_cons_succ, y11]
    generalize Vv (some 11) = z11
    generalize Vv (some 12) = z12
    generalize Vv (some 13) = z13
    generalize Vv (some 14) = z14
    generalize Vv (some 15) = z15
    generalize Vv (some 16) = z16
    generalize Vv (some 17) = z17
    generalize Vv (some 18) = z18
    generalize Vv (some 19) = z19
    generalize Vv (some 20) = z20
    generalize Vv (some 21) = z21
    clear y11
    go_wp2_with fail
    go_ret
    exact ⟨rfl, HB.out⟩

end Go.Proofs.YtcdpjaaiojpelaaDoor
