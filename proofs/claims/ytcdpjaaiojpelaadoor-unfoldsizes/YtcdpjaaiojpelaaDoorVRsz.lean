/- The contract of ref's Size. -/
import Derived.Test.YtcdpjaaiojpelaaDoorVLaw
namespace Go.Proofs.YtcdpjaaiojpelaaDoor
open Go.RowKit Go.Maps Go.WideMaps Go.Sort

theorem cap_add (m a b : Nat) : cap m (cap m a + cap m b) = cap m (a + b) := by unfold cap; omega
theorem nV_getD (l : List Nat) (j : Nat) (h : j < l.length) : (nV l)[j]? = some (.int .i64 ((l.getD j 0 : Nat) : Int)) := nV_at l j h

set_option maxRecDepth 100000 in
set_option maxHeartbeats 2000000 in
theorem rsize_any (X : List Nx) (a : Option Addr) (c : Nat) (r most : Int) (w : World) (h : ScAt w a X) (hX : Small X) (hR : RightIs X r) (hm : most ≤ 1073741824) :
    Calls Tryd.prog 15 #[.agg #[.slice a X.length c, .int .i64 r], .int .i64 most] w fun e w' => e = .returned (.int .i64 (cap most.toNat ((szL (cX X r)).getD (X.length - 1) 0) : Nat)) ∧ Below w.heap.size w w' := by
  obtain ⟨i0, hi0, hz0, hz1, hz2⟩ := info_parts Tryd.infoI7
  obtain ⟨p, hp⟩ : ∃ p : Nat, (X.length : Int) - 1 = (p : Int) ∧ p + 1 = X.length ∧ X.length - 1 = p := ⟨X.length - 1, by have := hR.root; omega, by have := hR.root; omega, by omega⟩
  have hn := hX.1
  have HP : Hid ((X.length : Int) - 1 = (p : Int) ∧ p + 1 = X.length ∧ X.length - 1 = p) := hp
  clear hp
  have HC : Hid (∀ o, o = .cells #[.slice a X.length c, .int .i64 r] 24 → Below w.heap.size w (w.alloc o) ∧ Calls Tryd.prog 28 #[.agg #[.slice a X.length c, .int .i64 r]] (w.alloc o) fun e w' => RCanOut X r (w.alloc o) w' e) := by
    rintro _ rfl
    exact ⟨(Below.refl w.heap.size w).alloc (Nat.le_refl _) _, rcanon_any X a c r _ (h.alloc _) hX hR⟩
  have HS : Hid (Small X ∧ RightIs X r) := ⟨hX, hR⟩
  clear h hX hR
  go_enter Tryd.func15, Tryd.ntmps15
  go_wp2_with fail
  obtain ⟨hb0, hc0⟩ := HC.out _ rfl
  refine Calls.mono hc0 ?_
  rintro e w1 ⟨Y, ay, cy, rfl, hY, sY, hb1⟩
  have HB1 : Hid (Below w.heap.size w w1) := hb0.trans (hb1.mono hb0.size)
  have hren := can_ren HS.out.2 hY
  have hYl : Y.length = X.length := hren.len
  have HY : Hid (ScAt w1 ay Y ∧ Y.map Nx.nd = cX X r ∧ Small Y ∧ Dn (cX X r) ∧ (cX X r).length = Y.length) := ⟨sY, hY, hren.small HS.out.1, (cX_cn HS.out.2).dn, by rw [cX_len HS.out.2, hYl]⟩
  rw [HP.out.1]
  have HYl : Hid (Y.length = X.length) := hYl
  have hnY : Y.length ≤ 61 := by omega
  clear hYl
  have HI0 : Hid (∀ o1 o2 : Obj, o1 = .cells #[.slice ay Y.length cy, .int .i64 (p : Int)] 24 → o2 = .cells #[] 3 → AtN 24 ((w1.alloc o1).alloc o2) w1.heap.size #[.slice ay Y.length cy, .int .i64 (p : Int)] ∧ ((w1.alloc o1).alloc o2).ownsRow (w1.heap.size + 1) 3 1 (.slice (some ⟨w1.heap.size + 1, 0, none⟩) 0 0) 0 (nV ((szL ((cX X r).take 0)).map (cap 1073741824))) ∧ Below w1.heap.size w1 ((w1.alloc o1).alloc o2)) := by
    rintro _ _ rfl rfl
    refine ⟨(AtN.new w1 24 _).alloc _, ?_, ((Below.refl w1.heap.size w1).alloc (Nat.le_refl _) _).alloc (by simp) _⟩
    have := World.ownsRow_lit (base := w1.heap.size + 1) (e := 3) (size := 1) (w1.alloc (.cells #[.slice ay Y.length cy, .int .i64 (p : Int)] 24)) #[] 0 (by simp) (by decide) (by simp)
    simpa [nV, szL] using this
  clear HC hc0 hb0 hb1 hY sY hren
  go_wp2_with fail
  go_loopw [6, 7] (fun ov iv wr => ∃ (i : Nat) (ao : Option Addr) (co : Nat), iv = .int .i64 i ∧ i ≤ Y.length ∧ ov = .slice ao i co ∧ Hid (AtN 24 wr w1.heap.size #[.slice ay Y.length cy, .int .i64 (p : Int)]) ∧ Hid (wr.ownsRow (w1.heap.size + 1) 3 1 (.slice ao i co) i (nV ((szL ((cX X r).take i)).map (cap 1073741824)))) ∧ Hid (Below w1.heap.size w1 wr)) (fun _ iv _ => Y.length - (intOf iv).toNat)
  case atStart =>
    obtain ⟨k1, k2, k3⟩ := HI0.out _ _ rfl rfl
    exact ⟨0, _, _, rfl, by omega, rfl, k1, k2, k3⟩
  case round =>
    clear HI0
    obtain ⟨i, ao, co, rfl, hi, rfl, HA, HO, HB⟩ := hrel
    have x0 : wr.cell? ⟨w1.heap.size, 0, none⟩ = some (.slice ay Y.length cy) := HA.out.cell 0
    have hla := HA.out.lt
    by_cases hlt : i < Y.length
    · have hlt' : (i : Int) < Y.length := by omega
      obtain ⟨u, hu⟩ : ∃ u, u = wr := ⟨_, rfl⟩
      subst hu
      obtain ⟨b, o, rfl, hbl, d0, d1, d2, d3⟩ := (HY.out.1.belowB HB.out).node hlt
      have HLs : Hid (LsAt u (Y.getD i noNx).a3 (iV (Y.getD i noNx).nd.kids)) := ((HY.out.1.belowB HB.out).each i hlt).k
      have hk3 := HY.out.2.2.1.kids hlt
      have e : (Y.getD i noNx).nd = atN (cX X r) i := by rw [← nds_atN, HY.out.2.1]
      have hl := szL_len (cX X r) i (by have := HY.out.2.2.2.2; omega)
      have HKd : Hid (∀ k, k < (Y.getD i noNx).nd.kids.length → ∃ j : Nat, (Y.getD i noNx).nd.kids.getD k 0 = (j : Int) ∧ j < i ∧ ∃ g q, ao = some ⟨g, q, none⟩ ∧ g < u.heap.size ∧ u.cell? ⟨g, q + j, none⟩ = some (.int .i64 (cap 1073741824 ((szL ((cX X r).take i)).getD j 0) : Nat))) := fun k hk => by
        rw [e] at hk ⊢
        have h1 := HY.out.2.2.2.1.kid (i := i) (by have := HY.out.2.2.2.2; omega) hk
        refine ⟨_, h1.2.symm, h1.1, ?_⟩
        obtain ⟨g, q, e1, l1, c1⟩ := (LsAt.of_own HO.out).at (nV_getD ((szL ((cX X r).take i)).map (cap 1073741824)) (kidN (atN (cX X r) i) k) (by rw [List.length_map, hl]; exact h1.1))
        rw [cap_getD _ _ _ (by omega)] at c1
        exact ⟨g, q, e1, l1, c1⟩
      have HN : Hid (szL ((cX X r).take (i + 1)) = szL ((cX X r).take i) ++ [1 + sumK (szL ((cX X r).take i)) (Y.getD i noNx).nd.kids]) := by
        show _ = _
        rw [szL_take (by have := HY.out.2.2.2.2; omega), e]
      clear e
      generalize hlS : szL ((cX X r).take i) = l at *
      clear hlS
      generalize Y.getD i noNx = N at *
      obtain ⟨N, a1, c1, a2, c2, a3, c3⟩ := N
      have hk3' : N.kids.length ≤ 300 := hk3
      clear hk3
      go_wp2_with fail
      go_loopw [8, 9] (fun nv kv wr => ∃ k t : Nat, kv = .int .i64 k ∧ k ≤ N.kids.length ∧ nv = .int .i64 t ∧ t ≤ 1073741824 ∧ Hid (t = cap 1073741824 (1 + sumK l (N.kids.take k))) ∧ wr = u) (fun _ kv _ => N.kids.length - (intOf kv).toNat)
      case atStart => exact ⟨0, 1, rfl, by omega, rfl, by omega, by simp [Hid, sumK, cap], rfl⟩
      case round =>
        obtain ⟨k, t, rfl, hk, rfl, ht, HT, rfl⟩ := hrel
        by_cases hkl : k < N.kids.length
        · have hkl' : (k : Int) < N.kids.length := by omega
          obtain ⟨b3, o3, e3, hb3, k0⟩ := HLs.out.at (iV_at N.kids k hkl)
          obtain ⟨j, hj, hji, g, q, rfl, hg, z0⟩ := HKd.out k hkl
          have e3' : a3 = some ⟨b3, o3, none⟩ := e3
          subst e3'
          clear e3
          have k0' : wr.cell? ⟨b3, o3 + k, none⟩ = some (.int .i64 (j : Int)) := by rw [← hj]; exact k0
          have hj' : N.kids.getD k 0 = (j : Int) := hj
          have hst : sumK l (N.kids.take (k + 1)) = sumK l (N.kids.take k) + l.getD j 0 := by rw [sumK_take l N.kids k hkl, hj', Int.toNat_natCast]
          have hcm : cap 1073741824 (l.getD j 0) ≤ 1073741824 := by unfold cap; omega
          have HQ : Hid (cap 1073741824 (t + cap 1073741824 (l.getD j 0)) = cap 1073741824 (1 + sumK l (N.kids.take (k + 1)))) := by
            rw [HT.out, cap_add, hst, Nat.add_assoc]
            exact Hid.out rfl
          clear k0 hj hj' hst HT HKd HLs
          generalize cap 1073741824 (l.getD j 0) = x at *
          have hji' : (j : Int) < i := by omega
          by_cases hx : 1073741824 < t + x
          · have hx' : (1073741824 : Int) < (t : Int) + x := by omega
            have HQ2 : Hid (1073741824 = cap 1073741824 (1 + sumK l (N.kids.take (k + 1)))) := by
              rw [← HQ.out]
              unfold cap
              show 1073741824 = _
              omega
            clear HQ
            go_wp2_with fail
            go_roundw
            case rel => exact ⟨k + 1, 1073741824, by go_num, by omega, rfl, by omega, HQ2, by trivial⟩
            case measure => simp [intOf]; omega
          · have hx' : ¬ (1073741824 : Int) < (t : Int) + x := by omega
            have HQ2 : Hid (t + x = cap 1073741824 (1 + sumK l (N.kids.take (k + 1)))) := by
              rw [← HQ.out]
              unfold cap
              show t + x = _
              omega
            clear HQ
            go_wp2_with fail
            go_roundw
            case rel => exact ⟨k + 1, t + x, by go_num, by omega, by go_num, by omega, HQ2, by trivial⟩
            case measure => simp [intOf]; omega
        · have hkl' : ¬ (k : Int) < N.kids.length := by omega
          have HQ : Hid (t = cap 1073741824 (1 + sumK l N.kids)) := by
            have := HT.out
            rw [List.take_of_length_le (by omega)] at this
            exact this
          have hszr := HB.out.size
          clear HT HKd HLs
          go_wp2_with (at_builtin; refine wpList_append_lies _ rfl (.tmp 47) (.tmp 49) 38 rfl (w1.heap.size + 1) 3 i0 (.int .i64 0) 1 8 Tryd.underlying38 hi0 hz0 hz1 hz2 rfl (by decide) _ i (nV (l.map (cap 1073741824))) rfl (World.ownsRow.alloc (w := wr) HO.out _) ⟨wr.heap.size, 0, none⟩ 1 1 [.int .i64 (t : Int)] rfl rfl (cell_one_new _ _ _) (by intro v hv; simp at hv; subst hv; rfl) (by decide) (by unfold maxLen; omega) (by omega) (by simp; omega) _ rfl ?_)
          intro g4 c4 w4 hown4 hgrow4 hlie hlt4
          have hge : ∀ k, (Value.slice ao i co).ownBlock = some k → w1.heap.size + 1 ≤ k := fun k hk => (HO.out.lt k hk).1
          have O4 : Hid (w4.ownsRow (w1.heap.size + 1) 3 1 (.slice (some ⟨g4, 0, none⟩) (i + 1) c4) (i + 1) (nV ((szL ((cX X r).take (i + 1))).map (cap 1073741824)))) := by
            show World.ownsRow _ _ _ _ _ _ _
            rw [HN.out, List.map_append, List.map_singleton, nV_snoc, ← HQ.out]
            exact hown4
          have B4 : Hid (Below w1.heap.size w1 w4) := (HB.out.alloc HB.out.size _).grown hgrow4 (by simp; omega) (fun z hz => by have := hge z hz; omega)
          have A4 : Hid (AtN 24 w4 w1.heap.size #[.slice (some ⟨b, o, none⟩) Y.length cy, .int .i64 (p : Int)]) := (AtN.alloc HA.out _).kept hgrow4 (fun e => by have := hge _ e.symm; omega)
          clear hown4 hgrow4 hlie HO HB HA HN HQ
          go_wp2_with fail
          go_roundw
          case rel => exact ⟨i + 1, some ⟨g4, 0, none⟩, c4, by go_num, by omega, rfl, A4, O4, B4⟩
          case measure => simp [intOf]; omega
    · have hlt' : ¬ (i : Int) < Y.length := by omega
      obtain rfl : i = Y.length := by omega
      have hl := szL_len (cX X r) Y.length (by have := HY.out.2.2.2.2; omega)
      have htk : (cX X r).take Y.length = cX X r := by rw [← HY.out.2.2.2.2, List.take_length]
      have x1 : wr.cell? ⟨w1.heap.size, 1, none⟩ = some (.int .i64 (p : Int)) := HA.out.cell 1
      have hpY : p < Y.length := by have h1 := HP.out.2.1; have h2 := HYl.out; omega
      have hpY' : (p : Int) < Y.length := by omega
      rw [htk] at hl
      have hO := HO.out
      rw [htk] at hO
      obtain ⟨g, q, rfl, hg, z0⟩ := (LsAt.of_own hO).at (nV_getD ((szL (cX X r)).map (cap 1073741824)) p (by rw [List.length_map]; omega))
      rw [cap_getD _ _ _ (by omega)] at z0
      have HBw : Hid (Below w.heap.size w wr) := HB1.out.trans (HB.out.mono HB1.out.size)
      have HE : Hid (∀ x : Nat, x = cap 1073741824 ((szL (cX X r)).getD p 0) → (most < 0 → Ending.returned (Value.int .i64 0) = Ending.returned (Value.int .i64 ((cap most.toNat ((szL (cX X r)).getD (X.length - 1) 0) : Nat) : Int))) ∧ (0 ≤ most → most < x → Ending.returned (Value.int .i64 most) = Ending.returned (Value.int .i64 ((cap most.toNat ((szL (cX X r)).getD (X.length - 1) 0) : Nat) : Int))) ∧ (0 ≤ most → ¬ most < x → Ending.returned (Value.int .i64 ((x : Nat) : Int)) = Ending.returned (Value.int .i64 ((cap most.toNat ((szL (cX X r)).getD (X.length - 1) 0) : Nat) : Int)))) := by
        rintro x rfl
        rw [HP.out.2.2]
        unfold cap
        refine ⟨fun _ => ?_, fun _ _ => ?_, fun _ _ => ?_⟩ <;> congr 2 <;> omega
      clear HA HO hO HB HB1 HY HS htk hl
      obtain ⟨x, hx⟩ : ∃ x, x = cap 1073741824 ((szL (cX X r)).getD p 0) := ⟨_, rfl⟩
      rw [← hx] at z0
      obtain ⟨E1, E2, E3⟩ := HE.out x hx
      have HE1 : Hid _ := E1
      have HE2 : Hid _ := E2
      have HE3 : Hid _ := E3
      clear HE E1 E2 E3 hx
      by_cases h0 : most < 0
      · go_wp2_with fail
        go_ret
        exact ⟨HE1.out h0, HBw.out⟩
      · by_cases h1 : most < (x : Int)
        · go_wp2_with fail
          go_ret
          exact ⟨HE2.out (by omega) h1, HBw.out⟩
        · go_wp2_with fail
          go_ret
          exact ⟨HE3.out (by omega) h1, HBw.out⟩

end Go.Proofs.YtcdpjaaiojpelaaDoor
