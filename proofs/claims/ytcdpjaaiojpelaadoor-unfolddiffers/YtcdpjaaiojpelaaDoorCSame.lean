/- The contract of ref's Same of two scenes. -/
import Derived.Test.YtcdpjaaiojpelaaDoorGScp2
import Derived.Test.YtcdpjaaiojpelaaDoorCSame8
namespace Go.Proofs.YtcdpjaaiojpelaaDoor
open Go.RowKit Go.Maps Go.WideMaps Go.Sort

/-- What the scenes' Same tells. -/
def SameOut (X Y : List Nx) (r s : Int) (w w' : World) (e : Ending) : Prop := ∃ b, e = .returned (.bool b) ∧ (b = true ↔ r = s ∧ Y.map Nx.nd = X.map Nx.nd) ∧ Below w.heap.size w w'

theorem nds_eq {X Y : List Nx} (hl : X.length = Y.length) (h : ∀ k, k < X.length → (X.getD k noNx).nd = (Y.getD k noNx).nd) : Y.map Nx.nd = X.map Nx.nd := by
  refine List.ext_getElem (by simp [hl]) (fun i h1 h2 => ?_)
  have hi : i < Y.length := by simpa using h1
  have hx : i < X.length := by omega
  have := h i hx
  rw [show X.getD i noNx = X[i] by rw [List.getD_eq_getElem?_getD, List.getElem?_eq_getElem hx]; rfl, show Y.getD i noNx = Y[i] by rw [List.getD_eq_getElem?_getD, List.getElem?_eq_getElem hi]; rfl] at this
  simp [this]
theorem nds_at {X Y : List Nx} (h : Y.map Nx.nd = X.map Nx.nd) (i : Nat) (hi : i < X.length) : (Y.getD i noNx).nd = (X.getD i noNx).nd := by
  have hl : Y.length = X.length := by simpa using congrArg List.length h
  have h1 : (Y.map Nx.nd)[i]? = (X.map Nx.nd)[i]? := by rw [h]
  rw [List.getElem?_map, List.getElem?_map, List.getElem?_eq_getElem hi, List.getElem?_eq_getElem (by omega)] at h1
  rw [List.getD_eq_getElem?_getD, List.getD_eq_getElem?_getD, List.getElem?_eq_getElem hi, List.getElem?_eq_getElem (by omega)]
  simpa using h1

set_option maxRecDepth 10000 in
set_option maxHeartbeats 1000000 in
theorem ssame_any (X Y : List Nx) (a b : Option Addr) (c d : Nat) (r s : Int) (w : World) (h : ScAt w a X) (h' : ScAt w b Y) (hX : Small X) :
    Calls Tryd.prog 18 #[.agg #[.slice a X.length c, .int .i64 r], .agg #[.slice b Y.length d, .int .i64 s]] w fun e w' => SameOut X Y r s w w' e := by
  have hn := hX.1
  have HS : Hid (ScAt w a X ∧ ScAt w b Y ∧ Small X) := ⟨h, h', hX⟩
  clear h h' hX
  have HA : Hid (∀ (o1 o2 : Obj), o1 = .cells #[.slice a X.length c, .int .i64 r] 24 → o2 = .cells #[.slice b Y.length d, .int .i64 s] 24 → AtN 24 ((w.alloc o1).alloc o2) w.heap.size #[.slice a X.length c, .int .i64 r] ∧ AtN 24 ((w.alloc o1).alloc o2) (w.heap.size + 1) #[.slice b Y.length d, .int .i64 s] ∧ Below w.heap.size w ((w.alloc o1).alloc o2)) := by
    rintro _ _ rfl rfl
    exact ⟨(AtN.new w 24 _).alloc _, mk_at (AtN.new (w.alloc _) 24 _) (show _ = w.heap.size + 1 by simp), ((Below.refl w.heap.size w).alloc (Nat.le_refl _) _).alloc (by simp) _⟩
  by_cases hr : r = s
  · subst hr
    by_cases hl : X.length = Y.length
    · have Hl : Hid _ := hl
      rw [← hl] at HA ⊢
      clear hl
      go_enter Tryd.func18, Tryd.ntmps18
      go_wp2_with fail
      go_loopw [5] (fun iv wr => ∃ (i : Nat), iv = .int .i64 i ∧ i ≤ X.length ∧ Hid (∀ k, k < i → (X.getD k noNx).nd = (Y.getD k noNx).nd) ∧ Hid (AtN 24 wr w.heap.size #[.slice a X.length c, .int .i64 r]) ∧ Hid (AtN 24 wr (w.heap.size + 1) #[.slice b X.length d, .int .i64 r]) ∧ Hid (Below w.heap.size w wr)) (fun iv _ => X.length - (intOf iv).toNat)
      case atStart =>
        obtain ⟨h1, h2, h3⟩ := HA.out _ _ rfl rfl
        exact ⟨0, rfl, by omega, (fun k hk => by omega), h1, h2, h3⟩
      case round =>
        clear HA
        obtain ⟨i, rfl, hi, HI, H1, H2, HB⟩ := hrel
        have x0 : wr.cell? ⟨w.heap.size, 0, none⟩ = some (.slice a X.length c) := H1.out.cell 0
        have y0 : wr.cell? ⟨w.heap.size + 1, 0, none⟩ = some (.slice b X.length d) := H2.out.cell 0
        by_cases hlt : i < X.length
        · have hlt' : (i : Int) < X.length := by omega
          have hlY : i < Y.length := by rw [← Hl.out]; exact hlt
          have sX := ScAt.belowB HS.out.1 HB.out
          have sY := ScAt.belowB HS.out.2.1 HB.out
          obtain ⟨ga, oa, rfl, la, p0, p1, p2, p3⟩ := sX.node hlt
          obtain ⟨gb, ob, rfl, lb, q0, q1, q2, q3⟩ := sY.node hlY
          obtain ⟨g1, g2, g3, _⟩ := great_no (HS.out.2.2.2 i hlt)
          have HX : Hid (NdAt wr (X.getD i noNx).nd (X.getD i noNx).a1 (X.getD i noNx).a2 (X.getD i noNx).a3) := sX.each i hlt
          have HY : Hid (NdAt wr (Y.getD i noNx).nd (Y.getD i noNx).a1 (Y.getD i noNx).a2 (Y.getD i noNx).a3) := sY.each i hlY
          have HE : Hid ((X.getD i noNx).nd = (Y.getD i noNx).nd → ∀ k, k < i + 1 → (X.getD k noNx).nd = (Y.getD k noNx).nd) := fun q k hk => by
            by_cases e : k = i
            · rw [e]; exact q
            · exact HI.out k (by omega)
          have HF : Hid (¬ (X.getD i noNx).nd = (Y.getD i noNx).nd → ¬ Y.map Nx.nd = X.map Nx.nd) := fun q e => q (nds_at e i hlt).symm
          clear sX sY HI
          generalize X.getD i noNx = M at *
          generalize Y.getD i noNx = N at *
          have m0 := fun dd os => cell_regrown x0 dd os
          have m1 := fun dd os => cell_regrown y0 dd os
          have n0 := fun dd os => cell_regrown p0 dd os
          have n1 := fun dd os => cell_regrown p1 dd os
          have n2 := fun dd os => cell_regrown p2 dd os
          have n3 := fun dd os => cell_regrown p3 dd os
          have k0 := fun dd os => cell_regrown q0 dd os
          have k1 := fun dd os => cell_regrown q1 dd os
          have k2 := fun dd os => cell_regrown q2 dd os
          have k3 := fun dd os => cell_regrown q3 dd os
          have cD := fun dd os => Calls.regrown_of (same8_any M.nd N.nd M.a1 M.a2 M.a3 N.a1 N.a2 N.a3 M.c1 M.c2 M.c3 N.c1 N.c2 N.c3 (grow (redrawn wr dd) os) (HX.out.belowB (below_regrown wr dd os)) (HY.out.belowB (below_regrown wr dd os)) g1 g2 g3)
          have HB2 : Hid (∀ dd os, AtN 24 (grow (redrawn wr dd) os) w.heap.size #[.slice (some ⟨ga, oa, none⟩) X.length c, .int .i64 r] ∧ AtN 24 (grow (redrawn wr dd) os) (w.heap.size + 1) #[.slice (some ⟨gb, ob, none⟩) X.length d, .int .i64 r] ∧ Below w.heap.size w (grow (redrawn wr dd) os)) := fun dd os => ⟨H1.out.belowAll (below_regrown wr dd os), H2.out.belowAll (below_regrown wr dd os), HB.out.trans ((below_regrown wr dd os).mono HB.out.size)⟩
          clear HX HY H1 H2 HB
          go_wp2_with fail
          refine wp_region_quiet_below (by kernel_rfl) (by kernel_rfl) ?_
          repeat (first | go_big_quiet_step ((go_at_call 34; exact cD _ _)) | quiet_step ((go_at_call 34; exact cD _ _)))
          refine wpQuiet_nil ?_
          intro _ hw'
          obtain ⟨⟨dq, osq⟩, hw''⟩ := hw'
          subst hw''
          have HB3 := HB2.out dq osq
          have HBB : Hid _ := HB3
          clear HB2 HB3 cD m0 m1 n0 n1 n2 n3 k0 k1 k2 k3
          generalize grow (redrawn wr dq) osq = w2 at *
          have HQ : Hid (sameB M.nd N.nd = true ↔ M.nd = N.nd) := sameB_iff _ _
          generalize sameB M.nd N.nd = q at *
          cases q with
          | true =>
            have HI2 : Hid (∀ k, k < i + 1 → (X.getD k noNx).nd = (Y.getD k noNx).nd) := HE.out (HQ.out.1 rfl)
            clear HE HF HQ
            go_wp2_with fail
            go_roundw
            case rel => exact ⟨i + 1, by go_num, by omega, HI2, HBB.out.1, HBB.out.2.1, HBB.out.2.2⟩
            case measure => simp [intOf]; omega
          | false =>
            have HN : Hid (¬ Y.map Nx.nd = X.map Nx.nd) := HF.out fun q => by have := HQ.out.2 q; cases this
            clear HE HF HQ
            go_wp2_with fail
            go_ret
            exact ⟨_, rfl, ⟨fun q => by simp at q, fun q => absurd q.2 HN.out⟩, HBB.out.2.2⟩
        · have hlt' : ¬ (i : Int) < X.length := by omega
          have HN : Hid (Y.map Nx.nd = X.map Nx.nd) := nds_eq Hl.out (fun k hk => HI.out k (by omega))
          clear HI H1 H2
          go_wp2_with fail
          go_ret
          exact ⟨_, rfl, ⟨fun _ => ⟨rfl, HN.out⟩, fun _ => rfl⟩, HB.out⟩
    · have hl' : ¬ (X.length : Int) = Y.length := by omega
      have HN : Hid (¬ Y.map Nx.nd = X.map Nx.nd) := fun q => hl (by simpa using (congrArg List.length q).symm)
      have HB : Hid (Below w.heap.size w ((w.alloc (.cells #[.slice a X.length c, .int .i64 r] 24)).alloc (.cells #[.slice b Y.length d, .int .i64 r] 24))) := (HA.out _ _ rfl rfl).2.2
      clear HS HA
      go_enter Tryd.func18, Tryd.ntmps18
      go_wp2_with fail
      go_ret
      exact ⟨_, rfl, ⟨fun q => by simp at q, fun q => absurd q.2 HN.out⟩, HB.out⟩
  · have HN : Hid (¬ r = s) := hr
    have HB : Hid (Below w.heap.size w ((w.alloc (.cells #[.slice a X.length c, .int .i64 r] 24)).alloc (.cells #[.slice b Y.length d, .int .i64 s] 24))) := (HA.out _ _ rfl rfl).2.2
    clear HS HA
    go_enter Tryd.func18, Tryd.ntmps18
    go_wp2_with fail
    go_ret
    exact ⟨_, rfl, ⟨fun q => by simp at q, fun q => absurd q.1 HN.out⟩, HB.out⟩

/-- Two scenes that are the same. -/
theorem ssame_yes (X Y : List Nx) (a b : Option Addr) (c d : Nat) (r : Int) (w : World) (h : ScAt w a X) (h' : ScAt w b Y) (hX : Small X) (he : Y.map Nx.nd = X.map Nx.nd) :
    Calls Tryd.prog 18 #[.agg #[.slice a X.length c, .int .i64 r], .agg #[.slice b Y.length d, .int .i64 r]] w fun e w' => e = .returned (.bool true) ∧ Below w.heap.size w w' := by
  refine Calls.mono (ssame_any X Y a b c d r r w h h' hX) ?_
  rintro e w' ⟨q, rfl, hq, hb⟩
  rw [hq.2 ⟨rfl, he⟩]
  exact ⟨rfl, hb⟩
/-- Two scenes that aren't. -/
theorem ssame_no (X Y : List Nx) (a b : Option Addr) (c d : Nat) (r s : Int) (w : World) (h : ScAt w a X) (h' : ScAt w b Y) (hX : Small X) (he : ¬ (r = s ∧ Y.map Nx.nd = X.map Nx.nd)) :
    Calls Tryd.prog 18 #[.agg #[.slice a X.length c, .int .i64 r], .agg #[.slice b Y.length d, .int .i64 s]] w fun e w' => e = .returned (.bool false) ∧ Below w.heap.size w w' := by
  refine Calls.mono (ssame_any X Y a b c d r s w h h' hX) ?_
  rintro e w' ⟨q, rfl, hq, hb⟩
  cases q with
  | true => exact absurd (hq.1 rfl) he
  | false => exact ⟨rfl, hb⟩

end Go.Proofs.YtcdpjaaiojpelaaDoor
