/- The program's turn, and its Flat: a canonical scene of the call's own, turned where it lies. -/
import Derived.Test.YtkcaeajhbeenbaaDoorORv
import Derived.Test.YtkcaeajhbeenbaaDoorOPu
namespace Go.Proofs.YtkcaeajhbeenbaaDoor
open Go.RowKit Go.Maps Go.WideMaps Go.Sort

/-- A node with other kids, where its lists are. -/
def knx (y : Nx) (ks : List Int) : Nx := ⟨⟨y.nd.kind, y.nd.ints, y.nd.texts, ks⟩, y.a1, y.c1, y.a2, y.c2, y.a3, y.c3⟩
theorem nxV_knx : ∀ (T : List Nx) (t : Nat) (ks : List Int), t < T.length → ks.length = (T.getD t noNx).nd.kids.length → nxV (T.set t (knx (T.getD t noNx) ks)) = nxV T
  | x :: r, 0, ks, _, h => by
    have h' : ks.length = x.nd.kids.length := by simpa using h
    simp [nxV, nxC, knx, h']
  | x :: r, t + 1, ks, hl, h => by
    have := nxV_knx r t ks (by simpa using hl) (by simpa using h)
    simp only [nxV, List.set_cons_succ, List.flatMap_cons, List.getD_cons_succ] at this ⊢
    rw [this]
theorem set_getD (T : List Nx) {t j : Nat} (y : Nx) (ht : t < T.length) : (T.set t y).getD j noNx = if j = t then y else T.getD j noNx := by
  by_cases e : j = t
  · subst e
    rw [if_pos rfl, List.getD_eq_getElem?_getD, List.getElem?_set, if_pos rfl, if_pos ht]
    rfl
  · rw [if_neg e, List.getD_eq_getElem?_getD, List.getElem?_set, if_neg (fun x => e x.symm), ← List.getD_eq_getElem?_getD]
section
variable {w W : World} {B gn : Nat} {T Y : List Nx}
/-- Behind a store into a node's kids. -/
theorem OwnSc.kid (h : OwnSc W B gn T) {t q q3 : Nat} (ht : t < T.length) (hq : q < (T.getD t noNx).nd.kids.length) (hk : kidB (T.getD t noNx) = some q3) (z : Int) :
    OwnSc (W.setCell ⟨q3, q, none⟩ (.int .i64 z)) B gn (T.set t (knx (T.getD t noNx) ((T.getD t noNx).nd.kids.set q z))) := by
  have hkt := (h.own t ht).k
  have hfr : Fr (fun b => b = q3) W (W.setCell ⟨q3, q, none⟩ (.int .i64 z)) := (Fr.refl (fun b => b = q3) W).set ⟨q3, q, none⟩ rfl _
  refine ⟨?_, fun j hj => ?_, fun i j hij hj g h1 h2 => ?_, h.ge⟩
  · rw [nxV_knx T t _ ht (by simp)]
    exact h.nodes.setOther _ (fun e => own_ne_at hkt h.nodes (by decide) q3 hk e) _
  · rw [List.length_set] at hj
    rw [set_getD T _ ht]
    by_cases e : j = t
    · subst e
      rw [if_pos rfl]
      refine ⟨own_fr (h.own j ht).i hfr (fun b hb e => by subst e; exact own_apart9 hkt (h.own j ht).i (by decide) hk hb), own_fr (h.own j ht).t hfr (fun b hb e => by subst e; exact own_apart9 hkt (h.own j ht).t (by decide) hk hb), ?_⟩
      obtain ⟨g, e1, _, _, _, _, h5⟩ := own_store9 hkt q hq
      have hg : g = q3 := by
        unfold kidB at hk
        rw [e1] at hk
        simpa [Value.ownBlock] using hk
      subst hg
      have h6 := h5 (.int .i64 z)
      have h7 : (iV (T.getD j noNx).nd.kids).set q (.int .i64 z) = iV ((T.getD j noNx).nd.kids.set q z) := by unfold iV; rw [List.map_set]
      rw [h7, ← e1] at h6
      simpa [knx] using h6
    · rw [if_neg e]
      exact ⟨own_fr (h.own j hj).i hfr (fun b hb e => by subst e; exact own_apart9 hkt (h.own j hj).i (by decide) hk hb), own_fr (h.own j hj).t hfr (fun b hb e => by subst e; exact own_apart9 hkt (h.own j hj).t (by decide) hk hb), own_fr (h.own j hj).k hfr (fun b hb e' => by subst e'; exact h.ap.ne ht hj (fun x => e x.symm) hk hb)⟩
  · rw [List.length_set] at hj
    have hb : ∀ j, kidB ((T.set t (knx (T.getD t noNx) ((T.getD t noNx).nd.kids.set q z))).getD j noNx) = kidB (T.getD j noNx) := fun j => by
      rw [set_getD T _ ht]
      by_cases e : j = t
      · subst e
        rw [if_pos rfl]
        simp [kidB, knx]
      · rw [if_neg e]
    rw [hb] at h1 h2
    exact h.ap i j hij hj g h1 h2
theorem rev_getD (Y : List Nx) {j : Nat} (hj : j < Y.length) : Y.reverse.getD j noNx = Y.getD (Y.length - 1 - j) noNx := by
  rw [List.getD_eq_getElem?_getD, List.getD_eq_getElem?_getD, List.getElem?_reverse hj]
theorem OwnSc.rev (h : OwnSc w B gn Y) (hn : AtN 48 W gn (nxV Y.reverse).toArray) (hf : Fr (fun q => q = gn) w W) : OwnSc W B gn Y.reverse := by
  have hal : Alien w (fun q => q = gn) := fun z hz _ => ⟨_, _, _, hz ▸ h.nodes, by decide, by decide, by decide⟩
  refine ⟨hn, fun j hj => ?_, fun i j hij hj g h1 h2 => ?_, h.ge⟩
  · rw [List.length_reverse] at hj
    rw [rev_getD Y hj]
    exact (h.own _ (by omega)).fr hf hal
  · rw [List.length_reverse] at hj
    rw [rev_getD Y (by omega)] at h1
    rw [rev_getD Y hj] at h2
    exact h.ap _ _ (by omega) (by omega) g h2 h1
theorem OwnSc.belowB (h : OwnSc w B gn T) (hb : Below w.heap.size w W) : OwnSc W B gn T := by
  refine ⟨h.nodes.belowAll hb, fun j hj => ?_, h.ap, h.ge⟩
  exact (h.own j hj).fr (Fr.of_below (S := fun _ => False) hb) (fun _ q _ => q.elim)
end
/-- The scene while it is being turned: behind i nodes. -/
structure Tw (W : World) (g gn B : Nat) (r : Int) (Z T : List Nx) (i : Nat) : Prop where
  s : AtN 24 W g #[.slice (some ⟨gn, 0, none⟩) Z.length Z.length, .int .i64 r]
  o : OwnSc W B gn T
  len : T.length = Z.length
  done : ∀ j, j < i → (T.getD j noNx).nd = trnNd Z.length (Z.getD j noNx).nd
  left : ∀ j, i ≤ j → j < Z.length → (T.getD j noNx).nd = (Z.getD j noNx).nd
/-- .. with a node, and some of its kids turned. -/
structure Tv (W : World) (g gn gv B : Nat) (r : Int) (Z T : List Nx) (i k : Nat) (N : Nx) : Prop where
  s : AtN 24 W g #[.slice (some ⟨gn, 0, none⟩) Z.length Z.length, .int .i64 r]
  v : AtN 48 W gv #[.int .i64 N.nd.kind, .slice N.a1 N.nd.ints.length N.c1, .slice N.a2 N.nd.texts.length N.c2, .slice N.a3 N.nd.kids.length N.c3]
  o : OwnSc W B gn T
  len : T.length = Z.length
  done : ∀ j, j < i → (T.getD j noNx).nd = trnNd Z.length (Z.getD j noNx).nd
  left : ∀ j, i < j → j < Z.length → (T.getD j noNx).nd = (Z.getD j noNx).nd
  at_ : T.getD i noNx = knx N (tk Z.length N.nd.kids k)
  nd : N.nd = (Z.getD i noNx).nd
section
variable {W : World} {g gn gv B : Nat} {r : Int} {Z T : List Nx} {i k : Nat} {N : Nx}
theorem tk_length (n : Nat) (l : List Int) (k : Nat) : (tk n l k).length = l.length := by simp [tk]; omega
theorem knx_self (N : Nx) : knx N N.nd.kids = N := rfl
theorem Tw.start (h : Tw W g gn B r Z T i) (hi : i < Z.length) {W' : World} (hb : Below W.heap.size W W') (hv : AtN 48 W' gv #[.int .i64 (T.getD i noNx).nd.kind, .slice (T.getD i noNx).a1 (T.getD i noNx).nd.ints.length (T.getD i noNx).c1, .slice (T.getD i noNx).a2 (T.getD i noNx).nd.texts.length (T.getD i noNx).c2, .slice (T.getD i noNx).a3 (T.getD i noNx).nd.kids.length (T.getD i noNx).c3]) : Tv W' g gn gv B r Z T i 0 (T.getD i noNx) :=
  ⟨h.s.belowAll hb, hv, h.o.belowB hb, h.len, h.done, fun j h1 h2 => h.left j (by omega) h2, by rw [tk_zero]; rfl, h.left i (Nat.le_refl _) hi⟩
theorem Tv.over (h : Tv W g gn gv B r Z T i N.nd.kids.length N) : Tw W g gn B r Z T (i + 1) := by
  refine ⟨h.s, h.o, h.len, fun j hj => ?_, fun j h1 h2 => h.left j (by omega) h2⟩
  by_cases e : j = i
  · subst e
    rw [h.at_, tk_all, ← h.nd]
    rfl
  · exact h.done j (by omega)
theorem Tv.next (h : Tv W g gn gv B r Z T i k N) (hi : i < Z.length) (hk : k < N.nd.kids.length) : ∃ q, N.a3 = some ⟨q, 0, none⟩ ∧ W.cell? ⟨q, k, none⟩ = some (.int .i64 (N.nd.kids.getD k 0)) ∧ W.frozen? ⟨q, k, none⟩ = false ∧ B ≤ q ∧ q < W.heap.size ∧
    ∃ T', Tv (W.setCell ⟨q, k, none⟩ (.int .i64 (trn Z.length (N.nd.kids.getD k 0)))) g gn gv B r Z T' i (k + 1) N := by
  have ht : i < T.length := by rw [h.len]; exact hi
  have hkt := (h.o.own i ht).k
  rw [h.at_] at hkt
  have hlt : (knx N (tk Z.length N.nd.kids k)).nd.kids.length = N.nd.kids.length := tk_length _ _ _
  have hkt' : W.ownsRow B 3 1 (.slice N.a3 N.nd.kids.length N.c3) N.nd.kids.length (iV (tk Z.length N.nd.kids k)) := by
    rw [hlt] at hkt
    exact hkt
  obtain ⟨q, e1, h1, h2, h3, h4, _⟩ := own_store9 hkt' k hk
  have hq : kidB (T.getD i noNx) = some q := by
    rw [h.at_]
    unfold kidB
    show (Value.slice N.a3 _ N.c3).ownBlock = _
    rw [e1]
    rfl
  have hS := h.o.kid ht (q := k) (by rw [h.at_, hlt]; exact hk) hq (trn Z.length (N.nd.kids.getD k 0))
  have hne : ∀ {Tt : TypeId} {gg : Nat} {cs : Array Value}, AtN Tt W gg cs → 3 ≠ Tt → gg ≠ q := fun ha he e => own_ne_at hkt' ha he q (by rw [e1]; rfl) e.symm
  refine ⟨q, e1, by rw [h1, tk_at Z.length N.nd.kids k hk], h2, h3, h4, _, h.s.setOther _ (fun e => hne h.s (by decide) e.symm) _, h.v.setOther _ (fun e => hne h.v (by decide) e.symm) _, hS, by rw [List.length_set]; exact h.len, fun j hj => ?_, fun j h1 h2 => ?_, ?_, h.nd⟩
  · rw [set_getD T _ ht, if_neg (by omega)]
    exact h.done j hj
  · rw [set_getD T _ ht, if_neg (by omega)]
    exact h.left j h1 h2
  · rw [set_getD T _ ht, if_pos rfl, h.at_]
    have hs : (tk Z.length N.nd.kids k).set k (trn Z.length (N.nd.kids.getD k 0)) = tk Z.length N.nd.kids (k + 1) := by
      have h5 := tk_set Z.length N.nd.kids k hk
      unfold iV at h5
      rw [← List.map_set] at h5
      exact (List.map_inj_right (fun a b q => by injection q)).1 h5
    show knx N ((tk Z.length N.nd.kids k).set k _) = _
    rw [hs]
end
def OTurnOut (Y : List Nx) (g gn B : Nat) (r : Int) (w w' : World) (e : Ending) : Prop := ∃ T : List Nx, e = .returned (.tuple #[]) ∧ T.length = Y.length ∧ (∀ j, j < Y.length → (T.getD j noNx).nd = trnNd Y.length (Y.getD (Y.length - 1 - j) noNx).nd) ∧ OwnSc w' B gn T ∧ AtN 24 w' g #[.slice (some ⟨gn, 0, none⟩) Y.length Y.length, .int .i64 (trn Y.length r)] ∧ Below B w w'

set_option maxRecDepth 10000 in
set_option maxHeartbeats 1000000 in
theorem oturn_any (Y : List Nx) (g gn B : Nat) (r : Int) (w : World) (hO : OwnSc w B gn Y) (hA : AtN 24 w g #[.slice (some ⟨gn, 0, none⟩) Y.length Y.length, .int .i64 r]) (hS : Small Y) (hg : B ≤ g) :
    Calls Tryd.prog 41 #[.pointer (some ⟨g, 0, none⟩)] w fun e w' => OTurnOut Y g gn B r w w' e := by
  have hn := hS.1
  have HA : Hid (AtN 24 w g #[.slice (some ⟨gn, 0, none⟩) Y.length Y.length, .int .i64 r]) := hA
  have x0 : w.cell? ⟨g, 0, none⟩ = some (.slice (some ⟨gn, 0, none⟩) Y.length Y.length) := hA.cell 0
  have HRv : Hid (Calls Tryd.prog 67 #[.slice (some ⟨gn, 0, none⟩) Y.length Y.length] w fun e w' => e = .returned (.tuple #[]) ∧ AtN 48 w' gn (nxV Y.reverse).toArray ∧ Fr (fun q => q = gn) w w') := prev_any Y gn Y.length w hO.nodes (by omega)
  have hne : g ≠ gn := by
    rintro rfl
    have h1 := hO.nodes
    unfold AtN at h1 hA
    rw [h1] at hA
    simp at hA
  have HO : Hid (OwnSc w B gn Y ∧ Small Y) := ⟨hO, hS⟩
  have HZ : Hid (∀ T : List Nx, T.length = Y.length → (∀ j, j < Y.length → (T.getD j noNx).nd = trnNd Y.length (Y.reverse.getD j noNx).nd) → ∀ j, j < Y.length → (T.getD j noNx).nd = trnNd Y.length (Y.getD (Y.length - 1 - j) noNx).nd) := fun T hl h j hj => by rw [h j hj, rev_getD Y hj]
  have hsz : B ≤ w.heap.size := Nat.le_trans hO.ge (Nat.le_of_lt hO.nodes.lt)
  have hge := hO.ge
  clear hO hA hS
  go_enter Tryd.func41, Tryd.ntmps41
  go_wp2_with fail
  refine Calls.mono HRv.out ?_
  rintro e w1 ⟨rfl, hn1, hf1⟩
  have HT1 : Hid (Tw w1 g gn B r Y.reverse Y.reverse 0) := ⟨by rw [List.length_reverse]; exact HA.out.fr hf1 hne, HO.out.1.rev hn1 hf1, rfl, fun j hj => by omega, fun j _ _ => rfl⟩
  have HB1 : Hid (Below B w w1) := Fr.below (Below.refl _ _) hf1 (fun i hi => by omega) hsz
  have hz1 := hf1.size
  have HSr : Hid (∀ i, i < Y.length → (Y.reverse.getD i noNx).nd.kids.length ≤ 3000) := fun i hi => by
    rw [rev_getD Y hi]
    exact HO.out.2.kids (by omega)
  have hl : Y.reverse.length = Y.length := List.length_reverse
  generalize Y.reverse = Z at *
  clear HRv HA hn1 hf1 HO x0
  have x0 : w1.cell? ⟨g, 0, none⟩ = some (.slice (some ⟨gn, 0, none⟩) Y.length Y.length) := by rw [← hl]; exact HT1.out.s.cell 0
  go_wp2_with fail
  go_loopw [23] (fun iv wr => ∃ (i : Nat) (T : List Nx), iv = .int .i64 i ∧ i ≤ Y.length ∧ Hid (Tw wr g gn B r Z T i) ∧ Hid (Below B w wr)) (fun iv _ => Y.length - (intOf iv).toNat)
  case atStart => exact ⟨0, Z, rfl, by omega, HT1, HB1⟩
  case round =>
    clear HT1 HB1 x0
    obtain ⟨i, T, rfl, hi, HT, HB⟩ := hrel
    obtain ⟨u, hu⟩ : ∃ u, u = wr := ⟨_, rfl⟩
    subst hu
    by_cases hlt : i < Y.length
    · have hlt' : (i : Int) < Y.length := by omega
      have hTl : i < T.length := by rw [HT.out.len, hl]; exact hlt
      obtain ⟨b, o, ea, hbl, d0, d1, d2, d3⟩ := HT.out.o.scAt.node hTl
      obtain ⟨rfl, rfl⟩ : gn = b ∧ o = 0 := by
        injection ea with ea
        injection ea with e1 e2 e3
        exact ⟨e1, e2.symm⟩
      rw [Nat.zero_add] at d0 d1 d2 d3
      have hkl : (T.getD i noNx).nd.kids.length ≤ 3000 := by
        rw [HT.out.left i (Nat.le_refl _) (by omega)]
        exact HSr.out i hlt
      have HV : Hid (∀ o : Obj, o = .cells #[.int .i64 (T.getD i noNx).nd.kind, .slice (T.getD i noNx).a1 (T.getD i noNx).nd.ints.length (T.getD i noNx).c1, .slice (T.getD i noNx).a2 (T.getD i noNx).nd.texts.length (T.getD i noNx).c2, .slice (T.getD i noNx).a3 (T.getD i noNx).nd.kids.length (T.getD i noNx).c3] 48 → Tv (u.alloc o) g gn u.heap.size B r Z T i 0 (T.getD i noNx) ∧ Below B w (u.alloc o)) := by
        rintro _ rfl
        exact ⟨HT.out.start (by omega) ((Below.refl u.heap.size u).alloc (Nat.le_refl _) _) (AtN.new u 48 _), HB.out.alloc (Nat.le_trans hsz HB.out.size) _⟩
      generalize T.getD i noNx = N at *
      clear HT HB
      go_wp2_with fail
      obtain ⟨hv0, hb0⟩ := HV.out _ rfl
      have HV0 : Hid _ := hv0
      have HB0 : Hid _ := hb0
      clear HV hv0 hb0 d0 d1 d2 d3
      go_loopw [30] (fun kv w2 => ∃ (k : Nat) (T2 : List Nx), kv = .int .i64 k ∧ k ≤ N.nd.kids.length ∧ Hid (Tv w2 g gn u.heap.size B r Z T2 i k N) ∧ Hid (Below B w w2)) (fun kv _ => N.nd.kids.length - (intOf kv).toNat)
      case atStart => exact ⟨0, T, rfl, by omega, HV0, HB0⟩
      case round =>
        clear HV0 HB0
        obtain ⟨k, T2, rfl, hk, HT, HB2⟩ := hrel
        by_cases hkl2 : k < N.nd.kids.length
        · have hkl' : (k : Int) < N.nd.kids.length := by omega
          have y3 : wr.cell? ⟨u.heap.size, 3, none⟩ = some (.slice N.a3 N.nd.kids.length N.c3) := HT.out.v.cell 3
          obtain ⟨q, e0, e1, e2, e3, e4, T3, hT3⟩ := HT.out.next (by omega) hkl2
          rw [hl] at hT3
          rw [e0] at y3 ⊢
          have HT3 : Hid (Tv (wr.setCell ⟨q, k, none⟩ (.int .i64 (trn Y.length (N.nd.kids.getD k 0)))) g gn u.heap.size B r Z T3 i (k + 1) N ∧ Below B w (wr.setCell ⟨q, k, none⟩ (.int .i64 (trn Y.length (N.nd.kids.getD k 0))))) := ⟨hT3, HB2.out.setCell (p := ⟨q, k, none⟩) e3 _⟩
          generalize N.nd.kids.getD k 0 = kd at *
          clear HT HB2 hT3
          go_wp2_with fail
          go_roundw
          case rel => exact ⟨k + 1, T3, by go_num, by omega, HT3.out.1, HT3.out.2⟩
          case measure => simp [intOf]; omega
        · have hkl' : ¬ (k : Int) < N.nd.kids.length := by omega
          obtain rfl : k = N.nd.kids.length := by omega
          have HW : Hid (Tw wr g gn B r Z T2 (i + 1)) := HT.out.over
          clear HT
          go_wp2_with fail
          go_roundw
          case rel => exact ⟨i + 1, T2, by go_num, by omega, HW, HB2⟩
          case measure => simp [intOf]; omega
    · have hlt' : ¬ (i : Int) < Y.length := by omega
      obtain rfl : i = Y.length := by omega
      have x0 : u.cell? ⟨g, 0, none⟩ = some (.slice (some ⟨gn, 0, none⟩) Y.length Y.length) := by rw [← hl]; exact HT.out.s.cell 0
      have x1 : u.cell? ⟨g, 1, none⟩ = some (.int .i64 r) := HT.out.s.cell 1
      have f1 := HT.out.s.fz 1
      have hg1 := HT.out.s.lt
      have HF : Hid (OTurnOut Y g gn B r w (u.setCell ⟨g, 1, none⟩ (.int .i64 (trn Y.length r))) (.returned (.tuple #[]))) := by
        have hfr : Fr (fun q => q = g) u (u.setCell ⟨g, 1, none⟩ (.int .i64 (trn Y.length r))) := (Fr.refl (fun q => q = g) u).set ⟨g, 1, none⟩ rfl _
        have hal : Alien u (fun q => q = g) := fun z hz _ => ⟨_, _, _, hz ▸ HT.out.s, by decide, by decide, by decide⟩
        refine ⟨T, rfl, by rw [HT.out.len, hl], HZ.out T (by rw [HT.out.len, hl]) (fun j hj => by have := HT.out.done j hj; rwa [hl] at this), ⟨HT.out.o.nodes.fr hfr (fun e => hne e.symm), fun j hj => (HT.out.o.own j hj).fr hfr hal, HT.out.o.ap, HT.out.o.ge⟩, ?_, HB.out.setCell (p := ⟨g, 1, none⟩) hg _⟩
        have := HT.out.s.set 1 (.int .i64 (trn Y.length r))
        rw [hl] at this
        simpa using this
      clear HT HB HZ HSr
      go_wp2_with fail
      go_end0
      exact HF.out
end Go.Proofs.YtkcaeajhbeenbaaDoor
