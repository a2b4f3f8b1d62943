/- A scene of the call's own, while two of its nodes are exchanged, and their numbers among the kids. -/
import Derived.Test.YtnmdkbeicggfhaaCTrn
namespace Go.Proofs.Ytnmdkbeicggfhaa
open Go.RowKit Go.Maps Go.WideMaps Go.Sort

structure Swg (W : World) (B gt gy cy : Nat) (r : Int) (Y : List Nx) : Prop where
  sc : AtN 24 W gt #[.slice (some ⟨gy, 0, none⟩) Y.length cy, .int .i64 r]
  row : W.ownsRow B 40 4 (.slice (some ⟨gy, 0, none⟩) Y.length cy) Y.length (nxV Y)
  each : ∀ j, j < Y.length → OwnNx W B (Y.getD j noNx)
  ap : Aprt Y
section
variable {W W' : World} {B gt gy cy : Nat} {r : Int} {Y : List Nx}
theorem Swg.ne (h : Swg W B gt gy cy r Y) : gy ≠ gt := fun e => own_ne_at h.row h.sc (by decide) gy rfl e
theorem Swg.below (h : Swg W B gt gy cy r Y) (hb : Below W.heap.size W W') : Swg W' B gt gy cy r Y := ⟨h.sc.belowAll hb, own_below h.row hb (Nat.le_refl _), fun j hj => (h.each j hj).fr (Fr.of_below (S := fun _ => False) hb) (fun _ q => q.elim), h.ap⟩
theorem Swg.scAt (h : Swg W B gt gy cy r Y) : ScAt W (some ⟨gy, 0, none⟩) Y := ⟨LsAt.of_own4' h.row, fun j hj => (h.each j hj).ndAt⟩
theorem Swg.root (h : Swg W B gt gy cy r Y) (r' : Int) : Swg (W.setCell ⟨gt, 1, none⟩ (.int .i64 r')) B gt gy cy r' Y := by
  have hf : Fr (fun b => b = gt) W (W.setCell ⟨gt, 1, none⟩ (.int .i64 r')) := (Fr.refl (fun b => b = gt) W).set ⟨gt, 1, none⟩ rfl _
  have ha : Alien W (fun b => b = gt) := fun z hz _ => ⟨_, _, _, hz ▸ h.sc, by decide, by decide, by decide⟩
  refine ⟨by simpa using h.sc.set 1 (.int .i64 r'), own_fr h.row hf (fun z hz e => ?_), fun j hj => (h.each j hj).fr hf ha, h.ap⟩
  simp only [Value.ownBlock, Option.some.injEq] at hz
  exact h.ne (hz.trans e)
/-- A node stored. -/
theorem row_setNx {w : World} {Z : List Nx} (h : w.ownsRow B 40 4 (.slice (some ⟨gy, 0, none⟩) Z.length cy) Z.length (nxV Z)) (j : Nat) (hj : j < Z.length) (y : Nx) : ((((w.setCell ⟨gy, j * 4, none⟩ (.int .i64 y.nd.kind)).setCell ⟨gy, j * 4 + 1, none⟩ (.slice y.a1 y.nd.ints.length y.c1)).setCell ⟨gy, j * 4 + 2, none⟩ (.slice y.a2 y.nd.texts.length y.c2)).setCell ⟨gy, j * 4 + 3, none⟩ (.slice y.a3 y.nd.kids.length y.c3)).ownsRow B 40 4 (.slice (some ⟨gy, 0, none⟩) (Z.set j y).length cy) (Z.set j y).length (nxV (Z.set j y)) := by
  have h1 := (World.ownsRow.stored h (j * 4) (.int .i64 y.nd.kind)).1
  have h2 := (World.ownsRow.stored h1 (j * 4 + 1) (.slice y.a1 y.nd.ints.length y.c1)).1
  have h3 := (World.ownsRow.stored h2 (j * 4 + 2) (.slice y.a2 y.nd.texts.length y.c2)).1
  have h4 := (World.ownsRow.stored h3 (j * 4 + 3) (.slice y.a3 y.nd.kids.length y.c3)).1
  rw [← nxV_set y Z j hj, List.length_set]
  exact h4
/-- Two nodes exchanged. -/
theorem Swg.swap (h : Swg W B gt gy cy r Y) {a b : Nat} (ha : a < Y.length) (hb : b < Y.length) :
    Swg ((((((((W.setCell ⟨gy, a * 4, none⟩ (.int .i64 (Y.getD b noNx).nd.kind)).setCell ⟨gy, a * 4 + 1, none⟩ (.slice (Y.getD b noNx).a1 (Y.getD b noNx).nd.ints.length (Y.getD b noNx).c1)).setCell ⟨gy, a * 4 + 2, none⟩ (.slice (Y.getD b noNx).a2 (Y.getD b noNx).nd.texts.length (Y.getD b noNx).c2)).setCell ⟨gy, a * 4 + 3, none⟩ (.slice (Y.getD b noNx).a3 (Y.getD b noNx).nd.kids.length (Y.getD b noNx).c3)).setCell ⟨gy, b * 4, none⟩ (.int .i64 (Y.getD a noNx).nd.kind)).setCell ⟨gy, b * 4 + 1, none⟩ (.slice (Y.getD a noNx).a1 (Y.getD a noNx).nd.ints.length (Y.getD a noNx).c1)).setCell ⟨gy, b * 4 + 2, none⟩ (.slice (Y.getD a noNx).a2 (Y.getD a noNx).nd.texts.length (Y.getD a noNx).c2)).setCell ⟨gy, b * 4 + 3, none⟩ (.slice (Y.getD a noNx).a3 (Y.getD a noNx).nd.kids.length (Y.getD a noNx).c3)) B gt gy cy r (swN Y a b) := by
  have h1 := row_setNx (row_setNx h.row a ha (Y.getD b noNx)) b (by rw [List.length_set]; exact hb) (Y.getD a noNx)
  have hfr : ∀ (w : World) (j : Nat) (v : Value), Fr (fun b => b = gy) w (w.setCell ⟨gy, j, none⟩ v) := fun w j v => (Fr.refl (fun b => b = gy) w).set ⟨gy, j, none⟩ rfl v
  have htr : ∀ {x y z : World}, Fr (fun b => b = gy) x y → Fr (fun b => b = gy) y z → Fr (fun b => b = gy) x z := fun p q => p.trans q (fun _ e _ => e)
  have hf := htr (htr (htr (htr (htr (htr (htr (hfr W (a * 4) (.int .i64 (Y.getD b noNx).nd.kind)) (hfr _ (a * 4 + 1) (.slice (Y.getD b noNx).a1 (Y.getD b noNx).nd.ints.length (Y.getD b noNx).c1))) (hfr _ (a * 4 + 2) (.slice (Y.getD b noNx).a2 (Y.getD b noNx).nd.texts.length (Y.getD b noNx).c2))) (hfr _ (a * 4 + 3) (.slice (Y.getD b noNx).a3 (Y.getD b noNx).nd.kids.length (Y.getD b noNx).c3))) (hfr _ (b * 4) (.int .i64 (Y.getD a noNx).nd.kind))) (hfr _ (b * 4 + 1) (.slice (Y.getD a noNx).a1 (Y.getD a noNx).nd.ints.length (Y.getD a noNx).c1))) (hfr _ (b * 4 + 2) (.slice (Y.getD a noNx).a2 (Y.getD a noNx).nd.texts.length (Y.getD a noNx).c2))) (hfr _ (b * 4 + 3) (.slice (Y.getD a noNx).a3 (Y.getD a noNx).nd.kids.length (Y.getD a noNx).c3))
  have hal : Alien W (fun z => z = gy) := fun z hz _ => by
    rcases h.row.2 with ⟨h0, _⟩ | ⟨g', cap, cur, hv, _, h5, _⟩
    · cases h0
    · cases hv
      subst hz
      exact ⟨_, _, _, h5, by decide, by decide, by decide⟩
  refine ⟨?_, h1, fun j hj => ?_, swN_apart h.ap ha hb⟩
  · rw [swN_length]
    exact h.sc.fr hf (fun e => h.ne e.symm)
  · rw [swN_length] at hj
    rw [swN_at Y ha hb]
    exact (h.each _ ((swp_per ha hb).lt j hj)).fr hf hal
/-- A kid stored. -/
theorem Swg.kid (h : Swg W B gt gy cy r Y) {t q q3 : Nat} (ht : t < Y.length) (hq : q < (Y.getD t noNx).nd.kids.length) (hk : (Y.getD t noNx).a3 = some ⟨q3, 0, none⟩) (z : Int) : Swg (W.setCell ⟨q3, q, none⟩ (.int .i64 z)) B gt gy cy r (Y.set t (kidNx (Y.getD t noNx) ((Y.getD t noNx).nd.kids.set q z))) := by
  have hkb : kidB (Y.getD t noNx) = some q3 := by unfold kidB; rw [hk]; rfl
  have hkt := (h.each t ht).k
  have hfr : Fr (fun b => b = q3) W (W.setCell ⟨q3, q, none⟩ (.int .i64 z)) := (Fr.refl (fun b => b = q3) W).set ⟨q3, q, none⟩ rfl _
  have hset : ∀ j, (Y.set t (kidNx (Y.getD t noNx) ((Y.getD t noNx).nd.kids.set q z))).getD j noNx = if j = t then kidNx (Y.getD t noNx) ((Y.getD t noNx).nd.kids.set q z) else Y.getD j noNx := fun j => by
    rw [List.getD_eq_getElem?_getD, List.getElem?_set]
    by_cases e : t = j
    · rw [if_pos e, if_pos ht, if_pos e.symm]; rfl
    · rw [if_neg e, if_neg (fun x => e x.symm), ← List.getD_eq_getElem?_getD]
  refine ⟨?_, ?_, fun j hj => ?_, fun i j hij hj g h1 h2 => ?_⟩
  · rw [List.length_set]
    exact h.sc.fr hfr (fun e => own_ne_at hkt h.sc (by decide) q3 hkb e.symm)
  · rw [nxV_kid Y t _ ht (by simp), List.length_set]
    exact own_fr h.row hfr (fun b hb e => by subst e; exact own_apart9 h.row hkt (by decide) hb hkb)
  · rw [List.length_set] at hj
    rw [hset]
    by_cases e : j = t
    · subst e
      rw [if_pos rfl]
      refine ⟨?_, ?_, ?_⟩
      · exact own_fr (h.each j ht).i hfr (fun b hb e => by subst e; exact own_apart9 hkt (h.each j ht).i (by decide) hkb hb)
      · exact own_fr (h.each j ht).t hfr (fun b hb e => by subst e; exact own_apart9 hkt (h.each j ht).t (by decide) hkb hb)
      · obtain ⟨g, e1, _, _, _, _, h5⟩ := own_store9 hkt q hq
        have hg : g = q3 := by
          rw [hk] at e1
          simpa using e1.symm
        subst hg
        have h6 := h5 (.int .i64 z)
        have h7 : (iV (Y.getD j noNx).nd.kids).set q (.int .i64 z) = iV ((Y.getD j noNx).nd.kids.set q z) := by unfold iV; rw [List.map_set]
        rw [h7] at h6
        show World.ownsRow _ _ _ _ (.slice (Y.getD j noNx).a3 ((Y.getD j noNx).nd.kids.set q z).length (Y.getD j noNx).c3) ((Y.getD j noNx).nd.kids.set q z).length _
        rw [hk, List.length_set]
        exact h6
    · rw [if_neg e]
      refine ⟨?_, ?_, ?_⟩
      · exact own_fr (h.each j hj).i hfr (fun b hb e => by subst e; exact own_apart9 hkt (h.each j hj).i (by decide) hkb hb)
      · exact own_fr (h.each j hj).t hfr (fun b hb e => by subst e; exact own_apart9 hkt (h.each j hj).t (by decide) hkb hb)
      · exact own_fr (h.each j hj).k hfr (fun b hb e' => by subst e'; exact h.ap.ne ht hj (fun x => e x.symm) hkb hb)
  · have hkb' : ∀ j, kidB ((Y.set t (kidNx (Y.getD t noNx) ((Y.getD t noNx).nd.kids.set q z))).getD j noNx) = kidB (Y.getD j noNx) := fun j => by
      rw [hset]
      by_cases e : j = t
      · subst e
        rw [if_pos rfl]
        unfold kidB kidNx
        simp only [List.length_set]
      · rw [if_neg e]
    rw [List.length_set] at hj
    rw [hkb'] at h1 h2
    exact h.ap i j hij hj g h1 h2
end

end Go.Proofs.Ytnmdkbeicggfhaa
