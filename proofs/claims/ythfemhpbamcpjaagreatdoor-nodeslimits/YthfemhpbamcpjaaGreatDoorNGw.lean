/- What lies in memory while the document's own Get of a scene reads. -/
import Derived.Test.YthfemhpbamcpjaaGreatDoorNSm
import Derived.Test.YthfemhpbamcpjaaGreatDoorRA
import Derived.Test.YthfemhpbamcpjaaGreatDoorLTyp
import Derived.Test.YthfemhpbamcpjaaGreatDoorGI
namespace Go.Proofs.YthfemhpbamcpjaaGreatDoor
open Go.RowKit Go.Maps Go.WideMaps Go.Sort
theorem Mkg.cur {w w' : World} {B go gc : Nat} {r : Int} {v : Value} {Y : List Nx} {x y z : Value} (h : Mkg w B go r v Y) (hg : w.grownBy w' (some gc)) (hc : At3 84 w gc x y z) : Mkg w' B go r v Y := by
  have hc' : AtN 84 w gc #[x, y, z] := hc
  have hF : Fr (fun b => b = gc) w w' := Fr.of_grown hg (fun k e => by cases e; rfl)
  have hal : Alien w (fun b => b = gc) := fun b hb _ => ⟨_, _, _, hb ▸ hc, by decide, by decide, by decide⟩
  refine ⟨h.sc.fr hF (fun e => ?_), own_fr h.row hF (fun b hb e => own_ne_at h.row hc' (by decide) b hb e), fun j hj => (h.each j hj).fr hF hal⟩
  subst e
  have h1 : w.heap[go]? = _ := h.sc
  have h2 : w.heap[go]? = _ := hc
  rw [h1] at h2
  cases h2
theorem okL_in {l : Lm} (h : okL l = true) : (0 ≤ l.b ∧ l.b ≤ 16777216) ∧ (0 ≤ l.n ∧ l.n ≤ 16777216) ∧ (0 ≤ l.e ∧ l.e ≤ 16777216) ∧ (0 ≤ l.d ∧ l.d ≤ 16777216) ∧ (0 ≤ l.x ∧ l.x ≤ 16777216) := by
  have key : ∀ i, i < 5 → 0 ≤ (lmL l).getD i 0 ∧ (lmL l).getD i 0 ≤ 16777216 := fun i hi => by
    by_cases q : (lmL l).getD i 0 < 0 ∨ 16777216 < (lmL l).getD i 0
    · have := okL_no l i hi q
      rw [h] at this; cases this
    · omega
  exact ⟨key 0 (by omega), key 1 (by omega), key 2 (by omega), key 3 (by omega), key 4 (by omega)⟩
def liC (l : Lm) : Array Value := #[.int .i64 l.b, .int .i64 l.n, .int .i64 l.e, .int .i64 l.d, .int .i64 l.x]
structure Gl (w W : World) (lim : Nat) (l : Lm) (y : Option Addr) (cap bt ot : Nat) (L : List ByteArray) : Prop where
  bel : Below w.heap.size w W
  a : AtN 34 W w.heap.size (liC l)
  r : AtN 24 W (w.heap.size + 1) #[.slice none 0 0, .int .i64 0]
  n : AtN 24 W (w.heap.size + 2) #[.slice none 0 0, .int .i64 0]
  x : TxI W y cap bt ot L
  hb : 0 < L.length → bt < lim
  hl : lim ≤ W.heap.size
  hw : w.heap.size + 3 ≤ lim
section
variable {w W W' : World} {lim : Nat} {l : Lm} {y : Option Addr} {cap bt ot : Nat} {L : List ByteArray}
theorem Gl.fr {S : Nat → Prop} (h : Gl w W lim l y cap bt ot L) (k : Fr S W W') (hs : ∀ i, S i → lim ≤ i) : Gl w W' lim l y cap bt ot L :=
  ⟨Fr.below h.bel k (fun i hi => by have := hs i hi; have := h.hw; omega) h.bel.size, h.a.fr k (fun q => by have := hs _ q; have := h.hw; omega), h.r.fr k (fun q => by have := hs _ q; have := h.hw; omega), h.n.fr k (fun q => by have := hs _ q; have := h.hw; omega),
    ⟨h.x.ptr, fun i hi => h.x.at_.fr k (fun q => by have := hs _ q; have := h.hb (by omega); omega) i hi, h.x.cap_, h.x.nil⟩, h.hb, Nat.le_trans h.hl k.size, h.hw⟩
theorem Gl.more (h : Gl w W lim l y cap bt ot L) (hb : Below W.heap.size W W') : Gl w W' lim l y cap bt ot L := h.fr (Fr.of_below (S := fun _ => False) hb) (fun _ q => q.elim)
theorem Gl.cur {gc : Nat} (h : Gl w W lim l y cap bt ot L) (hg : W.grownBy W' (some gc)) (hc : lim ≤ gc) : Gl w W' lim l y cap bt ot L :=
  h.fr (Fr.of_grown (S := fun k => k = gc) hg (fun k e => by cases e; rfl)) (fun i e => by rw [e]; exact hc)
end
def GeOut (tx nb : ByteArray) (l : Lm) (w w' : World) (e : Ending) : Prop := ∃ (X : List Nx) (a : Option Addr) (c : Nat) (r k : Int), e = .returned (.tuple #[.agg #[.slice a X.length c, .int .i64 r], .int .i64 k]) ∧ GeIs tx nb l (X.map Nx.nd) r k ∧ ScAt w' a X ∧ Small X ∧ FnX X ∧ Below w.heap.size w w'
theorem GeOut.drew {tx nb : ByteArray} {l : Lm} {w w' : World} {e : Ending} (h : GeOut tx nb l w w' e) : GeOut tx nb l w w'.drew e := by
  obtain ⟨X, a, c, r, k, h1, h2, h3, h4, h5, h6⟩ := h
  have hd : Below w'.heap.size w' w'.drew := ⟨rfl, rfl, rfl, Nat.le_refl _, fun _ _ => rfl⟩
  exact ⟨X, a, c, r, k, h1, h2, h3.belowB hd, h4, h5, h6.trans (hd.mono h6.size)⟩
theorem GeIs.bad {tx nb : ByteArray} {l : Lm} {k : Int} (h : (geK tx nb l).1 = k) (hk : k ≠ 0) : GeIs tx nb l (([] : List Nx).map Nx.nd) 0 k := .inl ⟨by rw [h]; exact hk, h.symm, rfl, rfl⟩
theorem tell_bad {tx nb : ByteArray} {l : Lm} {w W : World} {k : Int} (hG : GeIs tx nb l (([] : List Nx).map Nx.nd) 0 k) (hb : Below w.heap.size w W) {x0 x1 : Value} (hr : AtN 24 W (w.heap.size + 1) #[x0, x1]) :
    ∀ W', W' = (W.setCell ⟨w.heap.size + 1, 0, none⟩ (.slice none 0 0)).setCell ⟨w.heap.size + 1, 1, none⟩ (.int .i64 0) → AtN 24 W' (w.heap.size + 1) #[.slice none 0 0, .int .i64 0] ∧ GeOut tx nb l w W' (.returned (.tuple #[.agg #[.slice none 0 0, .int .i64 0], .int .i64 k])) := by
  rintro _ rfl
  have hF : Fr (fun b => b = w.heap.size + 1) W ((W.setCell ⟨w.heap.size + 1, 0, none⟩ (.slice none 0 0)).setCell ⟨w.heap.size + 1, 1, none⟩ (.int .i64 0)) := ((Fr.refl (fun b => b = w.heap.size + 1) W).set ⟨w.heap.size + 1, 0, none⟩ rfl _).set ⟨w.heap.size + 1, 1, none⟩ rfl _
  refine ⟨by simpa using (hr.set 0 (.slice none 0 0)).set 1 (.int .i64 0), [], none, 0, 0, k, rfl, hG, ⟨LsAt.nil _ _, fun i hi => by simp at hi⟩, ⟨by simp, fun i hi => by simp at hi⟩, fun i hi => by simp at hi, Fr.below hb hF (fun i e => by omega) hb.size⟩
theorem tell_good {tx nb : ByteArray} {l : Lm} {w W : World} {B gs c : Nat} {r : Int} {a : Option Addr} {Y : List Nx} (hG : GeIs tx nb l (Y.map Nx.nd) r 0) (hb : Below w.heap.size w W) {x0 x1 : Value} (hr : AtN 24 W (w.heap.size + 1) #[x0, x1]) (hm : Mkg W B gs r (.slice a Y.length c) Y) (hs : Small Y) (hf : FnX Y) :
    ∀ W', W' = (W.setCell ⟨w.heap.size + 1, 0, none⟩ (.slice a Y.length c)).setCell ⟨w.heap.size + 1, 1, none⟩ (.int .i64 r) → AtN 24 W' (w.heap.size + 1) #[.slice a Y.length c, .int .i64 r] ∧ GeOut tx nb l w W' (.returned (.tuple #[.agg #[.slice a Y.length c, .int .i64 r], .int .i64 0])) := by
  rintro _ rfl
  have hF : Fr (fun b => b = w.heap.size + 1) W ((W.setCell ⟨w.heap.size + 1, 0, none⟩ (.slice a Y.length c)).setCell ⟨w.heap.size + 1, 1, none⟩ (.int .i64 r)) := ((Fr.refl (fun b => b = w.heap.size + 1) W).set ⟨w.heap.size + 1, 0, none⟩ rfl _).set ⟨w.heap.size + 1, 1, none⟩ rfl _
  have hal : Alien W (fun b => b = w.heap.size + 1) := fun b hb _ => ⟨_, _, _, hb ▸ hr, by decide, by decide, by decide⟩
  exact ⟨by simpa using (hr.set 0 (.slice a Y.length c)).set 1 (.int .i64 r), Y, a, c, r, 0, rfl, hG, ⟨LsAt.of_own4' (own_fr hm.row hF (fun b hb e => own_ne_at hm.row hr (by decide) b hb e)), fun j hj => ((hm.each j hj).fr hF hal).ndAt⟩, hs, hf, Fr.below hb hF (fun i e => by omega) hb.size⟩
section
variable (tx nb : ByteArray) (l : Lm)
theorem geK_1 (h : okL l = false) : (geK tx nb l).1 = 1 := by unfold geK; rw [if_pos h]
theorem geK_2 (h1 : okL l = true) {e : Int} {L : List ByteArray} (h : pGet6 tx 16777216 l.x = (e, L)) (he : e ≠ 0) : (geK tx nb l).1 = e := by
  unfold geK; rw [if_neg (by simp [h1]), h, if_pos he]
theorem geK_3 (h1 : okL l = true) {L : List ByteArray} (h2 : pGet6 tx 16777216 l.x = (0, L)) {n e : Int} {k : Nat} (h : pUint nb 0 0 l.n = (n, k, e)) (he : e ≠ 0) : (geK tx nb l).1 = e := by
  unfold geK; rw [if_neg (by simp [h1]), h2, h, if_neg (by simp), if_pos he]
theorem geK_4 (h1 : okL l = true) {L : List ByteArray} (h2 : pGet6 tx 16777216 l.x = (0, L)) {k : Nat} (h : pUint nb 0 0 l.n = (0, k, 0)) : (geK tx nb l).1 = 13 := by
  unfold geK; rw [if_neg (by simp [h1]), h2, h, if_neg (by simp), if_neg (by simp), if_pos rfl]
theorem geK_5 (h1 : okL l = true) {L : List ByteArray} (h2 : pGet6 tx 16777216 l.x = (0, L)) {n : Int} {k : Nat} (h3 : pUint nb 0 0 l.n = (n, k, 0)) (h4 : n ≠ 0) {P : List Nd} {k' : Nat} {e : Int} (h : gNs nb L n.toNat 0 k l.e = (P, k', e)) (he : e ≠ 0) : (geK tx nb l).1 = e := by
  unfold geK; rw [if_neg (by simp [h1]), h2, h3, if_neg (by simp), if_neg (by simp), if_neg h4, h, if_pos he]
theorem geK_6 (h1 : okL l = true) {L : List ByteArray} (h2 : pGet6 tx 16777216 l.x = (0, L)) {n : Int} {k : Nat} (h3 : pUint nb 0 0 l.n = (n, k, 0)) (h4 : n ≠ 0) {P : List Nd} {k' : Nat} (h : gNs nb L n.toNat 0 k l.e = (P, k', 0)) (hk : k' < nb.size) : (geK tx nb l).1 = 8 := by
  unfold geK; rw [if_neg (by simp [h1]), h2, h3, if_neg (by simp), if_neg (by simp), if_neg h4, h, if_neg (by simp), if_pos hk]
theorem geK_7 (h1 : okL l = true) {L : List ByteArray} (h2 : pGet6 tx 16777216 l.x = (0, L)) {n : Int} {k : Nat} (h3 : pUint nb 0 0 l.n = (n, k, 0)) (h4 : n ≠ 0) {P : List Nd} {k' : Nat} (h : gNs nb L n.toNat 0 k l.e = (P, k', 0)) (hk : ¬ k' < nb.size) : geK tx nb l = (0, P, L) := by
  unfold geK; rw [if_neg (by simp [h1]), h2, h3, if_neg (by simp), if_neg (by simp), if_neg h4, h, if_neg (by simp), if_neg hk]
end
theorem GeIs.of {tx nb : ByteArray} {l : Lm} {X : List Nx} {r k : Int} {L : List ByteArray} (h : geK tx nb l = (0, X.map Nx.nd, L)) (hr : r = (X.length : Int) - 1) (hS : GeS X r L l k) :
    (k ≠ 0 → GeIs tx nb l (([] : List Nx).map Nx.nd) 0 k) ∧ (k = 0 → GeIs tx nb l (X.map Nx.nd) r 0) := by
  have hS' : GeS (bare (geK tx nb l).2.1) (((geK tx nb l).2.1.length : Int) - 1) (geK tx nb l).2.2 l k := by
    rw [h]
    dsimp only
    rw [List.length_map, ← hr]
    exact hS.same (by rw [bare_nd])
  have h0 : (geK tx nb l).1 = 0 := by rw [h]
  refine ⟨fun q => .inr ⟨h0, k, hS', .inl ⟨q, rfl, rfl, rfl⟩⟩, fun q => .inr ⟨h0, k, hS', .inr ⟨q, rfl, by rw [h], by rw [h, hr]; simp⟩⟩⟩
end Go.Proofs.YthfemhpbamcpjaaGreatDoor
