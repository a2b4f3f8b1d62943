/- A table and its texts as a list, while cursors read: what layer 13's reading laws hold; how much a node that is got has. -/
import Derived.Test.YtknfecclijoefaaDoorRSt
import Derived.Test.YtknfecclijoefaaDoorRGt
import Derived.Test.YtknfecclijoefaaDoorRBa
import Derived.Lib.QuietBelow
import Derived.BigQuiet
namespace Go.Proofs.YtknfecclijoefaaDoor
open Go.RowKit

/-- All of it lies below lim. -/
structure Px (w W : World) (g gm : Nat) (v : Value) (M : List ByteArray) (y : Option Addr) (cap b o lim : Nat) : Prop where
  tb : Tb W w.heap.size g gm v M
  x : TxI W y cap b o M
  ht : ∀ k, TbS g gm v k → k < lim
  hb : 0 < M.length → b < lim
  hl : lim ≤ W.heap.size
  hw : w.heap.size ≤ lim
  nb : 0 < M.length → ¬ TbS g gm v b
  bel : Below w.heap.size w W
section
variable {w W W' : World} {g gm : Nat} {v : Value} {M : List ByteArray} {y : Option Addr} {cap b o lim : Nat}
theorem Px.fr {S : Nat → Prop} (h : Px w W g gm v M y cap b o lim) (k : Fr S W W') (hs : ∀ i, S i → lim ≤ i) : Px w W' g gm v M y cap b o lim :=
  ⟨h.tb.fr k (fun i hi q => by have := h.ht i hi; have := hs i q; omega), h.x.fr k (fun hm q => by have := h.hb hm; have := hs b q; omega), h.ht, h.hb, Nat.le_trans h.hl k.size, h.hw, h.nb, Fr.below h.bel k (fun i hi => by have := hs i hi; have := h.hw; omega) h.bel.size⟩
theorem Px.more (h : Px w W g gm v M y cap b o lim) (hb : Below W.heap.size W W') : Px w W' g gm v M y cap b o lim := h.fr (Fr.of_below (S := fun _ => False) hb) (fun _ q => q.elim)
theorem Px.cur {gc : Nat} (h : Px w W g gm v M y cap b o lim) (hg : W.grownBy W' (some gc)) (hc : lim ≤ gc) : Px w W' g gm v M y cap b o lim :=
  h.fr (Fr.of_grown (S := fun k => k = gc) hg (fun k e => by cases e; rfl)) (fun i e => by rw [e]; exact hc)
theorem Px.start {W0 : World} {e : Ending} {T : List ByteArray} (hb0 : Below w.heap.size w W0) (h : TabOut W0 W e T) :
    ∃ g gm v y cap b o, e = .returned (.tuple #[.pointer (some ⟨g, 0, none⟩), .slice y T.length cap, .bool true]) ∧ Px w W g gm v T y cap b o W.heap.size := by
  obtain ⟨g, gm, v, y, cap, b, o, he, ht, hx, hb, hbl⟩ := h
  have hs := hb0.size
  exact ⟨g, gm, v, y, cap, b, o, he, ht.mono hs, hx, fun k hk => ht.lt k hk, fun hm => (hx.at_ 0 hm).1, Nat.le_refl _, Nat.le_trans hs hbl.size, fun hm => (hb hm).2, hb0.trans (hbl.mono hs)⟩
end
theorem drewN_below (w : World) (n : Nat) : Below w.heap.size w (w.drewN n) := ⟨rfl, rfl, rfl, Nat.le_refl _, fun _ _ => rfl⟩
theorem left_bel (w : World) (g : Nat) (b : ByteArray) (k e : Int) (h : Cu w g b k e) (hs : b.size ≤ maxLen) (h0 : 0 ≤ k) (h1 : k ≤ b.size) :
    Calls Tryd.prog 21 #[.pointer (some ⟨g, 0, none⟩)] w fun r w' => r = .returned (.int .i64 ((b.size : Int) - k)) ∧ Below w.heap.size w w' :=
  (left_any w g b k e h hs h0 h1).mono fun r w' ⟨hr, n, hw⟩ => ⟨hr, by rw [hw]; exact drewN_below w n⟩
theorem texts_bel {w : World} {B g gm : Nat} {v : Value} {L : List ByteArray} (h : Tb w B g gm v L) (a : Option Addr) (cap b o : Nat) (hx : TxI w a cap b o L) (hl : L.length ≤ 1000000) :
    Calls Tryd.prog 15 #[.pointer (some ⟨g, 0, none⟩), .slice a L.length cap] w fun e w' => e = .returned (.bool true) ∧ Below w.heap.size w w' := by
  refine (texts_any h a cap b o L hx.ptr hx.at_ hl).mono ?_
  rintro r w' ⟨rfl, rfl⟩
  rw [decide_eq_true (show L = L from rfl)]
  exact ⟨rfl, Below.refl _ _⟩

theorem gIs_len (b : ByteArray) : ∀ (C : List Int) (k : Nat) (e : Int), (gIs b C k e).1.length ≤ C.length
  | [], _, _ => by simp [gIs]
  | c :: r, k, e => by
    unfold gIs
    split
    · simp
    · simp only [List.length_cons]
      have := gIs_len b r (pInt b k e).2.1 (if in7 c (pInt b k e).1 = true then (pInt b k e).2.2 else fl (pInt b k e).2.2 10)
      omega
theorem gTs_len (b : ByteArray) (L : List ByteArray) : ∀ (n k : Nat) (e : Int), (gTs b L n k e).1.length ≤ n
  | 0, _, _ => by simp [gTs]
  | n + 1, k, e => by
    unfold gTs
    split
    · simp
    · split
      · simp
      · split
        · simp
        · simp only [List.length_cons]
          have := gTs_len b L n (pUint b k e 16777216).2.1 0
          omega
theorem rK_len (p : Int) (K : List Int) : K.length ≤ (rK p K).length := by
  unfold rK
  induction K with
  | nil => simp
  | cons x r ih =>
    have := (put_length (p - x).toNat).1
    rw [List.flatMap_cons, List.length_append, List.length_cons]
    omega
/-- A node that is got is small. -/
theorem gNd_small (b : ByteArray) (p : Int) (L : List ByteArray) (edges : Int) (k : Nat) (e : Int) (hp : p ≤ 9223372036854775807) : (gNd b p L edges k e).1.ints.length ≤ 100 ∧ (gNd b p L edges k e).1.texts.length ≤ 100 ∧ (gNd b p L edges k e).1.kids.length ≤ b.size := by
  obtain ⟨q, k1, e1, hq⟩ : ∃ q k1 e1, pUint b k e 16777216 = (q, k1, e1) := ⟨_, _, _, rfl⟩
  obtain ⟨A, k4, e4, hA⟩ : ∃ A k4 e4, gIs b (newSp q).ints k1 (if (newSp q).ok = true then e1 else fl e1 9) = (A, k4, e4) := ⟨_, _, _, rfl⟩
  obtain ⟨B, k5, e5, hB⟩ : ∃ B k5 e5, gTs b L (newSp q).texts.toNat k4 e4 = (B, k5, e5) := ⟨_, _, _, rfl⟩
  obtain ⟨m, k6, e6, hM⟩ : ∃ m k6 e6, pUint b k5 e5 (max edges 0) = (m, k6, e6) := ⟨_, _, _, rfl⟩
  obtain ⟨e7, h7⟩ : ∃ e7, (if decide (m < (newSp q).least ∨ (0 ≤ (newSp q).most ∧ (newSp q).most < m)) = true then fl e6 12 else e6) = e7 := ⟨_, rfl⟩
  obtain ⟨K, k8, e8, hK⟩ : ∃ K k8 e8, gKs b p m.toNat k6 e7 = (K, k8, e8) := ⟨_, _, _, rfl⟩
  have hR := gRest_eq hA hB hM h7 hK
  have h1 := gIs_len b (newSp q).ints k1 (if (newSp q).ok = true then e1 else fl e1 9)
  have h2 := gTs_len b L (newSp q).texts.toNat k4 e4
  rw [hA] at h1
  rw [hB] at h2
  have hs := newSp_small q
  unfold gNd
  rw [hq]
  dsimp only
  rw [hR]
  dsimp only at h1 h2 ⊢
  split
  · rename_i h8
    subst h8
    obtain ⟨_, _, _, a4⟩ := gKs_bytes b p hp _ _ _ _ _ hK
    have h3 := rK_len p K
    have h4 := congrArg List.length a4
    rw [List.length_append, List.length_drop, List.length_drop] at h4
    have h5 : b.data.toList.length = b.size := by rw [Array.length_toList]; rfl
    exact ⟨by dsimp only; omega, by dsimp only; omega, by dsimp only; omega⟩
  · exact ⟨by simp, by simp, by simp⟩
theorem gNd_at (b : ByteArray) (p : Int) (L : List ByteArray) (edges : Int) (k : Nat) (e : Int) (hk : k ≤ b.size) : (gNd b p L edges k e).2.1 ≤ b.size := by
  have h1 := pUint_at b k e 16777216 hk
  unfold gNd
  dsimp only
  generalize pUint b k e 16777216 = Q at *
  have h2 : (gRest b p L edges (newSp Q.1) Q.2.1 (if (newSp Q.1).ok = true then Q.2.2 else fl Q.2.2 9)).2.1 ≤ b.size := by
    unfold gRest
    dsimp only
    exact (gKs_at b p _ _ _ (pUint_at b _ _ _ (gTs_at b L _ _ _ (gIs_at b _ _ _ h1.2).2).2).2).2
  generalize gRest b p L edges (newSp Q.1) Q.2.1 (if (newSp Q.1).ok = true then Q.2.2 else fl Q.2.2 9) = R at h2 ⊢
  by_cases hz : R.2.2 = 0
  · rw [if_pos hz]; exact h2
  · rw [if_neg hz]; exact h2

end Go.Proofs.YtknfecclijoefaaDoor
