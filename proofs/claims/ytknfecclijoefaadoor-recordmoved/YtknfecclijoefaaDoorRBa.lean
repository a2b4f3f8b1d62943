/- What is got is put as it was, as plain mathematics. -/
import Derived.Test.YtknfecclijoefaaDoorRBk
namespace Go.Proofs.YtknfecclijoefaaDoor
open Go.RowKit

theorem fl_ne {e d : Int} (hd : d ≠ 0) : fl e d ≠ 0 := by
  unfold fl
  split
  · exact hd
  · assumption
theorem num_bytes {b : ByteArray} {k : Nat} (h : (num b k).2.2 = 0) : (num b k).1 < 18446744073709551616 ∧ b.data.toList.drop k = put (num b k).1 ++ b.data.toList.drop (k + (num b k).2.1) := by
  obtain ⟨n, m, e, hnum⟩ : ∃ n m e, num b k = (n, m, e) := ⟨_, _, _, rfl⟩
  rw [hnum] at h ⊢
  dsimp only at h ⊢
  subst h
  unfold num at hnum
  obtain ⟨h1, _, _, h4, h5⟩ := put_dec _ n m hnum
  refine ⟨h1, ?_⟩
  rw [h5, ← List.drop_drop, List.take_append_drop]
theorem uint_bytes {b : ByteArray} {k : Nat} {e m x : Int} {k' : Nat} (h : pUint b k e m = (x, k', 0)) : e = 0 ∧ ∃ n : Nat, x = n ∧ n ≤ 16777216 ∧ (n : Int) ≤ m ∧ b.data.toList.drop k = put n ++ b.data.toList.drop k' := by
  unfold pUint at h
  split at h
  · rename_i q
    simp only [Prod.mk.injEq] at h
    exact absurd h.2.2 q
  · rename_i q
    split at h
    · rename_i q2
      simp only [Prod.mk.injEq] at h
      have := h.2.2
      omega
    · rename_i q2
      split at h
      · simp only [Prod.mk.injEq] at h
        exact absurd h.2.2 (by decide)
      · rename_i q3
        simp only [Prod.mk.injEq] at h
        obtain ⟨rfl, rfl, _⟩ := h
        have := num_bytes (b := b) (k := k) (by omega)
        exact ⟨by omega, (num b k).1, rfl, by omega, by omega, this.2⟩
theorem int_bytes {b : ByteArray} {k : Nat} {e x : Int} {k' : Nat} (h : pInt b k e = (x, k', 0)) : e = 0 ∧ -9223372036854775808 ≤ x ∧ x ≤ 9223372036854775807 ∧ b.data.toList.drop k = put (zig x).toNat ++ b.data.toList.drop k' := by
  unfold pInt at h
  split at h
  · rename_i q
    simp only [Prod.mk.injEq] at h
    exact absurd h.2.2 q
  · rename_i q
    split at h
    · rename_i q2
      simp only [Prod.mk.injEq] at h
      have := h.2.2
      omega
    · rename_i q2
      simp only [Prod.mk.injEq] at h
      obtain ⟨rfl, rfl, _⟩ := h
      have h1 := num_bytes (b := b) (k := k) (by omega)
      have h2 := zag_range ((num b k).1 : Int) (by omega) (by omega)
      refine ⟨by omega, h2.1, h2.2, ?_⟩
      rw [zig_zag _ (by omega), Int.toNat_natCast]
      exact h1.2

theorem gIs_bytes (b : ByteArray) : ∀ (C : List Int) (k : Nat) (e : Int) (I : List Int) (k' : Nat), gIs b C k e = (I, k', 0) → e = 0 ∧ I.length = C.length ∧ fine I ∧ (∀ i, i < I.length → in7 (C.getD i 0) (I.getD i 0) = true) ∧ b.data.toList.drop k = rI I ++ b.data.toList.drop k'
  | [], k, e, I, k', h => by
    simp only [gIs, Prod.mk.injEq] at h
    obtain ⟨rfl, rfl, rfl⟩ := h
    exact ⟨rfl, rfl, fun i q => by simp at q, fun i q => by simp at q, rfl⟩
  | c :: C, k, e, I, k', h => by
    unfold gIs at h
    split at h
    · rename_i q
      simp only [Prod.mk.injEq] at h
      exact absurd h.2.2 q
    · obtain ⟨x, k1, e1, hq⟩ : ∃ x k1 e1, pInt b k e = (x, k1, e1) := ⟨_, _, _, rfl⟩
      rw [hq] at h
      dsimp only at h
      obtain ⟨I', k2, e2, hr⟩ : ∃ I' k2 e2, gIs b C k1 (if in7 c x = true then e1 else fl e1 10) = (I', k2, e2) := ⟨_, _, _, rfl⟩
      rw [hr] at h
      simp only [Prod.mk.injEq] at h
      obtain ⟨rfl, rfl, rfl⟩ := h
      obtain ⟨h1, h2, h3, h4, h5⟩ := gIs_bytes b C k1 _ I' k2 hr
      have hc : in7 c x = true := by
        by_cases q : in7 c x = true
        · exact q
        · rw [if_neg q] at h1
          exact absurd h1 (fl_ne (by decide))
      rw [if_pos hc] at h1
      subst h1
      obtain ⟨g1, g2, g3, g4⟩ := int_bytes hq
      refine ⟨g1, by simp [h2], fun i q => ?_, fun i q => ?_, ?_⟩
      · cases i with
        | zero => exact ⟨g2, g3⟩
        | succ i => have := h3 i (by simpa using q); simpa using this
      · cases i with
        | zero => exact hc
        | succ i => have := h4 i (by simpa using q); simpa using this
      · rw [g4, h5, show rI (x :: I') = put (zig x).toNat ++ rI I' from rfl, List.append_assoc]
theorem gTs_bytes (b : ByteArray) (L : List ByteArray) (hn : L.Nodup) : ∀ (n k : Nat) (e : Int) (T : List ByteArray) (k' : Nat), gTs b L n k e = (T, k', 0) → e = 0 ∧ T.length = n ∧ (∀ s ∈ T, s ∈ L) ∧ b.data.toList.drop k = rT L T ++ b.data.toList.drop k'
  | 0, k, e, T, k', h => by
    simp only [gTs, Prod.mk.injEq] at h
    obtain ⟨rfl, rfl, rfl⟩ := h
    exact ⟨rfl, rfl, fun i q => by simp at q, rfl⟩
  | n + 1, k, e, T, k', h => by
    by_cases he : e = 0
    · subst he
      obtain ⟨x, k1, e1, hq⟩ : ∃ x k1 e1, pUint b k 0 16777216 = (x, k1, e1) := ⟨_, _, _, rfl⟩
      rw [gTs_next b L n k hq] at h
      split at h
      · rename_i q
        simp only [Prod.mk.injEq] at h
        exact absurd h.2.2 q
      · rename_i q
        have q0 : e1 = 0 := by omega
        subst q0
        split at h
        · simp only [Prod.mk.injEq] at h
          exact absurd h.2.2 (by decide)
        · rename_i q2
          obtain ⟨T', k2, e2, hr⟩ : ∃ T' k2 e2, gTs b L n k1 0 = (T', k2, e2) := ⟨_, _, _, rfl⟩
          rw [hr] at h
          simp only [Prod.mk.injEq] at h
          obtain ⟨rfl, rfl, rfl⟩ := h
          obtain ⟨_, h2, h3, h4⟩ := gTs_bytes b L hn n k1 0 T' k2 hr
          obtain ⟨_, m, rfl, g3, _, g4⟩ := uint_bytes hq
          have hm : m < L.length := by omega
          rw [Int.toNat_natCast, List.getD_eq_getElem?_getD, List.getElem?_eq_getElem hm]
          refine ⟨rfl, by simp [h2], fun s hs => ?_, ?_⟩
          · simp only [Option.getD_some, List.mem_cons] at hs
            rcases hs with rfl | hs
            · exact List.getElem_mem hm
            · exact h3 s hs
          · show _ = rT L (L[m] :: T') ++ _
            rw [g4, h4, show rT L (L[m] :: T') = put (idx6 L[m] L) ++ rT L T' from rfl, idx6_at L[m] L m hm rfl (fun j hj hjm q => (List.pairwise_iff_getElem.1 hn) j m hj hm hjm q), List.append_assoc]
    · rw [gTs_stop b L _ k he] at h
      simp only [Prod.mk.injEq] at h
      exact absurd h.2.2 he
theorem gKs_bytes (b : ByteArray) (p : Int) (hp : p ≤ 9223372036854775807) : ∀ (n k : Nat) (e : Int) (K : List Int) (k' : Nat), gKs b p n k e = (K, k', 0) → e = 0 ∧ K.length = n ∧ (∀ i, i < K.length → 0 ≤ K.getD i 0 ∧ K.getD i 0 < p) ∧ b.data.toList.drop k = rK p K ++ b.data.toList.drop k'
  | 0, k, e, K, k', h => by
    simp only [gKs, Prod.mk.injEq] at h
    obtain ⟨rfl, rfl, rfl⟩ := h
    exact ⟨rfl, rfl, fun i q => by simp at q, rfl⟩
  | n + 1, k, e, K, k', h => by
    by_cases he : e = 0
    · subst he
      obtain ⟨x, k1, e1, hq⟩ : ∃ x k1 e1, pUint b k 0 16777216 = (x, k1, e1) := ⟨_, _, _, rfl⟩
      rw [gKs_next b p n k hq] at h
      obtain ⟨K', k2, e2, hr⟩ : ∃ K' k2 e2, gKs b p n k1 (if decide (x < 1 ∨ p < x) = true then fl e1 13 else e1) = (K', k2, e2) := ⟨_, _, _, rfl⟩
      rw [hr] at h
      simp only [Prod.mk.injEq] at h
      obtain ⟨rfl, rfl, rfl⟩ := h
      obtain ⟨h1, h2, h3, h4⟩ := gKs_bytes b p hp n k1 _ K' k2 hr
      have hc : ¬ (x < 1 ∨ p < x) := by
        intro q
        rw [if_pos (decide_eq_true q)] at h1
        exact absurd h1 (fl_ne (by decide))
      rw [decide_eq_false hc, if_neg (by decide)] at h1
      subst h1
      obtain ⟨_, m, rfl, g3, _, g4⟩ := uint_bytes hq
      have hw : wrap64 (p - m) = p - m := by unfold wrap64; omega
      rw [hw]
      refine ⟨rfl, by simp [h2], fun i q => ?_, ?_⟩
      · cases i with
        | zero => exact ⟨by show 0 ≤ p - (m : Int); omega, by show p - (m : Int) < p; omega⟩
        | succ i => have := h3 i (by simpa using q); simpa using this
      · rw [g4, h4, show rK p ((p - m) :: K') = put (p - (p - m)).toNat ++ rK p K' from rfl, show (p - (p - (m : Int))).toNat = m by omega, List.append_assoc]
    · rw [gKs_stop b p _ k he] at h
      simp only [Prod.mk.injEq] at h
      exact absurd h.2.2 he

theorem itF_same (L : List ByteArray) : ∀ T : List ByteArray, (∀ s ∈ T, s ∈ L) → itF L T = L
  | [], _ => rfl
  | x :: T, h => by
    have h1 : pIntern L x = L := by
      unfold pIntern
      rw [if_pos ((idx6_mem x L).2 (h x (by simp)))]
    rw [show itF L (x :: T) = itF (pIntern L x) T from rfl, h1]
    exact itF_same L T fun s q => h s (by simp [q])

theorem gNd_bytes {b : ByteArray} {N : Nd} {p edges : Int} {L : List ByteArray} {k k' : Nat} (h : gNd b p L edges k 0 = (N, k', 0)) (hp : p ≤ 9223372036854775807) (hn : L.Nodup) (hr : ∀ s ∈ L, ok8 s = true) :
    b.data.toList.drop k = rB N p L ++ b.data.toList.drop k' ∧ rE N p = 0 ∧ itF L N.texts = L ∧ fine N.ints ∧ (∀ s ∈ N.texts, s ∈ L) ∧ (N.kids.length : Int) ≤ max edges 0 := by
  obtain ⟨q, k1, e1, hq⟩ : ∃ q k1 e1, pUint b k 0 16777216 = (q, k1, e1) := ⟨_, _, _, rfl⟩
  obtain ⟨A, k4, e4, hA⟩ : ∃ A k4 e4, gIs b (newSp q).ints k1 (if (newSp q).ok = true then e1 else fl e1 9) = (A, k4, e4) := ⟨_, _, _, rfl⟩
  obtain ⟨B, k5, e5, hB⟩ : ∃ B k5 e5, gTs b L (newSp q).texts.toNat k4 e4 = (B, k5, e5) := ⟨_, _, _, rfl⟩
  obtain ⟨m, k6, e6, hM⟩ : ∃ m k6 e6, pUint b k5 e5 (max edges 0) = (m, k6, e6) := ⟨_, _, _, rfl⟩
  obtain ⟨e7, h7⟩ : ∃ e7, (if decide (m < (newSp q).least ∨ (0 ≤ (newSp q).most ∧ (newSp q).most < m)) = true then fl e6 12 else e6) = e7 := ⟨_, rfl⟩
  obtain ⟨K, k8, e8, hK⟩ : ∃ K k8 e8, gKs b p m.toNat k6 e7 = (K, k8, e8) := ⟨_, _, _, rfl⟩
  have hR := gRest_eq hA hB hM h7 hK
  unfold gNd at h
  rw [hq] at h
  dsimp only at h
  rw [hR] at h
  dsimp only at h
  split at h
  · rename_i h8
    subst h8
    simp only [Prod.mk.injEq, and_true] at h
    obtain ⟨rfl, rfl⟩ := h
    obtain ⟨a1, a2, a3, a4⟩ := gKs_bytes b p hp _ _ _ _ _ hK
    subst a1
    have hc : ¬ (m < (newSp q).least ∨ (0 ≤ (newSp q).most ∧ (newSp q).most < m)) := by
      intro c
      rw [if_pos (decide_eq_true c)] at h7
      exact absurd h7 (fl_ne (by decide))
    rw [decide_eq_false hc, if_neg (by decide)] at h7
    subst h7
    obtain ⟨b1, n, rfl, b3, b4, b5⟩ := uint_bytes hM
    subst b1
    obtain ⟨c1, c2, c3, c4⟩ := gTs_bytes b L hn _ _ _ _ _ hB
    subst c1
    obtain ⟨d1, d2, d3, d4, d5⟩ := gIs_bytes b _ _ _ _ _ hA
    have ho : (newSp q).ok = true := by
      by_cases o : (newSp q).ok = true
      · exact o
      · rw [if_neg o] at d1
        exact absurd d1 (fl_ne (by decide))
    rw [if_pos ho] at d1
    subst d1
    obtain ⟨_, u, rfl, g3, _, g4⟩ := uint_bytes hq
    have hi := itF_same L B c3
    have ht := newSp_small (u : Int)
    rw [Int.toNat_natCast] at a2
    refine ⟨?_, ?_, hi, d3, c3, by show (K.length : Int) ≤ _; omega⟩
    · show _ = rB ⟨u, A, B, K⟩ p L ++ _
      unfold rB
      dsimp only
      rw [g4, d5, c4, b5, a4, hi, Int.toNat_natCast, a2]
      simp only [List.append_assoc]
    · have f1 : fitI (newSp u).ints A = true := fitI_yes _ _ d2 d4
      have f2 : fitT B (newSp u).texts = true := by
        unfold fitT
        rw [Bool.and_eq_true, decide_eq_true_eq, List.all_eq_true]
        exact ⟨by omega, fun s hs => hr s (c3 s hs)⟩
      have f3 : fitK K.length (newSp u).least (newSp u).most = true := by
        unfold fitK
        rw [Bool.and_eq_true, Bool.or_eq_true, decide_eq_true_eq, decide_eq_true_eq, decide_eq_true_eq]
        omega
      have f4 : tyN ⟨u, A, B, K⟩ = 0 := by
        unfold tyN chkN
        dsimp only
        rw [ho, f1, f2, f3]
        rfl
      unfold rE
      rw [if_pos f4, rOk_yes a3, if_pos rfl]
  · rename_i h8
    simp only [Prod.mk.injEq] at h
    exact absurd h.2.2 h8

end Go.Proofs.YtknfecclijoefaaDoor
