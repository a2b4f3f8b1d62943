/- What is put is got, as plain mathematics. -/
import Derived.Test.YtknfecclijoefaaDoorRGt
import Derived.Test.YtknfecclijoefaaDoorVA
import Derived.Test.YtknfecclijoefaaDoorLFch
namespace Go.Proofs.YtknfecclijoefaaDoor
open Go.RowKit

theorem drop_more {b : ByteArray} {k n : Nat} {x r : List UInt8} (h : b.data.toList.drop k = x ++ r) (hn : x.length = n) : b.data.toList.drop (k + n) = r := by
  rw [← List.drop_drop, h, ← hn, List.drop_left]
theorem num_put {b : ByteArray} {k n : Nat} {r : List UInt8} (h : b.data.toList.drop k = put n ++ r) (hn : n < 18446744073709551616) : num b k = (n, (put n).length, 0) := by
  unfold num
  rw [h]
  exact dec_put n hn r
theorem uint_put {b : ByteArray} {k n : Nat} {r : List UInt8} (m : Int) (h : b.data.toList.drop k = put n ++ r) (hn : n ≤ 16777216) (hm : (n : Int) ≤ m) : pUint b k 0 m = ((n : Int), k + (put n).length, 0) := by
  unfold pUint
  rw [if_neg (by simp), num_put h (by omega)]
  dsimp only
  rw [if_neg (by simp), if_neg (by omega)]
theorem int_put {b : ByteArray} {k : Nat} {z : Int} {r : List UInt8} (h : b.data.toList.drop k = put (zig z).toNat ++ r) (h0 : -9223372036854775808 ≤ z) (h1 : z ≤ 9223372036854775807) : pInt b k 0 = (z, k + (put (zig z).toNat).length, 0) := by
  have hz := zig_range z h0 h1
  unfold pInt
  rw [if_neg (by simp), num_put h (by omega)]
  dsimp only
  rw [if_neg (by simp), Int.toNat_of_nonneg hz.1, zag_zig]

theorem gIs_put (b : ByteArray) : ∀ (C I : List Int) (k : Nat) (r : List UInt8), b.data.toList.drop k = rI I ++ r → I.length = C.length → (∀ i, i < I.length → in7 (C.getD i 0) (I.getD i 0) = true) → fine I → gIs b C k 0 = (I, k + (rI I).length, 0)
  | [], [], k, r, _, _, _, _ => rfl
  | [], x :: I, _, _, _, hl, _, _ => by simp at hl
  | c :: C, [], _, _, _, hl, _, _ => by simp at hl
  | c :: C, x :: I, k, r, h, hl, hi, hf => by
    have e1 : rI (x :: I) = put (zig x).toNat ++ rI I := rfl
    rw [e1, List.append_assoc] at h
    have hx : -9223372036854775808 ≤ x ∧ x ≤ 9223372036854775807 := hf 0 (by simp)
    have hc : in7 c x = true := hi 0 (by simp)
    have hp := int_put h hx.1 hx.2
    have ih := gIs_put b C I (k + (put (zig x).toNat).length) r (drop_more h rfl) (by simpa using hl) (fun i q => by have := hi (i + 1) (by simpa using q); simpa using this) (fun i q => by have := hf (i + 1) (by simpa using q); simpa using this)
    unfold gIs
    rw [if_neg (by decide), hp]
    dsimp only
    rw [hc, if_pos rfl, ih, e1, List.length_append, Nat.add_assoc]
theorem gTs_put (b : ByteArray) (M : List ByteArray) (hM : M.length ≤ 16777216) : ∀ (T : List ByteArray) (k : Nat) (r : List UInt8), b.data.toList.drop k = rT M T ++ r → (∀ s ∈ T, idx6 s M < M.length) → gTs b M T.length k 0 = (T, k + (rT M T).length, 0)
  | [], k, r, _, _ => rfl
  | x :: T, k, r, h, hi => by
    have e1 : rT M (x :: T) = put (idx6 x M) ++ rT M T := rfl
    rw [e1, List.append_assoc] at h
    have hx := hi x (by simp)
    have hp := uint_put 16777216 h (by omega) (by omega)
    have ih := gTs_put b M hM T (k + (put (idx6 x M)).length) r (drop_more h rfl) (fun s q => hi s (by simp [q]))
    rw [List.length_cons, gTs_next b M T.length k hp, if_neg (by simp), if_neg (by omega), Int.toNat_natCast, ih, e1, List.length_append, Nat.add_assoc]
    rw [show M.getD (idx6 x M) noT = x by rw [List.getD_eq_getElem?_getD, List.getElem?_eq_getElem hx]; exact idx6_get x M hx]
theorem gKs_put (b : ByteArray) (p : Int) (hp : p ≤ 16777216) : ∀ (K : List Int) (k : Nat) (r : List UInt8), b.data.toList.drop k = rK p K ++ r → (∀ i, i < K.length → 0 ≤ K.getD i 0 ∧ K.getD i 0 < p) → gKs b p K.length k 0 = (K, k + (rK p K).length, 0)
  | [], k, r, _, _ => rfl
  | x :: K, k, r, h, hi => by
    have e1 : rK p (x :: K) = put (p - x).toNat ++ rK p K := rfl
    rw [e1, List.append_assoc] at h
    have hx : 0 ≤ x ∧ x < p := hi 0 (by simp)
    have hu := uint_put 16777216 h (by omega) (by omega)
    have ih := gKs_put b p hp K (k + (put (p - x).toNat).length) r (drop_more h rfl) (fun i q => by have := hi (i + 1) (by simpa using q); simpa using this)
    have hn : ((p - x).toNat : Int) = p - x := by omega
    rw [List.length_cons, gKs_next b p K.length k hu, hn, decide_eq_false (by omega), if_neg (by decide), ih, e1, List.length_append, Nat.add_assoc]
    rw [show wrap64 (p - (p - x)) = x by unfold wrap64; omega]

/-- What it means that nothing is wrong. -/
theorem rE_zero {N : Nd} {p : Int} (h : rE N p = 0) : (newSp N.kind).ok = true ∧ fitI (newSp N.kind).ints N.ints = true ∧ fitT N.texts (newSp N.kind).texts = true ∧ fitK N.kids.length (newSp N.kind).least (newSp N.kind).most = true ∧ rOk N p = true := by
  unfold rE at h
  split at h
  · rename_i ht
    split at h
    · rename_i hk
      unfold tyN at ht
      split at ht
      · exact absurd ht (by decide)
      · rename_i ho
        unfold chkN at ht
        split at ht
        · exact absurd ht (by decide)
        · split at ht
          · exact absurd ht (by decide)
          · split at ht
            · exact absurd ht (by decide)
            · rename_i a1 a2 a3
              exact ⟨by simpa using ho, by simpa using a1, by simpa using a2, by simpa using a3, hk⟩
    · exact absurd h (by decide)
  · rename_i hn
    exact absurd h hn
theorem newSp_kind {k : Int} (h : (newSp k).ok = true) : 1 ≤ k ∧ k ≤ 8 := by
  by_cases q : k < 1 ∨ 9 ≤ k
  · rw [newSp_no k q] at h
    exact absurd h (by decide)
  · omega

theorem gNd_put (b : ByteArray) (N : Nd) (p edges : Int) (L M : List ByteArray) (k : Nat) (r : List UInt8) (h : b.data.toList.drop k = rB N p L ++ r) (hE : rE N p = 0) (hf : fine N.ints) (hp : p ≤ 16777216) (hM : M.length ≤ 16777216)
    (hx : ∀ s ∈ N.texts, idx6 s M = idx6 s (itF L N.texts) ∧ idx6 s M < M.length) (hk : N.kids.length ≤ 16777216) (he : (N.kids.length : Int) ≤ edges) : gNd b p M edges k 0 = (N, k + (rB N p L).length, 0) := by
  obtain ⟨h1, h2, h3, h4, h5⟩ := rE_zero hE
  have hkd := newSp_kind h1
  have hT : rT (itF L N.texts) N.texts = rT M N.texts := by
    unfold rT
    rw [List.flatMap_def, List.flatMap_def]
    exact congrArg List.flatten (List.map_congr_left fun s hs => by rw [(hx s hs).1])
  have e1 : rB N p L = put N.kind.toNat ++ (rI N.ints ++ (rT M N.texts ++ (put N.kids.length ++ rK p N.kids))) := by
    unfold rB
    rw [hT]
    simp only [List.append_assoc]
  rw [e1] at h ⊢
  simp only [List.append_assoc] at h
  have u1 := uint_put 16777216 h (by omega) (by omega)
  have hkn : (N.kind.toNat : Int) = N.kind := by omega
  rw [hkn] at u1
  have d1 := drop_more h rfl
  unfold fitI at h2
  rw [Bool.and_eq_true, decide_eq_true_eq, List.all_eq_true] at h2
  have u2 := gIs_put b (newSp N.kind).ints N.ints _ _ d1 h2.1 (fun i q => h2.2 i (by simpa using q)) hf
  have d2 := drop_more d1 rfl
  have u3 := gTs_put b M hM N.texts _ _ d2 (fun s q => (hx s q).2)
  have d3 := drop_more d2 rfl
  have u4 := uint_put (max edges 0) d3 hk (by omega)
  have d4 := drop_more d3 rfl
  unfold rOk at h5
  rw [List.all_eq_true] at h5
  have u5 := gKs_put b p hp N.kids _ _ d4 (fun i q => of_decide_eq_true (h5 i (by simpa using q)))
  unfold fitT at h3
  rw [Bool.and_eq_true, decide_eq_true_eq] at h3
  have ht : (newSp N.kind).texts.toNat = N.texts.length := by omega
  unfold fitK at h4
  rw [Bool.and_eq_true, Bool.or_eq_true, decide_eq_true_eq, decide_eq_true_eq, decide_eq_true_eq] at h4
  have u6 := gRest_eq (S := newSp N.kind) (edges := edges) u2 (by rw [ht]; exact u3) u4 (if_neg (by rw [decide_eq_false (by omega)]; decide)) u5
  unfold gNd
  rw [u1]
  dsimp only
  rw [h1, if_pos rfl, u6]
  simp only [List.length_append, if_true, ← Nat.add_assoc]

end Go.Proofs.YtknfecclijoefaaDoor
