/- Plain mathematics of tables as bytes: what is got has its bounds, has no text twice, and is put as it was; what is put is got. -/
import Derived.Test.YtfblmibdcodipaaTGet
namespace Go.Proofs.Ytfblmibdcodipaa
open Go.RowKit

theorem gets6_in (b : ByteArray) (M : Int) (n : Nat) : ∀ (k : Nat) (xs : List ByteArray), k ≤ b.size → sum6 xs + xs.length ≤ k → (gets6 b M n k xs).1 = 0 → sum6 (gets6 b M n k xs).2.1 + (gets6 b M n k xs).2.1.length ≤ b.size := by
  induction n with
  | zero =>
    intro k xs hk hx _
    show sum6 xs + xs.length ≤ b.size
    omega
  | succ n ih =>
    intro k xs hk hx h
    rw [gets6_read] at h ⊢
    obtain ⟨h1, _, h3⟩ := read6_in b k (M - (sum6 xs : Nat)) xs hk hx
    by_cases he : (read6 b k (M - (sum6 xs : Nat)) xs).1 ≠ 0
    · rw [if_pos he] at h
      exact absurd h he
    · rw [if_neg he] at h ⊢
      exact ih _ _ h1 h3 h

theorem read6_snoc (b : ByteArray) (k : Nat) (m : Int) (L : List ByteArray) (h : (read6 b k m L).1 = 0) :
    (pText b k 0 m).2.2 = 0 ∧ right5 (pText b k 0 m).1 = true ∧ ¬ idx6 (pText b k 0 m).1 L < L.length ∧ read6 b k m L = (0, (pText b k 0 m).2.1, L ++ [(pText b k 0 m).1]) := by
  unfold read6 at h ⊢
  by_cases h1 : (pText b k 0 m).2.2 ≠ 0
  · rw [if_pos h1] at h
    exact absurd h h1
  rw [if_neg h1] at h ⊢
  by_cases h2 : right5 (pText b k 0 m).1 = false
  · rw [if_pos h2] at h
    simp at h
  rw [if_neg h2] at h ⊢
  by_cases h3 : idx6 (pText b k 0 m).1 L < L.length
  · rw [if_pos h3] at h
    simp at h
  rw [if_neg h3]
  exact ⟨by simpa using h1, by simpa using h2, h3, rfl⟩

theorem drop_take_ext (b : ByteArray) (i n : Nat) : (b.extract i (i + n)).data.toList = (b.data.toList.drop i).take n := by
  rw [Lib.extract_data, show i + n - i = n by omega]

/-- The bytes of a text that stands there. -/
theorem pText_bytes (b : ByteArray) (k : Nat) (m : Int) (hk : k ≤ b.size) (h : (pText b k 0 m).2.2 = 0) :
    b.data.toList.drop k = (put (pText b k 0 m).1.size ++ (pText b k 0 m).1.data.toList) ++ b.data.toList.drop (pText b k 0 m).2.1 ∧ (pText b k 0 m).2.1 ≤ b.size := by
  unfold pText at h ⊢
  rw [if_neg (by simp)] at h ⊢
  by_cases h1 : (num b k).2.2 ≠ 0
  · rw [if_pos h1] at h
    simp at h
    omega
  rw [if_neg h1] at h ⊢
  have h1' : (num b k).2.2 = 0 := by simpa using h1
  obtain ⟨n1, n2, n3⟩ := num_ok b k h1' hk
  obtain ⟨_, _, _, _, q5⟩ := put_dec (b.data.toList.drop k) (num b k).1 (num b k).2.1 (show num b k = _ from Prod.ext rfl (Prod.ext rfl h1'))
  by_cases h2 : max m 0 < (num b k).1 ∨ 16777216 < (num b k).1
  · rw [if_pos h2] at h
    simp at h
  rw [if_neg h2] at h ⊢
  by_cases h3 : (b.size : Int) - (k + (num b k).2.1 : Nat) < (num b k).1
  · rw [if_pos h3] at h
    simp at h
  rw [if_neg h3]
  dsimp only
  generalize num b k = d at *
  obtain ⟨n, j, er⟩ := d
  dsimp only at *
  have hsz : (b.extract (k + j) (k + j + n)).size = n := by rw [ByteArray.size_extract]; omega
  refine ⟨?_, by omega⟩
  rw [hsz, drop_take_ext, q5, List.append_assoc, ← List.drop_drop (i := n) (j := k + j), List.take_append_drop, ← List.drop_drop (i := j) (j := k), List.take_append_drop]

/-- What is got has the bytes that were there, and no text twice. -/
theorem gets6_bytes (b : ByteArray) (M : Int) (n : Nat) : ∀ (k : Nat) (xs : List ByteArray), k ≤ b.size → xs.Nodup → (gets6 b M n k xs).1 = 0 →
    ∃ zs, (gets6 b M n k xs).2.1 = xs ++ zs ∧ zs.length = n ∧ (xs ++ zs).Nodup ∧ b.data.toList.drop k = body6 zs ++ b.data.toList.drop (gets6 b M n k xs).2.2 := by
  induction n with
  | zero =>
    intro k xs hk hx _
    exact ⟨[], by simp [gets6], rfl, by simpa using hx, by simp [body6, gets6]⟩
  | succ n ih =>
    intro k xs hk hx h
    rw [gets6_read] at h ⊢
    by_cases he : (read6 b k (M - (sum6 xs : Nat)) xs).1 ≠ 0
    · rw [if_pos he] at h
      exact absurd h he
    · rw [if_neg he] at h ⊢
      obtain ⟨r1, r2, r3, r4⟩ := read6_snoc b k _ xs (by simpa using he)
      obtain ⟨t1, t2⟩ := pText_bytes b k _ hk r1
      rw [r4] at h ⊢
      dsimp only at h ⊢
      have hnm : (pText b k 0 (M - (sum6 xs : Nat))).1 ∉ xs := fun q => r3 ((idx6_mem _ _).2 q)
      generalize pText b k 0 (M - (sum6 xs : Nat)) = X at *
      obtain ⟨s, k1, e1⟩ := X
      dsimp only at *
      have hnd : (xs ++ [s]).Nodup := by
        rw [List.nodup_append]
        refine ⟨hx, by simp, ?_⟩
        intro a ha c hc
        simp at hc
        subst hc
        exact fun q => hnm (q ▸ ha)
      obtain ⟨zs, z1, z2, z3, z4⟩ := ih k1 (xs ++ [s]) t2 hnd h
      refine ⟨s :: zs, by rw [z1]; simp, by simp [z2], by simpa using z3, ?_⟩
      rw [t1, z4]
      simp [body6]

theorem pUint_bytes (b : ByteArray) (m : Int) (h : (pUint b 0 0 m).2.2 = 0) : ∃ n : Nat, (pUint b 0 0 m).1 = n ∧ b.data.toList = put n ++ b.data.toList.drop (pUint b 0 0 m).2.1 ∧ (pUint b 0 0 m).2.1 ≤ b.size := by
  unfold pUint at h ⊢
  rw [if_neg (by simp)] at h ⊢
  by_cases h1 : (num b 0).2.2 ≠ 0
  · rw [if_pos h1] at h
    simp at h
    omega
  rw [if_neg h1] at h ⊢
  have h1' : (num b 0).2.2 = 0 := by simpa using h1
  obtain ⟨n1, n2, n3⟩ := num_ok b 0 h1' (Nat.zero_le _)
  obtain ⟨_, _, _, _, q5⟩ := put_dec (b.data.toList.drop 0) (num b 0).1 (num b 0).2.1 (show num b 0 = _ from Prod.ext rfl (Prod.ext rfl h1'))
  by_cases h2 : m < (num b 0).1 ∨ 16777216 < (num b 0).1
  · rw [if_pos h2] at h
    simp at h
  rw [if_neg h2]
  refine ⟨(num b 0).1, rfl, ?_, by dsimp only; omega⟩
  dsimp only
  rw [q5, List.drop_zero, Nat.zero_add, List.take_append_drop]

/-- Bytes that are got are put as they were; no text stands twice. -/
theorem pGet6_ok (b : ByteArray) (texts bytes : Int) (h : (pGet6 b texts bytes).1 = 0) : pPut6 (pGet6 b texts bytes).2 = b.data.toList ∧ (pGet6 b texts bytes).2.Nodup ∧ sum6 (pGet6 b texts bytes).2 + (pGet6 b texts bytes).2.length ≤ b.size := by
  rw [pGet6_is] at h ⊢
  by_cases h1 : (pUint b 0 0 (max texts 0)).2.2 ≠ 0
  · rw [if_pos h1] at h
    exact absurd h h1
  rw [if_neg h1] at h ⊢
  obtain ⟨n, u1, u2, u3⟩ := pUint_bytes b (max texts 0) (by simpa using h1)
  rw [u1] at h ⊢
  generalize (pUint b 0 0 (max texts 0)).2.1 = k at *
  rw [show ((n : Int)).toNat = n from rfl] at h ⊢
  have hin := gets6_in b (max bytes 0) n k [] u3 (by simp [sum6])
  have hby := gets6_bytes b (max bytes 0) n k [] u3 (by simp)
  generalize gets6 b (max bytes 0) n k [] = G at *
  obtain ⟨e, L, kk⟩ := G
  unfold after6 at h ⊢
  dsimp only at *
  by_cases h2 : e ≠ 0
  · rw [if_pos h2] at h
    exact absurd h h2
  rw [if_neg h2] at h ⊢
  by_cases h3 : kk < b.size
  · rw [if_pos h3] at h
    simp at h
  rw [if_neg h3]
  dsimp only
  have he : e = 0 := by simpa using h2
  obtain ⟨zs, z1, z2, z3, z4⟩ := hby he
  rw [List.nil_append] at z1 z3
  subst z1
  refine ⟨?_, z3, hin he⟩
  rw [List.drop_of_length_le (i := kk) (by rw [list_size]; omega), List.append_nil] at z4
  unfold pPut6
  rw [z2, ← z4, ← u2]

theorem idx6_nodup (L : List ByteArray) (h : L.Nodup) (i : Nat) (hi : i < L.length) : idx6 L[i] L = i := by
  refine idx6_at _ L i hi rfl (fun j hj hji e => ?_)
  exact (List.pairwise_iff_getElem.1 h) j i hj hi hji e

/-- A text that is put is got. -/
theorem pText_put (b : ByteArray) (k : Nat) (m : Int) (s : ByteArray) (r : List UInt8) (h : b.data.toList.drop k = (put s.size ++ s.data.toList) ++ r) (hs : s.size ≤ 16777216) (hk : k ≤ b.size) :
    (max m 0 < s.size → (pText b k 0 m).2.2 = 19) ∧ (¬ max m 0 < s.size → pText b k 0 m = (s, k + (put s.size).length + s.size, 0)) := by
  have hn : num b k = (s.size, (put s.size).length, 0) := by
    unfold num
    rw [h, List.append_assoc]
    exact dec_put s.size (by omega) _
  have hlen : b.size - k = (put s.size).length + s.size + r.length := by
    have h1 : (b.data.toList.drop k).length = b.size - k := by rw [List.length_drop, list_size]
    rw [← h1, h, List.length_append, List.length_append, list_size]
  unfold pText
  rw [if_neg (by simp), hn]
  dsimp only
  rw [if_neg (by simp)]
  constructor
  · intro q
    rw [if_pos (.inl q)]
  · intro q
    rw [if_neg (by rintro (q' | q'); exact q q'; omega), if_neg (by omega)]
    have he : b.extract (k + (put s.size).length) (k + (put s.size).length + s.size) = s := by
      have h2 := drop_take_ext b (k + (put s.size).length) s.size
      rw [← List.drop_drop, h, List.append_assoc, List.drop_left, List.take_left' (list_size s)] at h2
      generalize b.extract (k + (put s.size).length) (k + (put s.size).length + s.size) = y at *
      cases y; cases s
      simp at h2
      rw [h2]
    rw [he]

theorem gets6_put (b : ByteArray) (M : Int) (zs : List ByteArray) : ∀ (k : Nat) (xs : List ByteArray) (r : List UInt8), k ≤ b.size → b.data.toList.drop k = body6 zs ++ r → (xs ++ zs).Nodup → (∀ s ∈ zs, right5 s = true ∧ s.size ≤ 16777216) → (sum6 xs : Int) ≤ M →
    (((sum6 (xs ++ zs) : Nat) : Int) ≤ M → gets6 b M zs.length k xs = (0, xs ++ zs, k + (body6 zs).length)) ∧ (M < ((sum6 (xs ++ zs) : Nat) : Int) → (gets6 b M zs.length k xs).1 = 19) := by
  induction zs with
  | nil =>
    intro k xs r hk hb hn hr hM
    constructor
    · intro _
      simp [gets6, body6]
    · intro h
      rw [List.append_nil] at h
      omega
  | cons s zs ih =>
    intro k xs r hk hb hn hr hM
    obtain ⟨hr1, hr2⟩ := hr s (by simp)
    have hb' : b.data.toList.drop k = (put s.size ++ s.data.toList) ++ (body6 zs ++ r) := by rw [hb]; simp [body6]
    obtain ⟨p1, p2⟩ := pText_put b k (M - (sum6 xs : Nat)) s _ hb' hr2 hk
    have hlen : b.size - k = (put s.size).length + s.size + (body6 zs ++ r).length := by
      have h1 : (b.data.toList.drop k).length = b.size - k := by rw [List.length_drop, list_size]
      rw [← h1, hb', List.length_append, List.length_append, list_size]
    have hsum : sum6 (xs ++ [s]) = sum6 xs + s.size := by rw [sum6_append]; simp [sum6]
    have hall : sum6 (xs ++ s :: zs) = sum6 xs + s.size + sum6 zs := by rw [sum6_append]; simp [sum6]; omega
    rw [List.length_cons, gets6_step b M zs.length k xs _ rfl]
    by_cases hg : max (M - (sum6 xs : Nat)) 0 < (s.size : Int)
    · have h19 := p1 hg
      rw [if_pos (by omega), h19]
      exact ⟨fun h => by omega, fun _ => rfl⟩
    · have hp := p2 hg
      rw [hp]
      dsimp only
      rw [if_neg (by simp), if_neg (by rw [hr1]; simp)]
      have hnm : ¬ idx6 s xs < xs.length := by
        rw [idx6_mem]
        rw [List.nodup_append] at hn
        intro q
        exact hn.2.2 s q s (by simp) rfl
      rw [if_neg hnm]
      have hd : b.data.toList.drop (k + (put s.size).length + s.size) = body6 zs ++ r := by
        rw [Nat.add_assoc, ← List.drop_drop, hb']
        exact List.drop_left' (by rw [List.length_append, list_size])
      have hih := ih (k + (put s.size).length + s.size) (xs ++ [s]) r (by omega) hd (by simpa using hn) (fun t ht => hr t (by simp [ht])) (by rw [hsum]; omega)
      rw [show (xs ++ [s]) ++ zs = xs ++ s :: zs by simp] at hih
      refine ⟨fun h => ?_, fun h => hih.2 h⟩
      rw [hih.1 h]
      have : (body6 (s :: zs)).length = (put s.size).length + s.size + (body6 zs).length := by simp only [body6, List.flatMap_cons, List.length_append, list_size]
      rw [this]
      simp only [Nat.add_assoc]

theorem pUint_put (b : ByteArray) (m : Int) (n : Nat) (r : List UInt8) (h : b.data.toList = put n ++ r) (hn : n ≤ 16777216) :
    (m < n → (pUint b 0 0 m).2.2 = 19) ∧ (¬ m < n → pUint b 0 0 m = ((n : Int), (put n).length, 0)) := by
  have hnum : num b 0 = (n, (put n).length, 0) := by
    unfold num
    rw [List.drop_zero, h]
    exact dec_put n (by omega) _
  unfold pUint
  rw [if_neg (by simp), hnum]
  dsimp only
  rw [if_neg (by simp)]
  constructor
  · intro q
    rw [if_pos (.inl q)]
  · intro q
    rw [if_neg (by rintro (q' | q'); exact q q'; omega), Nat.zero_add]

/-- What is put is got, with just so many texts and bytes allowed; with fewer the limit is told. -/
theorem pGet6_put (L : List ByteArray) (b : ByteArray) (hb : b.data.toList = pPut6 L) (hn : L.Nodup) (hr : ∀ s ∈ L, right5 s = true ∧ s.size ≤ 16777216) (hl : L.length ≤ 16777216) :
    pGet6 b (L.length : Nat) (sum6 L : Nat) = (0, L) ∧ (L.length ≠ 0 → (pGet6 b ((L.length : Int) - 1) (sum6 L : Nat)).1 = 19) ∧ (sum6 L ≠ 0 → (pGet6 b (L.length : Nat) ((sum6 L : Int) - 1)).1 = 19) := by
  have hd : b.data.toList.drop (put L.length).length = body6 L ++ [] := by
    rw [hb, List.append_nil]
    exact List.drop_left
  have hsz : b.size = (put L.length).length + (body6 L).length := by
    rw [← list_size, hb]
    simp [pPut6]
  refine ⟨?_, fun h0 => ?_, fun h0 => ?_⟩
  · rw [pGet6_is, (pUint_put b _ L.length (body6 L) hb hl).2 (by omega)]
    dsimp only
    rw [if_neg (by simp), show ((L.length : Int)).toNat = L.length from rfl, show max ((sum6 L : Nat) : Int) 0 = (sum6 L : Nat) by omega, (gets6_put b _ L _ [] [] (by omega) hd (by simpa using hn) hr (by simp [sum6])).1 (by simp)]
    unfold after6
    rw [if_neg (by simp), if_neg (by dsimp only; omega)]
    simp
  · rw [pGet6_is, if_pos (by rw [(pUint_put b _ L.length (body6 L) hb hl).1 (by omega)]; decide)]
    exact (pUint_put b _ L.length (body6 L) hb hl).1 (by omega)
  · rw [pGet6_is, (pUint_put b _ L.length (body6 L) hb hl).2 (by omega)]
    dsimp only
    have h19 := (gets6_put b ((sum6 L : Int) - 1) L _ [] [] (by omega) hd (by simpa using hn) hr (by simp [sum6] at h0 ⊢; omega)).2 (by simp; omega)
    rw [if_neg (by simp), show ((L.length : Int)).toNat = L.length from rfl, show max ((sum6 L : Int) - 1) 0 = (sum6 L : Int) - 1 by omega]
    unfold after6
    rw [h19, if_pos (by decide)]

theorem pIntern_nodup (L : List ByteArray) (s : ByteArray) (h : L.Nodup) : (pIntern L s).Nodup := by
  unfold pIntern
  split
  · exact h
  · rename_i q
    rw [idx6_mem] at q
    rw [List.nodup_append]
    refine ⟨h, by simp, ?_⟩
    intro a ha c hc
    simp at hc
    subst hc
    exact fun e => q (e ▸ ha)

end Go.Proofs.Ytfblmibdcodipaa
