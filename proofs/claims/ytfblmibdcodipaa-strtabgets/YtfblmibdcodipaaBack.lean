/- The plain mathematics behind the laws on numbers by bytes: what is put is got, what is got is put as it was, longer numbers have no fewer bytes, and no number's bytes begin another one's. -/
import Derived.Test.YtfblmibdcodipaaMath
namespace Go.Proofs.Ytfblmibdcodipaa

theorem dec_enc (f : Nat) : ∀ (k X m : Nat) (r : List UInt8), f + k = 9 → m < 2 * 128 ^ f → (k = 0 ∨ 0 < m) → dec k X (enc f m ++ r) = (X + 128 ^ k * m, k + (enc f m).length, 0) := by
  induction f with
  | zero =>
    intro k X m r hk hm h0
    have hm1 : m = 1 := by simp at hm; omega
    have hk9 : k = 9 := by omega
    subst hm1
    subst hk9
    rw [enc_small 0 1 (by omega)]
    show dec 9 X ((1 : UInt8) :: r) = _
    rw [dec_last 9 X 1 r (by decide) (by decide) (by decide)]
    simp
  | succ f ih =>
    intro k X m r hk hm h0
    by_cases hlt : m < 128
    · rw [enc_small _ m hlt]
      have hc : (UInt8.ofNat m).toNat = m := by simp; omega
      show dec k X (UInt8.ofNat m :: r) = _
      rw [dec_last k X _ r (by omega) (by omega) (by omega), hc, Nat.mod_eq_of_lt hlt]
      simp
    · have hm2 : m / 128 < 2 * 128 ^ f := by rw [Nat.pow_succ] at hm; omega
      rw [enc_big f m (by omega)]
      have hc : (UInt8.ofNat (128 + m % 128)).toNat = 128 + m % 128 := by simp; omega
      show dec k X (UInt8.ofNat (128 + m % 128) :: (enc f (m / 128) ++ r)) = _
      rw [dec_more k X _ _ (by omega) (by omega), ih (k + 1) _ (m / 128) r (by omega) hm2 (.inr (by omega)), hc]
      have e1 : (128 + m % 128) % 128 = m % 128 := by omega
      have e2 : 128 ^ (k + 1) * (m / 128) = 128 ^ k * (128 * (m / 128)) := by rw [Nat.pow_succ, Nat.mul_assoc]
      have e3 : 128 ^ k * (m % 128) + 128 ^ k * (128 * (m / 128)) = 128 ^ k * m := by
        rw [← Nat.mul_add]; congr 1; omega
      rw [e1, e2, Nat.add_assoc, e3]
      simp only [List.length_cons, Prod.mk.injEq, true_and, and_true]
      omega

/-- What is put is got. -/
theorem dec_put (n : Nat) (h : n < 18446744073709551616) (r : List UInt8) : dec 0 0 (put n ++ r) = (n, (put n).length, 0) := by
  have := dec_enc 9 0 0 n r rfl (by omega) (.inl rfl)
  simpa [put] using this

theorem enc_dec (l : List UInt8) : ∀ (k X n m : Nat), k ≤ 9 → dec k X l = (n, m, 0) →
    ∃ q, n = X + 128 ^ k * q ∧ q < 2 * 128 ^ (9 - k) ∧ (k = 0 ∨ 0 < q) ∧ k < m ∧ m ≤ 10 ∧ m - k ≤ l.length ∧ enc (9 - k) q = l.take (m - k) := by
  induction l with
  | nil => intro k X n m hk h; simp [dec] at h
  | cons c r ih =>
    intro k X n m hk h
    have hc256 : c.toNat < 256 := c.toNat_lt
    by_cases h1 : k = 9 ∧ 1 < c.toNat
    · rw [dec, if_pos h1] at h; simp at h
    by_cases h2 : c.toNat = 0 ∧ 0 < k
    · rw [dec, if_neg h1, if_pos h2] at h; simp at h
    by_cases h3 : c.toNat < 128
    · rw [dec_last k X c r h1 h2 h3] at h
      simp only [Prod.mk.injEq, and_true] at h
      obtain ⟨hn, hm⟩ := h
      rw [Nat.mod_eq_of_lt h3] at hn
      refine ⟨c.toNat, hn.symm, ?_, by omega, by omega, by omega, by simp; omega, ?_⟩
      · by_cases h9 : k = 9
        · subst h9; simp; omega
        · obtain ⟨j, hj⟩ : ∃ j, 9 - k = j + 1 := ⟨8 - k, by omega⟩
          rw [hj, Nat.pow_succ]
          have : 0 < 128 ^ j := Nat.pow_pos (by omega)
          omega
      · rw [enc_small _ _ h3, ← hm]
        simp
    · rw [dec_more k X c r (by omega) (by omega)] at h
      obtain ⟨q, hn, hq, h0, hkm, hm10, hl, he⟩ := ih (k + 1) _ n m (by omega) h
      have hq0 : 0 < q := by omega
      obtain ⟨j, hj⟩ : ∃ j, 9 - k = j + 1 := ⟨8 - k, by omega⟩
      have hj2 : 9 - (k + 1) = j := by omega
      rw [hj2] at hq he
      refine ⟨c.toNat % 128 + 128 * q, ?_, ?_, by omega, by omega, hm10, ?_, ?_⟩
      · rw [hn, Nat.pow_succ, Nat.mul_add, Nat.mul_assoc]; omega
      · rw [hj, Nat.pow_succ]; omega
      · simp; omega
      · rw [hj, enc_big j _ (by omega)]
        have e1 : (c.toNat % 128 + 128 * q) % 128 = c.toNat % 128 := by omega
        have e2 : (c.toNat % 128 + 128 * q) / 128 = q := by omega
        have e3 : 128 + c.toNat % 128 = c.toNat := by omega
        rw [e1, e2, e3, he]
        obtain ⟨i, hi⟩ : ∃ i, m - k = i + 1 := ⟨m - (k + 1), by omega⟩
        have hi2 : m - (k + 1) = i := by omega
        rw [hi, hi2]
        simp

/-- With an error the number and the count are 0. -/
theorem dec_bad (l : List UInt8) : ∀ (k X n m e : Nat), dec k X l = (n, m, e) → e ≠ 0 → n = 0 ∧ m = 0 := by
  induction l with
  | nil => intro k X n m e h he; simp only [dec, Prod.mk.injEq] at h; omega
  | cons c r ih =>
    intro k X n m e h he
    rw [dec] at h
    by_cases h1 : k = 9 ∧ 1 < c.toNat
    · rw [if_pos h1] at h; simp only [Prod.mk.injEq] at h; omega
    by_cases h2 : c.toNat = 0 ∧ 0 < k
    · rw [if_neg h1, if_pos h2] at h; simp only [Prod.mk.injEq] at h; omega
    by_cases h3 : c.toNat < 128
    · rw [if_neg h1, if_neg h2, if_pos h3] at h; simp only [Prod.mk.injEq] at h; omega
    · rw [if_neg h1, if_neg h2, if_neg h3] at h; exact ih _ _ _ _ _ h he

/-- What is got is put as it was. -/
theorem put_dec (l : List UInt8) (n m : Nat) (h : dec 0 0 l = (n, m, 0)) : n < 18446744073709551616 ∧ 1 ≤ m ∧ m ≤ 10 ∧ m ≤ l.length ∧ put n = l.take m := by
  obtain ⟨q, hn, hq, _, h1, h2, h3, h4⟩ := enc_dec l 0 0 n m (by omega) h
  have hnq : n = q := by simpa using hn
  subst hnq
  exact ⟨by simpa using hq, by omega, h2, by simpa using h3, by simpa [put] using h4⟩

theorem enc_len_mono (f : Nat) : ∀ (a b : Nat), a ≤ b → (enc f a).length ≤ (enc f b).length := by
  induction f with
  | zero => intro a b _; simp [enc]
  | succ f ih =>
    intro a b h
    by_cases ha : a < 128
    · rw [enc_small _ a ha]; exact enc_length_pos _ _
    · rw [enc_big f a (by omega), enc_big f b (by omega)]
      simp only [List.length_cons]
      have := ih (a / 128) (b / 128) (by omega)
      omega

/-- Greater numbers never have fewer bytes. -/
theorem put_mono (a b : Nat) (h : a ≤ b) : (put a).length ≤ (put b).length := enc_len_mono 9 a b h

/-- No number's bytes begin another one's. -/
theorem put_prefix (a b : Nat) (ha : a < 18446744073709551616) (hb : b < 18446744073709551616) (h : put a = (put b).take (put a).length) : a = b := by
  have h1 := dec_put a ha ((put b).drop (put a).length)
  have h2 : put a ++ (put b).drop (put a).length = put b := by
    conv => lhs; lhs; rw [h]
    exact List.take_append_drop _ _
  rw [h2] at h1
  have h3 := dec_put b hb []
  rw [List.append_nil, h1] at h3
  simp only [Prod.mk.injEq] at h3
  exact h3.1

/-- The laws' own test: up to the shorter one's length the bytes are the same just if the numbers are. -/
theorem put_same (a b : Nat) (ha : a < 18446744073709551616) (hb : b < 18446744073709551616) :
    (put a).take (min (put a).length (put b).length) = (put b).take (min (put a).length (put b).length) ↔ a = b := by
  constructor
  · intro h
    by_cases hl : (put a).length ≤ (put b).length
    · rw [Nat.min_eq_left hl, List.take_length] at h
      exact put_prefix a b ha hb h
    · rw [Nat.min_eq_right (by omega), List.take_length] at h
      exact (put_prefix b a hb ha h.symm).symm
  · intro h; rw [h]

end Go.Proofs.Ytfblmibdcodipaa
