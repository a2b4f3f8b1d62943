/- The plain mathematics of changed bits: natural numbers and lists of bytes, no program in sight. -/
import Derived.Test.YtipljconbnaffaaCrcMath
namespace Go.Proofs.Ytipljconbnaffaa

theorem and_up (k c m : Nat) (h : c < 2 ^ k) : (2 ^ k * m) &&& c = 0 := by
  apply Nat.eq_of_testBit_eq
  intro i
  rw [Nat.testBit_and, Nat.zero_testBit, Nat.testBit_two_pow_mul]
  by_cases hi : k ≤ i
  · rw [Nat.testBit_lt_two_pow (x := c) (Nat.lt_of_lt_of_le h (Nat.pow_le_pow_right (by decide) hi))]
    simp
  · simp [hi]

theorem up_xor (k c m : Nat) (h : c < 2 ^ k) : c + 2 ^ k * m = c ^^^ (2 ^ k * m) := by
  have h1 := Nat.two_pow_add_eq_or_of_lt (i := k) (b := c) h m
  have h3 : (2 ^ k * m) ^^^ c = (2 ^ k * m) ||| c := by
    apply Nat.eq_of_testBit_eq
    intro i
    have h4 := congrArg (fun z => z.testBit i) (and_up k c m h)
    simp only [Nat.testBit_and, Nat.zero_testBit] at h4
    rw [Nat.testBit_xor, Nat.testBit_or]
    cases ha : (2 ^ k * m).testBit i <;> cases hb : c.testBit i <;> simp_all
  rw [Nat.xor_comm, h3, Nat.add_comm]
  exact h1

theorem mul_xor (k a b : Nat) : 2 ^ k * (a ^^^ b) = (2 ^ k * a) ^^^ (2 ^ k * b) := by
  apply Nat.eq_of_testBit_eq
  intro i
  simp only [Nat.testBit_xor, Nat.testBit_two_pow_mul]
  cases decide (i ≥ k) <;> simp

/-- A bit turned in a byte is a bit turned in the number of all. -/
theorem num_set (l : List UInt8) (j r : Nat) (hj : j < l.length) (hr : r < 8) : lnum (l.set j (l[j] ^^^ UInt8.ofNat (2 ^ r))) = lnum l ^^^ 2 ^ (8 * j + r) := by
  induction l generalizing j with
  | nil => simp at hj
  | cons c s ih =>
    have hp : 2 ^ r < 256 := by
      have h : 2 ^ r ≤ 2 ^ 7 := Nat.pow_le_pow_right (by decide) (by omega)
      omega
    have ho : (UInt8.ofNat (2 ^ r)).toNat = 2 ^ r := by simp; omega
    cases j with
    | zero =>
      simp only [List.set_cons_zero, List.getElem_cons_zero, lnum]
      rw [UInt8.toNat_xor, ho, add_xor _ _ (Nat.xor_lt_two_pow (n := 8) c.toNat_lt hp), add_xor _ _ c.toNat_lt, Nat.mul_zero, Nat.zero_add]
      rw [Nat.xor_assoc, Nat.xor_assoc, Nat.xor_comm (2 ^ r)]
    | succ j =>
      simp only [List.set_cons_succ, List.getElem_cons_succ, lnum]
      rw [ih j (by simpa using hj), add_xor _ _ c.toNat_lt, add_xor _ _ c.toNat_lt, show (256 : Nat) = 2 ^ 8 from rfl, mul_xor, ← Nat.pow_add, show 8 + (8 * j + r) = 8 * (j + 1) + r by omega, Nat.xor_assoc]

/-- What is changed by the first k bits of a mask m, put to the bits from a on, of n bits in all. -/
def diff (a n m k : Nat) : Nat := 2 ^ a * (m % 2 ^ (min k (n - a)))

theorem diff_zero (a n m : Nat) : diff a n m 0 = 0 := by simp [diff, Nat.mod_one]

theorem diff_out (a n m k : Nat) (h : n ≤ a + k) : diff a n m (k + 1) = diff a n m k := by
  unfold diff
  rw [Nat.min_eq_right (by omega), Nat.min_eq_right (by omega)]

theorem diff_even (a n m k : Nat) (h : m / 2 ^ k % 2 = 0) : diff a n m (k + 1) = diff a n m k := by
  by_cases hk : n ≤ a + k
  · exact diff_out a n m k hk
  · unfold diff
    rw [Nat.min_eq_left (by omega), Nat.min_eq_left (by omega), Nat.mod_pow_succ, h, Nat.mul_zero, Nat.add_zero]

theorem diff_odd (a n m k : Nat) (h : m / 2 ^ k % 2 = 1) (hk : a + k < n) : diff a n m (k + 1) = diff a n m k ^^^ 2 ^ (a + k) := by
  unfold diff
  rw [Nat.min_eq_left (by omega), Nat.min_eq_left (by omega), Nat.mod_pow_succ, h, up_xor _ _ _ (Nat.mod_lt _ (Nat.two_pow_pos k)), mul_xor, Nat.mul_one, ← Nat.pow_add]

/-- The sums of what differs by a mask of 32 bits are alike just if nothing differs. -/
theorem crc_diff (l c : List UInt8) (a m : Nat) (hl : c.length = l.length) (ha : a ≤ 8 * l.length) (hm : m < 4294967296) (hd : lnum l ^^^ lnum c = diff a (8 * l.length) m 32) : crc c = crc l ↔ c = l := by
  constructor
  · intro h
    refine (crc_burst l c a (m % 2 ^ (min 32 (8 * l.length - a))) hl.symm ha ?_ hd h.symm).symm
    exact Nat.lt_of_le_of_lt (Nat.mod_le _ _) hm
  · intro h; rw [h]

end Go.Proofs.Ytipljconbnaffaa
