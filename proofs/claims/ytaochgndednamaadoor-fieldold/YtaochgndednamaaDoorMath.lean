/- The plain mathematics of numbers by bytes: lists of bytes and natural numbers, no program in sight. -/
namespace Go.Proofs.YtaochgndednamaaDoor

/-- A number's bytes, with fuel for at most so many bytes more than one. -/
def enc : Nat → Nat → List UInt8
  | 0, n => [UInt8.ofNat n]
  | f + 1, n => if n < 128 then [UInt8.ofNat n] else UInt8.ofNat (128 + n % 128) :: enc f (n / 128)

def put (n : Nat) : List UInt8 := enc 9 n

theorem enc_small (f n : Nat) (h : n < 128) : enc f n = [UInt8.ofNat n] := by
  cases f with
  | zero => rfl
  | succ f => simp [enc, h]

theorem enc_big (f n : Nat) (h : 128 ≤ n) : enc (f + 1) n = UInt8.ofNat (128 + n % 128) :: enc f (n / 128) := by
  simp [enc, Nat.not_lt.2 h]

theorem enc_length_pos (f n : Nat) : 0 < (enc f n).length := by
  cases f with
  | zero => simp [enc]
  | succ f => unfold enc; split <;> simp

theorem enc_length_le (f n : Nat) : (enc f n).length ≤ f + 1 := by
  induction f generalizing n with
  | zero => simp [enc]
  | succ f ih => unfold enc; split <;> simp; exact ih _

theorem put_length (n : Nat) : 0 < (put n).length ∧ (put n).length ≤ 10 := ⟨enc_length_pos 9 n, enc_length_le 9 n⟩

theorem enc_round (f m : Nat) (h : 128 ≤ m) (hm : m < 2 * 128 ^ f) : ∃ g, f = g + 1 ∧ m / 128 < 2 * 128 ^ g ∧ enc f m = UInt8.ofNat (128 + m % 128) :: enc g (m / 128) := by
  cases f with
  | zero => simp at hm; omega
  | succ g =>
    refine ⟨g, rfl, ?_, enc_big g m h⟩
    rw [Nat.pow_succ] at hm
    omega

/-- What stands at the front of bytes: the number, how many bytes it takes, the error's number (0: none, 2: cut, 3: long). 'i' bytes have been read, which make 'a'. -/
def dec (i a : Nat) : List UInt8 → Nat × Nat × Nat
  | [] => (0, 0, 2)
  | c :: r =>
    if i = 9 ∧ 1 < c.toNat then (0, 0, 3)
    else if c.toNat = 0 ∧ 0 < i then (0, 0, 3)
    else if c.toNat < 128 then (a + 128 ^ i * (c.toNat % 128), i + 1, 0)
    else dec (i + 1) (a + 128 ^ i * (c.toNat % 128)) r

theorem dec_nil (k X : Nat) : dec k X [] = (0, 0, 2) := rfl
theorem dec_nine (k X : Nat) (c : UInt8) (r : List UInt8) (hk : k = 9) (hc : 1 < c.toNat) : dec k X (c :: r) = (0, 0, 3) := by
  rw [dec, if_pos ⟨hk, hc⟩]
theorem dec_zero (k X : Nat) (c : UInt8) (r : List UInt8) (hk : 0 < k) (hc : c.toNat = 0) : dec k X (c :: r) = (0, 0, 3) := by
  rw [dec, if_neg (by omega), if_pos ⟨hc, hk⟩]
theorem dec_last (k X : Nat) (c : UInt8) (r : List UInt8) (h1 : ¬ (k = 9 ∧ 1 < c.toNat)) (h2 : ¬ (c.toNat = 0 ∧ 0 < k)) (hc : c.toNat < 128) : dec k X (c :: r) = (X + 128 ^ k * (c.toNat % 128), k + 1, 0) := by
  rw [dec, if_neg h1, if_neg h2, if_pos hc]
theorem dec_more (k X : Nat) (c : UInt8) (r : List UInt8) (h1 : ¬ k = 9) (hc : 128 ≤ c.toNat) : dec k X (c :: r) = dec (k + 1) (X + 128 ^ k * (c.toNat % 128)) r := by
  rw [dec, if_neg (by omega), if_neg (by omega), if_neg (by omega)]

theorem pow_step (k X c : Nat) (h : X < 128 ^ k) : X + 128 ^ k * (c % 128) < 128 ^ (k + 1) := by
  have h1 : c % 128 ≤ 127 := by omega
  have h2 : 128 ^ k * (c % 128) ≤ 128 ^ k * 127 := Nat.mul_le_mul_left _ h1
  rw [Nat.pow_succ]
  omega

theorem drop_at (s : ByteArray) (k : Nat) (h : k < s.size) : s.data.toList.drop k = s[k] :: s.data.toList.drop (k + 1) := by
  rw [List.drop_eq_getElem_cons (by simpa using h)]
  rfl

theorem drop_end (s : ByteArray) (k : Nat) (h : s.size ≤ k) : s.data.toList.drop k = [] := List.drop_eq_nil_of_le (by simpa using h)

/-- The answer of Get out of what stands at the place: with an error 0, 0. -/
def fin (a : Int) (d : Nat × Nat × Nat) : Int × Int × Int := if d.2.2 = 0 then ((d.1 : Int), a + (d.2.1 : Int), 0) else (0, 0, (d.2.2 : Int))

/-- The answer of Get. -/
def got (b : List UInt8) (a : Int) : Int × Int × Int := if a < 0 ∨ (b.length : Int) < a then (0, 0, 1) else fin a (dec 0 0 (b.drop a.toNat))

end Go.Proofs.YtaochgndednamaaDoor
