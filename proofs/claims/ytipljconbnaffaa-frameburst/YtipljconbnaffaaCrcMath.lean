/- The plain mathematics of check sums: natural numbers and lists of bytes, no program in sight. -/
namespace Go.Proofs.Ytipljconbnaffaa

/-- A step of the register, of any width. -/
def hlv (x : Nat) : Nat := if x % 2 = 1 then (x / 2) ^^^ 3988292384 else x / 2

/-- So many steps. -/
def hlvs : Nat → Nat → Nat
  | 0, x => x
  | k + 1, x => hlvs k (hlv x)

theorem hlvs_snoc (k x : Nat) : hlvs (k + 1) x = hlv (hlvs k x) := by
  induction k generalizing x with
  | zero => rfl
  | succ k ih => rw [hlvs, ih]; rfl

theorem hlvs_add (k m x : Nat) : hlvs (k + m) x = hlvs m (hlvs k x) := by
  induction k generalizing x with
  | zero => simp [hlvs]
  | succ k ih => rw [show k + 1 + m = (k + m) + 1 by omega, hlvs, ih]; rfl

theorem xor_half (a b : Nat) : (a ^^^ b) / 2 = a / 2 ^^^ b / 2 := by
  apply Nat.eq_of_testBit_eq
  intro i
  rw [Nat.testBit_div_two, Nat.testBit_xor, Nat.testBit_xor, Nat.testBit_div_two, Nat.testBit_div_two]

theorem xor_odd (a b : Nat) : (a ^^^ b) % 2 = (a % 2 + b % 2) % 2 := by
  have h := Nat.testBit_xor a b 0
  simp only [Nat.testBit_zero] at h
  rcases Nat.mod_two_eq_zero_or_one a with ha | ha <;> rcases Nat.mod_two_eq_zero_or_one b with hb | hb <;> rcases Nat.mod_two_eq_zero_or_one (a ^^^ b) with hc | hc <;> simp_all

/-- Steps and exclusive or go in any order. -/
theorem hlv_xor (a b : Nat) : hlv (a ^^^ b) = hlv a ^^^ hlv b := by
  unfold hlv
  rw [xor_half, xor_odd]
  rcases Nat.mod_two_eq_zero_or_one a with ha | ha <;> rcases Nat.mod_two_eq_zero_or_one b with hb | hb <;> simp only [ha, hb] <;> simp
  · rw [Nat.xor_assoc]
  · rw [Nat.xor_assoc, Nat.xor_assoc, Nat.xor_comm 3988292384 (b / 2)]
  · rw [Nat.xor_assoc, ← Nat.xor_assoc 3988292384, Nat.xor_comm 3988292384 (b / 2), Nat.xor_assoc, Nat.xor_self, Nat.xor_zero]

theorem hlvs_xor (k a b : Nat) : hlvs k (a ^^^ b) = hlvs k a ^^^ hlvs k b := by
  induction k generalizing a b with
  | zero => rfl
  | succ k ih => rw [hlvs, hlv_xor, ih]; rfl

theorem hlvs_zero (k : Nat) : hlvs k 0 = 0 := by
  induction k with
  | zero => rfl
  | succ k ih => rw [hlvs]; exact ih

/-- What stands above comes down. -/
theorem hlvs_up (k x : Nat) : hlvs k (2 ^ k * x) = x := by
  induction k with
  | zero => simp [hlvs]
  | succ k ih =>
    rw [hlvs]
    have h : hlv (2 ^ (k + 1) * x) = 2 ^ k * x := by
      have e : 2 ^ (k + 1) * x = 2 * (2 ^ k * x) := by rw [Nat.pow_succ, Nat.mul_comm (2 ^ k) 2, Nat.mul_assoc]
      rw [e]
      unfold hlv
      rw [if_neg (by omega)]
      omega
    rw [h, ih]

theorem hlv_lt (x : Nat) (h : x < 4294967296) : hlv x < 4294967296 := by
  unfold hlv
  split
  · exact Nat.xor_lt_two_pow (n := 32) (by show _ < 4294967296; omega) (by decide)
  · omega

theorem hlvs_lt (k x : Nat) (h : x < 4294967296) : hlvs k x < 4294967296 := by
  induction k generalizing x with
  | zero => exact h
  | succ k ih => exact ih _ (hlv_lt x h)

/-- Of a register of 32 bits only 0 becomes 0. -/
theorem hlv_pos (x : Nat) (h : x < 4294967296) (h0 : hlv x = 0) : x = 0 := by
  unfold hlv at h0
  split at h0
  · exfalso
    have e : x / 2 = 3988292384 := by
      have h1 : (x / 2 ^^^ 3988292384) ^^^ 3988292384 = 0 ^^^ 3988292384 := by rw [h0]
      rw [Nat.xor_assoc, Nat.xor_self, Nat.xor_zero, Nat.zero_xor] at h1
      exact h1
    omega
  · omega

theorem hlvs_pos (k x : Nat) (h : x < 4294967296) (h0 : hlvs k x = 0) : x = 0 := by
  induction k generalizing x with
  | zero => exact h0
  | succ k ih => exact hlv_pos x h (ih _ (hlv_lt x h) h0)

/-- The register behind bytes. -/
def reg (x : Nat) : List UInt8 → Nat
  | [] => x
  | c :: r => reg (hlvs 8 (x ^^^ c.toNat)) r

theorem reg_append (x : Nat) (a b : List UInt8) : reg x (a ++ b) = reg (reg x a) b := by
  induction a generalizing x with
  | nil => rfl
  | cons c r ih => exact ih _

theorem reg_snoc (x : Nat) (a : List UInt8) (c : UInt8) : reg x (a ++ [c]) = hlvs 8 (reg x a ^^^ c.toNat) := by
  rw [reg_append]; rfl

theorem reg_lt (x : Nat) (l : List UInt8) (h : x < 4294967296) : reg x l < 4294967296 := by
  induction l generalizing x with
  | nil => exact h
  | cons c r ih => exact ih _ (hlvs_lt _ _ (Nat.xor_lt_two_pow (n := 32) h (by have := c.toNat_lt; show _ < 4294967296; omega)))

/-- The sum of bytes. -/
def crc (l : List UInt8) : Nat := 4294967295 - reg 4294967295 l

theorem crc_lt (l : List UInt8) : crc l < 4294967296 := by unfold crc; omega

/-- Bytes as one number, the first ones lowest. -/
def lnum : List UInt8 → Nat
  | [] => 0
  | c :: r => c.toNat + 256 * lnum r

theorem add_xor (c m : Nat) (h : c < 256) : c + 256 * m = c ^^^ (256 * m) := by
  have h1 := Nat.two_pow_add_eq_or_of_lt (i := 8) (b := c) h m
  have h2 : (256 * m) &&& c = 0 := by
    apply Nat.eq_of_testBit_eq
    intro i
    rw [Nat.testBit_and, Nat.zero_testBit, show (256 : Nat) = 2 ^ 8 from rfl, Nat.testBit_two_pow_mul]
    by_cases hi : 8 ≤ i
    · rw [Nat.testBit_lt_two_pow (x := c) (Nat.lt_of_lt_of_le h (show 2 ^ 8 ≤ 2 ^ i from Nat.pow_le_pow_right (by decide) hi))]
      simp
    · simp [hi]
  have h3 : (256 * m) ^^^ c = (256 * m) ||| c := by
    apply Nat.eq_of_testBit_eq
    intro i
    have h4 := congrArg (fun z => z.testBit i) h2
    simp only [Nat.testBit_and, Nat.zero_testBit] at h4
    rw [Nat.testBit_xor, Nat.testBit_or]
    cases ha : (256 * m).testBit i <;> cases hb : c.testBit i <;> simp_all
  rw [Nat.xor_comm, h3]
  show c + 2 ^ 8 * m = _
  rw [Nat.add_comm]
  exact h1

/-- The register behind bytes: all their steps, done to all of them as one number. -/
theorem reg_num (x : Nat) (l : List UInt8) : reg x l = hlvs (8 * l.length) (x ^^^ lnum l) := by
  induction l generalizing x with
  | nil =>
    show x = hlvs 0 (x ^^^ 0)
    rw [Nat.xor_zero]; rfl
  | cons c r ih =>
    have e : reg x (c :: r) = reg (hlvs 8 (x ^^^ c.toNat)) r := rfl
    rw [e, ih, lnum, add_xor _ _ c.toNat_lt, show 8 * (c :: r).length = 8 + 8 * r.length by simp; omega, hlvs_add, ← Nat.xor_assoc, hlvs_xor 8 (x ^^^ c.toNat), show 256 * lnum r = 2 ^ 8 * lnum r from rfl, hlvs_up]

theorem num_lt (l : List UInt8) : lnum l < 2 ^ (8 * l.length) := by
  induction l with
  | nil => simp [lnum]
  | cons c r ih =>
    have e : 2 ^ (8 * (c :: r).length) = 256 * 2 ^ (8 * r.length) := by
      rw [show 8 * (c :: r).length = 8 * r.length + 8 by simp; omega, Nat.pow_add, Nat.mul_comm]
    have := c.toNat_lt
    rw [lnum, e]
    omega

theorem num_inj (a b : List UInt8) (hl : a.length = b.length) (h : lnum a = lnum b) : a = b := by
  induction a generalizing b with
  | nil => cases b with
    | nil => rfl
    | cons => simp at hl
  | cons c r ih => cases b with
    | nil => simp at hl
    | cons d s =>
      have h1 := c.toNat_lt
      have h2 := d.toNat_lt
      simp only [lnum] at h
      have h3 : c.toNat = d.toNat := by omega
      rw [UInt8.toNat_inj.1 h3, ih s (by simpa using hl) (by omega)]

/-- Two texts of one length, by exclusive or. -/
def xorl (a b : List UInt8) : List UInt8 := List.zipWith (· ^^^ ·) a b

theorem num_xor (a b : List UInt8) (hl : a.length = b.length) : lnum (xorl a b) = lnum a ^^^ lnum b := by
  induction a generalizing b with
  | nil => cases b with
    | nil => rfl
    | cons => simp at hl
  | cons c r ih => cases b with
    | nil => simp at hl
    | cons d s =>
      have e := ih s (by simpa using hl)
      show (c ^^^ d).toNat + 256 * lnum (xorl r s) = _
      rw [e, lnum, lnum, UInt8.toNat_xor, add_xor _ _ (Nat.xor_lt_two_pow (n := 8) c.toNat_lt d.toNat_lt), add_xor _ _ c.toNat_lt, add_xor _ _ d.toNat_lt]
      have e2 : 256 * (lnum r ^^^ lnum s) = (256 * lnum r) ^^^ (256 * lnum s) := by
        show 2 ^ 8 * _ = 2 ^ 8 * _ ^^^ 2 ^ 8 * _
        apply Nat.eq_of_testBit_eq
        intro i
        simp only [Nat.testBit_xor, Nat.testBit_two_pow_mul]
        cases decide (i ≥ 8) <;> simp
      rw [e2]
      simp only [Nat.xor_assoc]
      congr 1
      rw [← Nat.xor_assoc, ← Nat.xor_assoc, Nat.xor_comm d.toNat]

theorem xorl_length (a b : List UInt8) (hl : a.length = b.length) : (xorl a b).length = a.length := by
  unfold xorl; rw [List.length_zipWith]; omega

/-- All bits turned. -/
theorem turn_xor (x : Nat) (h : x < 4294967296) : 4294967295 - x = 4294967295 ^^^ x := by
  apply Nat.eq_of_testBit_eq
  intro i
  have e1 := Nat.testBit_two_pow_sub_succ (n := 32) (x := x) h i
  have e2 := Nat.testBit_two_pow_sub_one 32 i
  rw [show (4294967295 : Nat) - x = 2 ^ 32 - (x + 1) by omega, e1, Nat.testBit_xor, show (4294967295 : Nat) = 2 ^ 32 - 1 from rfl, e2]
  by_cases hi : i < 32
  · simp [hi]
  · rw [Nat.testBit_lt_two_pow (x := x) (Nat.lt_of_lt_of_le h (show 2 ^ 32 ≤ 2 ^ i from Nat.pow_le_pow_right (by decide) (by omega)))]
    simp [hi]

theorem crc_num (l : List UInt8) : crc l = 4294967295 ^^^ hlvs (8 * l.length) (4294967295 ^^^ lnum l) := by
  unfold crc
  rw [turn_xor _ (reg_lt _ _ (by decide)), reg_num]

/-- THE CONSEQUENCE: three texts by exclusive or. -/
theorem crc_three (a b c : List UInt8) (h1 : a.length = b.length) (h2 : a.length = c.length) :
    crc (xorl (xorl a b) c) = crc a ^^^ crc b ^^^ crc c := by
  have l1 := xorl_length a b h1
  have l2 := xorl_length (xorl a b) c (by omega)
  simp only [crc_num]
  rw [num_xor _ _ (by omega), num_xor _ _ h1, l2, l1, ← h1, ← h2]
  simp only [hlvs_xor]
  generalize hlvs (8 * a.length) 4294967295 = F
  generalize hlvs (8 * a.length) (lnum a) = A
  generalize hlvs (8 * a.length) (lnum b) = B
  generalize hlvs (8 * a.length) (lnum c) = C
  apply Nat.eq_of_testBit_eq
  intro i
  simp only [Nat.testBit_xor]
  cases (4294967295 : Nat).testBit i <;> cases F.testBit i <;> cases A.testBit i <;> cases B.testBit i <;> cases C.testBit i <;> rfl

theorem crc_inj_reg (a b : List UInt8) (h : crc a = crc b) : reg 4294967295 a = reg 4294967295 b := by
  have h1 := reg_lt 4294967295 a (by decide)
  have h2 := reg_lt 4294967295 b (by decide)
  unfold crc at h
  omega

/-- THE CONSEQUENCE: bytes that differ within 32 bits on end have unlike sums. -/
theorem crc_burst (a b : List UInt8) (k m : Nat) (hl : a.length = b.length) (hk : k ≤ 8 * a.length) (hm : m < 4294967296) (hd : lnum a ^^^ lnum b = 2 ^ k * m) (h : crc a = crc b) : a = b := by
  have e := crc_inj_reg a b h
  rw [reg_num, reg_num, ← hl] at e
  have e2 : hlvs (8 * a.length) (lnum a ^^^ lnum b) = 0 := by
    have e3 : hlvs (8 * a.length) (4294967295 ^^^ lnum a) ^^^ hlvs (8 * a.length) (4294967295 ^^^ lnum b) = 0 := by rw [e, Nat.xor_self]
    rw [← hlvs_xor] at e3
    have e4 : (4294967295 ^^^ lnum a) ^^^ (4294967295 ^^^ lnum b) = lnum a ^^^ lnum b := by
      apply Nat.eq_of_testBit_eq
      intro i
      simp only [Nat.testBit_xor]
      cases (4294967295 : Nat).testBit i <;> cases (lnum a).testBit i <;> cases (lnum b).testBit i <;> rfl
    rw [e4] at e3
    exact e3
  rw [hd, show 8 * a.length = k + (8 * a.length - k) by omega, hlvs_add, hlvs_up] at e2
  have m0 := hlvs_pos _ _ hm e2
  subst m0
  rw [Nat.mul_zero] at hd
  have e5 : lnum a = lnum b := by
    have : (lnum a ^^^ lnum b) ^^^ lnum b = 0 ^^^ lnum b := by rw [hd]
    rw [Nat.xor_assoc, Nat.xor_self, Nat.xor_zero, Nat.zero_xor] at this
    exact this
  exact num_inj a b hl e5

end Go.Proofs.Ytipljconbnaffaa
