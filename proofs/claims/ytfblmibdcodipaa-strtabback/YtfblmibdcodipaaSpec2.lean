/- What a cursor's calls answer, as plain mathematics: of bytes b, read up to k, with the first error e (0: none): the answer, the place behind it, the error. -/
import Derived.Test.YtfblmibdcodipaaZig
import Derived.Test.YtfblmibdcodipaaBack
import Derived.Test.YtfblmibdcodipaaRefGet
namespace Go.Proofs.Ytfblmibdcodipaa
open Go.RowKit

/-- What stands at a place: the number, its count of bytes, the error's number. -/
def num (b : ByteArray) (k : Nat) : Nat × Nat × Nat := dec 0 0 (b.data.toList.drop k)

def pByte (b : ByteArray) (k : Nat) (e : Int) : Int × Nat × Int :=
  if e ≠ 0 then (0, k, e) else if h : k < b.size then ((b[k].toNat : Int), k + 1, 0) else (0, k, 2)

def pBytes (b : ByteArray) (k : Nat) (e n : Int) : ByteArray × Nat × Int :=
  if e ≠ 0 then (⟨#[]⟩, k, e) else if n < 0 then (⟨#[]⟩, k, 1) else if (b.size : Int) - k < n then (⟨#[]⟩, k, 2) else (b.extract k (k + n.toNat), k + n.toNat, 0)

def pUint (b : ByteArray) (k : Nat) (e most : Int) : Int × Nat × Int :=
  if e ≠ 0 then (0, k, e) else if (num b k).2.2 ≠ 0 then (0, k, ((num b k).2.2 : Int)) else if most < (num b k).1 ∨ 16777216 < (num b k).1 then (0, k, 19) else (((num b k).1 : Int), k + (num b k).2.1, 0)

def pInt (b : ByteArray) (k : Nat) (e : Int) : Int × Nat × Int :=
  if e ≠ 0 then (0, k, e) else if (num b k).2.2 ≠ 0 then (0, k, ((num b k).2.2 : Int)) else (zag (num b k).1, k + (num b k).2.1, 0)

def pText (b : ByteArray) (k : Nat) (e most : Int) : ByteArray × Nat × Int :=
  if e ≠ 0 then (⟨#[]⟩, k, e) else if (num b k).2.2 ≠ 0 then (⟨#[]⟩, k, ((num b k).2.2 : Int)) else if max most 0 < (num b k).1 ∨ 16777216 < (num b k).1 then (⟨#[]⟩, k, 19)
  else if (b.size : Int) - (k + (num b k).2.1 : Nat) < (num b k).1 then (⟨#[]⟩, k, 2) else (b.extract (k + (num b k).2.1) (k + (num b k).2.1 + (num b k).1), k + (num b k).2.1 + (num b k).1, 0)

theorem list_size (s : ByteArray) : s.data.toList.length = s.size := by rw [Array.length_toList]; rfl

/-- A number that stands there: below 2 to the 64, and its bytes are there. -/
theorem num_ok (b : ByteArray) (k : Nat) (h : (num b k).2.2 = 0) (hk : k ≤ b.size) : (num b k).1 < 18446744073709551616 ∧ 1 ≤ (num b k).2.1 ∧ k + (num b k).2.1 ≤ b.size := by
  obtain ⟨h1, h2, _, h4, _⟩ := put_dec (b.data.toList.drop k) (num b k).1 (num b k).2.1 (show num b k = _ from Prod.ext rfl (Prod.ext rfl h))
  rw [List.length_drop, list_size] at h4
  exact ⟨h1, h2, by omega⟩

/-- The error's number of Get is 0, 2 or 3. -/
theorem dec_err (l : List UInt8) : ∀ (k X : Nat), (dec k X l).2.2 = 0 ∨ (dec k X l).2.2 = 2 ∨ (dec k X l).2.2 = 3 := by
  induction l with
  | nil => intro k X; exact .inr (.inl rfl)
  | cons c r ih =>
    intro k X
    rw [dec]
    split
    · exact .inr (.inr rfl)
    split
    · exact .inr (.inr rfl)
    split
    · exact .inl rfl
    · exact ih _ _

theorem got_num (b : ByteArray) (k : Nat) (hk : k ≤ b.size) : got b.data.toList (k : Int) = fin k (num b k) := got_in _ _ (by rw [list_size]; exact hk)

theorem got_yes (b : ByteArray) (k : Nat) (hk : k ≤ b.size) (h : (num b k).2.2 = 0) : got b.data.toList (k : Int) = (((num b k).1 : Int), (k : Int) + ((num b k).2.1 : Int), 0) := by
  rw [got_num b k hk]; unfold fin; rw [if_pos h]
theorem got_no (b : ByteArray) (k : Nat) (hk : k ≤ b.size) (h : (num b k).2.2 ≠ 0) : got b.data.toList (k : Int) = (0, 0, ((num b k).2.2 : Int)) := by
  rw [got_num b k hk]; unfold fin; rw [if_neg h]

/-- However a call ends, the place is one of the bytes' own, and none that was passed. -/
theorem pByte_at (b : ByteArray) (k : Nat) (e : Int) (hk : k ≤ b.size) : k ≤ (pByte b k e).2.1 ∧ (pByte b k e).2.1 ≤ b.size := by
  unfold pByte; split
  · exact ⟨Nat.le_refl _, hk⟩
  split
  · exact ⟨by dsimp only; omega, by dsimp only; omega⟩
  · exact ⟨Nat.le_refl _, hk⟩
theorem pBytes_at (b : ByteArray) (k : Nat) (e n : Int) (hk : k ≤ b.size) : k ≤ (pBytes b k e n).2.1 ∧ (pBytes b k e n).2.1 ≤ b.size := by
  unfold pBytes; split
  · exact ⟨Nat.le_refl _, hk⟩
  split
  · exact ⟨Nat.le_refl _, hk⟩
  split
  · exact ⟨Nat.le_refl _, hk⟩
  · exact ⟨by dsimp only; omega, by dsimp only; omega⟩
theorem pUint_at (b : ByteArray) (k : Nat) (e m : Int) (hk : k ≤ b.size) : k ≤ (pUint b k e m).2.1 ∧ (pUint b k e m).2.1 ≤ b.size := by
  unfold pUint; split
  · exact ⟨Nat.le_refl _, hk⟩
  split
  · exact ⟨Nat.le_refl _, hk⟩
  split
  · exact ⟨Nat.le_refl _, hk⟩
  · have := num_ok b k (by omega) hk; exact ⟨by dsimp only; omega, by dsimp only; omega⟩
theorem pInt_at (b : ByteArray) (k : Nat) (e : Int) (hk : k ≤ b.size) : k ≤ (pInt b k e).2.1 ∧ (pInt b k e).2.1 ≤ b.size := by
  unfold pInt; split
  · exact ⟨Nat.le_refl _, hk⟩
  split
  · exact ⟨Nat.le_refl _, hk⟩
  · have := num_ok b k (by omega) hk; exact ⟨by dsimp only; omega, by dsimp only; omega⟩
theorem pText_at (b : ByteArray) (k : Nat) (e m : Int) (hk : k ≤ b.size) : k ≤ (pText b k e m).2.1 ∧ (pText b k e m).2.1 ≤ b.size := by
  unfold pText; split
  · exact ⟨Nat.le_refl _, hk⟩
  split
  · exact ⟨Nat.le_refl _, hk⟩
  split
  · exact ⟨Nat.le_refl _, hk⟩
  split
  · exact ⟨Nat.le_refl _, hk⟩
  · have := num_ok b k (by omega) hk; exact ⟨by dsimp only; omega, by dsimp only; omega⟩

end Go.Proofs.Ytfblmibdcodipaa
