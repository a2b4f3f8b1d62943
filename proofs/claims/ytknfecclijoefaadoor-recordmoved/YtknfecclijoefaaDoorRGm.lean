/- A node that is read, as plain mathematics: the numbers, the texts, the kids, up to the first error. -/
import Derived.Test.YtknfecclijoefaaDoorRMa
import Derived.Test.YtknfecclijoefaaDoorVB
import Derived.Test.YtknfecclijoefaaDoorGD
namespace Go.Proofs.YtknfecclijoefaaDoor
open Go.RowKit

/-- An error of one's own. -/
def fl (e d : Int) : Int := if e = 0 then d else e

def gIs (b : ByteArray) : List Int → Nat → Int → List Int × Nat × Int
  | [], k, e => ([], k, e)
  | c :: r, k, e => if e ≠ 0 then ([], k, e) else
    ((pInt b k e).1 :: (gIs b r (pInt b k e).2.1 (if in7 c (pInt b k e).1 = true then (pInt b k e).2.2 else fl (pInt b k e).2.2 10)).1,
      (gIs b r (pInt b k e).2.1 (if in7 c (pInt b k e).1 = true then (pInt b k e).2.2 else fl (pInt b k e).2.2 10)).2)
def gTs (b : ByteArray) (L : List ByteArray) : Nat → Nat → Int → List ByteArray × Nat × Int
  | 0, k, e => ([], k, e)
  | n + 1, k, e => if e ≠ 0 then ([], k, e) else
    if (pUint b k e 16777216).2.2 ≠ 0 then ([], (pUint b k e 16777216).2.1, (pUint b k e 16777216).2.2)
    else if (L.length : Int) ≤ (pUint b k e 16777216).1 then ([], (pUint b k e 16777216).2.1, 13)
    else (L.getD (pUint b k e 16777216).1.toNat noT :: (gTs b L n (pUint b k e 16777216).2.1 0).1, (gTs b L n (pUint b k e 16777216).2.1 0).2)
def gKs (b : ByteArray) (p : Int) : Nat → Nat → Int → List Int × Nat × Int
  | 0, k, e => ([], k, e)
  | n + 1, k, e => if e ≠ 0 then ([], k, e) else
    (wrap64 (p - (pUint b k e 16777216).1) :: (gKs b p n (pUint b k e 16777216).2.1 (if (pUint b k e 16777216).1 < 1 ∨ p < (pUint b k e 16777216).1 then fl (pUint b k e 16777216).2.2 13 else (pUint b k e 16777216).2.2)).1,
      (gKs b p n (pUint b k e 16777216).2.1 (if (pUint b k e 16777216).1 < 1 ∨ p < (pUint b k e 16777216).1 then fl (pUint b k e 16777216).2.2 13 else (pUint b k e 16777216).2.2)).2)

/-- What comes behind the kind: q the kind, where it is read to, and the error then. -/
def gRest (b : ByteArray) (p : Int) (L : List ByteArray) (edges : Int) (S : Sp) (k : Nat) (e : Int) : (List Int × List ByteArray × List Int) × Nat × Int :=
  let I := gIs b S.ints k e
  let T := gTs b L S.texts.toNat I.2.1 I.2.2
  let m := pUint b T.2.1 T.2.2 (max edges 0)
  let K := gKs b p m.1.toNat m.2.1 (if m.1 < S.least ∨ (0 ≤ S.most ∧ S.most < m.1) then fl m.2.2 12 else m.2.2)
  ((I.1, T.1, K.1), K.2)
/-- The node, where it is read to, the error. -/
def gNd (b : ByteArray) (p : Int) (L : List ByteArray) (edges : Int) (k : Nat) (e : Int) : Nd × Nat × Int :=
  let q := pUint b k e 16777216
  let R := gRest b p L edges (newSp q.1) q.2.1 (if (newSp q.1).ok = true then q.2.2 else fl q.2.2 9)
  if R.2.2 = 0 then (⟨q.1, R.1.1, R.1.2.1, R.1.2.2⟩, R.2.1, 0) else (⟨0, [], [], []⟩, R.2.1, R.2.2)

theorem gIs_at (b : ByteArray) : ∀ (C : List Int) (k : Nat) (e : Int), k ≤ b.size → k ≤ (gIs b C k e).2.1 ∧ (gIs b C k e).2.1 ≤ b.size
  | [], k, e, h => ⟨Nat.le_refl _, h⟩
  | c :: r, k, e, h => by
    unfold gIs
    split
    · exact ⟨Nat.le_refl _, h⟩
    · have h1 := pInt_at b k e h
      have h2 := gIs_at b r (pInt b k e).2.1 (if in7 c (pInt b k e).1 = true then (pInt b k e).2.2 else fl (pInt b k e).2.2 10) h1.2
      exact ⟨by dsimp only; omega, h2.2⟩
theorem gTs_at (b : ByteArray) (L : List ByteArray) : ∀ (n k : Nat) (e : Int), k ≤ b.size → k ≤ (gTs b L n k e).2.1 ∧ (gTs b L n k e).2.1 ≤ b.size
  | 0, k, e, h => ⟨Nat.le_refl _, h⟩
  | n + 1, k, e, h => by
    have h1 := pUint_at b k e 16777216 h
    unfold gTs
    split
    · exact ⟨Nat.le_refl _, h⟩
    · split
      · exact h1
      · split
        · exact h1
        · have h2 := gTs_at b L n (pUint b k e 16777216).2.1 0 h1.2
          exact ⟨by dsimp only; omega, h2.2⟩
theorem gKs_at (b : ByteArray) (p : Int) : ∀ (n k : Nat) (e : Int), k ≤ b.size → k ≤ (gKs b p n k e).2.1 ∧ (gKs b p n k e).2.1 ≤ b.size
  | 0, k, e, h => ⟨Nat.le_refl _, h⟩
  | n + 1, k, e, h => by
    have h1 := pUint_at b k e 16777216 h
    unfold gKs
    split
    · exact ⟨Nat.le_refl _, h⟩
    · have h2 := gKs_at b p n (pUint b k e 16777216).2.1 (if (pUint b k e 16777216).1 < 1 ∨ p < (pUint b k e 16777216).1 then fl (pUint b k e 16777216).2.2 13 else (pUint b k e 16777216).2.2) h1.2
      exact ⟨by dsimp only; omega, h2.2⟩
theorem gIs_stop (b : ByteArray) (C : List Int) (k : Nat) {e : Int} (h : e ≠ 0) : gIs b C k e = ([], k, e) := by
  cases C with
  | nil => rfl
  | cons c r => unfold gIs; rw [if_pos h]
theorem gTs_stop (b : ByteArray) (L : List ByteArray) (n k : Nat) {e : Int} (h : e ≠ 0) : gTs b L n k e = ([], k, e) := by
  cases n with
  | zero => rfl
  | succ n => unfold gTs; rw [if_pos h]
theorem gKs_stop (b : ByteArray) (p : Int) (n k : Nat) {e : Int} (h : e ≠ 0) : gKs b p n k e = ([], k, e) := by
  cases n with
  | zero => rfl
  | succ n => unfold gKs; rw [if_pos h]
theorem pUint_top (b : ByteArray) (k : Nat) (e m : Int) : 0 ≤ (pUint b k e m).1 ∧ (pUint b k e m).1 ≤ 16777216 ∧ ((pUint b k e m).2.2 ≠ 0 → (pUint b k e m).1 = 0) := by
  unfold pUint
  split
  · exact ⟨by simp, by simp, fun _ => rfl⟩
  · split
    · exact ⟨by simp, by simp, fun _ => rfl⟩
    · split
      · exact ⟨by simp, by simp, fun _ => rfl⟩
      · exact ⟨by dsimp only; omega, by dsimp only; omega, fun q => absurd rfl q⟩
theorem pInt_top (b : ByteArray) (k : Nat) (e : Int) (hk : k ≤ b.size) : -9223372036854775808 ≤ (pInt b k e).1 ∧ (pInt b k e).1 ≤ 9223372036854775807 := by
  unfold pInt
  split
  · exact ⟨by simp, by simp⟩
  · split
    · exact ⟨by simp, by simp⟩
    · rename_i h
      have h1 := num_ok b k (by omega) hk
      exact zag_range _ (by omega) (by omega)

end Go.Proofs.YtknfecclijoefaaDoor
