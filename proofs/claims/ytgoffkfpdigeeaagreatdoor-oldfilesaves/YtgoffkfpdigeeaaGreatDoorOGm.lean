/- A scene of version 1 that is put, and one that is read, as plain mathematics. -/
import Derived.Test.YtgoffkfpdigeeaaGreatDoorRB
import Derived.Test.YtgoffkfpdigeeaaGreatDoorOTy
import Derived.Test.YtgoffkfpdigeeaaGreatDoorQA
namespace Go.Proofs.YtgoffkfpdigeeaaGreatDoor
open Go.RowKit

def oTs (b : ByteArray) (tx : Int) : Nat → Nat → Int → List ByteArray × Nat × Int
  | 0, k, e => ([], k, e)
  | n + 1, k, e => if e ≠ 0 then ([], k, e) else
    ((pText b k e tx).1 :: (oTs b tx n (pText b k e tx).2.1 (if ok8 (pText b k e tx).1 = true then (pText b k e tx).2.2 else fl (pText b k e tx).2.2 11)).1,
      (oTs b tx n (pText b k e tx).2.1 (if ok8 (pText b k e tx).1 = true then (pText b k e tx).2.2 else fl (pText b k e tx).2.2 11)).2)
def oKs (b : ByteArray) (p c : Int) : Nat → Nat → Int → List Int × Nat × Int
  | 0, k, e => ([], k, e)
  | n + 1, k, e => if e ≠ 0 then ([], k, e) else
    ((pUint b k e 16777216).1 :: (oKs b p c n (pUint b k e 16777216).2.1 (if (pUint b k e 16777216).1 ≤ p ∨ c ≤ (pUint b k e 16777216).1 then fl (pUint b k e 16777216).2.2 13 else (pUint b k e 16777216).2.2)).1,
      (oKs b p c n (pUint b k e 16777216).2.1 (if (pUint b k e 16777216).1 ≤ p ∨ c ≤ (pUint b k e 16777216).1 then fl (pUint b k e 16777216).2.2 13 else (pUint b k e 16777216).2.2)).2)
/-- What comes behind the kind. -/
def oRest (b : ByteArray) (p c tx edges : Int) (S : Sp) (k : Nat) (e : Int) : (List Int × List ByteArray × List Int) × Nat × Int :=
  let I := gIs b S.ints k e
  let T := oTs b tx S.texts.toNat I.2.1 I.2.2
  let m := pUint b T.2.1 T.2.2 edges
  let K := oKs b p c m.1.toNat m.2.1 (if m.1 < S.least ∨ (0 ≤ S.most ∧ S.most < m.1) then fl m.2.2 12 else m.2.2)
  ((I.1, T.1, K.1), K.2)
/-- The node, where it is read to, the error. -/
def oNd (b : ByteArray) (p c tx edges : Int) (k : Nat) (e : Int) : Nd × Nat × Int :=
  let q := pUint b k e 16777216
  let R := oRest b p c tx edges (oldSp q.1) q.2.1 (if (oldSp q.1).ok = true then q.2.2 else fl q.2.2 9)
  (⟨q.1, R.1.1, R.1.2.1, R.1.2.2⟩, R.2.1, R.2.2)
/-- So many nodes from a place on. -/
def oNds (b : ByteArray) (c tx : Int) : Nat → Int → Int → Nat → List Nd × Nat × Int
  | 0, _, _, k => ([], k, 0)
  | n + 1, p, ed, k => if (oNd b p c tx ed k 0).2.2 ≠ 0 then ([], (oNd b p c tx ed k 0).2.1, (oNd b p c tx ed k 0).2.2) else
    ((oNd b p c tx ed k 0).1 :: (oNds b c tx n (p + 1) (ed - (oNd b p c tx ed k 0).1.kids.length) (oNd b p c tx ed k 0).2.1).1, (oNds b c tx n (p + 1) (ed - (oNd b p c tx ed k 0).1.kids.length) (oNd b p c tx ed k 0).2.1).2)
/-- A payload's nodes, or the error. -/
def oPay (b : ByteArray) (n ed tx : Int) : List Nd × Int :=
  let q := pUint b 0 0 n
  if q.2.2 ≠ 0 then ([], q.2.2) else if q.1 = 0 then ([], 13) else
  let N := oNds b q.1 tx q.1.toNat 0 ed q.2.1
  if N.2.2 ≠ 0 then ([], N.2.2) else if N.2.1 < b.size then ([], 8) else (N.1, 0)

theorem oTs_at (b : ByteArray) (tx : Int) : ∀ (n k : Nat) (e : Int), k ≤ b.size → k ≤ (oTs b tx n k e).2.1 ∧ (oTs b tx n k e).2.1 ≤ b.size
  | 0, k, e, h => ⟨Nat.le_refl _, h⟩
  | n + 1, k, e, h => by
    have h1 := pText_at b k e tx h
    unfold oTs
    split
    · exact ⟨Nat.le_refl _, h⟩
    · have h2 := oTs_at b tx n (pText b k e tx).2.1 (if ok8 (pText b k e tx).1 = true then (pText b k e tx).2.2 else fl (pText b k e tx).2.2 11) h1.2
      exact ⟨by dsimp only; omega, h2.2⟩
theorem oKs_at (b : ByteArray) (p c : Int) : ∀ (n k : Nat) (e : Int), k ≤ b.size → k ≤ (oKs b p c n k e).2.1 ∧ (oKs b p c n k e).2.1 ≤ b.size
  | 0, k, e, h => ⟨Nat.le_refl _, h⟩
  | n + 1, k, e, h => by
    have h1 := pUint_at b k e 16777216 h
    unfold oKs
    split
    · exact ⟨Nat.le_refl _, h⟩
    · have h2 := oKs_at b p c n (pUint b k e 16777216).2.1 (if (pUint b k e 16777216).1 ≤ p ∨ c ≤ (pUint b k e 16777216).1 then fl (pUint b k e 16777216).2.2 13 else (pUint b k e 16777216).2.2) h1.2
      exact ⟨by dsimp only; omega, h2.2⟩
theorem oTs_stop (b : ByteArray) (tx : Int) (n k : Nat) {e : Int} (h : e ≠ 0) : oTs b tx n k e = ([], k, e) := by
  cases n with
  | zero => rfl
  | succ n => unfold oTs; rw [if_pos h]
theorem oKs_stop (b : ByteArray) (p c : Int) (n k : Nat) {e : Int} (h : e ≠ 0) : oKs b p c n k e = ([], k, e) := by
  cases n with
  | zero => rfl
  | succ n => unfold oKs; rw [if_pos h]
theorem oTs_next (b : ByteArray) (tx : Int) (n k : Nat) {x : ByteArray} {k3 : Nat} {e3 : Int} (hq : pText b k 0 tx = (x, k3, e3)) :
    oTs b tx (n + 1) k 0 = (x :: (oTs b tx n k3 (if ok8 x = true then e3 else fl e3 11)).1, (oTs b tx n k3 (if ok8 x = true then e3 else fl e3 11)).2) := by
  conv => lhs; unfold oTs
  rw [if_neg (by decide), hq]
theorem oTs_end (b : ByteArray) (tx : Int) (n k : Nat) (e : Int) (h : n = 0 ∨ e ≠ 0) : oTs b tx n k e = ([], k, e) := by
  rcases h with rfl | h
  · rfl
  · exact oTs_stop b tx n k h
theorem oKs_next (b : ByteArray) (p c : Int) (n k : Nat) {x : Int} {k3 : Nat} {e3 : Int} (hq : pUint b k 0 16777216 = (x, k3, e3)) :
    oKs b p c (n + 1) k 0 = (x :: (oKs b p c n k3 (if decide (x ≤ p ∨ c ≤ x) = true then fl e3 13 else e3)).1, (oKs b p c n k3 (if decide (x ≤ p ∨ c ≤ x) = true then fl e3 13 else e3)).2) := by
  conv => lhs; unfold oKs
  rw [if_neg (by decide), hq]
  simp only [decide_eq_true_eq]
theorem oKs_end (b : ByteArray) (p c : Int) (n k : Nat) (e : Int) (h : n = 0 ∨ e ≠ 0) : oKs b p c n k e = ([], k, e) := by
  rcases h with rfl | h
  · rfl
  · exact oKs_stop b p c n k h
theorem oRest_eq {b : ByteArray} {p c tx edges : Int} {S : Sp} {k1 : Nat} {e2 : Int} {A : List Int} {k4 : Nat} {e4 : Int} {B : List ByteArray} {k5 : Nat} {e5 m : Int} {k6 : Nat} {e6 e7 : Int} {K : List Int} {k8 : Nat} {e8 : Int} (hA : gIs b S.ints k1 e2 = (A, k4, e4)) (hB : oTs b tx S.texts.toNat k4 e4 = (B, k5, e5))
    (hM : pUint b k5 e5 edges = (m, k6, e6)) (h7 : (if decide (m < S.least ∨ (0 ≤ S.most ∧ S.most < m)) = true then fl e6 12 else e6) = e7) (hK : oKs b p c m.toNat k6 e7 = (K, k8, e8)) : oRest b p c tx edges S k1 e2 = ((A, B, K), k8, e8) := by
  unfold oRest
  simp only [decide_eq_true_eq] at h7
  simp only [hA, hB, hM, h7, hK]
theorem oldSp_small (k : Int) : (oldSp k).ints.length ≤ 4 ∧ 0 ≤ (oldSp k).texts ∧ (oldSp k).texts ≤ 2 ∧ -1 ≤ (oldSp k).least ∧ (oldSp k).least ≤ 1 ∧ -1 ≤ (oldSp k).most ∧ (oldSp k).most ≤ 1 := by
  unfold oldSp noSp
  repeat' split
  all_goals decide
theorem oldSp_kind {k : Int} (h : (oldSp k).ok = true) : 1 ≤ k ∧ k ≤ 6 := by
  by_cases q : k < 1 ∨ 7 ≤ k
  · rw [oldSp_no k q] at h
    exact absurd h (by decide)
  · omega

def oT (l : List ByteArray) : List UInt8 := l.flatMap fun s => put s.size ++ s.data.toList
def oK (l : List Int) : List UInt8 := l.flatMap fun k => put k.toNat
/-- A node's bytes. -/
def oB (N : Nd) : List UInt8 := put N.kind.toNat ++ rI N.ints ++ oT N.texts ++ put N.kids.length ++ oK N.kids
/-- A scene's payload. -/
def oR (P : List Nd) : List UInt8 := put P.length ++ P.flatMap oB

theorem text_put {b : ByteArray} {k : Nat} {s : ByteArray} {r : List UInt8} (m : Int) (h : b.data.toList.drop k = put s.size ++ (s.data.toList ++ r)) (hk : k ≤ b.size) (hn : s.size ≤ 16777216) (hm : (s.size : Int) ≤ m) : pText b k 0 m = (s, k + ((put s.size).length + s.size), 0) := by
  have hd := drop_more h rfl
  have hl : b.size - (k + (put s.size).length) = s.size + r.length := by
    have := congrArg List.length hd
    rw [List.length_drop, List.length_append, list_size, list_size] at this
    exact this
  have hp := (put_length s.size).1
  unfold pText
  rw [if_neg (by simp), num_put h (by omega)]
  dsimp only
  rw [if_neg (by simp), if_neg (by omega)]
  by_cases hz : k + (put s.size).length ≤ b.size
  · rw [if_neg (by omega)]
    have he : b.extract (k + (put s.size).length) (k + (put s.size).length + s.size) = s := by
      refine ba_eq ?_
      rw [Lib.extract_data, hd, show k + (put s.size).length + s.size - (k + (put s.size).length) = s.size by omega, ← list_size s, List.take_left]
    rw [he, Nat.add_assoc]
  · exfalso
    have := congrArg List.length h
    rw [List.length_drop, list_size, List.length_append] at this
    omega
theorem text_bytes {b : ByteArray} {k : Nat} {e m : Int} {x : ByteArray} {k' : Nat} (hk : k ≤ b.size) (h : pText b k e m = (x, k', 0)) : e = 0 ∧ x.size ≤ 16777216 ∧ (x.size : Int) ≤ max m 0 ∧ b.data.toList.drop k = put x.size ++ (x.data.toList ++ b.data.toList.drop k') := by
  unfold pText at h
  split at h
  · rename_i q
    simp only [Prod.mk.injEq] at h
    exact absurd h.2.2 q
  · rename_i q
    split at h
    · rename_i q2
      simp only [Prod.mk.injEq] at h
      have := h.2.2
      omega
    · rename_i q2
      split at h
      · simp only [Prod.mk.injEq] at h
        exact absurd h.2.2 (by decide)
      · rename_i q3
        split at h
        · simp only [Prod.mk.injEq] at h
          exact absurd h.2.2 (by decide)
        · rename_i q4
          simp only [Prod.mk.injEq] at h
          obtain ⟨rfl, rfl, _⟩ := h
          have h1 := num_bytes (b := b) (k := k) (by omega)
          have h2 := num_ok b k (by omega) hk
          generalize (num b k).2.1 = n1 at *
          generalize (num b k).1 = n0 at *
          have hs : (b.extract (k + n1) (k + n1 + n0)).size = n0 := by
            rw [ByteArray.size_extract]
            omega
          refine ⟨by omega, by omega, by omega, ?_⟩
          rw [hs, Lib.extract_data, h1.2, show k + n1 + n0 - (k + n1) = n0 by omega, ← List.drop_drop (i := n0), List.take_append_drop]
end Go.Proofs.YtgoffkfpdigeeaaGreatDoor
