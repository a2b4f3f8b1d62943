/- The contract of the document's own Get of a record. -/
import Derived.Test.YthfemhpbamcpjaaDoorRA
import Derived.Deep.CutBlock
import Derived.Deep.DeepCutAuto
namespace Go.Proofs.YthfemhpbamcpjaaDoor
open Go.RowKit

theorem own_nil (w : World) (B : Nat) (e : TypeId) : w.ownsRow B e 1 (.slice none 0 0) 0 [] := ⟨rfl, .inl ⟨rfl, rfl⟩⟩
theorem newSp_small (k : Int) : (newSp k).ints.length ≤ 4 ∧ 0 ≤ (newSp k).texts ∧ (newSp k).texts ≤ 2 ∧ -1 ≤ (newSp k).least ∧ (newSp k).least ≤ 1 ∧ -1 ≤ (newSp k).most ∧ (newSp k).most ≤ 1 := by
  unfold newSp noSp
  repeat' split
  all_goals decide
theorem gIs_next (b : ByteArray) (C : List Int) (i k : Nat) (h : i < C.length) {q : Int} {k3 : Nat} {e3 : Int} (hq : pInt b k 0 = (q, k3, e3)) :
    gIs b (C.drop i) k 0 = (q :: (gIs b (C.drop (i + 1)) k3 (if in7 (C.getD i 0) q = true then e3 else fl e3 10)).1, (gIs b (C.drop (i + 1)) k3 (if in7 (C.getD i 0) q = true then e3 else fl e3 10)).2) := by
  rw [List.drop_eq_getElem_cons h, show C[i] = C.getD i 0 by simp [List.getD_eq_getElem?_getD, List.getElem?_eq_getElem h]]
  conv => lhs; unfold gIs
  rw [if_neg (by decide), hq]
theorem gIs_end (b : ByteArray) (C : List Int) (i k : Nat) (e : Int) (h : C.length ≤ i ∨ e ≠ 0) : gIs b (C.drop i) k e = ([], k, e) := by
  rcases h with h | h
  · rw [List.drop_eq_nil_of_le h]; rfl
  · exact gIs_stop b _ k h

theorem gTs_next (b : ByteArray) (L : List ByteArray) (n k : Nat) {x : Int} {k3 : Nat} {e3 : Int} (hq : pUint b k 0 16777216 = (x, k3, e3)) :
    gTs b L (n + 1) k 0 = if e3 ≠ 0 then ([], k3, e3) else if (L.length : Int) ≤ x then ([], k3, 13) else (L.getD x.toNat noT :: (gTs b L n k3 0).1, (gTs b L n k3 0).2) := by
  conv => lhs; unfold gTs
  rw [if_neg (by decide), hq]
theorem gTs_end (b : ByteArray) (L : List ByteArray) (n k : Nat) (e : Int) (h : n = 0 ∨ e ≠ 0) : gTs b L n k e = ([], k, e) := by
  rcases h with rfl | h
  · rfl
  · exact gTs_stop b L n k h
theorem gKs_next (b : ByteArray) (p : Int) (n k : Nat) {x : Int} {k3 : Nat} {e3 : Int} (hq : pUint b k 0 16777216 = (x, k3, e3)) :
    gKs b p (n + 1) k 0 = (wrap64 (p - x) :: (gKs b p n k3 (if decide (x < 1 ∨ p < x) = true then fl e3 13 else e3)).1, (gKs b p n k3 (if decide (x < 1 ∨ p < x) = true then fl e3 13 else e3)).2) := by
  conv => lhs; unfold gKs
  rw [if_neg (by decide), hq]
  simp only [decide_eq_true_eq]
theorem gKs_end (b : ByteArray) (p : Int) (n k : Nat) (e : Int) (h : n = 0 ∨ e ≠ 0) : gKs b p n k e = ([], k, e) := by
  rcases h with rfl | h
  · rfl
  · exact gKs_stop b p n k h
theorem gRest_eq {b : ByteArray} {p : Int} {L : List ByteArray} {edges : Int} {S : Sp} {k1 : Nat} {e2 : Int} {A : List Int} {k4 : Nat} {e4 : Int} {B : List ByteArray} {k5 : Nat} {e5 m : Int} {k6 : Nat} {e6 e7 : Int} {K : List Int} {k8 : Nat} {e8 : Int} (hA : gIs b S.ints k1 e2 = (A, k4, e4)) (hB : gTs b L S.texts.toNat k4 e4 = (B, k5, e5))
    (hM : pUint b k5 e5 (max edges 0) = (m, k6, e6)) (h7 : (if decide (m < S.least ∨ (0 ≤ S.most ∧ S.most < m)) = true then fl e6 12 else e6) = e7) (hK : gKs b p m.toNat k6 e7 = (K, k8, e8)) : gRest b p L edges S k1 e2 = ((A, B, K), k8, e8) := by
  unfold gRest
  simp only [decide_eq_true_eq] at h7
  simp only [hA, hB, hM, h7, hK]

end Go.Proofs.YthfemhpbamcpjaaDoor
