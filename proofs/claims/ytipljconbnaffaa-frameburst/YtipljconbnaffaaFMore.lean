/- More of the mathematics of files. -/
import Derived.Test.YtipljconbnaffaaFMath
namespace Go.Proofs.Ytipljconbnaffaa

theorem pGet_bad (m b : List UInt8) (h : (pGet m b).1 ≠ 0) : (pGet m b).2 = (0, []) := by
  unfold pGet at h ⊢
  by_cases h1 : m.length ≠ 4 ∨ b.take 4 ≠ m
  · rw [if_pos h1]
  rw [if_neg h1] at h ⊢
  cases hd : b.drop 4 with
  | nil => rfl
  | cons v r =>
    rw [hd] at h
    dsimp only at h ⊢
    by_cases h2 : v.toNat = 0
    · rw [if_pos h2]
    rw [if_neg h2] at h ⊢
    by_cases h3 : (secsL 8 r).1 ≠ 0
    · rw [if_pos h3]
    · rw [if_neg h3] at h; exact absurd rfl h

theorem body_mem (L : List Sec) (s : Sec) (h : s ∈ L) : s.2.size ≤ (bodyL L).length := by
  induction L with
  | nil => simp at h
  | cons t r ih =>
    simp only [bodyL, List.length_append]
    rcases List.mem_cons.1 h with rfl | h
    · have := secL_length s; omega
    · have := ih h; omega

theorem pPut_sizes (m : ByteArray) (v : Int) (L : List Sec) (h : (pPut m v L).2 = 0) : L.length ≤ 8 ∧ ∀ s ∈ L, s.2.size ≤ (pPut m v L).1.length := by
  obtain ⟨_, _, _, h4, _, h6⟩ := pPut_ok m v L h
  refine ⟨h4, fun s hs => ?_⟩
  have := body_mem L s hs
  rw [h6]
  simp
  omega

theorem pPut_length (m : ByteArray) (v : Int) (L : List Sec) (M : Nat) (h : ∀ s ∈ L, s.2.size ≤ M) : (pPut m v L).1.length ≤ 5 + 8 * (M + 15) := by
  by_cases he : (pPut m v L).2 = 0
  · obtain ⟨h1, _, _, h4, _, h6⟩ := pPut_ok m v L he
    have hb := bodyL_le M L h
    have hk : L.length * (M + 15) ≤ 8 * (M + 15) := Nat.mul_le_mul_right _ h4
    rw [h6, List.length_append, List.length_cons, list_size]
    omega
  · rw [pPut_bad m v L he]; simp

theorem ba_list (b : ByteArray) : (⟨b.data.toList.toArray⟩ : ByteArray) = b := rfl

end Go.Proofs.Ytipljconbnaffaa
