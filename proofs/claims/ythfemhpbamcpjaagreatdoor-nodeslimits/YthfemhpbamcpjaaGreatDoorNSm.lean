/- Nodes that are got without error are few, and none is big: as plain mathematics. -/
import Derived.Test.YthfemhpbamcpjaaGreatDoorNGm
import Derived.Test.YthfemhpbamcpjaaGreatDoorTD
import Derived.Test.YthfemhpbamcpjaaGreatDoorRB
namespace Go.Proofs.YthfemhpbamcpjaaGreatDoor
open Go.RowKit
theorem gets6_right (b : ByteArray) (M : Int) (n : Nat) : ∀ (k : Nat) (xs : List ByteArray), (∀ s ∈ xs, right5 s = true) → (gets6 b M n k xs).1 = 0 → ∀ s ∈ (gets6 b M n k xs).2.1, right5 s = true := by
  induction n with
  | zero => intro k xs hx _ s hs; exact hx s hs
  | succ n ih =>
    intro k xs hx h
    obtain ⟨t, ht⟩ : ∃ t, t = pText b k 0 (M - (sum6 xs : Nat)) := ⟨_, rfl⟩
    rw [gets6_step b M n k xs t ht] at h ⊢
    split at h
    · rename_i h1; exact absurd h h1
    · rename_i h1
      rw [if_neg h1]
      split at h
      · cases h
      · rename_i h2
        rw [if_neg h2]
        split at h
        · cases h
        · rename_i h3
          rw [if_neg h3]
          refine ih _ _ (fun s hs => ?_) h
          rcases List.mem_append.1 hs with hs | hs
          · exact hx s hs
          · obtain rfl := List.mem_singleton.1 hs
            simpa using h2
theorem ok8_right {s : ByteArray} (h : right5 s = true) : ok8 s = true := by
  unfold ok8
  rw [(pFirst_right s).1 h]
  decide
theorem pGet6_ok8 (b : ByteArray) (texts bytes : Int) (h : (pGet6 b texts bytes).1 = 0) : ∀ s ∈ (pGet6 b texts bytes).2, ok8 s = true := by
  rw [pGet6_is] at h ⊢
  by_cases h1 : (pUint b 0 0 (max texts 0)).2.2 ≠ 0
  · rw [if_pos h1] at h
    exact absurd h h1
  rw [if_neg h1] at h ⊢
  unfold after6 at h ⊢
  split at h
  · rename_i h2; exact absurd h h2
  · rename_i h2
    rw [if_neg h2]
    split at h
    · cases h
    · rename_i h3
      rw [if_neg h3]
      exact fun s hs => ok8_right (gets6_right b _ _ _ [] (fun s q => by simp at q) (by simpa using h2) s hs)
theorem sum6_at {L : List ByteArray} {s : ByteArray} (h : s ∈ L) : s.size ≤ sum6 L := by
  induction L with
  | nil => simp at h
  | cons x r ih =>
    have h0 : sum6 (x :: r) = x.size + sum6 r := by simp [sum6]
    rw [h0]
    rcases List.mem_cons.1 h with rfl | h
    · omega
    · have := ih h; omega
theorem newSp_some (k : Int) (h : (newSp k).ok = true) : 1 ≤ (newSp k).ints.length + (newSp k).texts.toNat ∧ (newSp k).ints.length ≤ 3 + 1 ∧ (newSp k).texts.toNat ≤ 2 := by
  by_cases hk : k < 1 ∨ 9 ≤ k
  · rw [newSp_no k hk] at h; cases h
  · obtain rfl | rfl | rfl | rfl | rfl | rfl | rfl | rfl : k = 1 ∨ k = 2 ∨ k = 3 ∨ k = 4 ∨ k = 5 ∨ k = 6 ∨ k = 7 ∨ k = 8 := by omega
    all_goals decide
theorem rE_some {N : Nd} {p : Int} (h : rE N p = 0) : 1 ≤ N.ints.length + N.texts.length ∧ N.ints.length ≤ 4 ∧ N.texts.length ≤ 2 := by
  have h1 : tyN N = 0 := by
    unfold rE at h
    split at h
    · assumption
    · exact h
  unfold tyN at h1
  split at h1
  · cases h1
  · rename_i hok
    have hs := newSp_some N.kind (by simpa using hok)
    unfold chkN at h1
    split at h1
    · cases h1
    · split at h1
      · cases h1
      · rename_i h2 h3
        have h2 : fitI (newSp N.kind).ints N.ints = true := by simpa using h2
        have h3 : fitT N.texts (newSp N.kind).texts = true := by simpa using h3
        unfold fitI at h2
        unfold fitT at h3
        rw [Bool.and_eq_true, decide_eq_true_eq] at h2 h3
        omega
theorem flat_one {α : Type} (f : α → List UInt8) (hf : ∀ x, 0 < (f x).length) (l : List α) : l.length ≤ (l.flatMap f).length := by
  induction l with
  | nil => simp
  | cons x r ih =>
    rw [List.flatMap_cons, List.length_append, List.length_cons]
    have := hf x
    omega
theorem rB_three {N : Nd} {p : Int} (L : List ByteArray) (h : rE N p = 0) : 3 ≤ (rB N p L).length ∧ N.kids.length ≤ (rB N p L).length := by
  have h0 := rE_some h
  have h1 := put_length N.kind.toNat
  have h2 := put_length N.kids.length
  have h3 : N.ints.length ≤ (rI N.ints).length := flat_one _ (fun z => (put_length _).1) _
  have h4 : N.texts.length ≤ (rT (itF L N.texts) N.texts).length := flat_one _ (fun z => (put_length _).1) _
  have h5 : N.kids.length ≤ (rK p N.kids).length := flat_one _ (fun z => (put_length _).1) _
  unfold rB
  simp only [List.length_append]
  omega
theorem gNd_three {b : ByteArray} {N : Nd} {p edges : Int} {L : List ByteArray} {k k' : Nat} (h : gNd b p L edges k 0 = (N, k', 0)) (hp : p ≤ 9223372036854775807) (hn : L.Nodup) (hr : ∀ s ∈ L, ok8 s = true) :
    k + 3 ≤ k' ∧ N.kids.length ≤ b.size ∧ (∀ M : Nat, M ≤ 1000 → b.size ≤ M → sum6 L ≤ M → big N = false) ∧ fine N.ints := by
  obtain ⟨a1, a2, _, a4, a5, _⟩ := gNd_bytes h hp hn hr
  have h1 := congrArg List.length a1
  rw [List.length_append, List.length_drop, List.length_drop, Array.length_toList] at h1
  have h2 : b.data.size = b.size := rfl
  have h3 := rB_three L a2
  have h4 := rE_some a2
  refine ⟨by omega, by omega, fun M q0 q1 q2 => ?_, a4⟩
  cases hb : big N with
  | false => rfl
  | true =>
    exfalso
    simp only [big, Bool.or_eq_true, decide_eq_true_eq, List.any_eq_true] at hb
    rcases hb with hb | hb | hb | ⟨s, hs, hb⟩
    · omega
    · omega
    · omega
    · have := sum6_at (a5 s hs); omega
theorem gNd_le (b : ByteArray) (p : Int) (L : List ByteArray) (edges : Int) (k : Nat) (e : Int) (hk : k ≤ b.size) : (gNd b p L edges k e).2.1 ≤ b.size := by
  have h1 := pUint_at b k e 16777216 hk
  unfold gNd
  dsimp only
  generalize pUint b k e 16777216 = Q at *
  have h2 : (gRest b p L edges (newSp Q.1) Q.2.1 (if (newSp Q.1).ok = true then Q.2.2 else fl Q.2.2 9)).2.1 ≤ b.size := by
    unfold gRest
    dsimp only
    exact (gKs_at b p _ _ _ (pUint_at b _ _ _ (gTs_at b L _ _ _ (gIs_at b _ _ _ h1.2).2).2).2).2
  generalize gRest b p L edges (newSp Q.1) Q.2.1 (if (newSp Q.1).ok = true then Q.2.2 else fl Q.2.2 9) = R at h2 ⊢
  by_cases hz : R.2.2 = 0
  · rw [if_pos hz]; exact h2
  · rw [if_neg hz]; exact h2
end Go.Proofs.YthfemhpbamcpjaaGreatDoor
