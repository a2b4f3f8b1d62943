/- More of the mathematics of files. -/
import Derived.Test.YtgoffkfpdigeeaaGreatDoorQA
namespace Go.Proofs.YtgoffkfpdigeeaaGreatDoor

theorem pGet_bad (m b : List UInt8) (h : (pGet m b).1 ≠ 0) : (pGet m b).2 = (0, []) := by
  unfold pGet at h ⊢
  by_cases h1 : m.length ≠ 4 ∨ b.take 4 ≠ m
  · rw [if_pos h1]
  rw [if_neg h1] at h ⊢
  cases hd : b.drop 4 with
  | nil => rfl
  | cons v r =>
    rw [hd] at h
    dsimp only at h ⊢
    by_cases h2 : v.toNat = 0
    · rw [if_pos h2]
    rw [if_neg h2] at h ⊢
    by_cases h3 : (secsL 8 r).1 ≠ 0
    · rw [if_pos h3]
    · rw [if_neg h3] at h; exact absurd rfl h

theorem body_mem (L : List Sec) (s : Sec) (h : s ∈ L) : s.2.size ≤ (bodyL L).length := by
  induction L with
  | nil => simp at h
  | cons t r ih =>
    simp only [bodyL, List.length_append]
    rcases List.mem_cons.1 h with rfl | h
    · have := secL_length s; omega
    · have := ih h; omega

theorem pPut_sizes (m : ByteArray) (v : Int) (L : List Sec) (h : (pPut m v L).2 = 0) : L.length ≤ 8 ∧ ∀ s ∈ L, s.2.size ≤ (pPut m v L).1.length := by
  obtain ⟨_, _, _, h4, _, h6⟩ := pPut_ok m v L h
  refine ⟨h4, fun s hs => ?_⟩
  have := body_mem L s hs
  rw [h6]
  simp
  omega

theorem pPut_length (m : ByteArray) (v : Int) (L : List Sec) (M : Nat) (h : ∀ s ∈ L, s.2.size ≤ M) : (pPut m v L).1.length ≤ 5 + 8 * (M + 15) := by
  by_cases he : (pPut m v L).2 = 0
  · obtain ⟨h1, _, _, h4, _, h6⟩ := pPut_ok m v L he
    have hb := bodyL_le M L h
    have hk : L.length * (M + 15) ≤ 8 * (M + 15) := Nat.mul_le_mul_right _ h4
    rw [h6, List.length_append, List.length_cons, list_size]
    omega
  · rw [pPut_bad m v L he]; simp

theorem ba_list (b : ByteArray) : (⟨b.data.toList.toArray⟩ : ByteArray) = b := rfl

end Go.Proofs.YtgoffkfpdigeeaaGreatDoor
/- What is cut off, and what is changed within one payload: plain mathematics of files. -/
namespace Go.Proofs.YtgoffkfpdigeeaaGreatDoor

theorem dec_cut (f : Nat) : ∀ (k X m j : Nat), f + k = 9 → m < 2 * 128 ^ f → j < (enc f m).length → dec k X ((enc f m).take j) = (0, 0, 2) := by
  induction f with
  | zero =>
    intro k X m j _ _ hj
    simp [enc] at hj
    subst hj
    simp [dec]
  | succ f ih =>
    intro k X m j hk hm hj
    by_cases hlt : m < 128
    · rw [enc_small _ m hlt] at hj ⊢
      simp at hj
      subst hj
      simp [dec]
    · rw [enc_big f m (by omega)] at hj ⊢
      cases j with
      | zero => simp [dec]
      | succ j =>
        have hm2 : m / 128 < 2 * 128 ^ f := by rw [Nat.pow_succ] at hm; omega
        have hc : (UInt8.ofNat (128 + m % 128)).toNat = 128 + m % 128 := by simp; omega
        rw [List.take_succ_cons, dec_more k X _ _ (by omega) (by omega)]
        exact ih _ _ _ j (by omega) hm2 (by simpa using hj)

theorem put_cut (n j : Nat) (h : n < 18446744073709551616) (hj : j < (put n).length) : dec 0 0 ((put n).take j) = (0, 0, 2) := dec_cut 9 0 0 n j rfl (by omega) hj

theorem sec1_cut (s : Sec) (k : Nat) (h : okSec s) (h0 : 0 < k) (hk : k < (secL s).length) : (sec1 ((secL s).take k)).1 = 2 := by
  obtain ⟨h1, h2, h3⟩ := h
  have hl : s.2.data.toList.length = s.2.size := list_size s.2
  have hc : (UInt8.ofNat s.1.toNat).toNat = s.1.toNat := toNat_ofNat8 _ (by omega)
  obtain ⟨j, rfl⟩ : ∃ j, k = j + 1 := ⟨k - 1, by omega⟩
  rw [secL_length] at hk
  unfold secL
  rw [List.take_succ_cons, sec1_cons]
  by_cases hj : j < (put s.2.size).length
  · rw [List.take_append_of_le_length (by omega), put_cut _ _ (by omega) hj]
    unfold sec0
    rw [hc, if_neg (by omega), if_pos (by simp)]
  · rw [List.take_append, List.take_of_length_le (by omega)]
    rw [dec_put s.2.size (by omega)]
    unfold sec0
    rw [hc, if_neg (by omega), if_neg (by simp), if_neg (by dsimp only; omega), if_pos (by simp [four_length]; omega)]

theorem secs_cut (L : List Sec) : ∀ f k, (∀ s ∈ L, okSec s) → L.length ≤ f → k < (bodyL L).length →
    ((secsL f ((bodyL L).take k)).1 ≠ 0 → (secsL f ((bodyL L).take k)).1 = 2) ∧ ((secsL f ((bodyL L).take k)).1 = 0 → (secsL f ((bodyL L).take k)).2.length < L.length ∧ (secsL f ((bodyL L).take k)).2 = L.take (secsL f ((bodyL L).take k)).2.length) := by
  induction L with
  | nil => intro f k _ _ hk; simp [bodyL] at hk
  | cons s r ih =>
    intro f k hok hf hk
    obtain ⟨g, rfl⟩ : ∃ g, f = g + 1 := ⟨f - 1, by simp at hf; omega⟩
    by_cases h0 : k = 0
    · subst h0
      rw [List.take_zero, secsL_nil]
      exact ⟨fun h => absurd rfl h, fun _ => ⟨by simp, by simp⟩⟩
    · show _ ∧ _
      have hb : bodyL (s :: r) = secL s ++ bodyL r := rfl
      rw [hb] at hk ⊢
      by_cases hs : k < (secL s).length
      · rw [List.take_append_of_le_length (by omega)]
        have hc := sec1_cut s k (hok s (by simp)) (by omega) hs
        have hne : (secL s).take k ≠ [] := by
          intro e
          have := congrArg List.length e
          rw [List.length_take, List.length_nil] at this
          omega
        rw [secsL_bad g _ hne (by rw [hc]; decide), hc]
        exact ⟨fun _ => rfl, fun h => absurd h (by decide)⟩
      · have ht : (secL s ++ bodyL r).take k = secL s ++ (bodyL r).take (k - (secL s).length) := by
          rw [List.take_append, List.take_of_length_le (by omega)]
        have h1 := sec1_put s ((bodyL r).take (k - (secL s).length)) (hok s (by simp))
        have hne : secL s ++ (bodyL r).take (k - (secL s).length) ≠ [] := by simp [secL]
        rw [ht, secsL_go g _ hne (by rw [h1]), h1]
        dsimp only
        rw [List.drop_left]
        obtain ⟨i1, i2⟩ := ih g (k - (secL s).length) (fun t ht => hok t (by simp [ht])) (by simpa using hf) (by rw [List.length_append] at hk; omega)
        generalize secsL g ((bodyL r).take (k - (secL s).length)) = q at *
        by_cases hq : q.1 = 0
        · rw [cont_ok hq]
          obtain ⟨j1, j2⟩ := i2 hq
          refine ⟨fun h => absurd rfl h, fun _ => ⟨by simpa using j1, ?_⟩⟩
          show s :: q.2 = (s :: r).take (q.2.length + 1)
          rw [List.take_succ_cons, ← j2]
        · rw [cont_bad hq]
          exact ⟨fun _ => i1 hq, fun h => absurd h hq⟩

/-- Cut off anywhere, a file is told to be wrong, or has fewer sections, all of them as they were. -/
theorem cut_math (m : ByteArray) (v : Int) (L : List Sec) (n : Nat) (h : (pPut m v L).2 = 0) (hn : n < (pPut m v L).1.length) :
    ((pGet m.data.toList ((pPut m v L).1.take n)).1 ≠ 0 → (pGet m.data.toList ((pPut m v L).1.take n)).1 = 2 ∨ (pGet m.data.toList ((pPut m v L).1.take n)).1 = 6) ∧
    ((pGet m.data.toList ((pPut m v L).1.take n)).1 = 0 → (pGet m.data.toList ((pPut m v L).1.take n)).2.2.length < L.length ∧ (pGet m.data.toList ((pPut m v L).1.take n)).2.2 = L.take (pGet m.data.toList ((pPut m v L).1.take n)).2.2.length) := by
  obtain ⟨h1, h2, h3, h4, h5, h6⟩ := pPut_ok m v L h
  have hm : m.data.toList.length = 4 := by rw [list_size]; exact h1
  rw [h6] at hn ⊢
  rw [List.length_append, List.length_cons, hm] at hn
  by_cases n4 : n < 4
  · have hG : pGet m.data.toList ((m.data.toList ++ UInt8.ofNat v.toNat :: bodyL L).take n) = (6, 0, []) := by
      unfold pGet
      rw [if_pos]
      right
      intro e
      have := congrArg List.length e
      rw [List.length_take, List.length_take, List.length_append, hm] at this
      omega
    rw [hG]
    exact ⟨fun _ => .inr rfl, fun h => absurd h (by decide)⟩
  · have ht : (m.data.toList ++ UInt8.ofNat v.toNat :: bodyL L).take n = m.data.toList ++ (UInt8.ofNat v.toNat :: bodyL L).take (n - 4) := by
      rw [List.take_append, List.take_of_length_le (by omega), hm]
    rw [ht]
    have t1 : ∀ t : List UInt8, (m.data.toList ++ t).take 4 = m.data.toList := fun t => by rw [← hm, List.take_left]
    have t2 : ∀ t : List UInt8, (m.data.toList ++ t).drop 4 = t := fun t => by rw [← hm, List.drop_left]
    unfold pGet
    rw [t1, t2, if_neg (by simp [hm])]
    obtain ⟨j, hj⟩ : ∃ j, n - 4 = j := ⟨_, rfl⟩
    rw [hj]
    cases j with
    | zero =>
      rw [List.take_zero]
      exact ⟨fun _ => .inl rfl, fun h => absurd h (by decide)⟩
    | succ j =>
      rw [List.take_succ_cons]
      dsimp only
      rw [toNat_ofNat8 v.toNat (by omega), if_neg (by omega)]
      obtain ⟨c1, c2⟩ := secs_cut L 8 j h5 h4 (by omega)
      generalize secsL 8 ((bodyL L).take j) = q at *
      by_cases hq : q.1 ≠ 0
      · rw [if_pos hq]
        exact ⟨fun _ => .inl (c1 hq), fun h => absurd h hq⟩
      · rw [if_neg hq]
        exact ⟨fun h => absurd rfl h, fun _ => c2 (Decidable.not_not.1 hq)⟩

/-- Sections ahead. -/
theorem secs_front (P : List Sec) (r : List UInt8) : ∀ f, (∀ s ∈ P, okSec s) → P.length ≤ f → secsL f (bodyL P ++ r) = cont P (secsL (f - P.length) r) := by
  induction P with
  | nil => intro f _ _; simp [bodyL, cont_nil]
  | cons s p ih =>
    intro f hok hf
    obtain ⟨g, rfl⟩ : ∃ g, f = g + 1 := ⟨f - 1, by simp at hf; omega⟩
    have h1 := sec1_put s (bodyL p ++ r) (hok s (by simp))
    have hne : secL s ++ (bodyL p ++ r) ≠ [] := by simp [secL]
    have e : bodyL (s :: p) ++ r = secL s ++ (bodyL p ++ r) := by simp [bodyL]
    rw [e, secsL_go g _ hne (by rw [h1]), h1]
    dsimp only
    rw [List.drop_left, ih g (fun t ht => hok t (by simp [ht])) (by simpa using hf), cont_cont]
    simp

theorem four_inj (a b : Nat) (ha : a < 4294967296) (hb : b < 4294967296) (h : four a = four b) : a = b := by
  rw [← num_of_four a ha, h, num_of_four b hb]

/-- A payload that has another sum. -/
theorem sec1_other (s : Sec) (c : List UInt8) (r : List UInt8) (h : okSec s) (hl : c.length = s.2.size) (hc : crc s.2.data.toList ≠ crc c) :
    (sec1 (UInt8.ofNat s.1.toNat :: (put s.2.size ++ (c ++ four (crc s.2.data.toList) ++ r)))).1 = 5 := by
  obtain ⟨h1, h2, h3⟩ := h
  have hb : (UInt8.ofNat s.1.toNat).toNat = s.1.toNat := toNat_ofNat8 _ (by omega)
  rw [sec1_cons, dec_put s.2.size (by omega)]
  unfold sec0
  rw [hb, if_neg (by omega), if_neg (by simp), if_neg (by dsimp only; omega), if_neg (by simp [four_length]; omega)]
  dsimp only
  have t1 : ((put s.2.size ++ (c ++ four (crc s.2.data.toList) ++ r)).drop (put s.2.size).length).take s.2.size = c := by
    rw [List.drop_left, List.append_assoc, ← hl, List.take_left]
  have t2 : ((put s.2.size ++ (c ++ four (crc s.2.data.toList) ++ r)).drop ((put s.2.size).length + s.2.size)).take 4 = four (crc s.2.data.toList) := by
    rw [← List.drop_drop, List.drop_left, List.append_assoc, ← hl, List.drop_left, show 4 = (four (crc s.2.data.toList)).length from rfl, List.take_left]
  rw [t1, t2, if_pos (fun e => hc (four_inj _ _ (crc_lt _) (crc_lt _) e))]

/-- What stands ahead of a section's payload in a file. -/
def aheadL (m : List UInt8) (v : Int) (L : List Sec) (i : Nat) (s : Sec) : List UInt8 := m ++ UInt8.ofNat v.toNat :: (bodyL (L.take i) ++ UInt8.ofNat s.1.toNat :: put s.2.size)
def behindL (L : List Sec) (i : Nat) (s : Sec) : List UInt8 := four (crc s.2.data.toList) ++ bodyL (L.drop (i + 1))

theorem file_split (m : ByteArray) (v : Int) (L : List Sec) (i : Nat) (hi : i < L.length) (h : (pPut m v L).2 = 0) :
    (pPut m v L).1 = aheadL m.data.toList v L i L[i] ++ (L[i].2.data.toList ++ behindL L i L[i]) := by
  obtain ⟨_, _, _, _, _, h6⟩ := pPut_ok m v L h
  have e : bodyL L = bodyL (L.take i) ++ (secL L[i] ++ bodyL (L.drop (i + 1))) := by
    conv => lhs; rw [← List.take_append_drop i L, bodyL_append, List.drop_eq_getElem_cons hi]
    rfl
  rw [h6, e]
  simp [aheadL, behindL, secL]

theorem head_split (m : ByteArray) (v : Int) (L : List Sec) (i : Nat) (hi : i < L.length) (h : (pPut m v L).2 = 0) :
    pPut m v (L.take (i + 1)) = (aheadL m.data.toList v L i L[i] ++ (L[i].2.data.toList ++ four (crc L[i].2.data.toList)), 0) := by
  obtain ⟨h1, h2, h3, h4, h5, _⟩ := pPut_ok m v L h
  rw [pPut_of m v _ h1 h2 h3 (by rw [List.length_take]; omega) (fun s hs => h5 s (List.mem_of_mem_take hs)), bodyL_take L i hi]
  simp [aheadL, secL]

/-- With one payload changed, and another sum of it: a wrong sum. -/
theorem burst_math (m : ByteArray) (v : Int) (L : List Sec) (i : Nat) (hi : i < L.length) (h : (pPut m v L).2 = 0) (c : List UInt8) (hl : c.length = L[i].2.size) (hc : crc L[i].2.data.toList ≠ crc c) :
    (pGet m.data.toList (aheadL m.data.toList v L i L[i] ++ (c ++ behindL L i L[i]))).1 = 5 := by
  obtain ⟨h1, h2, h3, h4, h5, _⟩ := pPut_ok m v L h
  have hm : m.data.toList.length = 4 := by rw [list_size]; exact h1
  have e : aheadL m.data.toList v L i L[i] ++ (c ++ behindL L i L[i]) = m.data.toList ++ UInt8.ofNat v.toNat :: (bodyL (L.take i) ++ (UInt8.ofNat L[i].1.toNat :: (put L[i].2.size ++ (c ++ four (crc L[i].2.data.toList) ++ bodyL (L.drop (i + 1)))))) := by
    simp [aheadL, behindL]
  have hs := sec1_other L[i] c (bodyL (L.drop (i + 1))) (h5 _ (List.getElem_mem hi)) hl hc
  rw [e]
  have t1 : ∀ t : List UInt8, (m.data.toList ++ t).take 4 = m.data.toList := fun t => by rw [← hm, List.take_left]
  have t2 : ∀ t : List UInt8, (m.data.toList ++ t).drop 4 = t := fun t => by rw [← hm, List.drop_left]
  unfold pGet
  rw [t1, t2, if_neg (by simp [hm])]
  dsimp only
  rw [toNat_ofNat8 v.toNat (by omega), if_neg (by omega)]
  have hf := secs_front (L.take i) (UInt8.ofNat L[i].1.toNat :: (put L[i].2.size ++ (c ++ four (crc L[i].2.data.toList) ++ bodyL (L.drop (i + 1))))) 8 (fun s hs => h5 s (List.mem_of_mem_take hs)) (by rw [List.length_take]; omega)
  have hg : 8 - (L.take i).length = (7 - i) + 1 := by rw [List.length_take]; omega
  have hq := secsL_bad (7 - i) (UInt8.ofNat L[i].1.toNat :: (put L[i].2.size ++ (c ++ four (crc L[i].2.data.toList) ++ bodyL (L.drop (i + 1))))) (by simp) (by rw [hs]; decide)
  rw [hs] at hq
  rw [hg, hq, cont_bad (by decide)] at hf
  rw [hf, if_pos (by decide)]

end Go.Proofs.YtgoffkfpdigeeaaGreatDoor
