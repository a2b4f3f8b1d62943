/- A text read by characters, from the front on; what is put is read, what is read is put; parts: plain mathematics. And that the language's range over a text reads so. -/
import Derived.Test.YtaochgndednamaaDoorUMath
import Derived.Lib.Strings
namespace Go.Proofs.YtaochgndednamaaDoor

/-- The characters from the front on, and how many bytes they have. -/
def rd : Nat → List UInt8 → List Nat × Nat
  | 0, _ => ([], 0)
  | f + 1, l => if (dec8 l).2 = 0 then ([], 0) else ((dec8 l).1 :: (rd f (l.drop (dec8 l).2)).1, (dec8 l).2 + (rd f (l.drop (dec8 l).2)).2)
def read (l : List UInt8) : List Nat × Nat := rd l.length l

theorem rd_stop (f : Nat) (l : List UInt8) (h : (dec8 l).2 = 0) : rd f l = ([], 0) := by
  cases f with
  | zero => rfl
  | succ f => rw [rd, if_pos h]
theorem rd_more (f : Nat) : ∀ (g : Nat) (l : List UInt8), l.length ≤ f → l.length ≤ g → rd f l = rd g l := by
  induction f with
  | zero =>
    intro g l h _
    have : l = [] := List.length_eq_zero_iff.1 (by omega)
    subst this
    rw [rd_stop g [] rfl]
    rfl
  | succ f ih =>
    intro g l hf hg
    by_cases hd : (dec8 l).2 = 0
    · rw [rd_stop _ l hd, rd_stop _ l hd]
    · obtain ⟨_, h2, _⟩ := dec8_ok l hd
      obtain ⟨k, rfl⟩ : ∃ k, g = k + 1 := ⟨g - 1, by omega⟩
      rw [rd, rd, if_neg hd, if_neg hd, ih k (l.drop (dec8 l).2) (by rw [List.length_drop]; omega) (by rw [List.length_drop]; omega)]
theorem read_stop (l : List UInt8) (h : (dec8 l).2 = 0) : read l = ([], 0) := rd_stop _ l h
theorem read_nil : read [] = ([], 0) := rfl
theorem read_go (l : List UInt8) (h : (dec8 l).2 ≠ 0) : read l = ((dec8 l).1 :: (read (l.drop (dec8 l).2)).1, (dec8 l).2 + (read (l.drop (dec8 l).2)).2) := by
  obtain ⟨_, h2, _⟩ := dec8_ok l h
  unfold read
  obtain ⟨k, hk⟩ : ∃ k, l.length = k + 1 := ⟨l.length - 1, by omega⟩
  rw [hk, rd, if_neg h, rd_more k (l.drop (dec8 l).2).length (l.drop (dec8 l).2) (by rw [List.length_drop]; omega) (Nat.le_refl _)]

/-- Characters' bytes, one behind the other. -/
def puts : List Nat → List UInt8
  | [] => []
  | c :: r => chr c ++ puts r

theorem puts_append (a b : List Nat) : puts (a ++ b) = puts a ++ puts b := by
  induction a with
  | nil => rfl
  | cons c r ih => simp [puts, ih]
theorem puts_take (L : List Nat) (i : Nat) (h : i < L.length) : puts (L.take (i + 1)) = puts (L.take i) ++ chr L[i] := by
  rw [List.take_add_one, List.getElem?_eq_getElem h, puts_append]
  simp [puts]
theorem puts_length (L : List Nat) : L.length ≤ (puts L).length ∧ (puts L).length ≤ 4 * L.length := by
  induction L with
  | nil => simp [puts]
  | cons c r ih =>
    have := chr_length c
    simp only [puts, List.length_append, List.length_cons]
    omega

/-- What is put is read, and then what stands behind. -/
theorem read_puts (L : List Nat) (r : List UInt8) (h : ∀ c ∈ L, isC c) : read (puts L ++ r) = (L ++ (read r).1, (puts L).length + (read r).2) := by
  induction L with
  | nil => simp [puts]
  | cons c t ih =>
    have h1 := dec8_chr c (puts t ++ r) (h c (by simp))
    have hl := chr_length c
    have e : puts (c :: t) ++ r = chr c ++ (puts t ++ r) := by simp [puts]
    rw [e, read_go _ (by rw [h1]; dsimp only; omega), h1]
    dsimp only
    rw [List.drop_left, ih (fun d hd => h d (by simp [hd]))]
    simp [puts]
    omega

/-- What is read is the characters' bytes. -/
theorem read_ok (n : Nat) : ∀ l : List UInt8, l.length ≤ n → (read l).2 ≤ l.length ∧ puts (read l).1 = l.take (read l).2 ∧ (∀ c ∈ (read l).1, isC c) ∧ (puts (read l).1).length = (read l).2 ∧ (dec8 (l.drop (read l).2)).2 = 0 := by
  induction n with
  | zero =>
    intro l h
    have : l = [] := List.length_eq_zero_iff.1 (by omega)
    subst this
    rw [read_nil]
    simp [puts, dec8_nil]
  | succ n ih =>
    intro l hl
    by_cases hd : (dec8 l).2 = 0
    · rw [read_stop l hd]
      simp [puts, hd]
    · obtain ⟨d1, d2, d3, d4⟩ := dec8_ok l hd
      obtain ⟨i1, i2, i3, i4, i5⟩ := ih (l.drop (dec8 l).2) (by rw [List.length_drop]; omega)
      rw [read_go l hd]
      dsimp only
      rw [List.length_drop] at i1
      refine ⟨by omega, ?_, ?_, ?_, ?_⟩
      · rw [puts, d3, i2, List.take_add]
      · intro c hc
        rcases List.mem_cons.1 hc with rfl | hc
        · exact d1
        · exact i3 c hc
      · rw [puts, List.length_append, d4, i4]
      · rw [← List.drop_drop]
        exact i5

theorem read_le (l : List UInt8) : (read l).2 ≤ l.length := (read_ok l.length l (Nat.le_refl _)).1
theorem read_take (l : List UInt8) : puts (read l).1 = l.take (read l).2 := (read_ok l.length l (Nat.le_refl _)).2.1
theorem read_isC (l : List UInt8) : ∀ c ∈ (read l).1, isC c := (read_ok l.length l (Nat.le_refl _)).2.2.1
/-- A text that is UTF-8 is put as it was. -/
theorem puts_read (l : List UInt8) (h : (read l).2 = l.length) : puts (read l).1 = l := by
  rw [read_take, h, List.take_length]
/-- Behind what is read stands no character. -/
theorem read_behind (l : List UInt8) : (dec8 (l.drop (read l).2)).2 = 0 := (read_ok l.length l (Nat.le_refl _)).2.2.2.2
/-- Two texts, the first one UTF-8. -/
theorem read_two (a b : List UInt8) (h : (read a).2 = a.length) : read (a ++ b) = ((read a).1 ++ (read b).1, a.length + (read b).2) := by
  have e := puts_read a h
  have h1 := read_puts (read a).1 b (read_isC a)
  rw [e] at h1
  exact h1
/-- The beginning up to where it isn't any more. -/
theorem read_cut (l : List UInt8) : read (l.take (read l).2) = ((read l).1, (read l).2) := by
  have h1 := read_puts (read l).1 [] (read_isC l)
  rw [List.append_nil, read_take, read_nil] at h1
  rw [h1, List.length_take, Nat.min_eq_left (read_le l)]
  simp
theorem read_count (l : List UInt8) : (read l).1.length ≤ (read l).2 := by
  have h1 := (puts_length (read l).1).1
  rw [read_take, List.length_take] at h1
  omega

theorem at8_drop (s : ByteArray) (i k : Nat) (h : i + k < s.size) : at8 (s.data.toList.drop i) k = (s.get! (i + k)).toNat := by
  have hk : k < (s.data.toList.drop i).length := by rw [List.length_drop, Array.length_toList]; show k < s.size - i; omega
  unfold at8
  rw [List.getD_eq_getElem?_getD, List.getElem?_eq_getElem hk]
  simp [ByteArray.get!, getElem!_pos, h]

end Go.Proofs.YtaochgndednamaaDoor
