/- The language's own reading of a text by characters is the plain mathematics'. -/
import Derived.Test.YtaochgndednamaaDoorUMath2
namespace Go.Proofs.YtaochgndednamaaDoor

set_option maxRecDepth 100000 in
theorem decode_is (s : ByteArray) (pos : Nat) (h : pos < s.size) : Utf8.decode s pos = if (dec8 (s.data.toList.drop pos)).2 = 0 then (65533, 1) else dec8 (s.data.toList.drop pos) := by
  obtain ⟨l, hl⟩ : ∃ l, l = s.data.toList.drop pos := ⟨_, rfl⟩
  have hlen : l.length = s.size - pos := by rw [hl, List.length_drop, Array.length_toList]; rfl
  have hne : l ≠ [] := by intro e; rw [e] at hlen; simp at hlen; omega
  have ht : ∀ k, pos + k < s.size → (s.get! (pos + k)).toNat = at8 l k := fun k hk => by rw [hl, at8_drop s pos k hk]
  have hc : ∀ k, (decide (pos + k < s.size) && (s.get! (pos + k)).toNat / 64 == 2) = decide (cont8 l k) := fun k => by
    by_cases hk : pos + k < s.size
    · rw [ht k hk, decide_eq_true hk, Bool.true_and]
      unfold cont8
      have h2 : k < l.length := by omega
      simp [h2, Bool.beq_eq_decide_eq]
    · rw [decide_eq_false hk, Bool.false_and]
      symm
      rw [decide_eq_false_iff_not]
      unfold cont8
      omega
  have t0 := ht 0 (by omega)
  rw [← hl]
  unfold Utf8.decode dec8
  simp only [hc]
  simp only [t0]
  rw [if_neg hne]
  by_cases c1 : at8 l 0 < 128
  · rw [if_pos c1, if_pos c1]; simp
  rw [if_neg c1, if_neg c1]
  by_cases c2 : at8 l 0 / 32 = 6 ∧ cont8 l 1
  · have t1 := ht 1 (by have := c2.2.1; omega)
    rw [if_pos c2, if_pos (by simp [c2]), t1]
    by_cases v : 128 ≤ at8 l 0 % 32 * 64 + at8 l 1 % 64
    · rw [if_pos v, if_pos v]; simp
    · rw [if_neg v, if_neg v]; simp [Utf8.runeError]
  rw [if_neg c2, if_neg (by simpa using c2)]
  by_cases c3 : at8 l 0 / 16 = 14 ∧ cont8 l 1 ∧ cont8 l 2
  · have t1 := ht 1 (by have := c3.2.1.1; omega)
    have t2 := ht 2 (by have := c3.2.2.1; omega)
    rw [if_pos c3, if_pos (by simp [c3]), t1, t2]
    by_cases v : 2048 ≤ at8 l 0 % 16 * 4096 + at8 l 1 % 64 * 64 + at8 l 2 % 64 ∧ isC (at8 l 0 % 16 * 4096 + at8 l 1 % 64 * 64 + at8 l 2 % 64)
    · rw [if_pos v, if_pos (by obtain ⟨v1, v2⟩ := v; unfold isC at v2; simp [Utf8.valid]; omega)]; simp
    · rw [if_neg v, if_neg (by unfold isC at v; simp [Utf8.valid]; omega)]; simp [Utf8.runeError]
  rw [if_neg c3, if_neg (by intro e; apply c3; simpa [and_assoc] using e)]
  by_cases c4 : at8 l 0 / 8 = 30 ∧ cont8 l 1 ∧ cont8 l 2 ∧ cont8 l 3
  · have t1 := ht 1 (by have := c4.2.1.1; omega)
    have t2 := ht 2 (by have := c4.2.2.1.1; omega)
    have t3 := ht 3 (by have := c4.2.2.2.1; omega)
    rw [if_pos c4, if_pos (by simp [c4]), t1, t2, t3]
    by_cases v : 65536 ≤ at8 l 0 % 8 * 262144 + at8 l 1 % 64 * 4096 + at8 l 2 % 64 * 64 + at8 l 3 % 64 ∧ isC (at8 l 0 % 8 * 262144 + at8 l 1 % 64 * 4096 + at8 l 2 % 64 * 64 + at8 l 3 % 64)
    · rw [if_pos v, if_pos (by obtain ⟨v1, v2⟩ := v; unfold isC at v2; simp [Utf8.valid]; omega)]; simp
    · rw [if_neg v, if_neg (by unfold isC at v; simp [Utf8.valid]; omega)]; simp [Utf8.runeError]
  rw [if_neg c4, if_neg (by intro e; apply c4; simpa [and_assoc] using e)]
  simp [Utf8.runeError]

theorem valid_is (c : Int) : Utf8.valid c = decide (0 ≤ c ∧ isC c.toNat) := by
  rw [Bool.eq_iff_iff, decide_eq_true_eq]
  simp only [Utf8.valid, Bool.or_eq_true, Bool.and_eq_true, decide_eq_true_eq]
  unfold isC
  constructor
  · intro h; omega
  · rintro ⟨h1, h2, h3⟩; omega

/-- A character turned into a text: its bytes. -/
theorem encode_is (c : Nat) (h : isC c) : (Utf8.encode (c : Int)).data.toList = chr c := by
  have hv : Utf8.valid (c : Int) = true := by rw [valid_is]; exact decide_eq_true ⟨by omega, h⟩
  unfold Utf8.encode chr b8
  simp only [hv, if_true, Int.toNat_natCast]
  by_cases c1 : c < 128
  · rw [if_pos c1, if_pos c1]
  rw [if_neg c1, if_neg c1]
  by_cases c2 : c < 2048
  · rw [if_pos c2, if_pos c2]
  rw [if_neg c2, if_neg c2]
  by_cases c3 : c < 65536
  · rw [if_pos c3, if_pos c3]
  rw [if_neg c3, if_neg c3]

end Go.Proofs.YtaochgndednamaaDoor
