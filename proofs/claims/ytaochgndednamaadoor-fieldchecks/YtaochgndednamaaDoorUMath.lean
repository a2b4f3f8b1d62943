/- Characters and their bytes (UTF-8) as plain mathematics: lists of bytes and numbers; and that the language's own reading of a text by characters is this one. -/
import Derived.Test.YtaochgndednamaaDoorMath
import Derived.Laws.RangeAny
namespace Go.Proofs.YtaochgndednamaaDoor

/-- A character. -/
abbrev isC (c : Nat) : Prop := c ≤ 1114111 ∧ ¬ (55296 ≤ c ∧ c ≤ 57343)

def b8 (n : Nat) : UInt8 := UInt8.ofNat n
theorem b8_toNat (n : Nat) (h : n < 256) : (b8 n).toNat = n := by simp [b8]; omega
theorem b8_of (c : UInt8) (n : Nat) (h : c.toNat = n) : b8 n = c := by rw [← h]; simp [b8]

/-- Its bytes. -/
def chr (c : Nat) : List UInt8 :=
  if c < 128 then [b8 c]
  else if c < 2048 then [b8 (192 + c / 64), b8 (128 + c % 64)]
  else if c < 65536 then [b8 (224 + c / 4096), b8 (128 + c / 64 % 64), b8 (128 + c % 64)]
  else [b8 (240 + c / 262144), b8 (128 + c / 4096 % 64), b8 (128 + c / 64 % 64), b8 (128 + c % 64)]

theorem chr_length (c : Nat) : 1 ≤ (chr c).length ∧ (chr c).length ≤ 4 := by
  unfold chr
  repeat' split
  all_goals simp

/-- The bytes' numbers, 0 where there is none. -/
def at8 (l : List UInt8) (k : Nat) : Nat := (l.getD k 0).toNat
abbrev cont8 (l : List UInt8) (k : Nat) : Prop := k < l.length ∧ at8 l k / 64 = 2

/-- What stands in front: the character, and how many bytes it has; 0, 0: none. -/
def dec8 (l : List UInt8) : Nat × Nat :=
  if l = [] then (0, 0)
  else if at8 l 0 < 128 then (at8 l 0, 1)
  else if at8 l 0 / 32 = 6 ∧ cont8 l 1 then
    (if 128 ≤ at8 l 0 % 32 * 64 + at8 l 1 % 64 then (at8 l 0 % 32 * 64 + at8 l 1 % 64, 2) else (0, 0))
  else if at8 l 0 / 16 = 14 ∧ cont8 l 1 ∧ cont8 l 2 then
    (if 2048 ≤ at8 l 0 % 16 * 4096 + at8 l 1 % 64 * 64 + at8 l 2 % 64 ∧ isC (at8 l 0 % 16 * 4096 + at8 l 1 % 64 * 64 + at8 l 2 % 64) then (at8 l 0 % 16 * 4096 + at8 l 1 % 64 * 64 + at8 l 2 % 64, 3) else (0, 0))
  else if at8 l 0 / 8 = 30 ∧ cont8 l 1 ∧ cont8 l 2 ∧ cont8 l 3 then
    (if 65536 ≤ at8 l 0 % 8 * 262144 + at8 l 1 % 64 * 4096 + at8 l 2 % 64 * 64 + at8 l 3 % 64 ∧ isC (at8 l 0 % 8 * 262144 + at8 l 1 % 64 * 4096 + at8 l 2 % 64 * 64 + at8 l 3 % 64) then (at8 l 0 % 8 * 262144 + at8 l 1 % 64 * 4096 + at8 l 2 % 64 * 64 + at8 l 3 % 64, 4) else (0, 0))
  else (0, 0)

/-- A character's bytes are it, whatever stands behind. -/
theorem dec8_chr (c : Nat) (r : List UInt8) (h : isC c) : dec8 (chr c ++ r) = (c, (chr c).length) := by
  obtain ⟨h1, h2⟩ := h
  unfold chr
  by_cases c1 : c < 128
  · rw [if_pos c1]
    have e0 : at8 ([b8 c] ++ r) 0 = c := by simp [at8]; exact b8_toNat c (by omega)
    unfold dec8
    rw [if_neg (by simp), if_pos (by rw [e0]; exact c1), e0]
    rfl
  rw [if_neg c1]
  by_cases c2 : c < 2048
  · rw [if_pos c2]
    have e0 : at8 ([b8 (192 + c / 64), b8 (128 + c % 64)] ++ r) 0 = 192 + c / 64 := by simp [at8]; exact b8_toNat _ (by omega)
    have e1 : at8 ([b8 (192 + c / 64), b8 (128 + c % 64)] ++ r) 1 = 128 + c % 64 := by simp [at8]; exact b8_toNat _ (by omega)
    have k1 : cont8 ([b8 (192 + c / 64), b8 (128 + c % 64)] ++ r) 1 := ⟨by simp, by rw [e1]; omega⟩
    unfold dec8
    rw [if_neg (by simp), if_neg (by rw [e0]; omega), if_pos ⟨by rw [e0]; omega, k1⟩, e0, e1, if_pos (by omega)]
    simp only [Prod.mk.injEq]
    exact ⟨by omega, rfl⟩
  rw [if_neg c2]
  by_cases c3 : c < 65536
  · rw [if_pos c3]
    have e0 : at8 ([b8 (224 + c / 4096), b8 (128 + c / 64 % 64), b8 (128 + c % 64)] ++ r) 0 = 224 + c / 4096 := by simp [at8]; exact b8_toNat _ (by omega)
    have e1 : at8 ([b8 (224 + c / 4096), b8 (128 + c / 64 % 64), b8 (128 + c % 64)] ++ r) 1 = 128 + c / 64 % 64 := by simp [at8]; exact b8_toNat _ (by omega)
    have e2 : at8 ([b8 (224 + c / 4096), b8 (128 + c / 64 % 64), b8 (128 + c % 64)] ++ r) 2 = 128 + c % 64 := by simp [at8]; exact b8_toNat _ (by omega)
    have k1 : cont8 ([b8 (224 + c / 4096), b8 (128 + c / 64 % 64), b8 (128 + c % 64)] ++ r) 1 := ⟨by simp, by rw [e1]; omega⟩
    have k2 : cont8 ([b8 (224 + c / 4096), b8 (128 + c / 64 % 64), b8 (128 + c % 64)] ++ r) 2 := ⟨by simp, by rw [e2]; omega⟩
    have ev : (224 + c / 4096) % 16 * 4096 + (128 + c / 64 % 64) % 64 * 64 + (128 + c % 64) % 64 = c := by omega
    unfold dec8
    rw [if_neg (by simp), if_neg (by rw [e0]; omega), if_neg (by rw [e0]; omega), if_pos ⟨by rw [e0]; omega, k1, k2⟩, e0, e1, e2, ev, if_pos ⟨by omega, h1, h2⟩]
    rfl
  rw [if_neg c3]
  have e0 : at8 ([b8 (240 + c / 262144), b8 (128 + c / 4096 % 64), b8 (128 + c / 64 % 64), b8 (128 + c % 64)] ++ r) 0 = 240 + c / 262144 := by simp [at8]; exact b8_toNat _ (by omega)
  have e1 : at8 ([b8 (240 + c / 262144), b8 (128 + c / 4096 % 64), b8 (128 + c / 64 % 64), b8 (128 + c % 64)] ++ r) 1 = 128 + c / 4096 % 64 := by simp [at8]; exact b8_toNat _ (by omega)
  have e2 : at8 ([b8 (240 + c / 262144), b8 (128 + c / 4096 % 64), b8 (128 + c / 64 % 64), b8 (128 + c % 64)] ++ r) 2 = 128 + c / 64 % 64 := by simp [at8]; exact b8_toNat _ (by omega)
  have e3 : at8 ([b8 (240 + c / 262144), b8 (128 + c / 4096 % 64), b8 (128 + c / 64 % 64), b8 (128 + c % 64)] ++ r) 3 = 128 + c % 64 := by simp [at8]; exact b8_toNat _ (by omega)
  have k1 : cont8 ([b8 (240 + c / 262144), b8 (128 + c / 4096 % 64), b8 (128 + c / 64 % 64), b8 (128 + c % 64)] ++ r) 1 := ⟨by simp, by rw [e1]; omega⟩
  have k2 : cont8 ([b8 (240 + c / 262144), b8 (128 + c / 4096 % 64), b8 (128 + c / 64 % 64), b8 (128 + c % 64)] ++ r) 2 := ⟨by simp, by rw [e2]; omega⟩
  have k3 : cont8 ([b8 (240 + c / 262144), b8 (128 + c / 4096 % 64), b8 (128 + c / 64 % 64), b8 (128 + c % 64)] ++ r) 3 := ⟨by simp, by rw [e3]; omega⟩
  have ev : (240 + c / 262144) % 8 * 262144 + (128 + c / 4096 % 64) % 64 * 4096 + (128 + c / 64 % 64) % 64 * 64 + (128 + c % 64) % 64 = c := by omega
  unfold dec8
  rw [if_neg (by simp), if_neg (by rw [e0]; omega), if_neg (by rw [e0]; omega), if_neg (by rw [e0]; omega), if_pos ⟨by rw [e0]; omega, k1, k2, k3⟩, e0, e1, e2, e3, ev, if_pos ⟨by omega, h1, h2⟩]
  rfl

theorem at8_lt (l : List UInt8) (k : Nat) : at8 l k < 256 := (l.getD k 0).toNat_lt
theorem take8 (l : List UInt8) (n : Nat) (h : n ≤ l.length) : l.take n = (List.range n).map (fun k => b8 (at8 l k)) := by
  apply List.ext_getElem
  · simp; omega
  · intro i h1 h2
    have hi : i < l.length := by simp at h1; omega
    simp [at8, b8, hi]

/-- What stands in front is its bytes. -/
theorem dec8_ok (l : List UInt8) (h : (dec8 l).2 ≠ 0) : isC (dec8 l).1 ∧ (dec8 l).2 ≤ l.length ∧ chr (dec8 l).1 = l.take (dec8 l).2 ∧ (chr (dec8 l).1).length = (dec8 l).2 := by
  have b0 := at8_lt l 0
  have b1 := at8_lt l 1
  have b2 := at8_lt l 2
  have b3 := at8_lt l 3
  unfold dec8 at h ⊢
  by_cases hn : l = []
  · rw [if_pos hn] at h; exact absurd rfl h
  have hl : 0 < l.length := List.length_pos_iff.2 hn
  rw [if_neg hn] at h ⊢
  by_cases c1 : at8 l 0 < 128
  · rw [if_pos c1]
    refine ⟨⟨by omega, by omega⟩, by dsimp only; omega, ?_, ?_⟩
    · dsimp only
      unfold chr
      rw [if_pos c1, take8 l 1 (by omega)]
      rfl
    · dsimp only
      unfold chr
      rw [if_pos c1]
      rfl
  rw [if_neg c1] at h ⊢
  by_cases c2 : at8 l 0 / 32 = 6 ∧ cont8 l 1
  · obtain ⟨d1, d2, d3⟩ := c2
    rw [if_pos ⟨d1, d2, d3⟩] at h ⊢
    by_cases v : 128 ≤ at8 l 0 % 32 * 64 + at8 l 1 % 64
    · rw [if_pos v]
      have hv : chr (at8 l 0 % 32 * 64 + at8 l 1 % 64) = [b8 (at8 l 0), b8 (at8 l 1)] := by
        unfold chr
        rw [if_neg (by omega), if_pos (by omega), show 192 + (at8 l 0 % 32 * 64 + at8 l 1 % 64) / 64 = at8 l 0 by omega, show 128 + (at8 l 0 % 32 * 64 + at8 l 1 % 64) % 64 = at8 l 1 by omega]
      dsimp only
      rw [hv]
      refine ⟨⟨by omega, by omega⟩, by omega, ?_, rfl⟩
      rw [take8 l 2 (by omega)]
      rfl
    · rw [if_neg v] at h; exact absurd rfl h
  rw [if_neg c2] at h ⊢
  by_cases c3 : at8 l 0 / 16 = 14 ∧ cont8 l 1 ∧ cont8 l 2
  · obtain ⟨d1, ⟨d2, d3⟩, d4, d5⟩ := c3
    rw [if_pos ⟨d1, ⟨d2, d3⟩, d4, d5⟩] at h ⊢
    by_cases v : 2048 ≤ at8 l 0 % 16 * 4096 + at8 l 1 % 64 * 64 + at8 l 2 % 64 ∧ isC (at8 l 0 % 16 * 4096 + at8 l 1 % 64 * 64 + at8 l 2 % 64)
    · rw [if_pos v]
      obtain ⟨v1, v2⟩ := v
      have hv : chr (at8 l 0 % 16 * 4096 + at8 l 1 % 64 * 64 + at8 l 2 % 64) = [b8 (at8 l 0), b8 (at8 l 1), b8 (at8 l 2)] := by
        unfold chr
        rw [if_neg (by omega), if_neg (by omega), if_pos (by omega), show 224 + (at8 l 0 % 16 * 4096 + at8 l 1 % 64 * 64 + at8 l 2 % 64) / 4096 = at8 l 0 by omega, show 128 + (at8 l 0 % 16 * 4096 + at8 l 1 % 64 * 64 + at8 l 2 % 64) / 64 % 64 = at8 l 1 by omega, show 128 + (at8 l 0 % 16 * 4096 + at8 l 1 % 64 * 64 + at8 l 2 % 64) % 64 = at8 l 2 by omega]
      dsimp only
      rw [hv]
      refine ⟨v2, by omega, ?_, rfl⟩
      rw [take8 l 3 (by omega)]
      rfl
    · rw [if_neg v] at h; exact absurd rfl h
  rw [if_neg c3] at h ⊢
  by_cases c4 : at8 l 0 / 8 = 30 ∧ cont8 l 1 ∧ cont8 l 2 ∧ cont8 l 3
  · obtain ⟨d1, ⟨d2, d3⟩, ⟨d4, d5⟩, d6, d7⟩ := c4
    rw [if_pos ⟨d1, ⟨d2, d3⟩, ⟨d4, d5⟩, d6, d7⟩] at h ⊢
    by_cases v : 65536 ≤ at8 l 0 % 8 * 262144 + at8 l 1 % 64 * 4096 + at8 l 2 % 64 * 64 + at8 l 3 % 64 ∧ isC (at8 l 0 % 8 * 262144 + at8 l 1 % 64 * 4096 + at8 l 2 % 64 * 64 + at8 l 3 % 64)
    · rw [if_pos v]
      obtain ⟨v1, v2⟩ := v
      have hv : chr (at8 l 0 % 8 * 262144 + at8 l 1 % 64 * 4096 + at8 l 2 % 64 * 64 + at8 l 3 % 64) = [b8 (at8 l 0), b8 (at8 l 1), b8 (at8 l 2), b8 (at8 l 3)] := by
        unfold chr
        rw [if_neg (by omega), if_neg (by omega), if_neg (by omega), show 240 + (at8 l 0 % 8 * 262144 + at8 l 1 % 64 * 4096 + at8 l 2 % 64 * 64 + at8 l 3 % 64) / 262144 = at8 l 0 by omega, show 128 + (at8 l 0 % 8 * 262144 + at8 l 1 % 64 * 4096 + at8 l 2 % 64 * 64 + at8 l 3 % 64) / 4096 % 64 = at8 l 1 by omega, show 128 + (at8 l 0 % 8 * 262144 + at8 l 1 % 64 * 4096 + at8 l 2 % 64 * 64 + at8 l 3 % 64) / 64 % 64 = at8 l 2 by omega, show 128 + (at8 l 0 % 8 * 262144 + at8 l 1 % 64 * 4096 + at8 l 2 % 64 * 64 + at8 l 3 % 64) % 64 = at8 l 3 by omega]
      dsimp only
      rw [hv]
      refine ⟨v2, by omega, ?_, rfl⟩
      rw [take8 l 4 (by omega)]
      rfl
    · rw [if_neg v] at h; exact absurd rfl h
  · rw [if_neg c4] at h; exact absurd rfl h

/-- A beginning that is a character's bytes is what stands in front. -/
theorem dec8_take (l : List UInt8) (c n : Nat) (h : isC c) (hn : n ≤ l.length) (he : chr c = l.take n) : dec8 l = (c, n) := by
  have h1 := dec8_chr c (l.drop n) h
  rw [he, List.take_append_drop, List.length_take, Nat.min_eq_left hn] at h1
  exact h1

theorem dec8_nil : dec8 [] = (0, 0) := rfl
theorem dec8_zero (l : List UInt8) (h : (dec8 l).2 = 0) : dec8 l = (0, 0) := by
  revert h
  unfold dec8
  repeat' split
  all_goals first
    | (intro _; rfl)
    | (intro h; dsimp only at h; omega)

end Go.Proofs.YtaochgndednamaaDoor
