/- The contracts of frame.Put and of what it asks first. -/
import Derived.Test.YtipljconbnaffaaFMath
import Derived.Test.YtipljconbnaffaaBld
import Derived.Test.YtipljconbnaffaaPut
namespace Go.Proofs.Ytipljconbnaffaa
open Go.RowKit

/-- The sections of a list lie in block b from place o on, two cells each. -/
def SecAt (w : World) (b o : Nat) (L : List Sec) : Prop := ∀ i (h : i < L.length), b < w.heap.size ∧ w.cell? ⟨b, o + i * 2, none⟩ = some (.int .i64 (L[i]'h).1) ∧ w.cell? ⟨b, o + i * 2 + 1, none⟩ = some (.string (L[i]'h).2)

theorem SecAt.below {w w' : World} {b o : Nat} {L : List Sec} (h : SecAt w b o L) (hb : Below w.heap.size w w') : SecAt w' b o L := fun i hi => by
  obtain ⟨h1, h2, h3⟩ := h i hi
  exact ⟨Nat.lt_of_lt_of_le h1 hb.size, ((bcell hb).1 b _ h1).trans h2, ((bcell hb).1 b _ h1).trans h3⟩

/-- What Put asks first. -/
def cf (m : Nat) (v n : Int) : Int := if m ≠ 4 then 6 else if v < 1 ∨ 255 < v then 7 else if 8 < n then 8 else 0
def cs (s : Sec) : Int := if s.1 < 1 ∨ 255 < s.1 then 4 else if 16777216 < s.2.size then 19 else 0

theorem pPut_first (m : ByteArray) (v : Int) (L : List Sec) (h : cf m.size v L.length ≠ 0) : pPut m v L = ([], cf m.size v L.length) := by
  unfold cf at h ⊢
  unfold pPut
  by_cases h1 : m.size ≠ 4
  · rw [if_pos h1, if_pos h1]
  rw [if_neg h1] at h ⊢
  rw [if_neg h1]
  by_cases h2 : v < 1 ∨ 255 < v
  · rw [if_pos h2, if_pos h2]
  rw [if_neg h2] at h ⊢
  rw [if_neg h2]
  by_cases h3 : (8 : Int) < L.length
  · rw [if_pos h3, if_pos (by omega)]
  rw [if_neg h3] at h
  exact absurd rfl h
theorem pPut_second (m : ByteArray) (v : Int) (L : List Sec) (h : cf m.size v L.length = 0) : m.size = 4 ∧ 1 ≤ v ∧ v ≤ 255 ∧ L.length ≤ 8 ∧ pPut m v L = if chk L ≠ 0 then ([], chk L) else (m.data.toList ++ UInt8.ofNat v.toNat :: bodyL L, 0) := by
  unfold cf at h
  unfold pPut
  by_cases h1 : m.size ≠ 4
  · rw [if_pos h1] at h; omega
  rw [if_neg h1] at h ⊢
  by_cases h2 : v < 1 ∨ 255 < v
  · rw [if_pos h2] at h; omega
  rw [if_neg h2] at h ⊢
  by_cases h3 : (8 : Int) < L.length
  · rw [if_pos h3] at h; omega
  rw [if_neg (by omega)]
  exact ⟨by omega, by omega, by omega, by omega, rfl⟩

theorem chk_cons (s : Sec) (r : List Sec) : chk (s :: r) = if cs s ≠ 0 then cs s else chk r := by
  rw [chk]
  unfold cs
  by_cases h1 : s.1 < 1 ∨ 255 < s.1
  · rw [if_pos h1, if_pos h1]; rfl
  rw [if_neg h1, if_neg h1]
  by_cases h2 : 16777216 < s.2.size
  · rw [if_pos h2, if_pos h2]; rfl
  rw [if_neg h2, if_neg h2]; rfl

set_option maxRecDepth 10000 in
set_option maxHeartbeats 400000 in
theorem cf_any (m : ByteArray) (v n : Int) (w : World) :
    Calls Try.prog 17 #[.string m, .int .i64 v, .int .i64 n] w fun e w' => e = .returned (.int .i64 (cf m.size v n)) ∧ w' = w := by
  unfold cf
  by_cases h1 : m.size = 4
  · have h1' : (m.size : Int) = 4 := by omega
    rw [if_neg (by simpa using h1)]
    by_cases h2 : v < 1
    · rw [if_pos (.inl h2)]
      go_enter Try.func17, Try.ntmps17
      go_wp2_with fail
      go_ret
      exact ⟨rfl, rfl⟩
    by_cases h3 : 255 < v
    · rw [if_pos (.inr h3)]
      go_enter Try.func17, Try.ntmps17
      go_wp2_with fail
      go_ret
      exact ⟨rfl, rfl⟩
    rw [if_neg (by omega)]
    by_cases h4 : 8 < n
    · rw [if_pos h4]
      go_enter Try.func17, Try.ntmps17
      go_wp2_with fail
      go_ret
      exact ⟨rfl, rfl⟩
    · rw [if_neg h4]
      go_enter Try.func17, Try.ntmps17
      go_wp2_with fail
      go_ret
      exact ⟨rfl, rfl⟩
  · have h1' : ¬ (m.size : Int) = 4 := by omega
    rw [if_pos (by simpa using h1)]
    go_enter Try.func17, Try.ntmps17
    go_wp2_with fail
    go_ret
    exact ⟨rfl, rfl⟩

set_option maxRecDepth 10000 in
set_option maxHeartbeats 400000 in
theorem cs_any (s : Sec) (w : World) :
    Calls Try.prog 18 #[.agg #[.int .i64 s.1, .string s.2]] w fun e w' => e = .returned (.int .i64 (cs s)) ∧ Below w.heap.size w w' := by
  unfold cs
  obtain ⟨x, p⟩ := s
  dsimp only
  by_cases h2 : x < 1
  · rw [if_pos (.inl h2)]
    go_enter Try.func18, Try.ntmps18
    go_wp2_with fail
    go_ret
    exact ⟨rfl, (Below.refl _ _).alloc (Nat.le_refl _) _⟩
  by_cases h3 : 255 < x
  · rw [if_pos (.inr h3)]
    go_enter Try.func18, Try.ntmps18
    go_wp2_with fail
    go_ret
    exact ⟨rfl, (Below.refl _ _).alloc (Nat.le_refl _) _⟩
  rw [if_neg (by omega)]
  by_cases h4 : 16777216 < p.size
  · have h4' : (16777216 : Int) < p.size := by omega
    rw [if_pos h4]
    go_enter Try.func18, Try.ntmps18
    go_wp2_with fail
    go_ret
    exact ⟨rfl, (Below.refl _ _).alloc (Nat.le_refl _) _⟩
  · have h4' : ¬ (16777216 : Int) < p.size := by omega
    rw [if_neg h4]
    go_enter Try.func18, Try.ntmps18
    go_wp2_with fail
    go_ret
    exact ⟨rfl, (Below.refl _ _).alloc (Nat.le_refl _) _⟩

set_option maxRecDepth 10000 in
set_option maxHeartbeats 400000 in
theorem fput_first (m : ByteArray) (v : Int) (a : Option Addr) (n cap : Nat) (w : World) (h : cf m.size v n ≠ 0) :
    Calls Try.prog 11 #[.string m, .int .i64 v, .slice a n cap] w fun e w' => e = .returned (.tuple #[.string ⟨#[]⟩, .int .i64 (cf m.size v n)]) ∧ Below w.heap.size w w' := by
  have hc := fun W => cf_any m v n W
  have h' : (cf m.size v n != 0) = true := by simpa using h
  generalize cf m.size v n = c at *
  have HC : Hid _ := hc
  clear hc h
  go_enter Try.func11, Try.ntmps11
  go_wp2_with fail
  refine (HC.out _).mono ?_
  rintro e w1 ⟨rfl, rfl⟩
  go_wp2_with fail
  go_ret2
  exact ⟨rfl, Below.refl _ _⟩

end Go.Proofs.Ytipljconbnaffaa
