/- The contracts of the cursor's Uint, Int and Text. -/
import Derived.Test.YtipljconbnaffaaReads
namespace Go.Proofs.Ytipljconbnaffaa
open Go.RowKit

set_option maxRecDepth 10000 in
set_option maxHeartbeats 400000 in
theorem uint_no (w : World) (g : Nat) (b : ByteArray) (k : Nat) (e m M : Int) (h : Cu w g b k e) (e' : Int) (hM : M = min m 16777216)
    (hn : Hid (∀ W : World, Cu W g b k e → Calls Try.prog 47 #[.pointer (some ⟨g, 0, none⟩), .int .u64 M] W fun r w' => r = .returned (.tuple #[.int .u64 0, .int .i64 0, .bool false]) ∧ Cu w' g b k e' ∧ W.grownBy w' (some g))) :
    Calls Try.prog 42 #[.pointer (some ⟨g, 0, none⟩), .int .u64 m] w fun r w' => r = .returned (.int .i64 0) ∧ Cu w' g b k e' ∧ w.grownBy w' (some g) := by
  have hc : (m ≤ 16777216 ∧ M = m) ∨ (16777216 < m ∧ M = 16777216) := by omega
  clear hM
  rcases hc with ⟨hm, rfl⟩ | ⟨hm, rfl⟩
  all_goals
    go_enter Try.func42, Try.ntmps42
    go_wp2_with fail
    refine (hn.out _ h).mono ?_
    rintro r w3 ⟨rfl, h3, hg⟩
    go_wp2_with fail
    go_ret
    exact ⟨rfl, h3, hg⟩

set_option maxRecDepth 10000 in
set_option maxHeartbeats 400000 in
theorem uint_yes (w : World) (g : Nat) (b : ByteArray) (k : Nat) (m M n nx : Int) (h : Cu w g b k 0) (hM : M = min m 16777216) (h0 : 0 ≤ n) (h1 : n ≤ 16777216)
    (hn : Hid (∀ W : World, Cu W g b k 0 → Calls Try.prog 47 #[.pointer (some ⟨g, 0, none⟩), .int .u64 M] W fun r w' => r = .returned (.tuple #[.int .u64 n, .int .i64 nx, .bool true]) ∧ Cu w' g b k 0 ∧ W.grownBy w' (some g))) :
    Calls Try.prog 42 #[.pointer (some ⟨g, 0, none⟩), .int .u64 m] w fun r w' => r = .returned (.int .i64 n) ∧ Cu w' g b nx 0 ∧ w.grownBy w' (some g) := by
  have hc : (m ≤ 16777216 ∧ M = m) ∨ (16777216 < m ∧ M = 16777216) := by omega
  clear hM
  rcases hc with ⟨hm, rfl⟩ | ⟨hm, rfl⟩
  all_goals
    go_enter Try.func42, Try.ntmps42
    go_wp2_with fail
    refine (hn.out _ h).mono ?_
    rintro r w3 ⟨rfl, h3, hg⟩
    have c1 := h3.c1
    have f1 := h3.fz 1
    go_wp2_with fail
    go_ret
    exact ⟨rfl, h3.set1 _, gset hg _ rfl _⟩

/-- Uint. -/
theorem uint_any (w : World) (g : Nat) (b : ByteArray) (k : Nat) (e m : Int) (h : Cu w g b k e) (hs : b.size ≤ maxLen) (hk : k ≤ b.size) :
    Calls Try.prog 42 #[.pointer (some ⟨g, 0, none⟩), .int .u64 m] w fun r w' => r = .returned (.int .i64 (pUint b k e m).1) ∧ Cu w' g b ((pUint b k e m).2.1 : Nat) (pUint b k e m).2.2 ∧ w.grownBy w' (some g) := by
  have hn := fun W hW => number_any W g b k e (min m 16777216) hW hs hk
  by_cases he : e = 0
  · subst he
    by_cases hd : (num b k).2.2 = 0
    · by_cases hm : m < (num b k).1 ∨ 16777216 < (num b k).1
      · have hp : pUint b k 0 m = (0, k, 19) := by unfold pUint; rw [if_neg (by simp), if_neg (by simpa using hd), if_pos hm]
        have hq : pNum b k 0 (min m 16777216) = (0, 0, false, 19) := by unfold pNum; rw [if_neg (by simp), if_neg (by simpa using hd), if_pos (by omega)]
        rw [hq] at hn
        rw [hp]
        exact uint_no w g b k 0 m _ h 19 rfl hn
      · have hp : pUint b k 0 m = (((num b k).1 : Int), k + (num b k).2.1, 0) := by unfold pUint; rw [if_neg (by simp), if_neg (by simpa using hd), if_neg hm]
        have hq : pNum b k 0 (min m 16777216) = (((num b k).1 : Int), (k : Int) + ((num b k).2.1 : Int), true, 0) := by unfold pNum; rw [if_neg (by simp), if_neg (by simpa using hd), if_neg (by omega)]
        rw [hq] at hn
        rw [hp]
        exact uint_yes w g b k m _ _ _ h rfl (by omega) (by omega) hn
    · have hp : pUint b k 0 m = (0, k, ((num b k).2.2 : Int)) := by unfold pUint; rw [if_neg (by simp), if_pos hd]
      have hq : pNum b k 0 (min m 16777216) = (0, 0, false, ((num b k).2.2 : Int)) := by unfold pNum; rw [if_neg (by simp), if_pos hd]
      rw [hq] at hn
      rw [hp]
      exact uint_no w g b k 0 m _ h _ rfl hn
  · have hp : pUint b k e m = (0, k, e) := by unfold pUint; rw [if_pos he]
    have hq : pNum b k e (min m 16777216) = (0, 0, false, e) := by unfold pNum; rw [if_pos he]
    rw [hq] at hn
    rw [hp]
    exact uint_no w g b k e m _ h _ rfl hn

theorem text_cases (m M : Int) (hM : M = min (max m 0) 16777216) : (m < 0 ∧ M = 0) ∨ (m = 0 ∧ M = 0) ∨ ((0 < m ∧ m ≤ 16777216) ∧ M = m) ∨ (16777216 < m ∧ M = 16777216) := by omega

end Go.Proofs.Ytipljconbnaffaa
