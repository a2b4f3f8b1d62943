/- The contracts of the cursor's Uint, Int and Text. -/
import Derived.Test.YtfblmibdcodipaaReads
namespace Go.Proofs.Ytfblmibdcodipaa
open Go.RowKit

set_option maxRecDepth 10000 in
set_option maxHeartbeats 400000 in
theorem uint_no (w : World) (g : Nat) (b : ByteArray) (k : Nat) (e m M : Int) (h : Cu w g b k e) (e' : Int) (hM : M = min m 16777216)
    (hn : Hid (∀ W : World, Cu W g b k e → Calls Try.prog 42 #[.pointer (some ⟨g, 0, none⟩), .int .u64 M] W fun r w' => r = .returned (.tuple #[.int .u64 0, .int .i64 0, .bool false]) ∧ Cu w' g b k e' ∧ W.grownBy w' (some g))) :
    Calls Try.prog 32 #[.pointer (some ⟨g, 0, none⟩), .int .u64 m] w fun r w' => r = .returned (.int .i64 0) ∧ Cu w' g b k e' ∧ w.grownBy w' (some g) := by
  have hc : (m ≤ 16777216 ∧ M = m) ∨ (16777216 < m ∧ M = 16777216) := by omega
  clear hM
  rcases hc with ⟨hm, rfl⟩ | ⟨hm, rfl⟩
  all_goals
    go_enter Try.func32, Try.ntmps32
    go_wp2_with fail
    refine (hn.out _ h).mono ?_
    rintro r w3 ⟨rfl, h3, hg⟩
    go_wp2_with fail
    go_ret
    exact ⟨rfl, h3, hg⟩

set_option maxRecDepth 10000 in
set_option maxHeartbeats 400000 in
theorem uint_yes (w : World) (g : Nat) (b : ByteArray) (k : Nat) (m M n nx : Int) (h : Cu w g b k 0) (hM : M = min m 16777216) (h0 : 0 ≤ n) (h1 : n ≤ 16777216)
    (hn : Hid (∀ W : World, Cu W g b k 0 → Calls Try.prog 42 #[.pointer (some ⟨g, 0, none⟩), .int .u64 M] W fun r w' => r = .returned (.tuple #[.int .u64 n, .int .i64 nx, .bool true]) ∧ Cu w' g b k 0 ∧ W.grownBy w' (some g))) :
    Calls Try.prog 32 #[.pointer (some ⟨g, 0, none⟩), .int .u64 m] w fun r w' => r = .returned (.int .i64 n) ∧ Cu w' g b nx 0 ∧ w.grownBy w' (some g) := by
  have hc : (m ≤ 16777216 ∧ M = m) ∨ (16777216 < m ∧ M = 16777216) := by omega
  clear hM
  rcases hc with ⟨hm, rfl⟩ | ⟨hm, rfl⟩
  all_goals
    go_enter Try.func32, Try.ntmps32
    go_wp2_with fail
    refine (hn.out _ h).mono ?_
    rintro r w3 ⟨rfl, h3, hg⟩
    have c1 := h3.c1
    have f1 := h3.fz 1
    go_wp2_with fail
    go_ret
    exact ⟨rfl, h3.set1 _, gset hg _ rfl _⟩

/-- Uint. -/
theorem uint_any (w : World) (g : Nat) (b : ByteArray) (k : Nat) (e m : Int) (h : Cu w g b k e) (hs : b.size ≤ maxLen) (hk : k ≤ b.size) :
    Calls Try.prog 32 #[.pointer (some ⟨g, 0, none⟩), .int .u64 m] w fun r w' => r = .returned (.int .i64 (pUint b k e m).1) ∧ Cu w' g b ((pUint b k e m).2.1 : Nat) (pUint b k e m).2.2 ∧ w.grownBy w' (some g) := by
  have hn := fun W hW => number_any W g b k e (min m 16777216) hW hs hk
  by_cases he : e = 0
  · subst he
    by_cases hd : (num b k).2.2 = 0
    · by_cases hm : m < (num b k).1 ∨ 16777216 < (num b k).1
      · have hp : pUint b k 0 m = (0, k, 19) := by unfold pUint; rw [if_neg (by simp), if_neg (by simpa using hd), if_pos hm]
        have hq : pNum b k 0 (min m 16777216) = (0, 0, false, 19) := by unfold pNum; rw [if_neg (by simp), if_neg (by simpa using hd), if_pos (by omega)]
        rw [hq] at hn
        rw [hp]
        exact uint_no w g b k 0 m _ h 19 rfl hn
      · have hp : pUint b k 0 m = (((num b k).1 : Int), k + (num b k).2.1, 0) := by unfold pUint; rw [if_neg (by simp), if_neg (by simpa using hd), if_neg hm]
        have hq : pNum b k 0 (min m 16777216) = (((num b k).1 : Int), (k : Int) + ((num b k).2.1 : Int), true, 0) := by unfold pNum; rw [if_neg (by simp), if_neg (by simpa using hd), if_neg (by omega)]
        rw [hq] at hn
        rw [hp]
        exact uint_yes w g b k m _ _ _ h rfl (by omega) (by omega) hn
    · have hp : pUint b k 0 m = (0, k, ((num b k).2.2 : Int)) := by unfold pUint; rw [if_neg (by simp), if_pos hd]
      have hq : pNum b k 0 (min m 16777216) = (0, 0, false, ((num b k).2.2 : Int)) := by unfold pNum; rw [if_neg (by simp), if_pos hd]
      rw [hq] at hn
      rw [hp]
      exact uint_no w g b k 0 m _ h _ rfl hn
  · have hp : pUint b k e m = (0, k, e) := by unfold pUint; rw [if_pos he]
    have hq : pNum b k e (min m 16777216) = (0, 0, false, e) := by unfold pNum; rw [if_pos he]
    rw [hq] at hn
    rw [hp]
    exact uint_no w g b k e m _ h _ rfl hn

theorem text_cases (m M : Int) (hM : M = min (max m 0) 16777216) : (m < 0 ∧ M = 0) ∨ (m = 0 ∧ M = 0) ∨ ((0 < m ∧ m ≤ 16777216) ∧ M = m) ∨ (16777216 < m ∧ M = 16777216) := by omega

set_option maxRecDepth 10000 in
set_option maxHeartbeats 400000 in
theorem text_no (w : World) (g : Nat) (b : ByteArray) (k : Nat) (e m M : Int) (h : Cu w g b k e) (e' : Int) (hM : M = min (max m 0) 16777216) (hm : m ≤ 9223372036854775807)
    (hn : Hid (∀ W : World, Cu W g b k e → Calls Try.prog 42 #[.pointer (some ⟨g, 0, none⟩), .int .u64 M] W fun r w' => r = .returned (.tuple #[.int .u64 0, .int .i64 0, .bool false]) ∧ Cu w' g b k e' ∧ W.grownBy w' (some g))) :
    Calls Try.prog 43 #[.pointer (some ⟨g, 0, none⟩), .int .i64 m] w fun r w' => r = .returned (.string ⟨#[]⟩) ∧ Cu w' g b k e' ∧ w.grownBy w' (some g) := by
  have hc := text_cases m M hM
  clear hM
  rcases hc with ⟨h1, rfl⟩ | ⟨rfl, rfl⟩ | ⟨⟨h1, h2⟩, rfl⟩ | ⟨h1, rfl⟩
  all_goals
    go_enter Try.func43, Try.ntmps43
    go_wp2_with fail
    refine (hn.out _ h).mono ?_
    rintro r w3 ⟨rfl, h3, hg⟩
    go_wp2_with fail
    go_ret
    exact ⟨rfl, h3, hg⟩

set_option maxRecDepth 10000 in
set_option maxHeartbeats 400000 in
theorem text_yes (w : World) (g : Nat) (b : ByteArray) (k : Nat) (m M n nx : Int) (h : Cu w g b k 0) (hM : M = min (max m 0) 16777216) (hm : m ≤ 9223372036854775807) (h0 : 0 ≤ n) (hn1 : n ≤ 16777216) (s : ByteArray) (k' e' : Int)
    (hn : Hid (∀ W : World, Cu W g b k 0 → Calls Try.prog 42 #[.pointer (some ⟨g, 0, none⟩), .int .u64 M] W fun r w' => r = .returned (.tuple #[.int .u64 n, .int .i64 nx, .bool true]) ∧ Cu w' g b k 0 ∧ W.grownBy w' (some g)))
    (ht : Hid (∀ W : World, Cu W g b k 0 → Calls Try.prog 50 #[.pointer (some ⟨g, 0, none⟩), .int .i64 nx, .int .i64 n] W fun r w' => r = .returned (.string s) ∧ Cu w' g b k' e' ∧ W.grownBy w' (some g))) :
    Calls Try.prog 43 #[.pointer (some ⟨g, 0, none⟩), .int .i64 m] w fun r w' => r = .returned (.string s) ∧ Cu w' g b k' e' ∧ w.grownBy w' (some g) := by
  have hc := text_cases m M hM
  clear hM
  rcases hc with ⟨h1, rfl⟩ | ⟨rfl, rfl⟩ | ⟨⟨h1, h2⟩, rfl⟩ | ⟨h1, rfl⟩
  all_goals
    go_enter Try.func43, Try.ntmps43
    go_wp2_with fail
    refine (hn.out _ h).mono ?_
    rintro r w3 ⟨rfl, h3, hg⟩
    go_wp2_with fail
    refine (ht.out _ h3).mono ?_
    rintro r w4 ⟨rfl, h4, hg4⟩
    go_wp2_with fail
    go_ret
    exact ⟨rfl, h4, gtrans hg hg4⟩

/-- Text. -/
theorem text_any (w : World) (g : Nat) (b : ByteArray) (k : Nat) (e m : Int) (h : Cu w g b k e) (hs : b.size ≤ 281474976710656) (hk : k ≤ b.size) (hm : m ≤ 9223372036854775807) :
    Calls Try.prog 43 #[.pointer (some ⟨g, 0, none⟩), .int .i64 m] w fun r w' => r = .returned (.string (pText b k e m).1) ∧ Cu w' g b ((pText b k e m).2.1 : Nat) (pText b k e m).2.2 ∧ w.grownBy w' (some g) := by
  have hs' := Nat.le_trans hs max48
  have hn := fun W hW => number_any W g b k e (min (max m 0) 16777216) hW hs' hk
  by_cases he : e = 0
  · subst he
    by_cases hd : (num b k).2.2 = 0
    · by_cases hl : max m 0 < (num b k).1 ∨ 16777216 < (num b k).1
      · have hp : pText b k 0 m = (⟨#[]⟩, k, 19) := by unfold pText; rw [if_neg (by simp), if_neg (by simpa using hd), if_pos hl]
        have hq : pNum b k 0 (min (max m 0) 16777216) = (0, 0, false, 19) := by unfold pNum; rw [if_neg (by simp), if_neg (by simpa using hd), if_pos (by omega)]
        rw [hq] at hn
        rw [hp]
        exact text_no w g b k 0 m _ h 19 rfl hm hn
      · have hq : pNum b k 0 (min (max m 0) 16777216) = (((num b k).1 : Int), (k : Int) + ((num b k).2.1 : Int), true, 0) := by unfold pNum; rw [if_neg (by simp), if_neg (by simpa using hd), if_neg (by omega)]
        rw [hq] at hn
        have hok := num_ok b k hd hk
        by_cases hc : (b.size : Int) - (k + (num b k).2.1 : Nat) < (num b k).1
        · have hp : pText b k 0 m = (⟨#[]⟩, k, 2) := by unfold pText; rw [if_neg (by simp), if_neg (by simpa using hd), if_neg hl, if_pos hc]
          rw [hp]
          exact text_yes w g b k m _ _ _ h rfl hm (by dsimp only; omega) (by dsimp only; omega) _ _ _ hn (fun W hW => take_cut W g b k (k + (num b k).2.1) _ hW hs' (by omega) hc)
        · have hp : pText b k 0 m = (b.extract (k + (num b k).2.1) (k + (num b k).2.1 + (num b k).1), k + (num b k).2.1 + (num b k).1, 0) := by unfold pText; rw [if_neg (by simp), if_neg (by simpa using hd), if_neg hl, if_neg hc]
          rw [hp]
          exact text_yes w g b k m _ _ _ h rfl hm (by dsimp only; omega) (by dsimp only; omega) _ _ _ hn (fun W hW => take_in W g b k (k + (num b k).2.1) (num b k).1 hW hs (by omega))
    · have hp : pText b k 0 m = (⟨#[]⟩, k, ((num b k).2.2 : Int)) := by unfold pText; rw [if_neg (by simp), if_pos hd]
      have hq : pNum b k 0 (min (max m 0) 16777216) = (0, 0, false, ((num b k).2.2 : Int)) := by unfold pNum; rw [if_neg (by simp), if_pos hd]
      rw [hq] at hn
      rw [hp]
      exact text_no w g b k 0 m _ h _ rfl hm hn
  · have hp : pText b k e m = (⟨#[]⟩, k, e) := by unfold pText; rw [if_pos he]
    have hq : pNum b k e (min (max m 0) 16777216) = (0, 0, false, e) := by unfold pNum; rw [if_pos he]
    rw [hq] at hn
    rw [hp]
    exact text_no w g b k e m _ h _ rfl hm hn

end Go.Proofs.Ytfblmibdcodipaa
