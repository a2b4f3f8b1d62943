/- The contracts of the document's own cursor: Bytes, Uint, Int, Text, Fail. -/
import Derived.Test.YtfblmibdcodipaaErrs
import Derived.Test.YtfblmibdcodipaaSpec2
namespace Go.Proofs.Ytfblmibdcodipaa
open Go.RowKit

/-- The document's cursor: its bytes, its place, its first error. -/
def Rf (w : World) (g : Nat) (b : ByteArray) (k : Int) (e : Int) : Prop := At3 71 w g (.string b) (.int .i64 k) (.int .i64 e)
theorem Rf.to {w : World} {g : Nat} {b : ByteArray} {k k' e e' : Int} (h : Rf w g b k' e') (hk : k' = k) (he : e' = e) : Rf w g b k e := by subst hk; subst he; exact h

set_option maxRecDepth 10000 in
set_option maxHeartbeats 400000 in
theorem rbytes_any (w : World) (g : Nat) (b : ByteArray) (k : Nat) (e n : Int) (h : Rf w g b k e) (hs : b.size ≤ maxLen) (hk : k ≤ b.size) :
    Calls Try.prog 46 #[.pointer (some ⟨g, 0, none⟩), .int .i64 n] w fun r w' => r = .returned (.string (pBytes b k e n).1) ∧ Rf w' g b ((pBytes b k e n).2.1 : Nat) (pBytes b k e n).2.2 ∧ w.grownBy w' (some g) := by
  unfold maxLen at hs
  have c0 := h.c0
  have c1 := h.c1
  have c2 := h.c2
  have f1 := h.fz 1
  have f2 := h.fz 2
  by_cases he : e = 0
  · subst he
    by_cases hn : n < 0
    · have hp : pBytes b k 0 n = (⟨#[]⟩, k, 1) := by unfold pBytes; rw [if_neg (by simp), if_pos hn]
      rw [hp]
      clear hp
      go_enter Try.func46, Try.ntmps46
      go_wp2_with fail
      go_ret
      exact ⟨rfl, h.set2 _, gset (World.grownBy.refl _ _) _ rfl _⟩
    · by_cases hc : (b.size : Int) - k < n
      · have hp : pBytes b k 0 n = (⟨#[]⟩, k, 2) := by unfold pBytes; rw [if_neg (by simp), if_neg hn, if_pos hc]
        rw [hp]
        clear hp
        go_enter Try.func46, Try.ntmps46
        go_wp2_with fail
        go_quiet (fail)
        go_wp2_with fail
        go_ret
        exact ⟨rfl, (At3.drewN h _).set2 _, gset (gdrewN (World.grownBy.refl _ _) _) _ rfl _⟩
      · have hp : pBytes b k 0 n = (b.extract k (k + n.toNat), k + n.toNat, 0) := by unfold pBytes; rw [if_neg (by simp), if_neg hn, if_neg hc]
        rw [hp]
        clear hp
        obtain ⟨m, rfl⟩ := Int.eq_ofNat_of_zero_le (show 0 ≤ n by omega)
        have g1 : (k : Int) + m ≤ b.size := by omega
        have g2 : (k : Int) + m - m = k := by omega
        have g3 : (k : Int) ≤ (k : Int) + m := by omega
        have g4 : (0 : Int) ≤ (k : Int) + m := by omega
        go_enter Try.func46, Try.ntmps46
        go_wp2_with fail
        go_quiet (fail)
        go_wp2_with fail
        go_quiet (fail)
        go_wp2_with fail
        go_ret
        exact ⟨rfl, Rf.to (At3.drewN ((At3.drewN h _).set1 _) _) (by simp) rfl, gdrewN (gset (gdrewN (World.grownBy.refl _ _) _) _ rfl _) _⟩
  · have hp : pBytes b k e n = (⟨#[]⟩, k, e) := by unfold pBytes; rw [if_pos he]
    rw [hp]
    clear hp
    have he' : (e != 0) = true := by simpa using he
    go_enter Try.func46, Try.ntmps46
    go_wp2_with fail
    go_ret
    exact ⟨rfl, h, World.grownBy.refl _ _⟩

set_option maxRecDepth 10000 in
set_option maxHeartbeats 400000 in
theorem ruint_bad (w : World) (g : Nat) (b : ByteArray) (k : Nat) (m er : Int) (h : Rf w g b k 0) (hd : er ≠ 0)
    (hget : Hid (∀ W : World, Calls Try.prog 45 #[.string b, .int .i64 k] W fun e w' => e = .returned (.tuple #[.int .u64 0, .int .i64 0, .int .i64 er]) ∧ w' = W)) :
    Calls Try.prog 37 #[.pointer (some ⟨g, 0, none⟩), .int .u64 m] w fun r w' => r = .returned (.int .i64 0) ∧ Rf w' g b k er ∧ w.grownBy w' (some g) := by
  have hd1 : (er == 0) = false := by simpa using hd
  have hd2 : (er != 0) = true := by simpa using hd
  have c0 := h.c0
  have c1 := h.c1
  have c2 := h.c2
  have f2 := h.fz 2
  go_enter Try.func37, Try.ntmps37
  go_wp2_with fail
  go_quiet ((go_at_call 45; exact Calls.quiet_of_same (hget.out _)))
  go_wp2_with fail
  go_ret
  exact ⟨rfl, (At3.drewN h _).set2 _, gset (gdrewN (World.grownBy.refl _ _) _) _ rfl _⟩

set_option maxRecDepth 10000 in
set_option maxHeartbeats 400000 in
theorem ruint_limit (w : World) (g : Nat) (b : ByteArray) (k : Nat) (m n nx : Int) (h : Rf w g b k 0) (hm : m < n ∨ 16777216 < n)
    (hget : Hid (∀ W : World, Calls Try.prog 45 #[.string b, .int .i64 k] W fun e w' => e = .returned (.tuple #[.int .u64 n, .int .i64 nx, .int .i64 0]) ∧ w' = W)) :
    Calls Try.prog 37 #[.pointer (some ⟨g, 0, none⟩), .int .u64 m] w fun r w' => r = .returned (.int .i64 0) ∧ Rf w' g b k 19 ∧ w.grownBy w' (some g) := by
  have c0 := h.c0
  have c1 := h.c1
  have c2 := h.c2
  have f2 := h.fz 2
  have hc : m < n ∨ (n ≤ m ∧ 16777216 < n) := by omega
  clear hm
  rcases hc with h1 | ⟨h1, h2⟩
  all_goals
    go_enter Try.func37, Try.ntmps37
    go_wp2_with fail
    go_quiet ((go_at_call 45; exact Calls.quiet_of_same (hget.out _)))
    go_wp2_with fail
    go_ret
    exact ⟨rfl, (At3.drewN h _).set2 _, gset (gdrewN (World.grownBy.refl _ _) _) _ rfl _⟩

set_option maxRecDepth 10000 in
set_option maxHeartbeats 400000 in
theorem ruint_in (w : World) (g : Nat) (b : ByteArray) (k : Nat) (m n nx : Int) (h : Rf w g b k 0) (h0 : 0 ≤ n) (h1 : n ≤ m) (h2 : n ≤ 16777216)
    (hget : Hid (∀ W : World, Calls Try.prog 45 #[.string b, .int .i64 k] W fun e w' => e = .returned (.tuple #[.int .u64 n, .int .i64 nx, .int .i64 0]) ∧ w' = W)) :
    Calls Try.prog 37 #[.pointer (some ⟨g, 0, none⟩), .int .u64 m] w fun r w' => r = .returned (.int .i64 n) ∧ Rf w' g b nx 0 ∧ w.grownBy w' (some g) := by
  have c0 := h.c0
  have c1 := h.c1
  have c2 := h.c2
  have f1 := h.fz 1
  go_enter Try.func37, Try.ntmps37
  go_wp2_with fail
  go_quiet ((go_at_call 45; exact Calls.quiet_of_same (hget.out _)))
  go_wp2_with fail
  go_ret
  exact ⟨rfl, (At3.drewN h _).set1 _, gset (gdrewN (World.grownBy.refl _ _) _) _ rfl _⟩

set_option maxRecDepth 10000 in
set_option maxHeartbeats 400000 in
theorem ruint_err (w : World) (g : Nat) (b : ByteArray) (k e m : Int) (h : Rf w g b k e) (he : e ≠ 0) :
    Calls Try.prog 37 #[.pointer (some ⟨g, 0, none⟩), .int .u64 m] w fun r w' => r = .returned (.int .i64 0) ∧ Rf w' g b k e ∧ w.grownBy w' (some g) := by
  have he' : (e != 0) = true := by simpa using he
  have c2 := h.c2
  go_enter Try.func37, Try.ntmps37
  go_wp2_with fail
  go_ret
  exact ⟨rfl, h, World.grownBy.refl _ _⟩

/-- Uint, of the document. -/
theorem ruint_any (w : World) (g : Nat) (b : ByteArray) (k : Nat) (e m : Int) (h : Rf w g b k e) (hs : b.size ≤ maxLen) (hk : k ≤ b.size) :
    Calls Try.prog 37 #[.pointer (some ⟨g, 0, none⟩), .int .u64 m] w fun r w' => r = .returned (.int .i64 (pUint b k e m).1) ∧ Rf w' g b ((pUint b k e m).2.1 : Nat) (pUint b k e m).2.2 ∧ w.grownBy w' (some g) := by
  have hget := fun W => refget_any b (k : Int) W hs
  by_cases he : e = 0
  · subst he
    by_cases hd : (num b k).2.2 = 0
    · rw [got_yes b k hk hd] at hget
      by_cases hm : m < (num b k).1 ∨ 16777216 < (num b k).1
      · have hp : pUint b k 0 m = (0, k, 19) := by unfold pUint; rw [if_neg (by simp), if_neg (by simpa using hd), if_pos hm]
        rw [hp]
        exact ruint_limit w g b k m _ _ h (by omega) hget
      · have hp : pUint b k 0 m = (((num b k).1 : Int), k + (num b k).2.1, 0) := by unfold pUint; rw [if_neg (by simp), if_neg (by simpa using hd), if_neg hm]
        rw [hp]
        exact ruint_in w g b k m ((num b k).1 : Int) _ h (by omega) (by omega) (by omega) hget
    · rw [got_no b k hk hd] at hget
      have hp : pUint b k 0 m = (0, k, ((num b k).2.2 : Int)) := by unfold pUint; rw [if_neg (by simp), if_pos hd]
      rw [hp]
      exact ruint_bad w g b k m ((num b k).2.2 : Int) h (by omega) hget
  · have hp : pUint b k e m = (0, k, e) := by unfold pUint; rw [if_pos he]
    rw [hp]
    exact ruint_err w g b k e m h he

end Go.Proofs.Ytfblmibdcodipaa
