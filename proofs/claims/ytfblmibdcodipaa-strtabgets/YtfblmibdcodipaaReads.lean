/- The contracts of the cursor's calls that read: Byte, Bytes, Uint, Int, Text, and of what they share: take, number. -/
import Derived.Test.YtfblmibdcodipaaErrs
import Derived.Test.YtfblmibdcodipaaClone
import Derived.Test.YtfblmibdcodipaaSpec2
import Derived.Deep.RegionHeld3
namespace Go.Proofs.Ytfblmibdcodipaa
open Go.RowKit

theorem Cu.to {w' : World} {g : Nat} {b : ByteArray} {k k' e e' : Int} (h : Cu w' g b k' e') (hk : k' = k) (he : e' = e) : Cu w' g b k e := by subst hk; subst he; exact h
theorem ret_str {a b : ByteArray} (h : a = b) : Ending.returned (.string a) = .returned (.string b) := by rw [h]

set_option maxRecDepth 10000 in
set_option maxHeartbeats 400000 in
theorem take_cut (w : World) (g : Nat) (b : ByteArray) (k : Int) (f : Nat) (n : Int) (h : Cu w g b k 0) (hs : b.size ≤ maxLen) (hf : f ≤ b.size) (hn : (b.size : Int) - f < n) :
    Calls Try.prog 50 #[.pointer (some ⟨g, 0, none⟩), .int .i64 f, .int .i64 n] w fun r w' => r = .returned (.string ⟨#[]⟩) ∧ Cu w' g b k 2 ∧ w.grownBy w' (some g) := by
  have hs' := hs
  unfold maxLen at hs'
  have c0 := h.c0
  go_enter Try.func50, Try.ntmps50
  go_wp2_with fail
  refine (fail_any w g b k 0 2 h).mono ?_
  rintro r w3 ⟨rfl, h3, hg⟩
  go_wp2_with fail
  go_ret
  exact ⟨rfl, h3, hg⟩

set_option maxRecDepth 10000 in
set_option maxHeartbeats 400000 in
theorem take_in (w : World) (g : Nat) (b : ByteArray) (k : Int) (f n : Nat) (h : Cu w g b k 0) (hs : b.size ≤ 281474976710656) (hf : f + n ≤ b.size) :
    Calls Try.prog 50 #[.pointer (some ⟨g, 0, none⟩), .int .i64 f, .int .i64 n] w fun r w' => r = .returned (.string (b.extract f (f + n))) ∧ Cu w' g b ((f + n : Nat) : Int) 0 ∧ w.grownBy w' (some g) := by
  have c0 := h.c0
  have c1 := h.c1
  have f1 := h.fz 1
  have hx : (b.extract f (f + n)).size ≤ 281474976710656 := by rw [ByteArray.size_extract]; omega
  have hle : (f : Int) + n ≤ b.size := by omega
  have g0 : (0 : Int) ≤ (f : Int) + n := by omega
  have g1 : (f : Int) ≤ (f : Int) + n := by omega
  go_enter Try.func50, Try.ntmps50
  go_wp2_with fail
  have h2 : Cu (w.setCell ⟨g, 1, none⟩ (.int .i64 ((f : Int) + n))) g b ((f : Int) + n) 0 := h.set1 _
  have hg2 : w.grownBy (w.setCell ⟨g, 1, none⟩ (.int .i64 ((f : Int) + n))) (some g) := gset (World.grownBy.refl _ _) _ rfl _
  generalize w.setCell ⟨g, 1, none⟩ (.int .i64 ((f : Int) + n)) = w2 at *
  have d0 := h2.c0
  have d1 := h2.c1
  go_region_held3 (fun W => W.cell? ⟨g, 0, none⟩ = some (.string b) ∧ W.cell? ⟨g, 1, none⟩ = some (.int .i64 ((f : Int) + n))) (first | go_keep | (exact ⟨h3.c0, h3.c1⟩))
    ((go_at_call 26; refine (clone_any _ _ hx).mono ?_; rintro r w3 ⟨rfl, hb⟩; have h3 := (At3.drew h2).belowAll hb))
  go_wp2_with fail
  go_ret
  exact ⟨rfl, Cu.to h3 (by omega) rfl, gtrans (gdrew hg2) (gbelow hb)⟩

theorem max48 : 281474976710656 ≤ maxLen := by decide

set_option maxRecDepth 10000 in
set_option maxHeartbeats 400000 in
theorem number_err (w : World) (g : Nat) (b : ByteArray) (k e m : Int) (h : Cu w g b k e) (he : e ≠ 0) :
    Calls Try.prog 42 #[.pointer (some ⟨g, 0, none⟩), .int .u64 m] w fun r w' => r = .returned (.tuple #[.int .u64 0, .int .i64 0, .bool false]) ∧ Below w.heap.size w w' := by
  have he' : (e != 0) = true := by simpa using he
  go_enter Try.func42, Try.ntmps42
  go_wp2_with fail
  refine (err_any w g b k e h).mono ?_
  rintro r w1 ⟨rfl, hb⟩
  go_wp2_with fail
  go_ret3
  exact ⟨rfl, hb⟩

set_option maxRecDepth 10000 in
set_option maxHeartbeats 400000 in
theorem number_bad (w : World) (g : Nat) (b : ByteArray) (k : Nat) (m : Int) (h : Cu w g b k 0) (er : Int) (hd : er ≠ 0)
    (hget : Hid (∀ W : World, Calls Try.prog 49 #[.string b, .int .i64 k] W fun e w' => e = .returned (.tuple #[.int .u64 0, .int .i64 0, .int .i64 er]) ∧ w' = W)) :
    Calls Try.prog 42 #[.pointer (some ⟨g, 0, none⟩), .int .u64 m] w fun r w' => r = .returned (.tuple #[.int .u64 0, .int .i64 0, .bool false]) ∧ Cu w' g b k er ∧ w.grownBy w' (some g) := by
  have hd1 : (er == 0) = false := by simpa using hd
  have hd2 : (er != 0) = true := by simpa using hd
  go_enter Try.func42, Try.ntmps42
  go_wp2_with fail
  refine (err_any w g b k 0 h).mono ?_
  rintro r w1 ⟨rfl, hb⟩
  have h1 : Cu w1 g b k 0 := h.belowAll hb
  have c0 := h1.c0
  have c1 := h1.c1
  go_wp2_with fail
  go_quiet ((go_at_call 49; exact Calls.quiet_of_same (hget.out _)))
  go_wp2_with fail
  refine (fail_any _ g b k 0 er (At3.drewN h1 _)).mono ?_
  rintro r w3 ⟨rfl, h3, hg⟩
  go_wp2_with fail
  go_ret3
  exact ⟨rfl, h3, gtrans (gdrewN (gbelow hb) _) hg⟩

set_option maxRecDepth 10000 in
set_option maxHeartbeats 400000 in
theorem number_limit (w : World) (g : Nat) (b : ByteArray) (k : Nat) (m n nx : Int) (h : Cu w g b k 0) (hm : m < n)
    (hget : Hid (∀ W : World, Calls Try.prog 49 #[.string b, .int .i64 k] W fun e w' => e = .returned (.tuple #[.int .u64 n, .int .i64 nx, .int .i64 0]) ∧ w' = W)) :
    Calls Try.prog 42 #[.pointer (some ⟨g, 0, none⟩), .int .u64 m] w fun r w' => r = .returned (.tuple #[.int .u64 0, .int .i64 0, .bool false]) ∧ Cu w' g b k 19 ∧ w.grownBy w' (some g) := by
  go_enter Try.func42, Try.ntmps42
  go_wp2_with fail
  refine (err_any w g b k 0 h).mono ?_
  rintro r w1 ⟨rfl, hb⟩
  have h1 : Cu w1 g b k 0 := h.belowAll hb
  have c0 := h1.c0
  have c1 := h1.c1
  go_wp2_with fail
  go_quiet ((go_at_call 49; exact Calls.quiet_of_same (hget.out _)))
  go_wp2_with fail
  refine (fail_any _ g b k 0 19 (At3.drewN h1 _)).mono ?_
  rintro r w3 ⟨rfl, h3, hg⟩
  go_wp2_with fail
  go_ret3
  exact ⟨rfl, h3, gtrans (gdrewN (gbelow hb) _) hg⟩

set_option maxRecDepth 10000 in
set_option maxHeartbeats 400000 in
theorem number_in (w : World) (g : Nat) (b : ByteArray) (k : Nat) (m n nx : Int) (h : Cu w g b k 0) (hm : n ≤ m)
    (hget : Hid (∀ W : World, Calls Try.prog 49 #[.string b, .int .i64 k] W fun e w' => e = .returned (.tuple #[.int .u64 n, .int .i64 nx, .int .i64 0]) ∧ w' = W)) :
    Calls Try.prog 42 #[.pointer (some ⟨g, 0, none⟩), .int .u64 m] w fun r w' => r = .returned (.tuple #[.int .u64 n, .int .i64 nx, .bool true]) ∧ Cu w' g b k 0 ∧ w.grownBy w' (some g) := by
  go_enter Try.func42, Try.ntmps42
  go_wp2_with fail
  refine (err_any w g b k 0 h).mono ?_
  rintro r w1 ⟨rfl, hb⟩
  have h1 : Cu w1 g b k 0 := h.belowAll hb
  have c0 := h1.c0
  have c1 := h1.c1
  go_wp2_with fail
  go_quiet ((go_at_call 49; exact Calls.quiet_of_same (hget.out _)))
  go_wp2_with fail
  go_ret3
  exact ⟨rfl, At3.drewN h1 _, gdrewN (gbelow hb) _⟩

/-- What number answers: the number, the place behind it, whether there is one; and the error. -/
def pNum (b : ByteArray) (k : Nat) (e m : Int) : Int × Int × Bool × Int :=
  if e ≠ 0 then (0, 0, false, e) else if (num b k).2.2 ≠ 0 then (0, 0, false, ((num b k).2.2 : Int)) else if m < (num b k).1 then (0, 0, false, 19) else (((num b k).1 : Int), (k : Int) + ((num b k).2.1 : Int), true, 0)

theorem number_any (w : World) (g : Nat) (b : ByteArray) (k : Nat) (e m : Int) (h : Cu w g b k e) (hs : b.size ≤ maxLen) (hk : k ≤ b.size) :
    Calls Try.prog 42 #[.pointer (some ⟨g, 0, none⟩), .int .u64 m] w fun r w' => r = .returned (.tuple #[.int .u64 (pNum b k e m).1, .int .i64 (pNum b k e m).2.1, .bool (pNum b k e m).2.2.1]) ∧ Cu w' g b k (pNum b k e m).2.2.2 ∧ w.grownBy w' (some g) := by
  have hget := fun W => get_any b (k : Int) W hs
  by_cases he : e = 0
  · subst he
    by_cases hd : (num b k).2.2 = 0
    · rw [got_yes b k hk hd] at hget
      by_cases hm : m < (num b k).1
      · have hp : pNum b k 0 m = (0, 0, false, 19) := by unfold pNum; rw [if_neg (by simp), if_neg (by simpa using hd), if_pos hm]
        rw [hp]
        exact number_limit w g b k m _ _ h hm hget
      · have hp : pNum b k 0 m = (((num b k).1 : Int), (k : Int) + ((num b k).2.1 : Int), true, 0) := by unfold pNum; rw [if_neg (by simp), if_neg (by simpa using hd), if_neg hm]
        rw [hp]
        exact number_in w g b k m _ _ h (by omega) hget
    · rw [got_no b k hk hd] at hget
      have hp : pNum b k 0 m = (0, 0, false, ((num b k).2.2 : Int)) := by unfold pNum; rw [if_neg (by simp), if_pos hd]
      rw [hp]
      exact number_bad w g b k m h ((num b k).2.2 : Int) (by omega) hget
  · have hp : pNum b k e m = (0, 0, false, e) := by unfold pNum; rw [if_pos he]
    rw [hp]
    refine (number_err w g b k e m h he).mono ?_
    rintro r w' ⟨rfl, hb⟩
    exact ⟨rfl, h.belowAll hb, gbelow hb⟩

end Go.Proofs.Ytfblmibdcodipaa
