/- The contracts of the cursor's calls that read: Byte, Bytes, Uint, Int, Text, and of what they share: take, number. -/
import Derived.Test.YtipljconbnaffaaErrs
import Derived.Test.YtipljconbnaffaaClone
import Derived.Test.YtipljconbnaffaaSpec2
import Derived.Deep.RegionHeld3
namespace Go.Proofs.Ytipljconbnaffaa
open Go.RowKit

theorem Cu.to {w' : World} {g : Nat} {b : ByteArray} {k k' e e' : Int} (h : Cu w' g b k' e') (hk : k' = k) (he : e' = e) : Cu w' g b k e := by subst hk; subst he; exact h
theorem ret_str {a b : ByteArray} (h : a = b) : Ending.returned (.string a) = .returned (.string b) := by rw [h]

set_option maxRecDepth 10000 in
set_option maxHeartbeats 400000 in
theorem byte_err (w : World) (g : Nat) (b : ByteArray) (k e : Int) (h : Cu w g b k e) (he : e ≠ 0) :
    Calls Try.prog 40 #[.pointer (some ⟨g, 0, none⟩)] w fun r w' => r = .returned (.int .u8 0) ∧ Below w.heap.size w w' := by
  have he' : (e != 0) = true := by simpa using he
  go_enter Try.func40, Try.ntmps40
  go_wp2_with fail
  refine (err_any w g b k e h).mono ?_
  rintro r w1 ⟨rfl, hb⟩
  go_wp2_with fail
  go_ret
  exact ⟨rfl, hb⟩

set_option maxRecDepth 10000 in
set_option maxHeartbeats 400000 in
theorem byte_cut (w : World) (g : Nat) (b : ByteArray) (k : Int) (h : Cu w g b k 0) (hs : b.size ≤ maxLen) (hk : k = b.size) :
    Calls Try.prog 40 #[.pointer (some ⟨g, 0, none⟩)] w fun r w' => r = .returned (.int .u8 0) ∧ Cu w' g b k 2 ∧ w.grownBy w' (some g) := by
  have hk' : (b.size : Int) - k = 0 := by omega
  have HK : Hid (k = b.size) := hk
  clear hk
  go_enter Try.func40, Try.ntmps40
  go_wp2_with fail
  refine (err_any w g b k 0 h).mono ?_
  rintro r w1 ⟨rfl, hb⟩
  have h1 : Cu w1 g b k 0 := h.belowAll hb
  go_wp2_with fail
  refine (left_any w1 g b k 0 h1 hs (by have := HK.out; omega) (by have := HK.out; omega)).mono ?_
  rintro r w2 ⟨rfl, n, rfl⟩
  go_wp2_with fail
  refine (fail_any _ g b k 0 2 (show Cu (w1.drewN n) g b k 0 from h1)).mono ?_
  rintro r w3 ⟨rfl, h3, hg⟩
  go_wp2_with fail
  go_ret
  exact ⟨rfl, h3, gtrans (gdrewN (gbelow hb) n) hg⟩

set_option maxRecDepth 10000 in
set_option maxHeartbeats 400000 in
theorem byte_in (w : World) (g : Nat) (b : ByteArray) (k : Nat) (h : Cu w g b k 0) (hs : b.size ≤ maxLen) (hk : k < b.size) :
    Calls Try.prog 40 #[.pointer (some ⟨g, 0, none⟩)] w fun r w' => r = .returned (.int .u8 (b[k].toNat : Int)) ∧ Cu w' g b ((k + 1 : Nat) : Int) 0 ∧ w.grownBy w' (some g) := by
  have hs' := hs
  unfold maxLen at hs'
  have hk' : ¬ ((b.size : Int) - k = 0) := by omega
  go_enter Try.func40, Try.ntmps40
  go_wp2_with fail
  refine (err_any w g b k 0 h).mono ?_
  rintro r w1 ⟨rfl, hb⟩
  have h1 : Cu w1 g b k 0 := h.belowAll hb
  go_wp2_with fail
  refine (left_any w1 g b k 0 h1 hs (by omega) (by omega)).mono ?_
  rintro r w2 ⟨rfl, n, rfl⟩
  have h2 : Cu (w1.drewN n) g b k 0 := h1
  have hb2 : Below w.heap.size w (w1.drewN n) := bdrewN hb n
  generalize w1.drewN n = w2 at *
  have c0 := h2.c0
  have c1 := h2.c1
  have f1 := h2.fz 1
  go_wp2_with fail
  go_quiet (fail)
  go_wp2_with fail
  go_ret
  exact ⟨rfl, Cu.to ((At3.drewN h2 _).set1 _) (by omega) rfl, gset (gdrewN (gbelow hb2) _) _ rfl _⟩

theorem byte_any (w : World) (g : Nat) (b : ByteArray) (k : Nat) (e : Int) (h : Cu w g b k e) (hs : b.size ≤ maxLen) (hk : k ≤ b.size) :
    Calls Try.prog 40 #[.pointer (some ⟨g, 0, none⟩)] w fun r w' => r = .returned (.int .u8 (pByte b k e).1) ∧ Cu w' g b ((pByte b k e).2.1 : Nat) (pByte b k e).2.2 ∧ w.grownBy w' (some g) := by
  by_cases he : e = 0
  · subst he
    by_cases hlt : k < b.size
    · have hp : pByte b k 0 = ((b[k].toNat : Int), k + 1, 0) := by unfold pByte; rw [if_neg (by simp), dif_pos hlt]
      rw [hp]
      exact byte_in w g b k h hs hlt
    · have hp : pByte b k 0 = (0, k, 2) := by unfold pByte; rw [if_neg (by simp), dif_neg hlt]
      rw [hp]
      exact byte_cut w g b k h hs (by omega)
  · have hp : pByte b k e = (0, k, e) := by unfold pByte; rw [if_pos he]
    rw [hp]
    refine (byte_err w g b k e h he).mono ?_
    rintro r w' ⟨rfl, hb⟩
    exact ⟨rfl, h.belowAll hb, gbelow hb⟩

set_option maxRecDepth 10000 in
set_option maxHeartbeats 400000 in
theorem take_cut (w : World) (g : Nat) (b : ByteArray) (k : Int) (f : Nat) (n : Int) (h : Cu w g b k 0) (hs : b.size ≤ maxLen) (hf : f ≤ b.size) (hn : (b.size : Int) - f < n) :
    Calls Try.prog 46 #[.pointer (some ⟨g, 0, none⟩), .int .i64 f, .int .i64 n] w fun r w' => r = .returned (.string ⟨#[]⟩) ∧ Cu w' g b k 2 ∧ w.grownBy w' (some g) := by
  have hs' := hs
  unfold maxLen at hs'
  have c0 := h.c0
  go_enter Try.func46, Try.ntmps46
  go_wp2_with fail
  refine (fail_any w g b k 0 2 h).mono ?_
  rintro r w3 ⟨rfl, h3, hg⟩
  go_wp2_with fail
  go_ret
  exact ⟨rfl, h3, hg⟩

set_option maxRecDepth 10000 in
set_option maxHeartbeats 400000 in
theorem take_in (w : World) (g : Nat) (b : ByteArray) (k : Int) (f n : Nat) (h : Cu w g b k 0) (hs : b.size ≤ 281474976710656) (hf : f + n ≤ b.size) :
    Calls Try.prog 46 #[.pointer (some ⟨g, 0, none⟩), .int .i64 f, .int .i64 n] w fun r w' => r = .returned (.string (b.extract f (f + n))) ∧ Cu w' g b ((f + n : Nat) : Int) 0 ∧ w.grownBy w' (some g) := by
  have c0 := h.c0
  have c1 := h.c1
  have f1 := h.fz 1
  have hx : (b.extract f (f + n)).size ≤ 281474976710656 := by rw [ByteArray.size_extract]; omega
  have hle : (f : Int) + n ≤ b.size := by omega
  have g0 : (0 : Int) ≤ (f : Int) + n := by omega
  have g1 : (f : Int) ≤ (f : Int) + n := by omega
  go_enter Try.func46, Try.ntmps46
  go_wp2_with fail
  have h2 : Cu (w.setCell ⟨g, 1, none⟩ (.int .i64 ((f : Int) + n))) g b ((f : Int) + n) 0 := h.set1 _
  have hg2 : w.grownBy (w.setCell ⟨g, 1, none⟩ (.int .i64 ((f : Int) + n))) (some g) := gset (World.grownBy.refl _ _) _ rfl _
  generalize w.setCell ⟨g, 1, none⟩ (.int .i64 ((f : Int) + n)) = w2 at *
  have d0 := h2.c0
  have d1 := h2.c1
  go_region_held3 (fun W => W.cell? ⟨g, 0, none⟩ = some (.string b) ∧ W.cell? ⟨g, 1, none⟩ = some (.int .i64 ((f : Int) + n))) (first | go_keep | (exact ⟨h3.c0, h3.c1⟩))
    ((go_at_call 49; refine (clone_any _ _ hx).mono ?_; rintro r w3 ⟨rfl, hb⟩; have h3 := (At3.drew h2).belowAll hb))
  go_wp2_with fail
  go_ret
  exact ⟨rfl, Cu.to h3 (by omega) rfl, gtrans (gdrew hg2) (gbelow hb)⟩

set_option maxRecDepth 10000 in
set_option maxHeartbeats 400000 in
theorem bytes_err (w : World) (g : Nat) (b : ByteArray) (k e n : Int) (h : Cu w g b k e) (he : e ≠ 0) :
    Calls Try.prog 41 #[.pointer (some ⟨g, 0, none⟩), .int .i64 n] w fun r w' => r = .returned (.string ⟨#[]⟩) ∧ Below w.heap.size w w' := by
  have he' : (e != 0) = true := by simpa using he
  go_enter Try.func41, Try.ntmps41
  go_wp2_with fail
  refine (err_any w g b k e h).mono ?_
  rintro r w1 ⟨rfl, hb⟩
  go_wp2_with fail
  go_ret
  exact ⟨rfl, hb⟩

set_option maxRecDepth 10000 in
set_option maxHeartbeats 400000 in
theorem bytes_neg (w : World) (g : Nat) (b : ByteArray) (k n : Int) (h : Cu w g b k 0) (hn : n < 0) :
    Calls Try.prog 41 #[.pointer (some ⟨g, 0, none⟩), .int .i64 n] w fun r w' => r = .returned (.string ⟨#[]⟩) ∧ Cu w' g b k 1 ∧ w.grownBy w' (some g) := by
  go_enter Try.func41, Try.ntmps41
  go_wp2_with fail
  refine (err_any w g b k 0 h).mono ?_
  rintro r w1 ⟨rfl, hb⟩
  have h1 : Cu w1 g b k 0 := h.belowAll hb
  go_wp2_with fail
  refine (fail_any w1 g b k 0 1 h1).mono ?_
  rintro r w3 ⟨rfl, h3, hg⟩
  go_wp2_with fail
  go_ret
  exact ⟨rfl, h3, gtrans (gbelow hb) hg⟩

set_option maxRecDepth 10000 in
set_option maxHeartbeats 400000 in
theorem bytes_go (w : World) (g : Nat) (b : ByteArray) (k n : Int) (h : Cu w g b k 0) (hn : 0 ≤ n) (s : ByteArray) (k' e' : Int)
    (ht : Hid (∀ W : World, Cu W g b k 0 → Calls Try.prog 46 #[.pointer (some ⟨g, 0, none⟩), .int .i64 k, .int .i64 n] W fun r w' => r = .returned (.string s) ∧ Cu w' g b k' e' ∧ W.grownBy w' (some g))) :
    Calls Try.prog 41 #[.pointer (some ⟨g, 0, none⟩), .int .i64 n] w fun r w' => r = .returned (.string s) ∧ Cu w' g b k' e' ∧ w.grownBy w' (some g) := by
  go_enter Try.func41, Try.ntmps41
  go_wp2_with fail
  refine (err_any w g b k 0 h).mono ?_
  rintro r w1 ⟨rfl, hb⟩
  have h1 : Cu w1 g b k 0 := h.belowAll hb
  have c1 := h1.c1
  go_wp2_with fail
  refine (ht.out _ h1).mono ?_
  rintro r w3 ⟨rfl, h3, hg⟩
  go_wp2_with fail
  go_ret
  exact ⟨rfl, h3, gtrans (gbelow hb) hg⟩

theorem max48 : 281474976710656 ≤ maxLen := by decide

/-- Bytes. -/
theorem bytes_any (w : World) (g : Nat) (b : ByteArray) (k : Nat) (e n : Int) (h : Cu w g b k e) (hs : b.size ≤ 281474976710656) (hk : k ≤ b.size) :
    Calls Try.prog 41 #[.pointer (some ⟨g, 0, none⟩), .int .i64 n] w fun r w' => r = .returned (.string (pBytes b k e n).1) ∧ Cu w' g b ((pBytes b k e n).2.1 : Nat) (pBytes b k e n).2.2 ∧ w.grownBy w' (some g) := by
  by_cases he : e = 0
  · subst he
    by_cases hn : n < 0
    · have hp : pBytes b k 0 n = (⟨#[]⟩, k, 1) := by unfold pBytes; rw [if_neg (by simp), if_pos hn]
      rw [hp]
      exact bytes_neg w g b k n h hn
    · by_cases hc : (b.size : Int) - k < n
      · have hp : pBytes b k 0 n = (⟨#[]⟩, k, 2) := by unfold pBytes; rw [if_neg (by simp), if_neg hn, if_pos hc]
        rw [hp]
        exact bytes_go w g b k n h (by omega) _ _ _ (fun W hW => take_cut W g b k k n hW (Nat.le_trans hs max48) hk hc)
      · have hp : pBytes b k 0 n = (b.extract k (k + n.toNat), k + n.toNat, 0) := by unfold pBytes; rw [if_neg (by simp), if_neg hn, if_neg hc]
        rw [hp]
        obtain ⟨m, rfl⟩ := Int.eq_ofNat_of_zero_le (show 0 ≤ n by omega)
        exact bytes_go w g b k m h (by omega) _ _ _ (fun W hW => take_in W g b k k m hW hs (by omega))
  · have hp : pBytes b k e n = (⟨#[]⟩, k, e) := by unfold pBytes; rw [if_pos he]
    rw [hp]
    refine (bytes_err w g b k e n h he).mono ?_
    rintro r w' ⟨rfl, hb⟩
    exact ⟨rfl, h.belowAll hb, gbelow hb⟩

set_option maxRecDepth 10000 in
set_option maxHeartbeats 400000 in
theorem number_err (w : World) (g : Nat) (b : ByteArray) (k e m : Int) (h : Cu w g b k e) (he : e ≠ 0) :
    Calls Try.prog 47 #[.pointer (some ⟨g, 0, none⟩), .int .u64 m] w fun r w' => r = .returned (.tuple #[.int .u64 0, .int .i64 0, .bool false]) ∧ Below w.heap.size w w' := by
  have he' : (e != 0) = true := by simpa using he
  go_enter Try.func47, Try.ntmps47
  go_wp2_with fail
  refine (err_any w g b k e h).mono ?_
  rintro r w1 ⟨rfl, hb⟩
  go_wp2_with fail
  go_ret3
  exact ⟨rfl, hb⟩

set_option maxRecDepth 10000 in
set_option maxHeartbeats 400000 in
theorem number_bad (w : World) (g : Nat) (b : ByteArray) (k : Nat) (m : Int) (h : Cu w g b k 0) (er : Int) (hd : er ≠ 0)
    (hget : Hid (∀ W : World, Calls Try.prog 50 #[.string b, .int .i64 k] W fun e w' => e = .returned (.tuple #[.int .u64 0, .int .i64 0, .int .i64 er]) ∧ w' = W)) :
    Calls Try.prog 47 #[.pointer (some ⟨g, 0, none⟩), .int .u64 m] w fun r w' => r = .returned (.tuple #[.int .u64 0, .int .i64 0, .bool false]) ∧ Cu w' g b k er ∧ w.grownBy w' (some g) := by
  have hd1 : (er == 0) = false := by simpa using hd
  have hd2 : (er != 0) = true := by simpa using hd
  go_enter Try.func47, Try.ntmps47
  go_wp2_with fail
  refine (err_any w g b k 0 h).mono ?_
  rintro r w1 ⟨rfl, hb⟩
  have h1 : Cu w1 g b k 0 := h.belowAll hb
  have c0 := h1.c0
  have c1 := h1.c1
  go_wp2_with fail
  go_quiet ((go_at_call 50; exact Calls.quiet_of_same (hget.out _)))
  go_wp2_with fail
  refine (fail_any _ g b k 0 er (At3.drewN h1 _)).mono ?_
  rintro r w3 ⟨rfl, h3, hg⟩
  go_wp2_with fail
  go_ret3
  exact ⟨rfl, h3, gtrans (gdrewN (gbelow hb) _) hg⟩

set_option maxRecDepth 10000 in
set_option maxHeartbeats 400000 in
theorem number_limit (w : World) (g : Nat) (b : ByteArray) (k : Nat) (m n nx : Int) (h : Cu w g b k 0) (hm : m < n)
    (hget : Hid (∀ W : World, Calls Try.prog 50 #[.string b, .int .i64 k] W fun e w' => e = .returned (.tuple #[.int .u64 n, .int .i64 nx, .int .i64 0]) ∧ w' = W)) :
    Calls Try.prog 47 #[.pointer (some ⟨g, 0, none⟩), .int .u64 m] w fun r w' => r = .returned (.tuple #[.int .u64 0, .int .i64 0, .bool false]) ∧ Cu w' g b k 19 ∧ w.grownBy w' (some g) := by
  go_enter Try.func47, Try.ntmps47
  go_wp2_with fail
  refine (err_any w g b k 0 h).mono ?_
  rintro r w1 ⟨rfl, hb⟩
  have h1 : Cu w1 g b k 0 := h.belowAll hb
  have c0 := h1.c0
  have c1 := h1.c1
  go_wp2_with fail
  go_quiet ((go_at_call 50; exact Calls.quiet_of_same (hget.out _)))
  go_wp2_with fail
  refine (fail_any _ g b k 0 19 (At3.drewN h1 _)).mono ?_
  rintro r w3 ⟨rfl, h3, hg⟩
  go_wp2_with fail
  go_ret3
  exact ⟨rfl, h3, gtrans (gdrewN (gbelow hb) _) hg⟩

set_option maxRecDepth 10000 in
set_option maxHeartbeats 400000 in
theorem number_in (w : World) (g : Nat) (b : ByteArray) (k : Nat) (m n nx : Int) (h : Cu w g b k 0) (hm : n ≤ m)
    (hget : Hid (∀ W : World, Calls Try.prog 50 #[.string b, .int .i64 k] W fun e w' => e = .returned (.tuple #[.int .u64 n, .int .i64 nx, .int .i64 0]) ∧ w' = W)) :
    Calls Try.prog 47 #[.pointer (some ⟨g, 0, none⟩), .int .u64 m] w fun r w' => r = .returned (.tuple #[.int .u64 n, .int .i64 nx, .bool true]) ∧ Cu w' g b k 0 ∧ w.grownBy w' (some g) := by
  go_enter Try.func47, Try.ntmps47
  go_wp2_with fail
  refine (err_any w g b k 0 h).mono ?_
  rintro r w1 ⟨rfl, hb⟩
  have h1 : Cu w1 g b k 0 := h.belowAll hb
  have c0 := h1.c0
  have c1 := h1.c1
  go_wp2_with fail
  go_quiet ((go_at_call 50; exact Calls.quiet_of_same (hget.out _)))
  go_wp2_with fail
  go_ret3
  exact ⟨rfl, At3.drewN h1 _, gdrewN (gbelow hb) _⟩

/-- What number answers: the number, the place behind it, whether there is one; and the error. -/
def pNum (b : ByteArray) (k : Nat) (e m : Int) : Int × Int × Bool × Int :=
  if e ≠ 0 then (0, 0, false, e) else if (num b k).2.2 ≠ 0 then (0, 0, false, ((num b k).2.2 : Int)) else if m < (num b k).1 then (0, 0, false, 19) else (((num b k).1 : Int), (k : Int) + ((num b k).2.1 : Int), true, 0)

theorem number_any (w : World) (g : Nat) (b : ByteArray) (k : Nat) (e m : Int) (h : Cu w g b k e) (hs : b.size ≤ maxLen) (hk : k ≤ b.size) :
    Calls Try.prog 47 #[.pointer (some ⟨g, 0, none⟩), .int .u64 m] w fun r w' => r = .returned (.tuple #[.int .u64 (pNum b k e m).1, .int .i64 (pNum b k e m).2.1, .bool (pNum b k e m).2.2.1]) ∧ Cu w' g b k (pNum b k e m).2.2.2 ∧ w.grownBy w' (some g) := by
  have hget := fun W => get_any b (k : Int) W hs
  by_cases he : e = 0
  · subst he
    by_cases hd : (num b k).2.2 = 0
    · rw [got_yes b k hk hd] at hget
      by_cases hm : m < (num b k).1
      · have hp : pNum b k 0 m = (0, 0, false, 19) := by unfold pNum; rw [if_neg (by simp), if_neg (by simpa using hd), if_pos hm]
        rw [hp]
        exact number_limit w g b k m _ _ h hm hget
      · have hp : pNum b k 0 m = (((num b k).1 : Int), (k : Int) + ((num b k).2.1 : Int), true, 0) := by unfold pNum; rw [if_neg (by simp), if_neg (by simpa using hd), if_neg hm]
        rw [hp]
        exact number_in w g b k m _ _ h (by omega) hget
    · rw [got_no b k hk hd] at hget
      have hp : pNum b k 0 m = (0, 0, false, ((num b k).2.2 : Int)) := by unfold pNum; rw [if_neg (by simp), if_pos hd]
      rw [hp]
      exact number_bad w g b k m h ((num b k).2.2 : Int) (by omega) hget
  · have hp : pNum b k e m = (0, 0, false, e) := by unfold pNum; rw [if_pos he]
    rw [hp]
    refine (number_err w g b k e m h he).mono ?_
    rintro r w' ⟨rfl, hb⟩
    exact ⟨rfl, h.belowAll hb, gbelow hb⟩

end Go.Proofs.Ytipljconbnaffaa
