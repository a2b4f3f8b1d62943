/- The contracts of Get, of the program and of the document's answer: at any place of any text both answer what stands there; the world stays as it is. -/
import Derived.Test.YtfblmibdcodipaaRows
import Derived.Test.YtfblmibdcodipaaMath
import Derived.Test.YtfblmibdcodipaaKit
namespace Go.Proofs.Ytfblmibdcodipaa
open Go.RowKit

theorem or_join (X Y i : Nat) (hX : X < 2 ^ i) (hY : Y % 2 ^ i = 0) (h1 : X < 18446744073709551616) (h2 : Y < 18446744073709551616) : bits .or .u64 (X : Int) (Y : Int) = ((X + Y : Nat) : Int) := by
  rw [u64_or_nat X Y h1 h2, Nat.or_comm, nat_join i Y X hY hX, Nat.add_comm]

theorem get_or (X k c : Nat) (hX : X < 128 ^ k) (hk : k < 9 ∨ (k = 9 ∧ c ≤ 1)) : bits .or .u64 (X : Int) (IntKind.u64.wrap ((c : Int) % 128 * 2 ^ (7 * k))) = ((X + 128 ^ k * (c % 128) : Nat) : Int) := by
  have hc : (c : Int) % 128 = ((c % 128 : Nat) : Int) := by omega
  have hm : c % 128 < 128 := by omega
  have hm1 : k = 9 → c % 128 ≤ 1 := by omega
  rw [hc]
  generalize c % 128 = d at *
  clear hc
  have hcases : k = 0 ∨ k = 1 ∨ k = 2 ∨ k = 3 ∨ k = 4 ∨ k = 5 ∨ k = 6 ∨ k = 7 ∨ k = 8 ∨ k = 9 := by omega
  rcases hcases with rfl | rfl | rfl | rfl | rfl | rfl | rfl | rfl | rfl | rfl
  all_goals
    simp only [IntKind.wrap_u64, Nat.reduceMul, Nat.reducePow, Int.reducePow] at hX ⊢
  · rw [show ((d : Int) * 1 % 18446744073709551616) = ((1 * d : Nat) : Int) by omega]; exact or_join X (1 * d) 0 hX (by omega) (by omega) (by omega)
  · rw [show ((d : Int) * 128 % 18446744073709551616) = ((128 * d : Nat) : Int) by omega]; exact or_join X _ 7 hX (by omega) (by omega) (by omega)
  · rw [show ((d : Int) * 16384 % 18446744073709551616) = ((16384 * d : Nat) : Int) by omega]; exact or_join X _ 14 hX (by omega) (by omega) (by omega)
  · rw [show ((d : Int) * 2097152 % 18446744073709551616) = ((2097152 * d : Nat) : Int) by omega]; exact or_join X _ 21 hX (by omega) (by omega) (by omega)
  · rw [show ((d : Int) * 268435456 % 18446744073709551616) = ((268435456 * d : Nat) : Int) by omega]; exact or_join X _ 28 hX (by omega) (by omega) (by omega)
  · rw [show ((d : Int) * 34359738368 % 18446744073709551616) = ((34359738368 * d : Nat) : Int) by omega]; exact or_join X _ 35 hX (by omega) (by omega) (by omega)
  · rw [show ((d : Int) * 4398046511104 % 18446744073709551616) = ((4398046511104 * d : Nat) : Int) by omega]; exact or_join X _ 42 hX (by omega) (by omega) (by omega)
  · rw [show ((d : Int) * 562949953421312 % 18446744073709551616) = ((562949953421312 * d : Nat) : Int) by omega]; exact or_join X _ 49 hX (by omega) (by omega) (by omega)
  · rw [show ((d : Int) * 72057594037927936 % 18446744073709551616) = ((72057594037927936 * d : Nat) : Int) by omega]; exact or_join X _ 56 hX (by omega) (by omega) (by omega)
  · rw [show ((d : Int) * 9223372036854775808 % 18446744073709551616) = ((9223372036854775808 * d : Nat) : Int) by omega]; exact or_join X _ 63 hX (by omega) (by omega) (by omega)

theorem ret3 {a b c a' b' c' : Int} (h1 : a = a') (h2 : b = b') (h3 : c = c') : Ending.returned (.tuple #[.int .u64 a, .int .i64 b, .int .i64 c]) = .returned (.tuple #[.int .u64 a', .int .i64 b', .int .i64 c']) := by rw [h1, h2, h3]
theorem fin_bad (a : Int) (k : Nat) (h : 0 < k) : fin a (0, 0, k) = (0, 0, (k : Int)) := by
  unfold fin; rw [if_neg (by simp; omega)]
theorem fin_ok (a : Int) (n m : Nat) : fin a (n, m, 0) = ((n : Int), a + (m : Int), 0) := by
  unfold fin; rw [if_pos rfl]

set_option maxRecDepth 10000 in
set_option maxHeartbeats 400000 in
theorem get_in (s : ByteArray) (a : Nat) (w : World) (hs : s.size ≤ maxLen) (ha : a ≤ s.size) :
    Calls Try.prog 49 #[.string s, .int .i64 a] w fun e w' => e = .returned (.tuple #[.int .u64 (fin a (dec 0 0 (s.data.toList.drop a))).1, .int .i64 (fin a (dec 0 0 (s.data.toList.drop a))).2.1, .int .i64 (fin a (dec 0 0 (s.data.toList.drop a))).2.2]) ∧ w' = w := by
  unfold maxLen at hs
  have hg : ¬ (s.size < a) := by omega
  generalize hF : dec 0 0 (s.data.toList.drop a) = D
  have HF : Hid (dec 0 0 (s.data.toList.drop a) = D) := hF
  clear hF
  go_enter Try.func49, Try.ntmps49
  go_wp2
  go_loop [7, 8] (fun nv iv => ∃ (k X : Nat), nv = .int .u64 X ∧ iv = .int .i64 k ∧ k ≤ 9 ∧ a + k ≤ s.size ∧ Hid (X < 128 ^ k) ∧ Hid (dec k X (s.data.toList.drop (a + k)) = D)) (fun _ iv => 10 - (intOf iv).toNat)
  case atStart => exact ⟨0, 0, rfl, rfl, by omega, by omega, by show _ < _; simp, HF⟩
  case round =>
    obtain ⟨k, X, rfl, rfl, hk, hak, HX, HD⟩ := hrel
    by_cases hlt : a + k < s.size
    · have HS : Hid (s.data.toList.drop (a + k) = s[a + k] :: s.data.toList.drop (a + k + 1)) := drop_at s (a + k) hlt
      go_wp2
      · have h9 : (k : Int) = 9 := by assumption
        have hc : 1 < (s[a + k].toNat : Int) := by assumption
        have hD : D = (0, 0, 3) := by rw [← HD.out, HS.out]; exact dec_nine _ _ _ _ (by omega) (by omega)
        go_ret3
        exact ⟨by rw [hD, fin_bad _ _ (by omega)]; rfl, rfl⟩
      · have h9 : (k : Int) = 9 := by assumption
        have hc : s[a + k].toNat = 0 := by assumption
        have hD : D = (0, 0, 3) := by rw [← HD.out, HS.out]; exact dec_zero _ _ _ _ (by omega) hc
        go_ret3
        exact ⟨by rw [hD, fin_bad _ _ (by omega)]; rfl, rfl⟩
      · have h9 : (k : Int) = 9 := by assumption
        have hc1 : (s[a + k].toNat : Int) ≤ 1 := by assumption
        have hc0 : ¬ s[a + k].toNat = 0 := by assumption
        have hD : D = (X + 128 ^ k * (s[a + k].toNat % 128), k + 1, 0) := by rw [← HD.out, HS.out]; exact dec_last _ _ _ _ (by omega) (by omega) (by omega)
        have ho := get_or X k s[a + k].toNat HX.out (.inr ⟨by omega, by omega⟩)
        obtain rfl : k = 9 := by omega
        simp only [Nat.reduceMul, Int.reducePow, IntKind.wrap_u64] at ho
        rw [show ((s[a + 9].toNat : Int) % 128 * 9223372036854775808) % 18446744073709551616 = (s[a + 9].toNat : Int) % 128 * 9223372036854775808 by omega] at ho
        go_ret3
        refine ⟨?_, rfl⟩
        rw [hD, fin_ok]
        exact ret3 ho (by dsimp only; omega) rfl
      · have hk0 : 0 < k := by assumption
        have hc : s[a + k].toNat = 0 := by assumption
        have hD : D = (0, 0, 3) := by rw [← HD.out, HS.out]; exact dec_zero _ _ _ _ hk0 hc
        go_ret3
        exact ⟨by rw [hD, fin_bad _ _ (by omega)]; rfl, rfl⟩
      · have hk0 : ¬ 0 < k := by assumption
        have hc : s[a + k].toNat = 0 := by assumption
        have hD : D = (X + 128 ^ k * (s[a + k].toNat % 128), k + 1, 0) := by rw [← HD.out, HS.out]; exact dec_last _ _ _ _ (by omega) (by omega) (by omega)
        have ho := get_or X k s[a + k].toNat HX.out (.inl (by omega))
        rw [hc] at ho
        simp only [IntKind.wrap_u64, Int.natCast_zero, Int.zero_emod, Int.zero_mul] at ho
        go_ret3
        refine ⟨?_, rfl⟩
        rw [hD, fin_ok, hc]
        exact ret3 ho (by dsimp only; omega) rfl
      · have h9 : ¬ (k : Int) = 9 := by assumption
        have hc0 : ¬ s[a + k].toNat = 0 := by assumption
        have hc : (s[a + k].toNat : Int) < 128 := by assumption
        have hD : D = (X + 128 ^ k * (s[a + k].toNat % 128), k + 1, 0) := by rw [← HD.out, HS.out]; exact dec_last _ _ _ _ (by omega) (by omega) (by omega)
        have ho := get_or X k s[a + k].toNat HX.out (.inl (by omega))
        go_ret3
        refine ⟨?_, rfl⟩
        rw [hD, fin_ok]
        exact ret3 ho (by dsimp only; omega) rfl
      · have h9 : ¬ (k : Int) = 9 := by assumption
        have hc : 128 ≤ (s[a + k].toNat : Int) := by assumption
        have hD : dec (k + 1) (X + 128 ^ k * (s[a + k].toNat % 128)) (s.data.toList.drop (a + (k + 1))) = D := by
          rw [← HD.out, HS.out, dec_more _ _ _ _ (by omega) (by omega)]; rfl
        have ho := get_or X k s[a + k].toNat HX.out (.inl (by omega))
        refine ⟨⟨k + 1, X + 128 ^ k * (s[a + k].toNat % 128), by rw [ho], by go_num, by omega, by omega, pow_step _ _ _ HX.out, hD⟩, ?_⟩
        simp [intOf]; omega
    · go_wp2
      have hD : D = (0, 0, 2) := by rw [← HD.out, drop_end s (a + k) (by omega)]; rfl
      go_ret3
      exact ⟨by rw [hD, fin_bad _ _ (by omega)]; rfl, rfl⟩

end Go.Proofs.Ytfblmibdcodipaa
