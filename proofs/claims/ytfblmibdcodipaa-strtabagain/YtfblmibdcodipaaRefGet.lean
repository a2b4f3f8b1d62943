/- The contract of the document's own Get: at any place of any text it answers what stands there; the world stays as it is. -/
import Derived.Test.YtfblmibdcodipaaGet
namespace Go.Proofs.Ytfblmibdcodipaa
open Go.RowKit

theorem ref_add (X U k c : Nat) (hU : U = 128 ^ k) (hX : X < 128 ^ k) (hk : k < 9 ∨ (k = 9 ∧ c ≤ 1)) : IntKind.u64.wrap ((X : Int) + IntKind.u64.wrap ((U : Int) * ((c : Int) % 128))) = ((X + 128 ^ k * (c % 128) : Nat) : Int) := by
  subst hU
  have hc : (c : Int) % 128 = ((c % 128 : Nat) : Int) := by omega
  have hm : c % 128 < 128 := by omega
  have hm1 : k = 9 → c % 128 ≤ 1 := by omega
  rw [hc]
  generalize c % 128 = d at *
  clear hc
  have hcases : k = 0 ∨ k = 1 ∨ k = 2 ∨ k = 3 ∨ k = 4 ∨ k = 5 ∨ k = 6 ∨ k = 7 ∨ k = 8 ∨ k = 9 := by omega
  rcases hcases with rfl | rfl | rfl | rfl | rfl | rfl | rfl | rfl | rfl | rfl
  all_goals
    simp only [IntKind.wrap_u64, Nat.reducePow] at hX ⊢
    omega

theorem ref_unit (U k : Nat) (hU : U = 128 ^ k) (hk : k < 9) : IntKind.u64.wrap ((U : Int) * 128) = ((128 ^ (k + 1) : Nat) : Int) := by
  subst hU
  have hcases : k = 0 ∨ k = 1 ∨ k = 2 ∨ k = 3 ∨ k = 4 ∨ k = 5 ∨ k = 6 ∨ k = 7 ∨ k = 8 := by omega
  rcases hcases with rfl | rfl | rfl | rfl | rfl | rfl | rfl | rfl | rfl
  all_goals rfl

set_option maxRecDepth 10000 in
set_option maxHeartbeats 400000 in
theorem refget_in (s : ByteArray) (a : Nat) (w : World) (hs : s.size ≤ maxLen) (ha : a ≤ s.size) :
    Calls Try.prog 45 #[.string s, .int .i64 a] w fun e w' => e = .returned (.tuple #[.int .u64 (fin a (dec 0 0 (s.data.toList.drop a))).1, .int .i64 (fin a (dec 0 0 (s.data.toList.drop a))).2.1, .int .i64 (fin a (dec 0 0 (s.data.toList.drop a))).2.2]) ∧ w' = w := by
  unfold maxLen at hs
  have hg : ¬ (s.size < a) := by omega
  generalize hF : dec 0 0 (s.data.toList.drop a) = D
  have HF : Hid (dec 0 0 (s.data.toList.drop a) = D) := hF
  clear hF
  go_enter Try.func45, Try.ntmps45
  go_wp2
  go_loop [7, 8, 9] (fun nv uv iv => ∃ (k X U : Nat), nv = .int .u64 X ∧ uv = .int .u64 U ∧ iv = .int .i64 ((a : Int) + k) ∧ k ≤ 9 ∧ a + k ≤ s.size ∧ Hid (U = 128 ^ k) ∧ Hid (X < 128 ^ k) ∧ Hid (dec k X (s.data.toList.drop (a + k)) = D)) (fun _ _ iv => a + 10 - (intOf iv).toNat)
  case atStart => exact ⟨0, 0, 1, rfl, rfl, by go_num, by omega, by omega, rfl, by show _ < _; simp, HF⟩
  case round =>
    obtain ⟨k, X, U, rfl, rfl, rfl, hk, hak, HU, HX, HD⟩ := hrel
    by_cases hlt : a + k < s.size
    · have HS : Hid (s.data.toList.drop (a + k) = s[a + k] :: s.data.toList.drop (a + k + 1)) := drop_at s (a + k) hlt
      go_wp2
      · have h9 : (a : Int) + k - a = 9 := by assumption
        have hc : 1 < (s[a + k].toNat : Int) := by assumption
        have hD : D = (0, 0, 3) := by rw [← HD.out, HS.out]; exact dec_nine _ _ _ _ (by omega) (by omega)
        go_ret3
        exact ⟨by rw [hD, fin_bad _ _ (by omega)]; rfl, rfl⟩
      · have h9 : (a : Int) + k - a = 9 := by assumption
        have hc : s[a + k].toNat = 0 := by assumption
        have hD : D = (0, 0, 3) := by rw [← HD.out, HS.out]; exact dec_zero _ _ _ _ (by omega) hc
        go_ret3
        exact ⟨by rw [hD, fin_bad _ _ (by omega)]; rfl, rfl⟩
      · have h9 : (a : Int) + k - a = 9 := by assumption
        have hc1 : (s[a + k].toNat : Int) ≤ 1 := by assumption
        have hc0 : ¬ s[a + k].toNat = 0 := by assumption
        have hD : D = (X + 128 ^ k * (s[a + k].toNat % 128), k + 1, 0) := by rw [← HD.out, HS.out]; exact dec_last _ _ _ _ (by omega) (by omega) (by omega)
        have ho := ref_add X U k s[a + k].toNat HU.out HX.out (.inr ⟨by omega, by omega⟩)
        go_ret3
        refine ⟨?_, rfl⟩
        rw [hD, fin_ok]
        exact ret3 ho (by dsimp only; omega) rfl
      · have hk0 : (a : Int) < a + k := by assumption
        have hc : s[a + k].toNat = 0 := by assumption
        have hD : D = (0, 0, 3) := by rw [← HD.out, HS.out]; exact dec_zero _ _ _ _ (by omega) hc
        go_ret3
        exact ⟨by rw [hD, fin_bad _ _ (by omega)]; rfl, rfl⟩
      · have hk0 : (a : Int) + k ≤ a := by assumption
        have hc : s[a + k].toNat = 0 := by assumption
        have hD : D = (X + 128 ^ k * (s[a + k].toNat % 128), k + 1, 0) := by rw [← HD.out, HS.out]; exact dec_last _ _ _ _ (by omega) (by omega) (by omega)
        have ho := ref_add X U k s[a + k].toNat HU.out HX.out (.inl (by omega))
        rw [hc] at ho
        have e0 : IntKind.u64.wrap ((U : Int) * (((0 : Nat) : Int) % 128)) = 0 := by simp [IntKind.wrap_u64]
        rw [e0, Int.add_zero] at ho
        go_ret3
        refine ⟨?_, rfl⟩
        rw [hD, fin_ok, hc]
        exact ret3 ho (by dsimp only; omega) rfl
      · have h9 : ¬ (a : Int) + k - a = 9 := by assumption
        have hc0 : ¬ s[a + k].toNat = 0 := by assumption
        have hc : (s[a + k].toNat : Int) < 128 := by assumption
        have hD : D = (X + 128 ^ k * (s[a + k].toNat % 128), k + 1, 0) := by rw [← HD.out, HS.out]; exact dec_last _ _ _ _ (by omega) (by omega) (by omega)
        have ho := ref_add X U k s[a + k].toNat HU.out HX.out (.inl (by omega))
        go_ret3
        refine ⟨?_, rfl⟩
        rw [hD, fin_ok]
        exact ret3 ho (by dsimp only; omega) rfl
      · have h9 : ¬ (a : Int) + k - a = 9 := by assumption
        have hc : 128 ≤ (s[a + k].toNat : Int) := by assumption
        have hD : dec (k + 1) (X + 128 ^ k * (s[a + k].toNat % 128)) (s.data.toList.drop (a + (k + 1))) = D := by
          rw [← HD.out, HS.out, dec_more _ _ _ _ (by omega) (by omega)]; rfl
        have ho := ref_add X U k s[a + k].toNat HU.out HX.out (.inl (by omega))
        have hu := ref_unit U k HU.out (by omega)
        refine ⟨⟨k + 1, X + 128 ^ k * (s[a + k].toNat % 128), 128 ^ (k + 1), by rw [ho], by rw [hu], by go_num, by omega, by omega, rfl, pow_step _ _ _ HX.out, hD⟩, ?_⟩
        simp [intOf]; omega
    · go_wp2
      have hD : D = (0, 0, 2) := by rw [← HD.out, drop_end s (a + k) (by omega)]; rfl
      go_ret3
      exact ⟨by rw [hD, fin_bad _ _ (by omega)]; rfl, rfl⟩

set_option maxRecDepth 10000 in
set_option maxHeartbeats 400000 in
theorem get_out (s : ByteArray) (a : Int) (w : World) (hs : s.size ≤ maxLen) (h : a < 0 ∨ (s.size : Int) < a) :
    Calls Try.prog 49 #[.string s, .int .i64 a] w fun e w' => e = .returned (.tuple #[.int .u64 0, .int .i64 0, .int .i64 1]) ∧ w' = w := by
  unfold maxLen at hs
  rcases h with h | h
  · go_enter Try.func49, Try.ntmps49
    go_wp2
    go_ret3
    exact ⟨rfl, rfl⟩
  · have h' : ¬ a < 0 := by omega
    go_enter Try.func49, Try.ntmps49
    go_wp2
    go_ret3
    exact ⟨rfl, rfl⟩

set_option maxRecDepth 10000 in
set_option maxHeartbeats 400000 in
theorem refget_out (s : ByteArray) (a : Int) (w : World) (hs : s.size ≤ maxLen) (h : a < 0 ∨ (s.size : Int) < a) :
    Calls Try.prog 45 #[.string s, .int .i64 a] w fun e w' => e = .returned (.tuple #[.int .u64 0, .int .i64 0, .int .i64 1]) ∧ w' = w := by
  unfold maxLen at hs
  rcases h with h | h
  · go_enter Try.func45, Try.ntmps45
    go_wp2
    go_ret3
    exact ⟨rfl, rfl⟩
  · have h' : ¬ a < 0 := by omega
    go_enter Try.func45, Try.ntmps45
    go_wp2
    go_ret3
    exact ⟨rfl, rfl⟩

theorem got_out (b : List UInt8) (a : Int) (h : a < 0 ∨ (b.length : Int) < a) : got b a = (0, 0, 1) := by
  unfold got; rw [if_pos h]
theorem got_in (b : List UInt8) (a : Nat) (h : a ≤ b.length) : got b a = fin a (dec 0 0 (b.drop a)) := by
  unfold got; rw [if_neg (by omega)]; rfl

/-- Get, of the program: any place of any text. -/
theorem get_any (s : ByteArray) (a : Int) (w : World) (hs : s.size ≤ maxLen) :
    Calls Try.prog 49 #[.string s, .int .i64 a] w fun e w' => e = .returned (.tuple #[.int .u64 (got s.data.toList a).1, .int .i64 (got s.data.toList a).2.1, .int .i64 (got s.data.toList a).2.2]) ∧ w' = w := by
  have hl : s.data.toList.length = s.size := by rw [Array.length_toList]; rfl
  by_cases h : a < 0 ∨ (s.size : Int) < a
  · rw [got_out _ _ (by rw [hl]; exact h)]
    exact get_out s a w hs h
  · obtain ⟨n, rfl⟩ := Int.eq_ofNat_of_zero_le (show 0 ≤ a by omega)
    rw [got_in _ _ (by omega)]
    exact get_in s n w hs (by omega)

/-- Get, of the document's answer: any place of any text. -/
theorem refget_any (s : ByteArray) (a : Int) (w : World) (hs : s.size ≤ maxLen) :
    Calls Try.prog 45 #[.string s, .int .i64 a] w fun e w' => e = .returned (.tuple #[.int .u64 (got s.data.toList a).1, .int .i64 (got s.data.toList a).2.1, .int .i64 (got s.data.toList a).2.2]) ∧ w' = w := by
  have hl : s.data.toList.length = s.size := by rw [Array.length_toList]; rfl
  by_cases h : a < 0 ∨ (s.size : Int) < a
  · rw [got_out _ _ (by rw [hl]; exact h)]
    exact refget_out s a w hs h
  · obtain ⟨n, rfl⟩ := Int.eq_ofNat_of_zero_le (show 0 ≤ a by omega)
    rw [got_in _ _ (by omega)]
    exact refget_in s n w hs (by omega)

end Go.Proofs.Ytfblmibdcodipaa
