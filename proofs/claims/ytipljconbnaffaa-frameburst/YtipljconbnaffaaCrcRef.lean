/- The contracts of the document's own Step and Sum: the register behind a byte, and the sum of bytes; the world stays. -/
import Derived.Test.YtipljconbnaffaaRows
import Derived.Test.YtipljconbnaffaaCrcMath
import Derived.Test.YtipljconbnaffaaKit
import Derived.Test.YtipljconbnaffaaMath
namespace Go.Proofs.Ytipljconbnaffaa
open Go.RowKit

theorem xor32 (a b : Nat) (ha : a < 4294967296) (hb : b < 4294967296) : bits .xor .u32 (a : Int) (b : Int) = ((a ^^^ b : Nat) : Int) := by
  have h := u32_xor (a : Int) (b : Int) (by omega) (by omega) (by omega) (by omega)
  simpa using h

theorem xor32_lt {a b : Nat} (ha : a < 4294967296) (hb : b < 4294967296) : a ^^^ b < 4294967296 := Nat.xor_lt_two_pow (n := 32) ha hb

theorem hlv_odd (y : Nat) (h : y % 2 = 1) : hlv y = y / 2 ^^^ 3988292384 := by unfold hlv; rw [if_pos h]
theorem hlv_even (y : Nat) (h : ¬ y % 2 = 1) : hlv y = y / 2 := by unfold hlv; rw [if_neg h]
theorem hlvs_left (k y : Nat) (h : k < 8) : hlvs (8 - k) y = hlvs (8 - (k + 1)) (hlv y) := by
  rw [show 8 - k = (8 - (k + 1)) + 1 by omega]; rfl

set_option maxRecDepth 10000 in
set_option maxHeartbeats 400000 in
theorem refstep_to (x c z : Nat) (w : World) (hx : x < 4294967296) (hc : c < 256) (HZ : Hid (x ^^^ c = z)) :
    Calls Try.prog 38 #[.int .u32 x, .int .u8 c] w fun e w' => e = .returned (.int .u32 (hlvs 8 z : Nat)) ∧ w' = w := by
  have k0 : IntKind.u32.wrap (c : Int) = c := by rw [IntKind.wrap_u32']; omega
  have k1 := xor32 x c hx (by omega)
  have hlt : x ^^^ c < 4294967296 := xor32_lt hx (by omega)
  rw [HZ.out] at k1 hlt
  go_enter Try.func38, Try.ntmps38
  go_wp2
  clear k0 k1
  go_loop [0, 5] (fun xv kv => ∃ (y k : Nat), xv = .int .u32 y ∧ kv = .int .i64 k ∧ k ≤ 8 ∧ y < 4294967296 ∧ Hid (hlvs (8 - k) y = hlvs 8 z)) (fun _ kv => 8 - (intOf kv).toNat)
  case atStart => exact ⟨z, 0, rfl, rfl, by omega, hlt, rfl⟩
  case round =>
    obtain ⟨y, k, rfl, rfl, hk, hy, HE⟩ := hrel
    by_cases hk8 : k < 8
    · have HL : Hid (hlvs (8 - (k + 1)) (hlv y) = hlvs 8 z) := by show _ = _; rw [← hlvs_left k y hk8]; exact HE.out
      have hl := hlv_lt y hy
      by_cases ho : y % 2 = 1
      · have k2 : (y : Int) % 2 = 1 := by omega
        have k4 : bits .xor .u32 ((y : Int) / 2) 3988292384 = ((hlv y : Nat) : Int) := by
          have h := xor32 (y / 2) 3988292384 (by omega) (by omega)
          rw [hlv_odd y ho, ← h]
          rfl
        clear HE ho
        generalize hlv y = v at *
        go_wp2
        go_round
        case rel => exact ⟨v, k + 1, by go_num, by go_num, by omega, hl, HL⟩
        case measure => simp [intOf]; omega
      · have k2 : (y : Int) % 2 = 0 := by omega
        have k5 : (y : Int) / 2 = ((hlv y : Nat) : Int) := by rw [hlv_even y ho]; omega
        clear HE ho
        generalize hlv y = v at *
        go_wp2
        go_round
        case rel => exact ⟨v, k + 1, by go_num, by go_num, by omega, hl, HL⟩
        case measure => simp [intOf]; omega
    · obtain rfl : k = 8 := by omega
      have HY : Hid (y = hlvs 8 z) := HE.out
      clear HE
      go_wp2
      go_ret
      refine ⟨?_, rfl⟩
      rw [← HY.out]
      rfl

theorem refstep_any (x c : Nat) (w : World) (hx : x < 4294967296) (hc : c < 256) :
    Calls Try.prog 38 #[.int .u32 x, .int .u8 c] w fun e w' => e = .returned (.int .u32 (hlvs 8 (x ^^^ c) : Nat)) ∧ w' = w :=
  refstep_to x c _ w hx hc rfl

set_option maxRecDepth 10000 in
set_option maxHeartbeats 400000 in
theorem refsum_any (b : ByteArray) (w : World) (hb : b.size ≤ 281474976710656) :
    Calls Try.prog 27 #[.string b] w fun e w' => e = .returned (.int .u32 (crc b.data.toList : Nat)) ∧ w' = w := by
  go_enter Try.func27, Try.ntmps27
  go_wp2
  go_loop [3, 4] (fun xv iv => ∃ (x i : Nat), xv = .int .u32 x ∧ iv = .int .i64 i ∧ i ≤ b.size ∧ x < 4294967296 ∧ Hid (reg x (b.data.toList.drop i) = reg 4294967295 b.data.toList)) (fun _ iv => b.size - (intOf iv).toNat)
  case atStart => exact ⟨4294967295, 0, rfl, rfl, by omega, by omega, rfl⟩
  case round =>
    obtain ⟨x, i, rfl, rfl, hi, hx, HE⟩ := hrel
    by_cases hlt : i < b.size
    · have HN : Hid (reg (hlvs 8 (x ^^^ b[i].toNat)) (b.data.toList.drop (i + 1)) = reg 4294967295 b.data.toList) := by
        have h := HE.out
        rw [drop_at b i hlt] at h
        exact h
      have hc := b[i].toNat_lt
      have hn := hlvs_lt 8 _ (xor32_lt hx (show b[i].toNat < 4294967296 by omega))
      have HS : Hid (∀ W : World, Calls Try.prog 38 #[.int .u32 x, .int .u8 (b[i].toNat : Int)] W fun e w' => e = .returned (.int .u32 (hlvs 8 (x ^^^ b[i].toNat) : Nat)) ∧ w' = W) := fun W => refstep_any x b[i].toNat W hx hc
      generalize hlvs 8 (x ^^^ b[i].toNat) = v at *
      clear HE
      go_wp2_with fail
      refine (HS.out _).mono ?_
      rintro e w' ⟨rfl, rfl⟩
      go_wp2_with fail
      go_round
      case rel => exact ⟨v, i + 1, by go_num, by go_num, by omega, hn, HN⟩
      case measure => simp [intOf]; omega
    · have HX : Hid (crc b.data.toList = 4294967295 - x) := by
        have h := HE.out
        rw [drop_end b i (by omega)] at h
        show crc _ = _
        unfold crc
        rw [← h]
        rfl
      clear HE
      have k1 : IntKind.u32.wrap (4294967295 - (x : Int)) = ((4294967295 - x : Nat) : Int) := by rw [IntKind.wrap_u32']; omega
      go_wp2
      go_ret
      refine ⟨?_, rfl⟩
      rw [HX.out]
      rfl

end Go.Proofs.Ytipljconbnaffaa
