/- The contracts of crc's calls: sums, their four bytes, and back; nothing that was there before is changed. -/
import Derived.Test.YtipljconbnaffaaCrcXor
import Derived.Deep.QuietTactic
import Derived.BigQuiet
namespace Go.Proofs.Ytipljconbnaffaa
open Go.RowKit

set_option maxRecDepth 10000 in
set_option maxHeartbeats 400000 in
theorem halve_any (y : Nat) (w : World) (hy : y < 4294967296) :
    Calls Try.prog 48 #[.int .u32 y] w fun e w' => e = .returned (.int .u32 (hlv y : Nat)) ∧ w' = w := by
  have k4 : bits .xor .u32 ((y : Int) / 2) (3988292384 * ((y : Int) % 2)) = ((hlv y : Nat) : Int) := by
    by_cases ho : y % 2 = 1
    · have h := xor32 (y / 2) 3988292384 (by omega) (by omega)
      rw [hlv_odd y ho, ← h, show (3988292384 * ((y : Int) % 2)) = ((3988292384 : Nat) : Int) by omega]
      rfl
    · have h := xor32 (y / 2) 0 (by omega) (by omega)
      rw [hlv_even y ho, show (3988292384 * ((y : Int) % 2)) = ((0 : Nat) : Int) by omega]
      rw [Nat.xor_zero] at h
      exact h
  go_enter Try.func48, Try.ntmps48
  go_wp2_with fail
  go_ret
  exact ⟨rfl, rfl⟩

set_option maxRecDepth 10000 in
set_option maxHeartbeats 400000 in
theorem step_to (x c z : Nat) (w : World) (hx : x < 4294967296) (hc : c < 256) (HZ : Hid (x ^^^ c = z)) :
    Calls Try.prog 45 #[.int .u32 x, .int .u8 c] w fun e w' => e = .returned (.int .u32 (hlvs 8 z : Nat)) ∧ w' = w := by
  have k0 : IntKind.u32.wrap (c : Int) = c := by rw [IntKind.wrap_u32']; omega
  have k1 := xor32 x c hx (by omega)
  have hlt : x ^^^ c < 4294967296 := xor32_lt hx (by omega)
  rw [HZ.out] at k1 hlt
  go_enter Try.func45, Try.ntmps45
  go_wp2_with fail
  clear k0 k1
  go_loop [0, 9] (fun xv kv => ∃ (y k : Nat), xv = .int .u32 y ∧ kv = .int .i64 k ∧ k ≤ 8 ∧ y < 4294967296 ∧ Hid (hlvs (8 - k) y = hlvs 8 z)) (fun _ kv => 8 - (intOf kv).toNat)
  case atStart => exact ⟨z, 0, rfl, rfl, by omega, hlt, rfl⟩
  case round =>
    obtain ⟨y, k, rfl, rfl, hk, hy, HE⟩ := hrel
    by_cases hk8 : k < 8
    · have HL : Hid (hlvs (8 - (k + 1)) (hlv y) = hlvs 8 z) := by show _ = _; rw [← hlvs_left k y hk8]; exact HE.out
      have hl := hlv_lt y hy
      clear HE
      go_wp2_with fail
      refine (halve_any y _ hy).mono ?_
      rintro e w' ⟨rfl, rfl⟩
      go_wp2_with fail
      go_round
      case rel => exact ⟨hlv y, k + 1, by go_num, by go_num, by omega, hl, HL⟩
      case measure => simp [intOf]; omega
    · obtain rfl : k = 8 := by omega
      have HY : Hid (y = hlvs 8 z) := HE.out
      clear HE
      go_wp2_with fail
      go_ret
      refine ⟨?_, rfl⟩
      rw [← HY.out]
      rfl

theorem step_any (x c : Nat) (w : World) (hx : x < 4294967296) (hc : c < 256) :
    Calls Try.prog 45 #[.int .u32 x, .int .u8 c] w fun e w' => e = .returned (.int .u32 (hlvs 8 (x ^^^ c) : Nat)) ∧ w' = w :=
  step_to x c _ w hx hc rfl

theorem not32 (s : Nat) (hs : s < 4294967296) : bits .xor .u32 IntKind.u32.max (s : Int) = ((4294967295 - s : Nat) : Int) := by
  have h := xor32 4294967295 s (by omega) hs
  rw [turn_xor s hs]
  exact h

set_option maxRecDepth 10000 in
set_option maxHeartbeats 400000 in
theorem more_to (s r0 : Nat) (b : ByteArray) (w : World) (hs : s < 4294967296) (hb : b.size ≤ 281474976710656) (HR : Hid (4294967295 - s = r0)) :
    Calls Try.prog 37 #[.int .u32 s, .string b] w fun e w' => e = .returned (.int .u32 (4294967295 - reg r0 b.data.toList : Nat)) ∧ w' = w := by
  have hn := not32 s hs
  rw [HR.out] at hn
  have hr0 : r0 < 4294967296 := by have := HR.out; omega
  go_enter Try.func37, Try.ntmps37
  go_wp2_with fail
  clear hn
  go_loop [5, 11] (fun xv iv => ∃ (x i : Nat), xv = .int .u32 x ∧ iv = .int .i64 i ∧ i ≤ b.size ∧ x < 4294967296 ∧ Hid (reg x (b.data.toList.drop i) = reg r0 b.data.toList)) (fun _ iv => b.size - (intOf iv).toNat)
  case atStart => exact ⟨r0, 0, rfl, rfl, by omega, hr0, rfl⟩
  case round =>
    obtain ⟨x, i, rfl, rfl, hi, hx, HE⟩ := hrel
    by_cases hlt : i < b.size
    · have HN : Hid (reg (hlvs 8 (x ^^^ b[i].toNat)) (b.data.toList.drop (i + 1)) = reg r0 b.data.toList) := by
        have h := HE.out
        rw [drop_at b i hlt] at h
        exact h
      have hc := b[i].toNat_lt
      have hn := hlvs_lt 8 _ (xor32_lt hx (show b[i].toNat < 4294967296 by omega))
      have HS : Hid (∀ W : World, Calls Try.prog 45 #[.int .u32 x, .int .u8 (b[i].toNat : Int)] W fun e w' => e = .returned (.int .u32 (hlvs 8 (x ^^^ b[i].toNat) : Nat)) ∧ w' = W) := fun W => step_any x b[i].toNat W hx hc
      generalize hlvs 8 (x ^^^ b[i].toNat) = v at *
      clear HE
      go_wp2_with fail
      refine (HS.out _).mono ?_
      rintro e w' ⟨rfl, rfl⟩
      go_wp2_with fail
      go_round
      case rel => exact ⟨v, i + 1, by go_num, by go_num, by omega, hn, HN⟩
      case measure => simp [intOf]; omega
    · have HX : Hid (x = reg r0 b.data.toList) := by
        have h := HE.out
        rw [drop_end b i (by omega)] at h
        exact h
      clear HE
      have hn := not32 x hx
      go_wp2_with fail
      go_ret
      refine ⟨?_, rfl⟩
      rw [← HX.out]
      rfl

theorem crc_turn (s : Nat) (l : List UInt8) (hs : s = crc l) : 4294967295 - s = reg 4294967295 l := by
  have h := reg_lt 4294967295 l (by decide)
  rw [hs]
  unfold crc
  omega

/-- More, behind the sum of some bytes: the sum of these, and the others behind them. -/
theorem more_any (l : List UInt8) (b : ByteArray) (w : World) (hb : b.size ≤ 281474976710656) :
    Calls Try.prog 37 #[.int .u32 (crc l : Nat), .string b] w fun e w' => e = .returned (.int .u32 (crc (l ++ b.data.toList) : Nat)) ∧ Below w.heap.size w w' := by
  have h := more_to (crc l) (reg 4294967295 l) b w (crc_lt l) hb (crc_turn _ l rfl)
  rw [← reg_append] at h
  refine h.mono ?_
  rintro e w' ⟨rfl, rfl⟩
  exact ⟨rfl, Below.refl _ _⟩

set_option maxRecDepth 10000 in
set_option maxHeartbeats 400000 in
theorem sum_any (b : ByteArray) (w : World) (hb : b.size ≤ 281474976710656) :
    Calls Try.prog 23 #[.string b] w fun e w' => e = .returned (.int .u32 (crc b.data.toList : Nat)) ∧ Below w.heap.size w w' := by
  have h := more_any [] b w hb
  rw [List.nil_append, show crc [] = 0 from rfl] at h
  have H : Hid (Calls Try.prog 37 #[.int .u32 0, .string b] w fun e w' => e = .returned (.int .u32 (crc b.data.toList : Nat)) ∧ Below w.heap.size w w') := h
  clear h
  go_enter Try.func23, Try.ntmps23
  go_wp2_with fail
  refine Calls.mono H.out ?_
  rintro e w' ⟨rfl, hB⟩
  go_wp2_with fail
  go_ret
  exact ⟨rfl, hB⟩

theorem conv_four (P : Program) (w : World) (n : Nat) (hn : n < 4294967296) (src dst e : TypeId) (hs : P.underlying src = some (.slice e)) (he : P.underlying e = some (.int .u8)) (hd : P.underlying dst = some .string) :
    (convert src dst (.slice (some ⟨w.heap.size, 0, none⟩) 4 4)).run P (w.alloc (.cells #[.int .u8 ((n : Int) % 256), .int .u8 ((n : Int) / 256 % 256), .int .u8 ((n : Int) / 65536 % 256), .int .u8 ((n : Int) / 16777216)] e)) = .ok (.string ⟨(four n).toArray⟩) (w.alloc (.cells #[.int .u8 ((n : Int) % 256), .int .u8 ((n : Int) / 256 % 256), .int .u8 ((n : Int) / 65536 % 256), .int .u8 ((n : Int) / 16777216)] e)) := by
  have hc : #[Value.int .u8 ((n : Int) % 256), .int .u8 ((n : Int) / 256 % 256), .int .u8 ((n : Int) / 65536 % 256), .int .u8 ((n : Int) / 16777216)].toList = bV (four n) := by
    simp [bV, four]
    omega
  refine run_convert_bytes_back _ src dst e ⟨w.heap.size, 0, none⟩ 4 (four n) hs he hd ?_
  intro j hj
  have hadd : (⟨w.heap.size, 0, none⟩ : Addr).add j = ⟨w.heap.size, j, none⟩ := by unfold Addr.add; split <;> simp_all
  rw [hadd, cell_of_row _ w.heap.size j _ e (0, 0) (heap_alloc_new w _), ← Array.getElem?_toList, hc]
  simp [bV, hj]

set_option maxRecDepth 10000 in
set_option maxHeartbeats 400000 in
theorem put4_any (n : Nat) (w : World) (hn : n < 4294967296) :
    Calls Try.prog 22 #[.int .u32 n] w fun e w' => e = .returned (.string ⟨(four n).toArray⟩) ∧ Below w.heap.size w w' := by
  have hcv := conv_four Try.prog w n hn 48 9 5 Try.underlying48 Try.underlying5 Try.underlying9
  go_enter Try.func22, Try.ntmps22
  go_wp2_with fail
  go_ret
  exact ⟨rfl, (Below.refl _ _).alloc (Nat.le_refl _) _⟩

theorem or32 (a b : Nat) (ha : a < 4294967296) (hb : b < 4294967296) : bits .or .u32 (a : Int) (b : Int) = ((a ||| b : Nat) : Int) := by
  have h := u32_or (a : Int) (b : Int) (by omega) (by omega) (by omega) (by omega)
  simpa using h

theorem or_four (a b c d : Nat) (ha : a < 256) (hb : b < 256) (hc : c < 256) (hd : d < 256) :
    bits .or .u32 (bits .or .u32 (bits .or .u32 ((a : Int) % 4294967296) ((b : Int) % 4294967296 * 256 % 4294967296)) ((c : Int) % 4294967296 * 65536 % 4294967296)) ((d : Int) % 4294967296 * 16777216 % 4294967296) = ((a + 256 * (b + 256 * (c + 256 * d)) : Nat) : Int) := by
  have e0 : (a : Int) % 4294967296 = (a : Int) := by omega
  have e1 : (b : Int) % 4294967296 * 256 % 4294967296 = ((256 * b : Nat) : Int) := by omega
  have e2 : (c : Int) % 4294967296 * 65536 % 4294967296 = ((65536 * c : Nat) : Int) := by omega
  have e3 : (d : Int) % 4294967296 * 16777216 % 4294967296 = ((16777216 * d : Nat) : Int) := by omega
  have o1 : a ||| 256 * b = 256 * b + a := by rw [Nat.or_comm]; exact (Nat.two_pow_add_eq_or_of_lt (i := 8) (b := a) ha b).symm
  have o2 : (256 * b + a) ||| 65536 * c = 65536 * c + (256 * b + a) := by rw [Nat.or_comm]; exact (Nat.two_pow_add_eq_or_of_lt (i := 16) (b := 256 * b + a) (by omega) c).symm
  have o3 : (65536 * c + (256 * b + a)) ||| 16777216 * d = 16777216 * d + (65536 * c + (256 * b + a)) := by rw [Nat.or_comm]; exact (Nat.two_pow_add_eq_or_of_lt (i := 24) (b := 65536 * c + (256 * b + a)) (by omega) d).symm
  rw [e0, e1, e2, e3, or32 a (256 * b) (by omega) (by omega), o1, or32 (256 * b + a) (65536 * c) (by omega) (by omega), o2, or32 (65536 * c + (256 * b + a)) (16777216 * d) (by omega) (by omega), o3]
  omega

theorem num_four (b : ByteArray) (hb : b.size = 4) : lnum b.data.toList = b[0].toNat + 256 * (b[1].toNat + 256 * (b[2].toNat + 256 * b[3].toNat)) := by
  have h : b.data.toList = [b[0], b[1], b[2], b[3]] := by
    apply List.ext_getElem
    · simp [hb]
    · intro i h1 h2
      simp at h2
      match i, h2 with
      | 0, _ => rfl
      | 1, _ => rfl
      | 2, _ => rfl
      | 3, _ => rfl
  rw [h]
  simp [lnum]

theorem num_of_four (n : Nat) (hn : n < 4294967296) : lnum (four n) = n := by
  simp [lnum, four]
  omega

theorem four_of_num (b : ByteArray) (hb : b.size = 4) : four (lnum b.data.toList) = b.data.toList := by
  apply num_inj
  · simp [four, hb]
  · rw [num_of_four _ (Nat.lt_of_lt_of_le (num_lt _) (by simp [hb]))]

set_option maxRecDepth 10000 in
set_option maxHeartbeats 400000 in
theorem get4_some (b : ByteArray) (w : World) (hb : b.size = 4) :
    Calls Try.prog 43 #[.string b] w fun e w' => e = .returned (.tuple #[.int .u32 (lnum b.data.toList : Nat), .bool true]) ∧ Below w.heap.size w w' := by
  have ho := or_four b[0].toNat b[1].toNat b[2].toNat b[3].toNat b[0].toNat_lt b[1].toNat_lt b[2].toNat_lt b[3].toNat_lt
  rw [← num_four b hb] at ho
  go_enter Try.func43, Try.ntmps43
  go_wp2_with fail
  go_quiet (fail)
  go_wp2_with fail
  go_ret2
  refine ⟨?_, below_drewN (Below.refl _ _) _⟩
  rw [← ho]
  rfl

set_option maxRecDepth 10000 in
set_option maxHeartbeats 400000 in
theorem get4_none (b : ByteArray) (w : World) (hb : ¬ b.size = 4) :
    Calls Try.prog 43 #[.string b] w fun e w' => e = .returned (.tuple #[.int .u32 0, .bool false]) ∧ Below w.heap.size w w' := by
  have hI : ¬ (b.size : Int) = 4 := by omega
  go_enter Try.func43, Try.ntmps43
  go_wp2_with fail
  go_ret2
  exact ⟨rfl, Below.refl _ _⟩

end Go.Proofs.Ytipljconbnaffaa
