/- The contract of the document's own Put: for every number it returns the number's bytes; nothing that was there before is changed. -/
import Derived.Test.YtfblmibdcodipaaRows
import Derived.Test.YtfblmibdcodipaaMath
import Derived.Test.YtfblmibdcodipaaKit
import Derived.Deep.RegionWith
namespace Go.Proofs.Ytfblmibdcodipaa
open Go.RowKit

set_option maxRecDepth 10000 in
set_option maxHeartbeats 400000 in
theorem refput_small (f m : Nat) (w : World) (h : m < 128) :
    Calls Try.prog 30 #[.int .u64 m] w fun e w' => e = .returned (.string ⟨(enc f m).toArray⟩) ∧ Below w.heap.size w w' := by
  have hcv := fun (W : World) (g : Nat) => conv_one (P := Try.prog) W 54 9 5 Try.underlying54 Try.underlying5 Try.underlying9 g 1 (m : Int) (by omega) (by omega)
  have he := enc_small f m h
  have HE : Hid (enc f m = [UInt8.ofNat m]) := he
  clear he
  go_enter Try.func30, Try.ntmps30
  go_wp2_with fail
  go_ret
  exact ⟨by rw [HE.out]; rfl, (Below.refl _ _).alloc (Nat.le_refl _) _⟩

set_option maxRecDepth 10000 in
set_option maxHeartbeats 400000 in
theorem refput_big (m : Nat) (s2 : ByteArray) (w : World) (h : 128 ≤ m) (hm : (m : Int) ≤ 18446744073709551615) (hs2 : s2.size ≤ 10)
    (ih : Hid (∀ W : World, Calls Try.prog 30 #[.int .u64 ((m : Int) / 128)] W fun e w' => e = .returned (.string s2) ∧ Below W.heap.size W w')) :
    Calls Try.prog 30 #[.int .u64 m] w fun e w' => e = .returned (.string (⟨[UInt8.ofNat (128 + m % 128)].toArray⟩ ++ s2)) ∧ Below w.heap.size w w' := by
  have k0 : (128 + (m : Int) % 128).toNat = 128 + m % 128 := by omega
  have hcv := fun (W : World) (g : Nat) => conv_one (P := Try.prog) W 54 9 5 Try.underlying54 Try.underlying5 Try.underlying9 g 1 (128 + (m : Int) % 128) (by omega) (by omega)
  rw [k0] at hcv
  have hz1 : (ByteArray.mk [UInt8.ofNat (128 + m % 128)].toArray).size = 1 := rfl
  generalize ByteArray.mk [UInt8.ofNat (128 + m % 128)].toArray = s1 at *
  have hadd := fun (W : World) => run_string_add_sum (P := Try.prog) W s1 s2 (by omega)
  have k1 : (m : Int).tmod 128 = (m : Int) % 128 := Int.tmod_eq_emod_of_nonneg (by omega)
  have k2 : IntKind.u64.wrap (128 + (m : Int) % 128) = 128 + (m : Int) % 128 := by rw [IntKind.wrap_u64]; omega
  have k3 : IntKind.u8.wrap (128 + (m : Int) % 128) = 128 + (m : Int) % 128 := by rw [IntKind.wrap_u8']; omega
  have k4 : IntKind.u64.wrap ((m : Int) / 128) = (m : Int) / 128 := by rw [IntKind.wrap_u64]; omega
  clear k0 hz1
  go_enter Try.func30, Try.ntmps30
  go_wp2_with fail
  go_region_with (go_at_call 30; refine (ih.out _).mono ?_; rintro e w' ⟨rfl, hb⟩; obtain ⟨hc, hf⟩ := bcell hb)
  all_goals
    go_wp2_with fail
    go_ret
    first
      | exact ⟨rfl, (((Below.refl w.heap.size w).alloc (Nat.le_refl _) _).drew).trans (hb.mono (by simp))⟩
      | exact ⟨rfl, ((Below.refl w.heap.size w).drew.trans hb).alloc hb.size _⟩

theorem refput_enc (f : Nat) : ∀ (m : Nat), m < 2 * 128 ^ f → (m : Int) ≤ 18446744073709551615 → f ≤ 9 → ∀ w : World,
    Calls Try.prog 30 #[.int .u64 m] w fun e w' => e = .returned (.string ⟨(enc f m).toArray⟩) ∧ Below w.heap.size w w' := by
  induction f with
  | zero =>
    intro m hm h1 hf w
    exact refput_small 0 m w (by simp at hm; omega)
  | succ f ih =>
    intro m hm h1 hf w
    by_cases hlt : m < 128
    · exact refput_small (f + 1) m w hlt
    · have hm2 : m / 128 < 2 * 128 ^ f := by rw [Nat.pow_succ] at hm; omega
      have h := refput_big m ⟨(enc f (m / 128)).toArray⟩ w (by omega) h1 (by have := enc_length_le f (m / 128); simp [ByteArray.size]; omega) (fun W => by
        have hh := ih (m / 128) hm2 (by omega) (by omega) W
        have hc : ((m / 128 : Nat) : Int) = (m : Int) / 128 := by omega
        rw [hc] at hh
        exact hh)
      rw [ByteArray.mk_append_mk] at h
      rw [enc_big f m (by omega)]
      exact h

theorem refput_any (n : Int) (w : World) (h0 : 0 ≤ n) (h1 : n ≤ 18446744073709551615) :
    Calls Try.prog 30 #[.int .u64 n] w fun e w' => e = .returned (.string ⟨(put n.toNat).toArray⟩) ∧ Below w.heap.size w w' := by
  have h := refput_enc 9 n.toNat (by omega) (by omega) (by omega) w
  rw [Int.toNat_of_nonneg h0] at h
  exact h

end Go.Proofs.Ytfblmibdcodipaa
