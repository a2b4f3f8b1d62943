/- The contracts of Put and Size: for every number they return the number's bytes, and how many these are; nothing that was there before is changed. -/
import Derived.Test.YtfblmibdcodipaaRows
import Derived.Test.YtfblmibdcodipaaMath
import Derived.Test.YtfblmibdcodipaaKit
namespace Go.Proofs.Ytfblmibdcodipaa
open Go.RowKit

theorem Try.info5 : (Try.prog.info? 5).map (fun i => (i.zero, i.size, i.bytes)) = some (some (.int .u8 0), 1, 1) := by kernel_rfl

theorem or_top (m : Nat) : bits .or .u8 ((m : Int) % 128) 128 = 128 + (m : Int) % 128 := by
  rw [u8_or _ _ (by omega) (by omega) (by omega) (by omega)]
  have h1 : ((m : Int) % 128).toNat = m % 128 := by omega
  have h2 : (128 : Int).toNat = 128 := rfl
  rw [h1, h2, Nat.or_comm, nat_join 7 128 (m % 128) (by decide) (by show _ < 128; omega)]
  omega

theorem ret_len {k : IntKind} {a b : Nat} (h : a = b) : Ending.returned (.int k (a : Int)) = .returned (.int k (b : Int)) := by rw [h]

set_option maxRecDepth 10000 in
set_option maxHeartbeats 400000 in
theorem put_any (n : Int) (w : World) (h0 : 0 ≤ n) (h1 : n ≤ 18446744073709551615) :
    Calls Try.prog 28 #[.int .u64 n] w fun e w' => e = .returned (.string ⟨(put n.toNat).toArray⟩) ∧ Below w.heap.size w w' := by
  obtain ⟨i0, hi, hz0, hz1, hz2⟩ := info_parts Try.info5
  go_enter Try.func28, Try.ntmps28
  go_wp2_with (at_make; refine wpList_make_own _ rfl _ _ 54 rfl w.heap.size 5 i0 (.int .u8 0) 1 Try.underlying54 hi hz0 hz1 _ _ _ 10 rfl rfl rfl ?b2 ?b3 ?b4 ?_)
  case b2 => rw [hz2]; decide
  case b3 => decide
  case b4 => exact Nat.le_refl _
  intro w1 hown1 hgrow1
  go_wp2
  go_loopw [0, 3] (fun nv bv wr => ∃ (f m : Nat) (xs : List UInt8), nv = .int .u64 m ∧ wr.ownsRow w.heap.size 5 1 bv xs.length (bV xs) ∧ Hid (put n.toNat = xs ++ enc f m) ∧ Hid (m < 2 * 128 ^ f) ∧ (m : Int) ≤ 18446744073709551615 ∧ xs.length ≤ 9 ∧ Hid (xs.length + f = 9) ∧ Below w.heap.size w wr) (fun nv _ _ => (intOf nv).toNat)
  case atStart => exact ⟨9, n.toNat, [], by go_num, hown1, rfl, by show _ < _; omega, by omega, by simp, rfl, (Below.refl _ _).grown hgrow1 (Nat.le_refl _) (by simp)⟩
  case round =>
    obtain ⟨f, m, xs, rfl, hown, HE, HM, hm, hxs, HF, hnx⟩ := hrel
    have hsz := hnx.size
    by_cases hlt : m < 128
    · go_wp2_with (at_builtin; refine wpList_append_own _ rfl _ _ 54 rfl w.heap.size 5 i0 (.int .u8 0) 1 1 Try.underlying54 hi hz0 hz1 hz2 rfl (by decide) _ _ _ rfl (hown.alloc _) ⟨wr.heap.size, 0, none⟩ 1 1 [.int .u8 (m : Int)] rfl rfl (cell_one_new _ _ _) ?c2 ?c3 ?c4 ?c5 ?_)
      case c2 => intro u hu; simp at hu; subst hu; rfl
      case c3 => unfold maxLen; omega
      case c4 => omega
      case c5 => simp; omega
      intro v' w2 hown2 hgrow2 _
      have hput : put n.toNat = xs ++ [UInt8.ofNat m] := by rw [HE.out, enc_small f m hlt]
      have hb2 : Below w.heap.size w w2 := below_own (hnx.alloc hsz _) (hown.alloc _) hgrow2 (by simp; omega)
      have hown3 : w2.ownsRow w.heap.size 5 1 v' (xs ++ [UInt8.ofNat m]).length (bV (xs ++ [UInt8.ofNat m])) := by
        rw [bV_snoc xs m (by omega), List.length_append]; exact hown2
      obtain ⟨g, cap, hv, hcv⟩ := conv_own (P := Try.prog) 54 9 5 Try.underlying54 Try.underlying5 Try.underlying9 hown3 (by simp)
      rw [List.length_append, List.length_singleton] at hv hcv
      rw [← hput] at hcv
      clear hput hown2 hown3 hgrow2 hown HE HM HF
      rw [hv]
      go_wp2
      go_ret
      exact ⟨rfl, hb2⟩
    · have hor := or_top m
      obtain ⟨g, hg, hm1, he⟩ := enc_round f m (by omega) HM.out
      have HG : Hid (f = g + 1 ∧ m / 128 < 2 * 128 ^ g ∧ enc f m = UInt8.ofNat (128 + m % 128) :: enc g (m / 128)) := ⟨hg, hm1, he⟩
      clear hg hm1 he
      go_wp2_with (at_builtin; refine wpList_append_own _ rfl _ _ 54 rfl w.heap.size 5 i0 (.int .u8 0) 1 1 Try.underlying54 hi hz0 hz1 hz2 rfl (by decide) _ _ _ rfl (hown.alloc _) ⟨wr.heap.size, 0, none⟩ 1 1 [.int .u8 (128 + (m : Int) % 128)] rfl rfl (cell_one_new _ _ _) ?c2 ?c3 ?c4 ?c5 ?_)
      case c2 => intro u hu; simp at hu; subst hu; rfl
      case c3 => unfold maxLen; omega
      case c4 => omega
      case c5 => simp; omega
      intro v' w2 hown2 hgrow2 _
      have hb2 : Below w.heap.size w w2 := below_own (hnx.alloc hsz _) (hown.alloc _) hgrow2 (by simp; omega)
      have hown3 : w2.ownsRow w.heap.size 5 1 v' (xs ++ [UInt8.ofNat (128 + m % 128)]).length (bV (xs ++ [UInt8.ofNat (128 + m % 128)])) := by
        rw [bV_snoc xs (128 + m % 128) (by omega), List.length_append]; exact hown2
      clear hown2 hgrow2 hown
      go_wp2
      go_roundw
      case rel =>
        obtain ⟨hg, hm1, he⟩ := HG
        have hF := HF.out
        exact ⟨g, m / 128, xs ++ [UInt8.ofNat (128 + m % 128)], by go_num, hown3, by show _ = _; rw [HE.out, he, List.append_assoc]; rfl, hm1, by omega, by simp; omega, by show _ = _; simp; omega, hb2⟩
      case measure => simp [intOf]; omega

end Go.Proofs.Ytfblmibdcodipaa
