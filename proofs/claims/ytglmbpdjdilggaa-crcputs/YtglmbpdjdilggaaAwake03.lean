/- The contract of 'awake', which each of the five laws asks first: it returns true; nothing that was there before is changed. -/
import Derived.Test.YtglmbpdjdilggaaCrcGo
namespace Go.Proofs.Ytglmbpdjdilggaa
open Go.RowKit

theorem bjoin {B : Nat} {a b c : World} (h : Below B a b) (h2 : Below b.heap.size b c) (hs : B ≤ b.heap.size) : Below B a c := h.trans (h2.mono hs)

theorem get4_c1 (w : World) : Calls Try.prog 12 #[.string ⟨#[38, 57, 244, 203]⟩] w fun e w' => e = .returned (.tuple #[.int .u32 3421780262, .bool true]) ∧ Below w.heap.size w w' :=
  get4_some ⟨#[38, 57, 244, 203]⟩ w rfl
theorem get4_c2 (w : World) : Calls Try.prog 12 #[.string ⟨#[97, 98, 99]⟩] w fun e w' => e = .returned (.tuple #[.int .u32 0, .bool false]) ∧ Below w.heap.size w w' :=
  get4_none ⟨#[97, 98, 99]⟩ w (by decide)
theorem crc_c1 : crc [49, 50, 51, 52, 53, 54, 55, 56, 57] = 3421780262 := by decide +kernel
theorem crc_c2 : crc [49, 50, 51, 52] = 2615402659 := by decide +kernel
theorem sum_c1 (w : World) : Calls Try.prog 9 #[.string ⟨#[49, 50, 51, 52, 53, 54, 55, 56, 57]⟩] w fun e w' => e = .returned (.int .u32 3421780262) ∧ Below w.heap.size w w' := by
  have h := sum_any ⟨#[49, 50, 51, 52, 53, 54, 55, 56, 57]⟩ w (by decide)
  rw [crc_c1] at h
  exact h
theorem sum_c2 (w : World) : Calls Try.prog 9 #[.string ⟨#[]⟩] w fun e w' => e = .returned (.int .u32 0) ∧ Below w.heap.size w w' :=
  sum_any ⟨#[]⟩ w (by decide)
theorem sum_c3 (w : World) : Calls Try.prog 9 #[.string ⟨#[49, 50, 51, 52]⟩] w fun e w' => e = .returned (.int .u32 2615402659) ∧ Below w.heap.size w w' := by
  have h := sum_any ⟨#[49, 50, 51, 52]⟩ w (by decide)
  rw [crc_c2] at h
  exact h
theorem more_c (w : World) : Calls Try.prog 11 #[.int .u32 2615402659, .string ⟨#[53, 54, 55, 56, 57]⟩] w fun e w' => e = .returned (.int .u32 3421780262) ∧ Below w.heap.size w w' := by
  have h := more_any [49, 50, 51, 52] ⟨#[53, 54, 55, 56, 57]⟩ w (by decide)
  rw [crc_c2, show ([49, 50, 51, 52] : List UInt8) ++ (ByteArray.mk #[53, 54, 55, 56, 57]).data.toList = [49, 50, 51, 52, 53, 54, 55, 56, 57] from rfl, crc_c1] at h
  exact h
theorem put4_c (w : World) : Calls Try.prog 13 #[.int .u32 3421780262] w fun e w' => e = .returned (.string ⟨#[38, 57, 244, 203]⟩) ∧ Below w.heap.size w w' := by
  have h := put4_any 3421780262 w (by decide)
  rw [show (four 3421780262) = [38, 57, 244, 203] by decide +kernel] at h
  exact h

set_option maxRecDepth 10000 in
set_option maxHeartbeats 400000 in
theorem awake_any (w : World) :
    Calls Try.prog 8 #[] w fun e w' => e = .returned (.bool true) ∧ Below w.heap.size w w' := by
  go_enter Try.func8, Try.ntmps8
  go_wp2_with fail
  refine (get4_c1 _).mono ?_
  rintro e w1 ⟨rfl, b1⟩
  go_wp2_with fail
  refine (get4_c2 _).mono ?_
  rintro e w2 ⟨rfl, b2⟩
  go_wp2_with fail
  refine (sum_c1 _).mono ?_
  rintro e w3 ⟨rfl, b3⟩
  go_wp2_with fail
  refine (sum_c2 _).mono ?_
  rintro e w4 ⟨rfl, b4⟩
  go_wp2_with fail
  refine (sum_c3 _).mono ?_
  rintro e w5 ⟨rfl, b5⟩
  go_wp2_with fail
  refine (more_c _).mono ?_
  rintro e w6 ⟨rfl, b6⟩
  go_wp2_with fail
  refine (put4_c _).mono ?_
  rintro e w7 ⟨rfl, b7⟩
  go_wp2_with fail
  go_ret
  have c2 := bjoin b1 b2 b1.size
  have c3 := bjoin c2 b3 c2.size
  have c4 := bjoin c3 b4 c3.size
  have c5 := bjoin c4 b5 c4.size
  have c6 := bjoin c5 b6 c5.size
  exact ⟨rfl, bjoin c6 b7 c6.size⟩

end Go.Proofs.Ytglmbpdjdilggaa
