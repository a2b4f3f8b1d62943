/- The contract of 'awake', which each of the five laws asks first: it returns true; nothing that was there before is changed. -/
import Derived.Test.YtcpbcedpehecdaaReads2
namespace Go.Proofs.Ytcpbcedpehecdaa
open Go.RowKit

theorem aw_text1 : pText ⟨#[5, 97, 98]⟩ 0 0 9 = (⟨#[]⟩, 0, 2) := by kernel_rfl
theorem aw_byte1 : pByte ⟨#[5, 97, 98]⟩ 0 2 = (0, 0, 2) := by kernel_rfl
theorem aw_text2 : pText ⟨#[2, 97, 98, 3]⟩ 0 0 2 = (⟨#[97, 98]⟩, 3, 0) := by kernel_rfl
theorem aw_int2 : pInt ⟨#[2, 97, 98, 3]⟩ 3 0 = (-2, 4, 0) := by kernel_rfl

theorem text_c1 (w : World) (g : Nat) (h : Cu w g ⟨#[5, 97, 98]⟩ 0 0) :
    Calls Try.prog 17 #[.pointer (some ⟨g, 0, none⟩), .int .i64 9] w fun r w' => r = .returned (.string ⟨#[]⟩) ∧ Cu w' g ⟨#[5, 97, 98]⟩ 0 2 ∧ w.grownBy w' (some g) := by
  have := text_any w g ⟨#[5, 97, 98]⟩ 0 0 9 h (by decide) (by decide) (by decide)
  rw [aw_text1] at this
  exact this
theorem byte_c1 (w : World) (g : Nat) (h : Cu w g ⟨#[5, 97, 98]⟩ 0 2) :
    Calls Try.prog 11 #[.pointer (some ⟨g, 0, none⟩)] w fun r w' => r = .returned (.int .u8 0) ∧ Cu w' g ⟨#[5, 97, 98]⟩ 0 2 ∧ w.grownBy w' (some g) := by
  have := byte_any w g ⟨#[5, 97, 98]⟩ 0 2 h (by decide) (by decide)
  rw [aw_byte1] at this
  exact this
theorem text_c2 (w : World) (g : Nat) (h : Cu w g ⟨#[2, 97, 98, 3]⟩ 0 0) :
    Calls Try.prog 17 #[.pointer (some ⟨g, 0, none⟩), .int .i64 2] w fun r w' => r = .returned (.string ⟨#[97, 98]⟩) ∧ Cu w' g ⟨#[2, 97, 98, 3]⟩ 3 0 ∧ w.grownBy w' (some g) := by
  have := text_any w g ⟨#[2, 97, 98, 3]⟩ 0 0 2 h (by decide) (by decide) (by decide)
  rw [aw_text2] at this
  exact this
theorem int_c2 (w : World) (g : Nat) (h : Cu w g ⟨#[2, 97, 98, 3]⟩ 3 0) :
    Calls Try.prog 15 #[.pointer (some ⟨g, 0, none⟩)] w fun r w' => r = .returned (.int .i64 (-2)) ∧ Cu w' g ⟨#[2, 97, 98, 3]⟩ 4 0 ∧ w.grownBy w' (some g) := by
  have := int_any w g ⟨#[2, 97, 98, 3]⟩ 3 0 h (by decide) (by decide)
  rw [aw_int2] at this
  exact this
theorem left_c1 (w : World) (g : Nat) (h : Cu w g ⟨#[5, 97, 98]⟩ 0 2) :
    Calls Try.prog 22 #[.pointer (some ⟨g, 0, none⟩)] w fun r w' => r = .returned (.int .i64 3) ∧ ∃ n, w' = w.drewN n :=
  left_any w g ⟨#[5, 97, 98]⟩ 0 2 h (by decide) (by decide) (by decide)
theorem left_c2 (w : World) (g : Nat) (h : Cu w g ⟨#[2, 97, 98, 3]⟩ 4 0) :
    Calls Try.prog 22 #[.pointer (some ⟨g, 0, none⟩)] w fun r w' => r = .returned (.int .i64 0) ∧ ∃ n, w' = w.drewN n :=
  left_any w g ⟨#[2, 97, 98, 3]⟩ 4 0 h (by decide) (by decide) (by decide)

set_option maxRecDepth 10000 in
set_option maxHeartbeats 400000 in
theorem awake_any (w : World) :
    Calls Try.prog 8 #[] w fun e w' => e = .returned (.bool true) ∧ Below w.heap.size w w' := by
  go_enter Try.func8, Try.ntmps8
  go_wp2_with fail
  refine (new_any _ _).mono ?_
  rintro e w1 ⟨rfl, hw1⟩
  have h1 : Cu w1 w.heap.size ⟨#[5, 97, 98]⟩ 0 0 := by rw [hw1]; exact At3.new _ _ _ _ _
  have b1 : Below w.heap.size w w1 := by rw [hw1]; exact (Below.refl _ _).alloc (Nat.le_refl _) _
  clear hw1
  go_wp2_with fail
  refine (text_c1 _ _ h1).mono ?_
  rintro e w2 ⟨rfl, h2, g2⟩
  have b2 := below_but b1 g2 (Nat.le_refl _) b1.size
  go_wp2_with fail
  refine (byte_c1 _ _ h2).mono ?_
  rintro e w3 ⟨rfl, h3, g3⟩
  have b3 := below_but b2 g3 (Nat.le_refl _) b2.size
  go_wp2_with fail
  refine (new_any _ _).mono ?_
  rintro e w4 ⟨rfl, hw4⟩
  have k4 : Cu w4 w3.heap.size ⟨#[2, 97, 98, 3]⟩ 0 0 := by rw [hw4]; exact At3.new _ _ _ _ _
  have h4 : Cu w4 w.heap.size ⟨#[5, 97, 98]⟩ 0 2 := by rw [hw4]; exact h3.alloc _
  have b4 : Below w.heap.size w w4 := by rw [hw4]; exact b3.alloc b3.size _
  have hne : some w.heap.size ≠ some w3.heap.size := by have := h3.lt; simp; omega
  clear hw4
  go_wp2_with fail
  refine (text_c2 _ _ k4).mono ?_
  rintro e w5 ⟨rfl, k5, g5⟩
  have h5 := h4.kept g5 hne
  have b5 := below_but b4 g5 b3.size b4.size
  go_wp2_with fail
  refine (int_c2 _ _ k5).mono ?_
  rintro e w6 ⟨rfl, k6, g6⟩
  have h6 := h5.kept g6 hne
  have b6 := below_but b5 g6 b3.size b5.size
  go_wp2_with fail
  refine (left_c1 _ _ h6).mono ?_
  rintro e w7 ⟨rfl, n, rfl⟩
  go_wp2_with fail
  refine (err_any _ _ _ _ _ (At3.drewN h6 n)).mono ?_
  rintro e w8 ⟨rfl, b8⟩
  have k8 := (At3.drewN k6 n).belowAll b8
  go_wp2_with fail
  refine (left_c2 _ _ k8).mono ?_
  rintro e w9 ⟨rfl, m, rfl⟩
  go_wp2_with fail
  refine (err_any _ _ _ _ _ (At3.drewN k8 m)).mono ?_
  rintro e w10 ⟨rfl, b10⟩
  go_wp2_with fail
  go_ret
  have c8 : Below w.heap.size w w8 := (bdrewN b6 n).trans (b8.mono b6.size)
  exact ⟨rfl, (bdrewN c8 m).trans (b10.mono c8.size)⟩

end Go.Proofs.Ytcpbcedpehecdaa
