/- The contract of 'awake', which each of the six laws asks first: it returns true; nothing that was there before is changed. -/
import Derived.Test.YtofghnkijmhkiaaZig
import Derived.Test.YtofghnkijmhkiaaPut
import Derived.Test.YtofghnkijmhkiaaGet
import Derived.Test.YtofghnkijmhkiaaRefGet
namespace Go.Proofs.Ytofghnkijmhkiaa
open Go.RowKit

theorem get_c1 (w : World) : Calls Try.prog 13 #[.string ⟨#[120, 172, 2]⟩, .int .i64 1] w fun e w' => e = .returned (.tuple #[.int .u64 300, .int .i64 3, .int .i64 0]) ∧ w' = w :=
  get_any ⟨#[120, 172, 2]⟩ 1 w (by decide)
theorem get_c2 (w : World) : Calls Try.prog 13 #[.string ⟨#[128, 0]⟩, .int .i64 0] w fun e w' => e = .returned (.tuple #[.int .u64 0, .int .i64 0, .int .i64 3]) ∧ w' = w :=
  get_any ⟨#[128, 0]⟩ 0 w (by decide)
theorem get_c3 (w : World) : Calls Try.prog 13 #[.string ⟨#[128]⟩, .int .i64 0] w fun e w' => e = .returned (.tuple #[.int .u64 0, .int .i64 0, .int .i64 2]) ∧ w' = w :=
  get_any ⟨#[128]⟩ 0 w (by decide)
theorem put_c (w : World) : Calls Try.prog 9 #[.int .u64 300] w fun e w' => e = .returned (.string ⟨#[172, 2]⟩) ∧ Below w.heap.size w w' :=
  put_any 300 w (by decide) (by decide)
theorem zig_c (w : World) : Calls Try.prog 15 #[.int .i64 (-1)] w fun e w' => e = .returned (.int .u64 1) ∧ w' = w :=
  zig_any (-1) w (by decide) (by decide)
theorem zag_c (w : World) : Calls Try.prog 17 #[.int .u64 3] w fun e w' => e = .returned (.int .i64 (-2)) ∧ w' = w :=
  zag_any 3 w (by decide) (by decide)
theorem size_c1 (w : World) : Calls Try.prog 12 #[.int .u64 127] w fun e w' => e = .returned (.int .i64 1) ∧ w' = w :=
  size_any 127 w (by decide) (by decide)
theorem size_c2 (w : World) : Calls Try.prog 12 #[.int .u64 128] w fun e w' => e = .returned (.int .i64 2) ∧ w' = w :=
  size_any 128 w (by decide) (by decide)

set_option maxRecDepth 10000 in
set_option maxHeartbeats 400000 in
theorem awake_any (w : World) :
    Calls Try.prog 10 #[] w fun e w' => e = .returned (.bool true) ∧ Below w.heap.size w w' := by
  go_enter Try.func10, Try.ntmps10
  go_wp2_with fail
  refine (get_c1 _).mono ?_
  rintro e w' ⟨rfl, rfl⟩
  go_wp2_with fail
  refine (get_c2 _).mono ?_
  rintro e w' ⟨rfl, rfl⟩
  go_wp2_with fail
  refine (get_c3 _).mono ?_
  rintro e w' ⟨rfl, rfl⟩
  go_wp2_with fail
  refine (put_c _).mono ?_
  rintro e w1 ⟨rfl, hb⟩
  go_wp2_with fail
  refine (zig_c _).mono ?_
  rintro e w' ⟨rfl, rfl⟩
  go_wp2_with fail
  refine (zag_c _).mono ?_
  rintro e w' ⟨rfl, rfl⟩
  go_wp2_with fail
  refine (size_c1 _).mono ?_
  rintro e w' ⟨rfl, rfl⟩
  go_wp2_with fail
  refine (size_c2 _).mono ?_
  rintro e w' ⟨rfl, rfl⟩
  go_wp2_with fail
  go_ret
  exact ⟨rfl, hb⟩

end Go.Proofs.Ytofghnkijmhkiaa
