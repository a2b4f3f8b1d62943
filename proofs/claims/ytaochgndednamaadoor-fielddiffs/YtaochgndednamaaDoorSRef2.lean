/- The contracts of the document's own In of layer 7. -/
import Derived.Test.YtaochgndednamaaDoorSTab2
namespace Go.Proofs.YtaochgndednamaaDoor
open Go.RowKit
set_option linter.unusedVariables false

theorem ret_b {a b : Bool} (h : a = b) : Ending.returned (.bool a) = Ending.returned (.bool b) := by rw [h]

set_option maxRecDepth 10000 in
set_option maxHeartbeats 400000 in
theorem rin_1 (n : Int) (w : World) (h1 : -9223372036854775808 ≤ n) (h2 : n ≤ 9223372036854775807) :
    Calls Tryd.prog 25 #[.int .i64 1, .int .i64 n] w fun e w' => e = .returned (.bool (in7 1 n)) ∧ w' = w := by
  obtain ⟨b, HK⟩ : ∃ b, Hid (in7 1 n = b) := ⟨_, rfl⟩
  rw [HK.out]
  go_enter Tryd.func25, Tryd.ntmps25
  go_wp2_with fail
  all_goals go_ret
  all_goals refine ⟨?_, rfl⟩
  all_goals rw [← HK.out]
  all_goals refine ret_b ?_
  all_goals first | rfl | exact (decide_eq_true (by omega)).symm | exact (decide_eq_false (by omega)).symm | exact decide_eq_decide.2 (by omega)

set_option maxRecDepth 10000 in
set_option maxHeartbeats 400000 in
theorem rin_2 (n : Int) (w : World) (h1 : -9223372036854775808 ≤ n) (h2 : n ≤ 9223372036854775807) :
    Calls Tryd.prog 25 #[.int .i64 2, .int .i64 n] w fun e w' => e = .returned (.bool (in7 2 n)) ∧ w' = w := by
  obtain ⟨b, HK⟩ : ∃ b, Hid (in7 2 n = b) := ⟨_, rfl⟩
  rw [HK.out]
  go_enter Tryd.func25, Tryd.ntmps25
  go_wp2_with fail
  all_goals go_ret
  all_goals refine ⟨?_, rfl⟩
  all_goals rw [← HK.out]
  all_goals refine ret_b ?_
  all_goals first | rfl | exact (decide_eq_true (by omega)).symm | exact (decide_eq_false (by omega)).symm | exact decide_eq_decide.2 (by omega)

set_option maxRecDepth 10000 in
set_option maxHeartbeats 400000 in
theorem rin_3 (n : Int) (w : World) (h1 : -9223372036854775808 ≤ n) (h2 : n ≤ 9223372036854775807) :
    Calls Tryd.prog 25 #[.int .i64 3, .int .i64 n] w fun e w' => e = .returned (.bool (in7 3 n)) ∧ w' = w := by
  obtain ⟨b, HK⟩ : ∃ b, Hid (in7 3 n = b) := ⟨_, rfl⟩
  rw [HK.out]
  go_enter Tryd.func25, Tryd.ntmps25
  go_wp2_with fail
  all_goals go_ret
  all_goals refine ⟨?_, rfl⟩
  all_goals rw [← HK.out]
  all_goals refine ret_b ?_
  all_goals first | rfl | exact (decide_eq_true (by omega)).symm | exact (decide_eq_false (by omega)).symm | exact decide_eq_decide.2 (by omega)

set_option maxRecDepth 10000 in
set_option maxHeartbeats 400000 in
theorem rin_4 (n : Int) (w : World) (h1 : -9223372036854775808 ≤ n) (h2 : n ≤ 9223372036854775807) :
    Calls Tryd.prog 25 #[.int .i64 4, .int .i64 n] w fun e w' => e = .returned (.bool (in7 4 n)) ∧ w' = w := by
  obtain ⟨b, HK⟩ : ∃ b, Hid (in7 4 n = b) := ⟨_, rfl⟩
  rw [HK.out]
  go_enter Tryd.func25, Tryd.ntmps25
  go_wp2_with fail
  all_goals go_ret
  all_goals refine ⟨?_, rfl⟩
  all_goals rw [← HK.out]
  all_goals refine ret_b ?_
  all_goals first | rfl | exact (decide_eq_true (by omega)).symm | exact (decide_eq_false (by omega)).symm | exact decide_eq_decide.2 (by omega)

set_option maxRecDepth 10000 in
set_option maxHeartbeats 400000 in
theorem rin_5 (n : Int) (w : World) (h1 : -9223372036854775808 ≤ n) (h2 : n ≤ 9223372036854775807) :
    Calls Tryd.prog 25 #[.int .i64 5, .int .i64 n] w fun e w' => e = .returned (.bool (in7 5 n)) ∧ w' = w := by
  obtain ⟨b, HK⟩ : ∃ b, Hid (in7 5 n = b) := ⟨_, rfl⟩
  rw [HK.out]
  go_enter Tryd.func25, Tryd.ntmps25
  go_wp2_with fail
  all_goals go_ret
  all_goals refine ⟨?_, rfl⟩
  all_goals rw [← HK.out]
  all_goals refine ret_b ?_
  · refine decide_eq_decide.2 ?_
    omega
  · exact (decide_eq_false (by omega)).symm
  · rename_i hq
    refine (decide_eq_false ?_).symm
    intro h
    apply hq
    rcases (by omega : n = 0 ∨ n = 1) with rfl | rfl <;> decide +kernel

set_option maxRecDepth 10000 in
set_option maxHeartbeats 400000 in
theorem rin_no (c n : Int) (w : World) (h : c < 1 ∨ 6 ≤ c) :
    Calls Tryd.prog 25 #[.int .i64 c, .int .i64 n] w fun e w' => e = .returned (.bool false) ∧ w' = w := by
  have h1 : ¬ c = 1 := by omega
  have h2 : ¬ c = 2 := by omega
  have h3 : ¬ c = 3 := by omega
  have h4 : ¬ c = 4 := by omega
  have h5 : ¬ c = 5 := by omega
  clear h
  go_enter Tryd.func25, Tryd.ntmps25
  go_wp2_with fail
  go_ret
  exact ⟨rfl, rfl⟩

theorem rin_any (c n : Int) (w : World) (h1 : -9223372036854775808 ≤ n) (h2 : n ≤ 9223372036854775807) :
    Calls Tryd.prog 25 #[.int .i64 c, .int .i64 n] w fun e w' => e = .returned (.bool (in7 c n)) ∧ w' = w := by
  by_cases h : c < 1 ∨ 6 ≤ c
  · rw [show in7 c n = false from decide_eq_false (by omega)]
    exact rin_no c n w h
  · rcases (by omega : c = 1 ∨ c = 2 ∨ c = 3 ∨ c = 4 ∨ c = 5) with rfl | rfl | rfl | rfl | rfl
    · exact rin_1 n w h1 h2
    · exact rin_2 n w h1 h2
    · exact rin_3 n w h1 h2
    · exact rin_4 n w h1 h2
    · exact rin_5 n w h1 h2

end Go.Proofs.YtaochgndednamaaDoor
