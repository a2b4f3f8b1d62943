/- The contracts of the document's own Spec of layer 7. -/
import Derived.Test.YtpnclcafhalaoaaDoorSTab2
namespace Go.Proofs.YtpnclcafhalaoaaDoor
open Go.RowKit

/-- How the document's own Spec ends where it hands out a Spec: with classes, and without. -/
theorem rs_lit (w : World) (S : Sp) (cs : Array Value) (o : Obj) (n : Nat) (hl : S.ints.length = n) (h4 : n ≤ 4) (hc : cs.toList = iV S.ints) :
    SpIs w (((w.alloc (.cells #[.slice (some ⟨w.heap.size + 1 + 1, 0, none⟩) n n, .int .i64 S.texts, .int .i64 S.least, .int .i64 S.most] 25)).alloc o).alloc (.cells cs 3))
      (.returned (.tuple #[.agg #[.slice (some ⟨w.heap.size + 1 + 1, 0, none⟩) n n, .int .i64 S.texts, .int .i64 S.least, .int .i64 S.most], .bool S.ok])) S := by
  subst hl
  have hb := (((Below.refl w.heap.size w).alloc (Nat.le_refl _) (.cells #[.slice (some ⟨w.heap.size + 1 + 1, 0, none⟩) S.ints.length S.ints.length, .int .i64 S.texts, .int .i64 S.least, .int .i64 S.most] 25)).alloc (by simp) o).alloc (by simp; omega) (.cells cs 3)
  refine ⟨_, rfl, ?_, hb⟩
  have := World.ownsRow_lit (base := w.heap.size) (e := 3) (size := 1) ((w.alloc (.cells #[.slice (some ⟨w.heap.size + 1 + 1, 0, none⟩) S.ints.length S.ints.length, .int .i64 S.texts, .int .i64 S.least, .int .i64 S.most] 25)).alloc o) cs S.ints.length (by simp; omega) (by unfold maxLen; omega) (by rw [← Array.length_toList, hc]; simp [iV])
  rw [hc] at this
  simpa [Ints] using this
theorem rs_nil (w : World) (S : Sp) (cs : Array Value) (o : Obj) (hl : S.ints = []) :
    SpIs w ((w.alloc (.cells cs 25)).alloc o) (.returned (.tuple #[.agg #[.slice none 0 0, .int .i64 S.texts, .int .i64 S.least, .int .i64 S.most], .bool S.ok])) S := by
  refine ⟨_, rfl, ?_, ((Below.refl w.heap.size w).alloc (Nat.le_refl _) _).alloc (by simp) o⟩
  rw [hl]
  exact ⟨rfl, .inl ⟨rfl, rfl⟩⟩

set_option maxRecDepth 10000 in
set_option maxHeartbeats 400000 in
theorem rs_2_1 (w : World) :
    Calls Tryd.prog 9 #[.int .i64 2, .int .i64 1] w fun e w' => SpIs w w' e ⟨true, [], 1, 0, -1⟩ := by
  go_enter Tryd.func9, Tryd.ntmps9
  go_wp2_with fail
  exact bodyPost_ret (v := .tuple #[.agg #[.slice none 0 0, .int .i64 1, .int .i64 0, .int .i64 (-1)], .bool true]) (by simp [results, Tryd.results9, go_sem, *]) rfl (rs_nil w ⟨true, [], 1, 0, -1⟩ _ _ rfl)

set_option maxRecDepth 10000 in
set_option maxHeartbeats 400000 in
theorem rs_2_2 (w : World) :
    Calls Tryd.prog 9 #[.int .i64 2, .int .i64 2] w fun e w' => SpIs w w' e ⟨true, [2, 2, 2], 0, 1, 1⟩ := by
  go_enter Tryd.func9, Tryd.ntmps9
  go_wp2_with fail
  exact bodyPost_ret (v := .tuple #[.agg #[(.slice (some ⟨w.heap.size + 1 + 1, 0, none⟩) 3 3), .int .i64 0, .int .i64 1, .int .i64 1], .bool true]) (by simp [results, Tryd.results9, go_sem, *]) rfl (rs_lit w ⟨true, [2, 2, 2], 0, 1, 1⟩ #[.int .i64 2, .int .i64 2, .int .i64 2] _ 3 rfl (by omega) rfl)

set_option maxRecDepth 10000 in
set_option maxHeartbeats 400000 in
theorem rs_2_3 (w : World) :
    Calls Tryd.prog 9 #[.int .i64 2, .int .i64 3] w fun e w' => SpIs w w' e ⟨true, [3, 3, 3], 1, 0, 0⟩ := by
  go_enter Tryd.func9, Tryd.ntmps9
  go_wp2_with fail
  exact bodyPost_ret (v := .tuple #[.agg #[(.slice (some ⟨w.heap.size + 1 + 1, 0, none⟩) 3 3), .int .i64 1, .int .i64 0, .int .i64 0], .bool true]) (by simp [results, Tryd.results9, go_sem, *]) rfl (rs_lit w ⟨true, [3, 3, 3], 1, 0, 0⟩ #[.int .i64 3, .int .i64 3, .int .i64 3] _ 3 rfl (by omega) rfl)

set_option maxRecDepth 10000 in
set_option maxHeartbeats 400000 in
theorem rs_2_4 (w : World) :
    Calls Tryd.prog 9 #[.int .i64 2, .int .i64 4] w fun e w' => SpIs w w' e ⟨true, [3], 1, 0, 0⟩ := by
  go_enter Tryd.func9, Tryd.ntmps9
  go_wp2_with fail
  exact bodyPost_ret (v := .tuple #[.agg #[(.slice (some ⟨w.heap.size + 1 + 1, 0, none⟩) 1 1), .int .i64 1, .int .i64 0, .int .i64 0], .bool true]) (by simp [results, Tryd.results9, go_sem, *]) rfl (rs_lit w ⟨true, [3], 1, 0, 0⟩ #[.int .i64 3] _ 1 rfl (by omega) rfl)

set_option maxRecDepth 10000 in
set_option maxHeartbeats 400000 in
theorem rs_2_5 (w : World) :
    Calls Tryd.prog 9 #[.int .i64 2, .int .i64 5] w fun e w' => SpIs w w' e ⟨true, [3], 2, 0, 0⟩ := by
  go_enter Tryd.func9, Tryd.ntmps9
  go_wp2_with fail
  exact bodyPost_ret (v := .tuple #[.agg #[(.slice (some ⟨w.heap.size + 1 + 1, 0, none⟩) 1 1), .int .i64 2, .int .i64 0, .int .i64 0], .bool true]) (by simp [results, Tryd.results9, go_sem, *]) rfl (rs_lit w ⟨true, [3], 2, 0, 0⟩ #[.int .i64 3] _ 1 rfl (by omega) rfl)

set_option maxRecDepth 10000 in
set_option maxHeartbeats 400000 in
theorem rs_2_6 (w : World) :
    Calls Tryd.prog 9 #[.int .i64 2, .int .i64 6] w fun e w' => SpIs w w' e ⟨true, [1], 0, 0, -1⟩ := by
  go_enter Tryd.func9, Tryd.ntmps9
  go_wp2_with fail
  exact bodyPost_ret (v := .tuple #[.agg #[(.slice (some ⟨w.heap.size + 1 + 1, 0, none⟩) 1 1), .int .i64 0, .int .i64 0, .int .i64 (-1)], .bool true]) (by simp [results, Tryd.results9, go_sem, *]) rfl (rs_lit w ⟨true, [1], 0, 0, -1⟩ #[.int .i64 1] _ 1 rfl (by omega) rfl)

set_option maxRecDepth 10000 in
set_option maxHeartbeats 400000 in
theorem rs_2_7 (w : World) :
    Calls Tryd.prog 9 #[.int .i64 2, .int .i64 7] w fun e w' => SpIs w w' e ⟨true, [4, 4, 4, 5], 0, 0, 0⟩ := by
  go_enter Tryd.func9, Tryd.ntmps9
  go_wp2_with fail
  exact bodyPost_ret (v := .tuple #[.agg #[(.slice (some ⟨w.heap.size + 1 + 1, 0, none⟩) 4 4), .int .i64 0, .int .i64 0, .int .i64 0], .bool true]) (by simp [results, Tryd.results9, go_sem, *]) rfl (rs_lit w ⟨true, [4, 4, 4, 5], 0, 0, 0⟩ #[.int .i64 4, .int .i64 4, .int .i64 4, .int .i64 5] _ 4 rfl (by omega) rfl)

set_option maxRecDepth 10000 in
set_option maxHeartbeats 400000 in
theorem rs_2_8 (w : World) :
    Calls Tryd.prog 9 #[.int .i64 2, .int .i64 8] w fun e w' => SpIs w w' e ⟨true, [2, 2, 2], 0, 1, 1⟩ := by
  go_enter Tryd.func9, Tryd.ntmps9
  go_wp2_with fail
  exact bodyPost_ret (v := .tuple #[.agg #[(.slice (some ⟨w.heap.size + 1 + 1, 0, none⟩) 3 3), .int .i64 0, .int .i64 1, .int .i64 1], .bool true]) (by simp [results, Tryd.results9, go_sem, *]) rfl (rs_lit w ⟨true, [2, 2, 2], 0, 1, 1⟩ #[.int .i64 2, .int .i64 2, .int .i64 2] _ 3 rfl (by omega) rfl)

set_option maxRecDepth 10000 in
set_option maxHeartbeats 400000 in
theorem rs_1_1 (w : World) :
    Calls Tryd.prog 9 #[.int .i64 1, .int .i64 1] w fun e w' => SpIs w w' e ⟨true, [], 0, 0, -1⟩ := by
  go_enter Tryd.func9, Tryd.ntmps9
  go_wp2_with fail
  exact bodyPost_ret (v := .tuple #[.agg #[.slice none 0 0, .int .i64 0, .int .i64 0, .int .i64 (-1)], .bool true]) (by simp [results, Tryd.results9, go_sem, *]) rfl (rs_nil w ⟨true, [], 0, 0, -1⟩ _ _ rfl)

set_option maxRecDepth 10000 in
set_option maxHeartbeats 400000 in
theorem rs_1_2 (w : World) :
    Calls Tryd.prog 9 #[.int .i64 1, .int .i64 2] w fun e w' => SpIs w w' e ⟨true, [2, 2, 2, 2], 0, 1, 1⟩ := by
  go_enter Tryd.func9, Tryd.ntmps9
  go_wp2_with fail
  exact bodyPost_ret (v := .tuple #[.agg #[(.slice (some ⟨w.heap.size + 1 + 1, 0, none⟩) 4 4), .int .i64 0, .int .i64 1, .int .i64 1], .bool true]) (by simp [results, Tryd.results9, go_sem, *]) rfl (rs_lit w ⟨true, [2, 2, 2, 2], 0, 1, 1⟩ #[.int .i64 2, .int .i64 2, .int .i64 2, .int .i64 2] _ 4 rfl (by omega) rfl)

set_option maxRecDepth 10000 in
set_option maxHeartbeats 400000 in
theorem rs_1_3 (w : World) :
    Calls Tryd.prog 9 #[.int .i64 1, .int .i64 3] w fun e w' => SpIs w w' e ⟨true, [3], 1, 0, 0⟩ := by
  go_enter Tryd.func9, Tryd.ntmps9
  go_wp2_with fail
  exact bodyPost_ret (v := .tuple #[.agg #[(.slice (some ⟨w.heap.size + 1 + 1, 0, none⟩) 1 1), .int .i64 1, .int .i64 0, .int .i64 0], .bool true]) (by simp [results, Tryd.results9, go_sem, *]) rfl (rs_lit w ⟨true, [3], 1, 0, 0⟩ #[.int .i64 3] _ 1 rfl (by omega) rfl)

set_option maxRecDepth 10000 in
set_option maxHeartbeats 400000 in
theorem rs_1_4 (w : World) :
    Calls Tryd.prog 9 #[.int .i64 1, .int .i64 4] w fun e w' => SpIs w w' e ⟨true, [3], 1, 0, 0⟩ := by
  go_enter Tryd.func9, Tryd.ntmps9
  go_wp2_with fail
  exact bodyPost_ret (v := .tuple #[.agg #[(.slice (some ⟨w.heap.size + 1 + 1, 0, none⟩) 1 1), .int .i64 1, .int .i64 0, .int .i64 0], .bool true]) (by simp [results, Tryd.results9, go_sem, *]) rfl (rs_lit w ⟨true, [3], 1, 0, 0⟩ #[.int .i64 3] _ 1 rfl (by omega) rfl)

set_option maxRecDepth 10000 in
set_option maxHeartbeats 400000 in
theorem rs_1_5 (w : World) :
    Calls Tryd.prog 9 #[.int .i64 1, .int .i64 5] w fun e w' => SpIs w w' e ⟨true, [], 1, 0, 0⟩ := by
  go_enter Tryd.func9, Tryd.ntmps9
  go_wp2_with fail
  exact bodyPost_ret (v := .tuple #[.agg #[.slice none 0 0, .int .i64 1, .int .i64 0, .int .i64 0], .bool true]) (by simp [results, Tryd.results9, go_sem, *]) rfl (rs_nil w ⟨true, [], 1, 0, 0⟩ _ _ rfl)

set_option maxRecDepth 10000 in
set_option maxHeartbeats 400000 in
theorem rs_1_6 (w : World) :
    Calls Tryd.prog 9 #[.int .i64 1, .int .i64 6] w fun e w' => SpIs w w' e ⟨true, [4], 0, 0, 0⟩ := by
  go_enter Tryd.func9, Tryd.ntmps9
  go_wp2_with fail
  exact bodyPost_ret (v := .tuple #[.agg #[(.slice (some ⟨w.heap.size + 1 + 1, 0, none⟩) 1 1), .int .i64 0, .int .i64 0, .int .i64 0], .bool true]) (by simp [results, Tryd.results9, go_sem, *]) rfl (rs_lit w ⟨true, [4], 0, 0, 0⟩ #[.int .i64 4] _ 1 rfl (by omega) rfl)

set_option maxRecDepth 10000 in
set_option maxHeartbeats 400000 in
theorem rs_2_no (k : Int) (w : World) (h : k < 1 ∨ 9 ≤ k) :
    Calls Tryd.prog 9 #[.int .i64 2, .int .i64 k] w fun e w' => SpIs w w' e noSp := by
  have h1 : ¬ k = 1 := by omega
  have h2 : ¬ k = 2 := by omega
  have h3 : ¬ k = 3 := by omega
  have h4 : ¬ k = 4 := by omega
  have h5 : ¬ k = 5 := by omega
  have h6 : ¬ k = 6 := by omega
  have h7 : ¬ k = 7 := by omega
  have h8 : ¬ k = 8 := by omega
  clear h
  go_enter Tryd.func9, Tryd.ntmps9
  go_wp2_with fail
  exact bodyPost_ret (v := .tuple #[.agg #[.slice none 0 0, .int .i64 0, .int .i64 0, .int .i64 0], .bool false]) (by simp [results, Tryd.results9, go_sem, *]) rfl (rs_nil w noSp _ _ rfl)

set_option maxRecDepth 10000 in
set_option maxHeartbeats 400000 in
theorem rs_1_no (k : Int) (w : World) (h : k < 1 ∨ 7 ≤ k) :
    Calls Tryd.prog 9 #[.int .i64 1, .int .i64 k] w fun e w' => SpIs w w' e noSp := by
  have h1 : ¬ k = 1 := by omega
  have h2 : ¬ k = 2 := by omega
  have h3 : ¬ k = 3 := by omega
  have h4 : ¬ k = 4 := by omega
  have h5 : ¬ k = 5 := by omega
  have h6 : ¬ k = 6 := by omega
  clear h
  go_enter Tryd.func9, Tryd.ntmps9
  go_wp2_with fail
  exact bodyPost_ret (v := .tuple #[.agg #[.slice none 0 0, .int .i64 0, .int .i64 0, .int .i64 0], .bool false]) (by simp [results, Tryd.results9, go_sem, *]) rfl (rs_nil w noSp _ _ rfl)

theorem rspec2_any (k : Int) (w : World) :
    Calls Tryd.prog 9 #[.int .i64 2, .int .i64 k] w fun e w' => SpIs w w' e (newSp k) := by
  by_cases h : k < 1 ∨ 9 ≤ k
  · rw [newSp_no k h]
    exact rs_2_no k w h
  · rcases (by omega : k = 1 ∨ k = 2 ∨ k = 3 ∨ k = 4 ∨ k = 5 ∨ k = 6 ∨ k = 7 ∨ k = 8) with rfl | rfl | rfl | rfl | rfl | rfl | rfl | rfl
    · exact rs_2_1 w
    · exact rs_2_2 w
    · exact rs_2_3 w
    · exact rs_2_4 w
    · exact rs_2_5 w
    · exact rs_2_6 w
    · exact rs_2_7 w
    · exact rs_2_8 w

theorem rspec1_any (k : Int) (w : World) :
    Calls Tryd.prog 9 #[.int .i64 1, .int .i64 k] w fun e w' => SpIs w w' e (oldSp k) := by
  by_cases h : k < 1 ∨ 7 ≤ k
  · rw [oldSp_no k h]
    exact rs_1_no k w h
  · rcases (by omega : k = 1 ∨ k = 2 ∨ k = 3 ∨ k = 4 ∨ k = 5 ∨ k = 6) with rfl | rfl | rfl | rfl | rfl | rfl
    · exact rs_1_1 w
    · exact rs_1_2 w
    · exact rs_1_3 w
    · exact rs_1_4 w
    · exact rs_1_5 w
    · exact rs_1_6 w

end Go.Proofs.YtpnclcafhalaoaaDoor
