/- The contracts of schema's In, Name and Kind. -/
import Derived.Test.YtaochgndednamaaDoorSTab
namespace Go.Proofs.YtaochgndednamaaDoor
open Go.RowKit

/-- Is a number of a class? -/
def in7 (c n : Int) : Bool := decide (c = 1 ∨ c = 2 ∧ -140737488355328 ≤ n ∧ n ≤ 140737488355328 ∨ c = 3 ∧ 0 ≤ n ∧ n ≤ 140737488355328 ∨ c = 4 ∧ 0 ≤ n ∧ n ≤ 255 ∨ c = 5 ∧ 0 ≤ n ∧ n ≤ 1)

set_option maxRecDepth 10000 in
set_option maxHeartbeats 400000 in
theorem in_no (c n : Int) (w : World) (h : c < 1 ∨ 6 ≤ c) :
    Calls Tryd.prog 29 #[.int .i64 c, .int .i64 n] w fun e w' => e = .returned (.bool false) ∧ w' = w := by
  go_enter Tryd.func29, Tryd.ntmps29
  rcases h with h | h
  · go_wp2_with fail
    go_ret
    exact ⟨rfl, rfl⟩
  · have h' : ¬ c < 1 := by omega
    go_wp2_with fail
    go_ret
    exact ⟨rfl, rfl⟩

set_option maxRecDepth 10000 in
set_option maxHeartbeats 400000 in
theorem in_in (c : Nat) (n lo hi : Int) (w : World) (h1 : 1 ≤ c) (h2 : c < 6) (c0 : w.cell? ⟨1, c * 2, none⟩ = some (.int .i64 lo)) (c1 : w.cell? ⟨1, c * 2 + 1, none⟩ = some (.int .i64 hi)) :
    Calls Tryd.prog 29 #[.int .i64 c, .int .i64 n] w fun e w' => e = .returned (.bool (decide (lo ≤ n ∧ n ≤ hi))) ∧ w' = w := by
  have k1 : ¬ (c : Int) < 1 := by omega
  have k2 : ¬ (6 : Int) ≤ c := by omega
  by_cases q1 : lo ≤ n
  · by_cases q2 : n ≤ hi
    · rw [decide_eq_true ⟨q1, q2⟩]
      go_enter Tryd.func29, Tryd.ntmps29
      go_wp2_with fail
      go_ret
      exact ⟨rfl, rfl⟩
    · rw [decide_eq_false (fun h => q2 h.2)]
      go_enter Tryd.func29, Tryd.ntmps29
      go_wp2_with fail
      go_ret
      exact ⟨rfl, rfl⟩
  · rw [decide_eq_false (fun h => q1 h.1)]
    go_enter Tryd.func29, Tryd.ntmps29
    go_wp2_with fail
    go_ret
    exact ⟨rfl, rfl⟩

theorem in_any (c n : Int) (w : World) (hT : TabAt w 1 spansC) (h1 : -9223372036854775808 ≤ n) (h2 : n ≤ 9223372036854775807) :
    Calls Tryd.prog 29 #[.int .i64 c, .int .i64 n] w fun e w' => e = .returned (.bool (in7 c n)) ∧ w' = w := by
  by_cases h : c < 1 ∨ 6 ≤ c
  · rw [show in7 c n = false from decide_eq_false (by omega)]
    exact in_no c n w h
  · rcases (by omega : c = 1 ∨ c = 2 ∨ c = 3 ∨ c = 4 ∨ c = 5) with rfl | rfl | rfl | rfl | rfl
    · rw [show in7 1 n = decide (-9223372036854775808 ≤ n ∧ n ≤ 9223372036854775807) from decide_eq_decide.2 (by omega)]
      exact in_in 1 n _ _ w (by omega) (by omega) (hT.2 2) (hT.2 3)
    · rw [show in7 2 n = decide (-140737488355328 ≤ n ∧ n ≤ 140737488355328) from decide_eq_decide.2 (by omega)]
      exact in_in 2 n _ _ w (by omega) (by omega) (hT.2 4) (hT.2 5)
    · rw [show in7 3 n = decide (0 ≤ n ∧ n ≤ 140737488355328) from decide_eq_decide.2 (by omega)]
      exact in_in 3 n _ _ w (by omega) (by omega) (hT.2 6) (hT.2 7)
    · rw [show in7 4 n = decide (0 ≤ n ∧ n ≤ 255) from decide_eq_decide.2 (by omega)]
      exact in_in 4 n _ _ w (by omega) (by omega) (hT.2 8) (hT.2 9)
    · rw [show in7 5 n = decide (0 ≤ n ∧ n ≤ 1) from decide_eq_decide.2 (by omega)]
      exact in_in 5 n _ _ w (by omega) (by omega) (hT.2 10) (hT.2 11)

/-- A kind's name. -/
def name7 (k : Int) : ByteArray := if 1 ≤ k ∧ k < 9 then names7.getD (k - 1).toNat ⟨#[]⟩ else ⟨#[]⟩

theorem beq_ba (x s : ByteArray) : (x.toList == s.toList) = decide (x = s) := by
  rw [ByteArray.toList_eq, ByteArray.toList_eq]
  by_cases h : x = s
  · subst h; simp
  · rw [decide_eq_false h]
    simp only [beq_eq_false_iff_ne, ne_eq]
    intro e
    apply h
    cases x; cases s
    simp at e
    rw [e]

/-- The kind of a name, 0: none. -/
def kindL : List ByteArray → Nat → ByteArray → Nat
  | [], _, _ => 0
  | x :: r, i, s => if x.data.toList = s.data.toList then i else kindL r (i + 1) s
def kind7 (s : ByteArray) : Nat := kindL names7 1 s
theorem ba_ne {x s : ByteArray} (h : x ≠ s) : ¬ x.data.toList = s.data.toList := by
  intro e
  apply h
  cases x; cases s
  simp at e
  rw [e]
theorem kind7_at (j : Nat) (h : j < 8) (s : ByteArray) (e : names7.getD j ⟨#[]⟩ = s) : kind7 s = j + 1 := by
  subst e
  rcases (by omega : j = 0 ∨ j = 1 ∨ j = 2 ∨ j = 3 ∨ j = 4 ∨ j = 5 ∨ j = 6 ∨ j = 7) with rfl | rfl | rfl | rfl | rfl | rfl | rfl | rfl <;> decide +kernel
theorem kindL_no (s : ByteArray) : ∀ (l : List ByteArray) (i : Nat), (∀ x ∈ l, x ≠ s) → kindL l i s = 0
  | [], _, _ => rfl
  | x :: r, i, h => by
    unfold kindL
    rw [if_neg (ba_ne (h x (by simp)))]
    exact kindL_no s r (i + 1) (fun y hy => h y (by simp [hy]))
theorem kind7_no (s : ByteArray) (h : ∀ j, j < 8 → names7.getD j ⟨#[]⟩ ≠ s) : kind7 s = 0 := by
  refine kindL_no s _ _ fun x hx => ?_
  obtain ⟨j, hj, e⟩ := List.getElem_of_mem hx
  have := h j hj
  rw [List.getD_eq_getElem?_getD, List.getElem?_eq_getElem hj, e] at this
  exact this

end Go.Proofs.YtaochgndednamaaDoor
