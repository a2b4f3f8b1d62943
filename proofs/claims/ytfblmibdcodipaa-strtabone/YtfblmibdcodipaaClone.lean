/- The contract of the standard library's text copy: the same bytes; nothing that was there before is changed. -/
import Derived.Test.YtfblmibdcodipaaRows
import Derived.Test.YtfblmibdcodipaaCur
import Derived.Lib.BufferWrite
import Derived.Lib.UnsafeStr
import Derived.Laws.MakeOwn
namespace Go.Proofs.Ytfblmibdcodipaa
open Go.RowKit

theorem cells_take_all (M : Array Value) (l : List Value) (n : Nat) (hM : M.size = n) : M.toList.take 0 ++ l ++ M.toList.drop (0 + n) = l := by
  rw [List.take_zero, List.nil_append, List.drop_of_length_le (by rw [Array.length_toList]; omega), List.append_nil]

set_option maxRecDepth 10000 in
set_option maxHeartbeats 400000 in
theorem clone_none (w : World) :
    Calls Try.prog 40 #[.string ⟨#[]⟩] w fun r w' => r = .returned (.string ⟨#[]⟩) ∧ Below w.heap.size w w' := by
  go_enter Try.func40, Try.ntmps40
  go_wp2_with fail
  go_ret
  exact ⟨rfl, Below.refl _ _⟩

set_option maxRecDepth 10000 in
set_option maxHeartbeats 400000 in
theorem clone_some (s : ByteArray) (w : World) (h0 : s.size ≠ 0) (hs : s.size ≤ 281474976710656) :
    Calls Try.prog 40 #[.string s] w fun r w' => r = .returned (.string s) ∧ Below w.heap.size w w' := by
  obtain ⟨i, hi, hz, hsz, hby⟩ := info_parts (P := Try.prog) (e := 5) (z := .int .u8 0) (size := 1) (bytes := 1) (by kernel_rfl)
  have hone : Try.prog.cellsOf 5 = 1 := by simp [Program.cellsOf, hi, hsz]
  -- what is made
  obtain ⟨M, hM, hmk⟩ : ∃ M : Array Value, M.size = s.size ∧ ∀ W : World, (Instr.makeSlice 54 (.int .i64 (s.size : Int)) (.int .i64 (s.size : Int))).run Try.prog W = .ok (.slice (some ⟨W.heap.size, 0, none⟩) s.size s.size) (W.alloc (.cells M 5)) := by
    refine ⟨madeCells (Value.int .u8 0).cells (s.size * i.size), by rw [size_madeCells, hsz]; simp, fun W => ?_⟩
    have h := run_make (P := Try.prog) W 54 5 i (.int .u8 0) Try.underlying54 hi hz .i64 .i64 (s.size : Int) (s.size : Int) (by omega) (Int.le_refl _) (by rw [hby]; omega) (by omega)
    simpa using h
  -- what is copied there
  have hcp := Lib.run_copy_row_string (P := Try.prog) (w.alloc (.cells M 5)) 54 9 3 5 w.heap.size 0 s.size s.size s M 5 Try.underlying54 (by rw [hi]; simp [hsz]) (heap_alloc_new w _) (Nat.le_refl _) (by omega)
  rw [cells_take_all M _ s.size hM] at hcp
  have hlen : (Lib.byteCells s.data.toList).length = s.size := by rw [Lib.byteCells_length, ← Lib.size_eq]
  have hrow : ((w.alloc (.cells M 5)).setRow w.heap.size (Lib.byteCells s.data.toList).toArray).heap[w.heap.size]? = some (.cells (Lib.byteCells s.data.toList).toArray 5 (0, 0)) :=
    setRow_heap _ _ M _ 5 (0, 0) (heap_alloc_new w _)
  generalize hR : (w.alloc (.cells M 5)).setRow w.heap.size (Lib.byteCells s.data.toList).toArray = R at *
  -- the text over it
  have hus := Lib.run_unsafeString_row (P := Try.prog) R 76 3 9 5 Try.underlying76 hone w.heap.size s.size (by unfold World.shape?; rw [hrow]; simp [hlen]) s.data.toList (fun e => h0 (by rw [Lib.size_eq, e]; rfl)) (by rw [← Lib.size_eq]; omega) (by rw [← Lib.size_eq]; omega)
    (fun j x hx => Lib.cells_of_row hrow s.size j _ (by rw [List.take_of_length_le (by simp [hlen])]; simp [Lib.byteCells, hx]))
  rw [← Lib.size_eq] at hus
  have hB : Below w.heap.size w R := by
    rw [← hR]
    exact ((Below.refl _ w).alloc (Nat.le_refl _) _).trans ⟨rfl, rfl, rfl, by simp, fun k hk => setRow_other _ _ _ _ (by omega)⟩
  clear hR hrow hlen hone hi
  go_enter Try.func40, Try.ntmps40
  go_wp2_with fail
  go_ret
  exact ⟨rfl, Lib.below_freeze hB (p := ⟨w.heap.size, 0, none⟩) (Nat.le_refl _) _⟩

set_option maxRecDepth 10000 in
set_option maxHeartbeats 400000 in
/-- strings.Clone: the same text. -/
theorem clone_any (s : ByteArray) (w : World) (hs : s.size ≤ 281474976710656) :
    Calls Try.prog 26 #[.string s] w fun r w' => r = .returned (.string s) ∧ Below w.heap.size w w' := by
  have hc : Calls Try.prog 40 #[.string s] w fun r w' => r = .returned (.string s) ∧ Below w.heap.size w w' := by
    by_cases h0 : s.size = 0
    · obtain rfl : s = ⟨#[]⟩ := ByteArray.ext (Array.eq_empty_of_size_eq_zero h0)
      exact clone_none w
    · exact clone_some s w h0 hs
  have HC : Hid (Calls Try.prog 40 #[.string s] w fun r w' => r = .returned (.string s) ∧ Below w.heap.size w w') := hc
  clear hc
  go_enter Try.func26, Try.ntmps26
  go_wp2_with fail
  refine HC.out.mono ?_
  rintro r w' ⟨rfl, hb⟩
  go_wp2_with fail
  go_ret
  exact ⟨rfl, hb⟩

end Go.Proofs.Ytfblmibdcodipaa
