/- The contracts of the cursor's small methods: New, Err, Fail, Left; and of the text's copy. -/
import Derived.Test.YtfblmibdcodipaaRows
import Derived.Test.YtfblmibdcodipaaCur
import Derived.Deep.QuietTactic
import Derived.BigQuiet
namespace Go.Proofs.Ytfblmibdcodipaa
open Go.RowKit

/-- The field of the first error. -/
def errV (e : Int) : Value := if e = 0 then .nilIface else .iface 82 (.agg #[.int .i64 e])
theorem errV_ok : errV 0 = .nilIface := rfl
theorem errV_no {e : Int} (h : e ≠ 0) : errV e = .iface 82 (.agg #[.int .i64 e]) := if_neg h

/-- The program's cursor: its bytes, its place, its first error. -/
def Cu (w : World) (g : Nat) (b : ByteArray) (k : Int) (e : Int) : Prop := At3 78 w g (.string b) (.int .i64 k) (errV e)

set_option maxRecDepth 10000 in
set_option maxHeartbeats 400000 in
theorem new_any (b : ByteArray) (w : World) :
    Calls Try.prog 31 #[.string b] w fun r w' => r = .returned (.pointer (some ⟨w.heap.size, 0, none⟩)) ∧ w' = w.alloc (.cells #[.string b, .int .i64 0, .nilIface] 78) := by
  go_enter Try.func31, Try.ntmps31
  go_wp2
  go_ret
  exact ⟨rfl, rfl⟩

theorem assert_ok (w : World) : (Instr.typeAssert .nilIface 58 82 true).run Try.prog w = .ok (.tuple #[.agg #[.int .i64 0], .bool false]) w := by kernel_rfl
theorem assert_no (w : World) (e : Int) : (Instr.typeAssert (.iface 82 (.agg #[.int .i64 e])) 58 82 true).run Try.prog w = .ok (.tuple #[.agg #[.int .i64 e], .bool true]) w := by kernel_rfl

set_option maxRecDepth 10000 in
set_option maxHeartbeats 400000 in
theorem err_ok (w : World) (g : Nat) (x y : Value) (h : At3 78 w g x y .nilIface) :
    Calls Try.prog 33 #[.pointer (some ⟨g, 0, none⟩)] w fun r w' => r = .returned (.int .i64 0) ∧ Below w.heap.size w w' := by
  have c2 := h.c2
  have ta := assert_ok
  go_enter Try.func33, Try.ntmps33
  go_wp2
  go_ret
  exact ⟨rfl, (Below.refl _ _).alloc (Nat.le_refl _) _⟩

set_option maxRecDepth 10000 in
set_option maxHeartbeats 400000 in
theorem err_no (w : World) (g : Nat) (x y : Value) (e : Int) (h : At3 78 w g x y (.iface 82 (.agg #[.int .i64 e]))) :
    Calls Try.prog 33 #[.pointer (some ⟨g, 0, none⟩)] w fun r w' => r = .returned (.int .i64 e) ∧ Below w.heap.size w w' := by
  have c2 := h.c2
  have ta := assert_no
  go_enter Try.func33, Try.ntmps33
  go_wp2
  go_ret
  exact ⟨rfl, (Below.refl _ _).alloc (Nat.le_refl _) _⟩

theorem err_any (w : World) (g : Nat) (b : ByteArray) (k e : Int) (h : Cu w g b k e) :
    Calls Try.prog 33 #[.pointer (some ⟨g, 0, none⟩)] w fun r w' => r = .returned (.int .i64 e) ∧ Below w.heap.size w w' := by
  by_cases he : e = 0
  · subst he; exact err_ok w g _ _ h
  · unfold Cu at h; rw [errV_no he] at h; exact err_no w g _ _ e h

set_option maxRecDepth 10000 in
set_option maxHeartbeats 400000 in
theorem fail_zero (w : World) (g : Nat) :
    Calls Try.prog 36 #[.pointer (some ⟨g, 0, none⟩), .int .i64 0] w fun r w' => r = .returned (.tuple #[]) ∧ w' = w := by
  go_enter Try.func36, Try.ntmps36
  go_wp2_with fail
  go_end0
  exact ⟨rfl, rfl⟩

set_option maxRecDepth 10000 in
set_option maxHeartbeats 400000 in
theorem fail_had (w : World) (g : Nat) (b : ByteArray) (k e d : Int) (h : Cu w g b k e) (he : e ≠ 0) (hd : d ≠ 0) :
    Calls Try.prog 36 #[.pointer (some ⟨g, 0, none⟩), .int .i64 d] w fun r w' => r = .returned (.tuple #[]) ∧ Below w.heap.size w w' := by
  have hd' : (d != 0) = true := by simpa using hd
  have he' : (e == 0) = false := by simpa using he
  go_enter Try.func36, Try.ntmps36
  go_wp2_with fail
  refine (err_any w g b k e h).mono ?_
  rintro r w1 ⟨rfl, hb⟩
  go_wp2_with fail
  go_end0
  exact ⟨rfl, hb⟩

set_option maxRecDepth 10000 in
set_option maxHeartbeats 400000 in
theorem fail_new (w : World) (g : Nat) (b : ByteArray) (k d : Int) (h : Cu w g b k 0) (hd : d ≠ 0) :
    Calls Try.prog 36 #[.pointer (some ⟨g, 0, none⟩), .int .i64 d] w fun r w' => r = .returned (.tuple #[]) ∧ Cu w' g b k d ∧ w.grownBy w' (some g) := by
  have hd' : (d != 0) = true := by simpa using hd
  go_enter Try.func36, Try.ntmps36
  go_wp2_with fail
  refine (err_any w g b k 0 h).mono ?_
  rintro r w1 ⟨rfl, hb⟩
  have h1 : Cu w1 g b k 0 := h.belowAll hb
  have c2 := h1.c2
  have f2 := h1.fz 2
  go_wp2_with fail
  go_end0
  exact ⟨rfl, by unfold Cu; rw [errV_no hd]; exact h1.set2 _, gset (gbelow hb) _ rfl _⟩

/-- Fail: the first error stays; 0 is none. -/
theorem fail_any (w : World) (g : Nat) (b : ByteArray) (k e d : Int) (h : Cu w g b k e) :
    Calls Try.prog 36 #[.pointer (some ⟨g, 0, none⟩), .int .i64 d] w fun r w' => r = .returned (.tuple #[]) ∧ Cu w' g b k (if e = 0 then d else e) ∧ w.grownBy w' (some g) := by
  by_cases hd : d = 0
  · subst hd
    refine (fail_zero w g).mono ?_
    rintro r w' ⟨rfl, rfl⟩
    refine ⟨rfl, ?_, World.grownBy.refl _ _⟩
    split
    · rename_i he; rw [he] at h; exact h
    · exact h
  · by_cases he : e = 0
    · subst he
      rw [if_pos rfl]
      exact fail_new w g b k d h hd
    · rw [if_neg he]
      refine (fail_had w g b k e d h he hd).mono ?_
      rintro r w' ⟨rfl, hb⟩
      exact ⟨rfl, h.belowAll hb, gbelow hb⟩

set_option maxRecDepth 10000 in
set_option maxHeartbeats 400000 in
theorem left_any (w : World) (g : Nat) (b : ByteArray) (k e : Int) (h : Cu w g b k e) (hs : b.size ≤ maxLen) (h0 : 0 ≤ k) (h1 : k ≤ b.size) :
    Calls Try.prog 35 #[.pointer (some ⟨g, 0, none⟩)] w fun r w' => r = .returned (.int .i64 ((b.size : Int) - k)) ∧ ∃ n, w' = w.drewN n := by
  unfold maxLen at hs
  have c0 := h.c0
  have c1 := h.c1
  go_enter Try.func35, Try.ntmps35
  go_wp2_with fail
  go_quiet (fail)
  go_wp2_with fail
  go_ret
  exact ⟨rfl, _, rfl⟩

end Go.Proofs.Ytfblmibdcodipaa
