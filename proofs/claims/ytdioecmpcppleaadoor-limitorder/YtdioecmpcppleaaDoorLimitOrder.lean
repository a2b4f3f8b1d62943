/- For any three limits: each is within itself; what is within others, that are within others still, is within these; two are within each other just if they are the same; what is within limits that may be has at most so many nodes as may be; the arguments read afterwards as before. The package schema's tables hold what the program's text lays into them when the call begins (the card ties them). -/
import Derived.Test.YtdioecmpcppleaaDoorRows
import Derived.Test.YtdioecmpcppleaaDoorCards
import Derived.Test.YtdioecmpcppleaaDoorTie
import Derived.WalkKit
import Derived.ProofKit
import Derived.OpenShut
import Derived.ShutString
import Derived.Below
import Derived.Test.YtdioecmpcppleaaDoorLLaw
import Derived.Test.YtdioecmpcppleaaDoorLEq
import Derived.ChangeOld
import Derived.LaidMore
import Derived.SevenTiedAt
namespace Go.Proofs.YtdioecmpcppleaaDoor.limitOrder
open Go.ChangeShapes Go.WideShapes Go.ChangeAt Go.RowKit
open Go.ChangeMaps (open_string shut_string)
set_option linter.unusedVariables false

theorem own : ownKnob Tryd.prog.godebug = none := by kernel_rfl
theorem laidOut : laidOutB Tryd.prog = true := by kernel_rfl

/-- What the law holds of its three limits. -/
structure O3 (w W : World) (a b c : Lm) : Prop where
  a : AtN 26 W w.heap.size (lmC a)
  b : AtN 26 W (w.heap.size + 1) (lmC b)
  c : AtN 26 W (w.heap.size + 1 + 1) (lmC c)
  bel : Below w.heap.size w W
  tab : Tabs12 W
theorem O3.more {w W W' : World} {a b c : Lm} (h : O3 w W a b c) (hb : Below W.heap.size W W') : O3 w W' a b c := ⟨h.a.belowAll hb, h.b.belowAll hb, h.c.belowAll hb, h.bel.trans (hb.mono h.bel.size), h.tab.on hb⟩
theorem O3.start {w : World} {a b c : Lm} (ht : Tabs12 w) : O3 w (((w.alloc (.cells (lmC a) 26)).alloc (.cells (lmC b) 26)).alloc (.cells (lmC c) 26)) a b c := by
  have hb : Below w.heap.size w (((w.alloc (.cells (lmC a) 26)).alloc (.cells (lmC b) 26)).alloc (.cells (lmC c) 26)) := (((Below.refl w.heap.size w).alloc (Nat.le_refl _) _).alloc (by simp) _).alloc (by simp; omega) _
  exact ⟨((AtN.new w 26 _).alloc _).alloc _, (mk_at (AtN.new (w.alloc _) 26 _) (by simp)).alloc _, mk_at (AtN.new ((w.alloc _).alloc _) 26 _) (by simp), hb, ht.on hb⟩
theorem inL_refl (l : Lm) : inL l l = true := decide_eq_true ⟨Int.le_refl _, Int.le_refl _, Int.le_refl _, Int.le_refl _, Int.le_refl _⟩
theorem inL_trans {a b c : Lm} (h : inL a b = true) (k : inL b c = true) : inL a c = true := by
  have h1 := of_decide_eq_true h
  have h2 := of_decide_eq_true k
  obtain ⟨p0, p1, p2, p3, p4⟩ := h1
  obtain ⟨q0, q1, q2, q3, q4⟩ := h2
  exact decide_eq_true ⟨by omega, by omega, by omega, by omega, by omega⟩
theorem inL_same {a b : Lm} (h : inL a b = true) : inL b a = sameL a b := by
  have h1 := of_decide_eq_true h
  obtain ⟨p0, p1, p2, p3, p4⟩ := h1
  unfold inL sameL
  refine decide_eq_decide.2 ⟨fun q => ?_, fun q => ?_⟩
  · obtain ⟨q0, q1, q2, q3, q4⟩ := q
    exact ⟨by omega, by omega, by omega, by omega, by omega⟩
  · obtain ⟨q0, q1, q2, q3, q4⟩ := q
    exact ⟨by omega, by omega, by omega, by omega, by omega⟩
theorem sameL_not {a b : Lm} (h : inL a b = false) : sameL a b = false := by
  refine decide_eq_false fun q => ?_
  obtain ⟨q0, q1, q2, q3, q4⟩ := q
  exact of_decide_eq_false h ⟨by omega, by omega, by omega, by omega, by omega⟩
theorem inL_nodes {a b : Lm} (h : inL a b = true) (k : okL b = true) : a.n ≤ 16777216 := by
  have h1 := of_decide_eq_true h
  have h2 := of_decide_eq_true k
  obtain ⟨p0, p1, p2, p3, p4⟩ := h1
  obtain ⟨q0, q1, q2, q3, q4⟩ := h2
  omega
/-- The facts of the first region. -/
def loF (l0 l1 l2 : Lm) (p q : Bool) : Nat → Value → World → Prop
  | 0, v, _ => v = .agg #[.int .i64 l0.b, .int .i64 l0.n, .int .i64 l0.e, .int .i64 l0.d, .int .i64 l0.x]
  | 1, v, _ => v = .agg #[.int .i64 l1.b, .int .i64 l1.n, .int .i64 l1.e, .int .i64 l1.d, .int .i64 l1.x]
  | 2, v, _ => v = .bool p
  | 3, v, _ => v = .agg #[.int .i64 l1.b, .int .i64 l1.n, .int .i64 l1.e, .int .i64 l1.d, .int .i64 l1.x]
  | 4, v, _ => v = .agg #[.int .i64 l2.b, .int .i64 l2.n, .int .i64 l2.e, .int .i64 l2.d, .int .i64 l2.x]
  | 5, v, _ => v = .bool q
  | 6, v, _ => v = .bool p
  | 7, v, _ => v = .bool q
  | _, _, _ => True
theorem loF_stab (l0 l1 l2 : Lm) (p q : Bool) : ∀ ix jx v w w', ix ≠ jx → World.grownBy w w' (if ix = 99 then none else none) → loF l0 l1 l2 p q jx v w → loF l0 l1 l2 p q jx v w' := by
  intro ix jx v w w' hne hg h
  match jx, h with
  | 0, h | 1, h | 2, h | 3, h | 4, h | 5, h | 6, h | 7, h => exact h
  | n + 8, _ => trivial
/-- The facts of the second region, case 0. -/
def lo0F (l0 l1 l2 : Lm) (bx : Nat) (s : Bool) : Nat → Value → World → Prop
  | 0, v, _ => v = .bool false
  | 1, v, _ => v = .bool true
  | 2, v, _ => v = .bool true
  | 3, _, _ => True
  | 4, _, _ => True
  | 5, v, _ => v = .bool true
  | 6, v, _ => v = .bool true
  | 7, _, _ => True
  | 8, _, _ => True
  | 9, _, _ => True
  | 10, v, _ => v = .bool true
  | 11, v, _ => v = .bool true
  | 12, v, _ => v = .bool false
  | 13, v, _ => v = .bool false
  | 14, _, _ => True
  | 15, _, _ => True
  | 16, _, _ => True
  | 17, v, _ => v = .bool false
  | 18, v, _ => v = .agg #[.int .i64 l0.b, .int .i64 l0.n, .int .i64 l0.e, .int .i64 l0.d, .int .i64 l0.x]
  | 19, v, _ => v = .agg #[.int .i64 l1.b, .int .i64 l1.n, .int .i64 l1.e, .int .i64 l1.d, .int .i64 l1.x]
  | 20, v, _ => v = .bool false
  | 21, v, _ => v = .bool true
  | 22, v, _ => v = .bool true
  | 23, v, _ => v = .bool true
  | 24, v, _ => v = .bool false
  | 25, v, _ => v = .bool true
  | 26, v, _ => v = .bool true
  | 27, _, _ => True
  | 28, _, _ => True
  | 29, _, _ => True
  | 30, v, _ => v = .bool true
  | 31, v, _ => v = .bool true
  | 32, _, _ => True
  | 33, _, _ => True
  | 34, _, _ => True
  | 35, v, _ => v = .bool true
  | 36, v, _ => v = .bool true
  | 37, v, _ => v = .bool true
  | _, _, _ => True
theorem lo0F_stab (l0 l1 l2 : Lm) (bx : Nat) (s : Bool) : ∀ ix jx v w w', ix ≠ jx → World.grownBy w w' (if ix = 99 then none else none) → lo0F l0 l1 l2 bx s jx v w → lo0F l0 l1 l2 bx s jx v w' := by
  intro ix jx v w w' hne hg h
  match jx, h with
  | 0, h | 1, h | 2, h | 3, h | 4, h | 5, h | 6, h | 7, h | 8, h | 9, h | 10, h | 11, h | 12, h | 13, h | 14, h | 15, h | 16, h | 17, h | 18, h | 19, h | 20, h | 21, h | 22, h | 23, h | 24, h | 25, h | 26, h | 27, h | 28, h | 29, h | 30, h | 31, h | 32, h | 33, h | 34, h | 35, h | 36, h | 37, h => exact h
  | n + 38, _ => trivial
/-- The facts of the second region, case 1. -/
def lo1F (l0 l1 l2 : Lm) (bx : Nat) (s : Bool) : Nat → Value → World → Prop
  | 0, v, _ => v = .bool true
  | 1, v, _ => v = .bool false
  | 2, v, _ => v = .bool false
  | 3, v, _ => v = .bool false
  | 4, v, _ => v = .bool true
  | 5, v, _ => v = .bool true
  | 6, v, _ => v = .bool true
  | 7, _, _ => True
  | 8, _, _ => True
  | 9, _, _ => True
  | 10, v, _ => v = .bool true
  | 11, v, _ => v = .bool true
  | 12, v, _ => v = .bool true
  | 13, v, _ => v = .bool true
  | 14, v, _ => v = .agg #[.int .i64 l1.b, .int .i64 l1.n, .int .i64 l1.e, .int .i64 l1.d, .int .i64 l1.x]
  | 15, v, _ => v = .agg #[.int .i64 l0.b, .int .i64 l0.n, .int .i64 l0.e, .int .i64 l0.d, .int .i64 l0.x]
  | 16, v, _ => v = .bool s
  | 17, v, _ => v = .bool s
  | 18, v, _ => v = .agg #[.int .i64 l0.b, .int .i64 l0.n, .int .i64 l0.e, .int .i64 l0.d, .int .i64 l0.x]
  | 19, v, _ => v = .agg #[.int .i64 l1.b, .int .i64 l1.n, .int .i64 l1.e, .int .i64 l1.d, .int .i64 l1.x]
  | 20, v, _ => v = .bool s
  | 21, v, _ => v = .bool true
  | 22, v, _ => v = .bool true
  | 23, v, _ => v = .bool true
  | 24, v, _ => v = .bool true
  | 25, v, _ => v = .bool false
  | 26, v, _ => v = .bool false
  | 27, v, _ => v = .agg #[.int .i64 l1.b, .int .i64 l1.n, .int .i64 l1.e, .int .i64 l1.d, .int .i64 l1.x]
  | 28, v, _ => v = .bool false
  | 29, v, _ => v = .bool true
  | 30, v, _ => v = .bool true
  | 31, v, _ => v = .bool true
  | 32, _, _ => True
  | 33, _, _ => True
  | 34, _, _ => True
  | 35, v, _ => v = .bool true
  | 36, v, _ => v = .bool true
  | 37, v, _ => v = .bool true
  | _, _, _ => True
theorem lo1F_stab (l0 l1 l2 : Lm) (bx : Nat) (s : Bool) : ∀ ix jx v w w', ix ≠ jx → World.grownBy w w' (if ix = 99 then none else none) → lo1F l0 l1 l2 bx s jx v w → lo1F l0 l1 l2 bx s jx v w' := by
  intro ix jx v w w' hne hg h
  match jx, h with
  | 0, h | 1, h | 2, h | 3, h | 4, h | 5, h | 6, h | 7, h | 8, h | 9, h | 10, h | 11, h | 12, h | 13, h | 14, h | 15, h | 16, h | 17, h | 18, h | 19, h | 20, h | 21, h | 22, h | 23, h | 24, h | 25, h | 26, h | 27, h | 28, h | 29, h | 30, h | 31, h | 32, h | 33, h | 34, h | 35, h | 36, h | 37, h => exact h
  | n + 38, _ => trivial
/-- The facts of the second region, case 2. -/
def lo2F (l0 l1 l2 : Lm) (bx : Nat) (s : Bool) : Nat → Value → World → Prop
  | 0, v, _ => v = .bool true
  | 1, v, _ => v = .bool false
  | 2, v, _ => v = .bool false
  | 3, v, _ => v = .bool false
  | 4, v, _ => v = .bool true
  | 5, v, _ => v = .bool true
  | 6, v, _ => v = .bool true
  | 7, _, _ => True
  | 8, _, _ => True
  | 9, _, _ => True
  | 10, v, _ => v = .bool true
  | 11, v, _ => v = .bool true
  | 12, v, _ => v = .bool true
  | 13, v, _ => v = .bool true
  | 14, v, _ => v = .agg #[.int .i64 l1.b, .int .i64 l1.n, .int .i64 l1.e, .int .i64 l1.d, .int .i64 l1.x]
  | 15, v, _ => v = .agg #[.int .i64 l0.b, .int .i64 l0.n, .int .i64 l0.e, .int .i64 l0.d, .int .i64 l0.x]
  | 16, v, _ => v = .bool s
  | 17, v, _ => v = .bool s
  | 18, v, _ => v = .agg #[.int .i64 l0.b, .int .i64 l0.n, .int .i64 l0.e, .int .i64 l0.d, .int .i64 l0.x]
  | 19, v, _ => v = .agg #[.int .i64 l1.b, .int .i64 l1.n, .int .i64 l1.e, .int .i64 l1.d, .int .i64 l1.x]
  | 20, v, _ => v = .bool s
  | 21, v, _ => v = .bool true
  | 22, v, _ => v = .bool true
  | 23, v, _ => v = .bool true
  | 24, v, _ => v = .bool true
  | 25, v, _ => v = .bool false
  | 26, v, _ => v = .bool false
  | 27, v, _ => v = .agg #[.int .i64 l1.b, .int .i64 l1.n, .int .i64 l1.e, .int .i64 l1.d, .int .i64 l1.x]
  | 28, v, _ => v = .bool true
  | 29, v, _ => v = .bool false
  | 30, v, _ => v = .bool false
  | 31, v, _ => v = .bool false
  | 32, v, _ => v = .pointer (some ⟨bx, 1, none⟩)
  | 33, v, _ => v = .int .i64 l0.n
  | 34, v, _ => v = .bool true
  | 35, v, _ => v = .bool true
  | 36, v, _ => v = .bool true
  | 37, v, _ => v = .bool true
  | _, _, _ => True
theorem lo2F_stab (l0 l1 l2 : Lm) (bx : Nat) (s : Bool) : ∀ ix jx v w w', ix ≠ jx → World.grownBy w w' (if ix = 99 then none else none) → lo2F l0 l1 l2 bx s jx v w → lo2F l0 l1 l2 bx s jx v w' := by
  intro ix jx v w w' hne hg h
  match jx, h with
  | 0, h | 1, h | 2, h | 3, h | 4, h | 5, h | 6, h | 7, h | 8, h | 9, h | 10, h | 11, h | 12, h | 13, h | 14, h | 15, h | 16, h | 17, h | 18, h | 19, h | 20, h | 21, h | 22, h | 23, h | 24, h | 25, h | 26, h | 27, h | 28, h | 29, h | 30, h | 31, h | 32, h | 33, h | 34, h | 35, h | 36, h | 37, h => exact h
  | n + 38, _ => trivial
/-- The facts of the second region, case 3. -/
def lo3F (l0 l1 l2 : Lm) (bx : Nat) (s : Bool) : Nat → Value → World → Prop
  | 0, v, _ => v = .bool true
  | 1, v, _ => v = .bool false
  | 2, v, _ => v = .bool false
  | 3, v, _ => v = .bool true
  | 4, v, _ => v = .bool false
  | 5, v, _ => v = .bool false
  | 6, v, _ => v = .bool false
  | 7, v, _ => v = .agg #[.int .i64 l0.b, .int .i64 l0.n, .int .i64 l0.e, .int .i64 l0.d, .int .i64 l0.x]
  | 8, v, _ => v = .agg #[.int .i64 l2.b, .int .i64 l2.n, .int .i64 l2.e, .int .i64 l2.d, .int .i64 l2.x]
  | 9, v, _ => v = .bool true
  | 10, v, _ => v = .bool true
  | 11, v, _ => v = .bool true
  | 12, v, _ => v = .bool true
  | 13, v, _ => v = .bool true
  | 14, v, _ => v = .agg #[.int .i64 l1.b, .int .i64 l1.n, .int .i64 l1.e, .int .i64 l1.d, .int .i64 l1.x]
  | 15, v, _ => v = .agg #[.int .i64 l0.b, .int .i64 l0.n, .int .i64 l0.e, .int .i64 l0.d, .int .i64 l0.x]
  | 16, v, _ => v = .bool s
  | 17, v, _ => v = .bool s
  | 18, v, _ => v = .agg #[.int .i64 l0.b, .int .i64 l0.n, .int .i64 l0.e, .int .i64 l0.d, .int .i64 l0.x]
  | 19, v, _ => v = .agg #[.int .i64 l1.b, .int .i64 l1.n, .int .i64 l1.e, .int .i64 l1.d, .int .i64 l1.x]
  | 20, v, _ => v = .bool s
  | 21, v, _ => v = .bool true
  | 22, v, _ => v = .bool true
  | 23, v, _ => v = .bool true
  | 24, v, _ => v = .bool true
  | 25, v, _ => v = .bool false
  | 26, v, _ => v = .bool false
  | 27, v, _ => v = .agg #[.int .i64 l1.b, .int .i64 l1.n, .int .i64 l1.e, .int .i64 l1.d, .int .i64 l1.x]
  | 28, v, _ => v = .bool false
  | 29, v, _ => v = .bool true
  | 30, v, _ => v = .bool true
  | 31, v, _ => v = .bool true
  | 32, _, _ => True
  | 33, _, _ => True
  | 34, _, _ => True
  | 35, v, _ => v = .bool true
  | 36, v, _ => v = .bool true
  | 37, v, _ => v = .bool true
  | _, _, _ => True
theorem lo3F_stab (l0 l1 l2 : Lm) (bx : Nat) (s : Bool) : ∀ ix jx v w w', ix ≠ jx → World.grownBy w w' (if ix = 99 then none else none) → lo3F l0 l1 l2 bx s jx v w → lo3F l0 l1 l2 bx s jx v w' := by
  intro ix jx v w w' hne hg h
  match jx, h with
  | 0, h | 1, h | 2, h | 3, h | 4, h | 5, h | 6, h | 7, h | 8, h | 9, h | 10, h | 11, h | 12, h | 13, h | 14, h | 15, h | 16, h | 17, h | 18, h | 19, h | 20, h | 21, h | 22, h | 23, h | 24, h | 25, h | 26, h | 27, h | 28, h | 29, h | 30, h | 31, h | 32, h | 33, h | 34, h | 35, h | 36, h | 37, h => exact h
  | n + 38, _ => trivial
/-- The facts of the second region, case 4. -/
def lo4F (l0 l1 l2 : Lm) (bx : Nat) (s : Bool) : Nat → Value → World → Prop
  | 0, v, _ => v = .bool true
  | 1, v, _ => v = .bool false
  | 2, v, _ => v = .bool false
  | 3, v, _ => v = .bool true
  | 4, v, _ => v = .bool false
  | 5, v, _ => v = .bool false
  | 6, v, _ => v = .bool false
  | 7, v, _ => v = .agg #[.int .i64 l0.b, .int .i64 l0.n, .int .i64 l0.e, .int .i64 l0.d, .int .i64 l0.x]
  | 8, v, _ => v = .agg #[.int .i64 l2.b, .int .i64 l2.n, .int .i64 l2.e, .int .i64 l2.d, .int .i64 l2.x]
  | 9, v, _ => v = .bool true
  | 10, v, _ => v = .bool true
  | 11, v, _ => v = .bool true
  | 12, v, _ => v = .bool true
  | 13, v, _ => v = .bool true
  | 14, v, _ => v = .agg #[.int .i64 l1.b, .int .i64 l1.n, .int .i64 l1.e, .int .i64 l1.d, .int .i64 l1.x]
  | 15, v, _ => v = .agg #[.int .i64 l0.b, .int .i64 l0.n, .int .i64 l0.e, .int .i64 l0.d, .int .i64 l0.x]
  | 16, v, _ => v = .bool s
  | 17, v, _ => v = .bool s
  | 18, v, _ => v = .agg #[.int .i64 l0.b, .int .i64 l0.n, .int .i64 l0.e, .int .i64 l0.d, .int .i64 l0.x]
  | 19, v, _ => v = .agg #[.int .i64 l1.b, .int .i64 l1.n, .int .i64 l1.e, .int .i64 l1.d, .int .i64 l1.x]
  | 20, v, _ => v = .bool s
  | 21, v, _ => v = .bool true
  | 22, v, _ => v = .bool true
  | 23, v, _ => v = .bool true
  | 24, v, _ => v = .bool true
  | 25, v, _ => v = .bool false
  | 26, v, _ => v = .bool false
  | 27, v, _ => v = .agg #[.int .i64 l1.b, .int .i64 l1.n, .int .i64 l1.e, .int .i64 l1.d, .int .i64 l1.x]
  | 28, v, _ => v = .bool true
  | 29, v, _ => v = .bool false
  | 30, v, _ => v = .bool false
  | 31, v, _ => v = .bool false
  | 32, v, _ => v = .pointer (some ⟨bx, 1, none⟩)
  | 33, v, _ => v = .int .i64 l0.n
  | 34, v, _ => v = .bool true
  | 35, v, _ => v = .bool true
  | 36, v, _ => v = .bool true
  | 37, v, _ => v = .bool true
  | _, _, _ => True
theorem lo4F_stab (l0 l1 l2 : Lm) (bx : Nat) (s : Bool) : ∀ ix jx v w w', ix ≠ jx → World.grownBy w w' (if ix = 99 then none else none) → lo4F l0 l1 l2 bx s jx v w → lo4F l0 l1 l2 bx s jx v w' := by
  intro ix jx v w w' hne hg h
  match jx, h with
  | 0, h | 1, h | 2, h | 3, h | 4, h | 5, h | 6, h | 7, h | 8, h | 9, h | 10, h | 11, h | 12, h | 13, h | 14, h | 15, h | 16, h | 17, h | 18, h | 19, h | 20, h | 21, h | 22, h | 23, h | 24, h | 25, h | 26, h | 27, h | 28, h | 29, h | 30, h | 31, h | 32, h | 33, h | 34, h | 35, h | 36, h | 37, h => exact h
  | n + 38, _ => trivial
theorem getD_bool1 {o : Option Value} {b : Bool} (h : o.getD undef = .bool b) : o = some (.bool b) := getD_bool h

set_option maxRecDepth 10000 in
set_option maxHeartbeats 4000000 in
theorem walk (l0 : Lm) (l1 : Lm) (l2 : Lm) (w : World) (w0 : LmR l0) (w1 : LmR l1) (w2 : LmR l2) (hT : Tabs12 w) :
    Calls Tryd.prog 7 #[.agg #[.int .i64 l0.b, .int .i64 l0.n, .int .i64 l0.e, .int .i64 l0.d, .int .i64 l0.x], .agg #[.int .i64 l1.b, .int .i64 l1.n, .int .i64 l1.e, .int .i64 l1.d, .int .i64 l1.x], .agg #[.int .i64 l2.b, .int .i64 l2.n, .int .i64 l2.e, .int .i64 l2.d, .int .i64 l2.x]] w fun e w' => e = .returned (.bool true) ∧ Below w.heap.size w w' := by
  have HA : Hid (∀ W, Tabs12 W → Calls Tryd.prog 8 #[] W fun e w' => e = .returned (.bool true) ∧ Below W.heap.size W w') := awake_any
  have HO : Hid (O3 w (((w.alloc (.cells (lmC l0) 26)).alloc (.cells (lmC l1) 26)).alloc (.cells (lmC l2) 26)) l0 l1 l2) := O3.start hT
  clear w0 w1 w2 hT
  go_enter Tryd.func7, Tryd.ntmps7
  go_wp2_with fail
  refine (HA.out _ HO.out.tab).mono ?_
  rintro e w1 ⟨rfl, hb1⟩
  have HO1 : Hid (O3 w w1 l0 l1 l2) := HO.out.more hb1
  have HW1 : Hid (Calls Tryd.prog 19 #[.agg #[.int .i64 l0.b, .int .i64 l0.n, .int .i64 l0.e, .int .i64 l0.d, .int .i64 l0.x], .agg #[.int .i64 l0.b, .int .i64 l0.n, .int .i64 l0.e, .int .i64 l0.d, .int .i64 l0.x]] w1 fun e w' => e = .returned (.bool true) ∧ Below w1.heap.size w1 w') := by
    have := within_any l0 l0 w1
    rw [inL_refl] at this
    exact this
  have xa0 : w1.cell? ⟨w.heap.size, 0, none⟩ = some (.int .i64 l0.b) := HO1.out.a.cell 0
  have xa1 : w1.cell? ⟨w.heap.size, 1, none⟩ = some (.int .i64 l0.n) := HO1.out.a.cell 1
  have xa2 : w1.cell? ⟨w.heap.size, 2, none⟩ = some (.int .i64 l0.e) := HO1.out.a.cell 2
  have xa3 : w1.cell? ⟨w.heap.size, 3, none⟩ = some (.int .i64 l0.d) := HO1.out.a.cell 3
  have xa4 : w1.cell? ⟨w.heap.size, 4, none⟩ = some (.int .i64 l0.x) := HO1.out.a.cell 4
  clear HA HO hb1
  go_wp2_with fail
  refine Calls.mono HW1.out ?_
  rintro e w2 ⟨rfl, hb2⟩
  have HO2 : Hid (O3 w w2 l0 l1 l2) := HO1.out.more hb2
  clear HW1 HO1 hb2 xa0 xa1 xa2 xa3 xa4
  obtain ⟨p, hp⟩ : ∃ p, inL l0 l1 = p := ⟨_, rfl⟩
  obtain ⟨q, hq⟩ : ∃ q, inL l1 l2 = q := ⟨_, rfl⟩
  have HP : Hid (inL l0 l1 = p) := hp
  have HQ : Hid (inL l1 l2 = q) := hq
  clear hp hq
  go_wp2_with fail
  refine facts_region none 99 (loF l0 l1 l2 p q) (by kernel_rfl) (by kernel_rfl) (loF_stab l0 l1 l2 p q) ?step ?fin
  case step =>
    intro i' o' ho act W hg hstill hoff hdep K hK
    have hb := below_of_grown hg
    have hO := HO2.out.more hb
    have xa0 : W.cell? ⟨w.heap.size, 0, none⟩ = some (.int .i64 l0.b) := hO.a.cell 0
    have xa1 : W.cell? ⟨w.heap.size, 1, none⟩ = some (.int .i64 l0.n) := hO.a.cell 1
    have xa2 : W.cell? ⟨w.heap.size, 2, none⟩ = some (.int .i64 l0.e) := hO.a.cell 2
    have xa3 : W.cell? ⟨w.heap.size, 3, none⟩ = some (.int .i64 l0.d) := hO.a.cell 3
    have xa4 : W.cell? ⟨w.heap.size, 4, none⟩ = some (.int .i64 l0.x) := hO.a.cell 4
    have xb0 : W.cell? ⟨w.heap.size + 1, 0, none⟩ = some (.int .i64 l1.b) := hO.b.cell 0
    have xb1 : W.cell? ⟨w.heap.size + 1, 1, none⟩ = some (.int .i64 l1.n) := hO.b.cell 1
    have xb2 : W.cell? ⟨w.heap.size + 1, 2, none⟩ = some (.int .i64 l1.e) := hO.b.cell 2
    have xb3 : W.cell? ⟨w.heap.size + 1, 3, none⟩ = some (.int .i64 l1.d) := hO.b.cell 3
    have xb4 : W.cell? ⟨w.heap.size + 1, 4, none⟩ = some (.int .i64 l1.x) := hO.b.cell 4
    have xc0 : W.cell? ⟨w.heap.size + 1 + 1, 0, none⟩ = some (.int .i64 l2.b) := hO.c.cell 0
    have xc1 : W.cell? ⟨w.heap.size + 1 + 1, 1, none⟩ = some (.int .i64 l2.n) := hO.c.cell 1
    have xc2 : W.cell? ⟨w.heap.size + 1 + 1, 2, none⟩ = some (.int .i64 l2.e) := hO.c.cell 2
    have xc3 : W.cell? ⟨w.heap.size + 1 + 1, 3, none⟩ = some (.int .i64 l2.d) := hO.c.cell 3
    have xc4 : W.cell? ⟨w.heap.size + 1 + 1, 4, none⟩ = some (.int .i64 l2.x) := hO.c.cell 4
    have H1 : Hid (Calls Tryd.prog 19 #[.agg #[.int .i64 l0.b, .int .i64 l0.n, .int .i64 l0.e, .int .i64 l0.d, .int .i64 l0.x], .agg #[.int .i64 l1.b, .int .i64 l1.n, .int .i64 l1.e, .int .i64 l1.d, .int .i64 l1.x]] W fun e w' => e = .returned (.bool p) ∧ Below W.heap.size W w') := by have := within_any l0 l1 W; rw [HP.out] at this; exact this
    have H2 : Hid (Calls Tryd.prog 19 #[.agg #[.int .i64 l1.b, .int .i64 l1.n, .int .i64 l1.e, .int .i64 l1.d, .int .i64 l1.x], .agg #[.int .i64 l2.b, .int .i64 l2.n, .int .i64 l2.e, .int .i64 l2.d, .int .i64 l2.x]] W fun e w' => e = .returned (.bool q) ∧ Below W.heap.size W w') := by have := within_any l1 l2 W; rw [HQ.out] at this; exact this
    clear hb hO HO2 HP HQ
    rcases i' with _|_|_|_|_|_|_|_|i'
    · obtain rfl := Option.some.inj ho
      have t3 : act.tmps[3]?.getD undef = .pointer (some ⟨w.heap.size, 0, none⟩) := hoff 3 (by kernel_rfl)
      clear hdep hoff hg hstill H1 H2
      go_simp
      exact hK _ _ (grown_refl _ _) rfl
    · obtain rfl := Option.some.inj ho
      have t4 : act.tmps[4]?.getD undef = .pointer (some ⟨w.heap.size + 1, 0, none⟩) := hoff 4 (by kernel_rfl)
      clear hdep hoff hg hstill H1 H2
      go_simp
      exact hK _ _ (grown_refl _ _) rfl
    · obtain rfl := Option.some.inj ho
      have e0 : act.tmps[17]?.getD undef = .agg #[.int .i64 l0.b, .int .i64 l0.n, .int .i64 l0.e, .int .i64 l0.d, .int .i64 l0.x] := hdep 0 _ (by kernel_rfl) rfl
      have e1 : act.tmps[18]?.getD undef = .agg #[.int .i64 l1.b, .int .i64 l1.n, .int .i64 l1.e, .int .i64 l1.d, .int .i64 l1.x] := hdep 1 _ (by kernel_rfl) rfl
      clear hdep hoff hg hstill H2
      go_simp
      refine Calls.mono (Hid.out H1) ?_
      rintro e w' ⟨rfl, hb⟩
      exact hK _ _ (grown_of_below hb _) rfl
    · obtain rfl := Option.some.inj ho
      have t4 : act.tmps[4]?.getD undef = .pointer (some ⟨w.heap.size + 1, 0, none⟩) := hoff 4 (by kernel_rfl)
      clear hdep hoff hg hstill H1 H2
      go_simp
      exact hK _ _ (grown_refl _ _) rfl
    · obtain rfl := Option.some.inj ho
      have t5 : act.tmps[5]?.getD undef = .pointer (some ⟨w.heap.size + 1 + 1, 0, none⟩) := hoff 5 (by kernel_rfl)
      clear hdep hoff hg hstill H1 H2
      go_simp
      exact hK _ _ (grown_refl _ _) rfl
    · obtain rfl := Option.some.inj ho
      have e3 : act.tmps[20]?.getD undef = .agg #[.int .i64 l1.b, .int .i64 l1.n, .int .i64 l1.e, .int .i64 l1.d, .int .i64 l1.x] := hdep 3 _ (by kernel_rfl) rfl
      have e4 : act.tmps[21]?.getD undef = .agg #[.int .i64 l2.b, .int .i64 l2.n, .int .i64 l2.e, .int .i64 l2.d, .int .i64 l2.x] := hdep 4 _ (by kernel_rfl) rfl
      clear hdep hoff hg hstill H1
      go_simp
      refine Calls.mono (Hid.out H2) ?_
      rintro e w' ⟨rfl, hb⟩
      exact hK _ _ (grown_of_below hb _) rfl
    · obtain rfl := Option.some.inj ho
      have e2 : act.tmps[19]?.getD undef = .bool p := hdep 2 _ (by kernel_rfl) rfl
      clear hdep hoff hg hstill H1 H2
      go_simp
      exact hK _ _ (grown_refl _ _) rfl
    · obtain rfl := Option.some.inj ho
      have e5 : act.tmps[22]?.getD undef = .bool q := hdep 5 _ (by kernel_rfl) rfl
      clear hdep hoff hg hstill H1 H2
      go_simp
      exact hK _ _ (grown_refl _ _) rfl
    · exact absurd ho (by simp)
  case fin =>
    intro V W1 hg hF
    have v7 : V (some 7) = .bool p := hF 6 _ rfl
    have v8 : V (some 8) = .bool q := hF 7 _ rfl
    have HO3 : Hid (O3 w W1 l0 l1 l2) := HO2.out.more (below_of_grown hg)
    clear hF hg HO2
    simp only [fillA, Act.put, List.setIfInBounds_toArray, List.set_cons_zero, List.set_cons_succ, v7, v8]
    generalize V (some 17) = z17
    generalize V (some 18) = z18
    generalize V (some 19) = z19
    generalize V (some 20) = z20
    generalize V (some 21) = z21
    generalize V (some 22) = z22
    clear v7 v8
    cases p with
    | false =>
      go_wp2_with fail
      refine facts_region none 99 (lo0F l0 l1 l2 w.heap.size true) (by kernel_rfl) (by kernel_rfl) (lo0F_stab l0 l1 l2 w.heap.size true) ?step ?fin
      case step =>
        intro i' o' ho act W hg hstill hoff hdep K hK
        have hb := below_of_grown hg
        have hO := HO3.out.more hb
        have xa0 : W.cell? ⟨w.heap.size, 0, none⟩ = some (.int .i64 l0.b) := hO.a.cell 0
        have xa1 : W.cell? ⟨w.heap.size, 1, none⟩ = some (.int .i64 l0.n) := hO.a.cell 1
        have xa2 : W.cell? ⟨w.heap.size, 2, none⟩ = some (.int .i64 l0.e) := hO.a.cell 2
        have xa3 : W.cell? ⟨w.heap.size, 3, none⟩ = some (.int .i64 l0.d) := hO.a.cell 3
        have xa4 : W.cell? ⟨w.heap.size, 4, none⟩ = some (.int .i64 l0.x) := hO.a.cell 4
        have xb0 : W.cell? ⟨w.heap.size + 1, 0, none⟩ = some (.int .i64 l1.b) := hO.b.cell 0
        have xb1 : W.cell? ⟨w.heap.size + 1, 1, none⟩ = some (.int .i64 l1.n) := hO.b.cell 1
        have xb2 : W.cell? ⟨w.heap.size + 1, 2, none⟩ = some (.int .i64 l1.e) := hO.b.cell 2
        have xb3 : W.cell? ⟨w.heap.size + 1, 3, none⟩ = some (.int .i64 l1.d) := hO.b.cell 3
        have xb4 : W.cell? ⟨w.heap.size + 1, 4, none⟩ = some (.int .i64 l1.x) := hO.b.cell 4
        have xc0 : W.cell? ⟨w.heap.size + 1 + 1, 0, none⟩ = some (.int .i64 l2.b) := hO.c.cell 0
        have xc1 : W.cell? ⟨w.heap.size + 1 + 1, 1, none⟩ = some (.int .i64 l2.n) := hO.c.cell 1
        have xc2 : W.cell? ⟨w.heap.size + 1 + 1, 2, none⟩ = some (.int .i64 l2.e) := hO.c.cell 2
        have xc3 : W.cell? ⟨w.heap.size + 1 + 1, 3, none⟩ = some (.int .i64 l2.d) := hO.c.cell 3
        have xc4 : W.cell? ⟨w.heap.size + 1 + 1, 4, none⟩ = some (.int .i64 l2.x) := hO.c.cell 4
        have HW : True := trivial
        have HK : True := trivial
        have HR : True := trivial
        have heq : ∀ U : World, (binOp .eql 26 (.agg #[.int .i64 l0.b, .int .i64 l0.n, .int .i64 l0.e, .int .i64 l0.d, .int .i64 l0.x]) (.agg #[.int .i64 l1.b, .int .i64 l1.n, .int .i64 l1.e, .int .i64 l1.d, .int .i64 l1.x])).run Tryd.prog U = .ok (.bool false) U := fun U => by have := eql_lim l0 l1 U; rw [sameL_not HP.out] at this; exact this
        have hle : True := trivial
        clear hb hO HO3 HP HQ
        rcases i' with _|_|_|_|_|_|_|_|_|_|_|_|_|_|_|_|_|_|_|_|_|_|_|_|_|_|_|_|_|_|_|_|_|_|_|_|_|_|i'
        · obtain rfl := Option.some.inj ho
          have t7 : act.tmps[7]?.getD undef = .bool false := hoff 7 (by kernel_rfl)
          clear hdep hoff hg hstill HW HK HR heq hle
          go_simp
          exact hK _ _ (grown_refl _ _) rfl
        · obtain rfl := Option.some.inj ho
          have e0 : act.tmps[23]?.getD undef = .bool false := hdep 0 _ (by kernel_rfl) rfl
          clear hdep hoff hg hstill HW HK HR heq hle
          go_simp
          exact hK _ _ (grown_refl _ _) rfl
        · obtain rfl := Option.some.inj ho
          have e1 : act.tmps[24]?.getD undef = .bool true := hdep 1 _ (by kernel_rfl) rfl
          clear hdep hoff hg hstill HW HK HR heq hle
          go_simp
          exact hK _ _ (grown_refl _ _) rfl
        · obtain rfl := Option.some.inj ho
          have hgd : act.tmps[25]?.getD undef = .bool true := hdep 2 _ (by kernel_rfl) rfl
          have hgd' := getD_bool hgd
          clear hdep hoff hg hstill HW HK HR heq hle
          go_simp
          exact hK _ _ (grown_refl _ _) trivial
        · obtain rfl := Option.some.inj ho
          have hgd : act.tmps[25]?.getD undef = .bool true := hdep 2 _ (by kernel_rfl) rfl
          have hgd' := getD_bool hgd
          clear hdep hoff hg hstill HW HK HR heq hle
          go_simp
          exact hK _ _ (grown_refl _ _) trivial
        · obtain rfl := Option.some.inj ho
          have e2 : act.tmps[25]?.getD undef = .bool true := hdep 2 _ (by kernel_rfl) rfl
          clear hdep hoff hg hstill HW HK HR heq hle
          go_simp
          exact hK _ _ (grown_refl _ _) rfl
        · obtain rfl := Option.some.inj ho
          have e5 : act.tmps[28]?.getD undef = .bool true := hdep 5 _ (by kernel_rfl) rfl
          clear hdep hoff hg hstill HW HK HR heq hle
          go_simp
          exact hK _ _ (grown_refl _ _) rfl
        · obtain rfl := Option.some.inj ho
          have hgd : act.tmps[29]?.getD undef = .bool true := hdep 6 _ (by kernel_rfl) rfl
          have hgd' := getD_bool hgd
          clear hdep hoff hg hstill HW HK HR heq hle
          go_simp
          exact hK _ _ (grown_refl _ _) trivial
        · obtain rfl := Option.some.inj ho
          have hgd : act.tmps[29]?.getD undef = .bool true := hdep 6 _ (by kernel_rfl) rfl
          have hgd' := getD_bool hgd
          clear hdep hoff hg hstill HW HK HR heq hle
          go_simp
          exact hK _ _ (grown_refl _ _) trivial
        · obtain rfl := Option.some.inj ho
          have hgd : act.tmps[29]?.getD undef = .bool true := hdep 6 _ (by kernel_rfl) rfl
          have hgd' := getD_bool hgd
          clear hdep hoff hg hstill HW HK HR heq hle
          go_simp
          exact hK _ _ (grown_refl _ _) trivial
        · obtain rfl := Option.some.inj ho
          have e6 : act.tmps[29]?.getD undef = .bool true := hdep 6 _ (by kernel_rfl) rfl
          clear hdep hoff hg hstill HW HK HR heq hle
          go_simp
          exact hK _ _ (grown_refl _ _) rfl
        · obtain rfl := Option.some.inj ho
          have e10 : act.tmps[33]?.getD undef = .bool true := hdep 10 _ (by kernel_rfl) rfl
          clear hdep hoff hg hstill HW HK HR heq hle
          go_simp
          exact hK _ _ (grown_refl _ _) rfl
        · obtain rfl := Option.some.inj ho
          have t7 : act.tmps[7]?.getD undef = .bool false := hoff 7 (by kernel_rfl)
          have hgd : act.tmps[34]?.getD undef = .bool true := hdep 11 _ (by kernel_rfl) rfl
          have hgd' := getD_bool hgd
          clear hdep hoff hg hstill HW HK HR heq hle
          go_simp
          exact hK _ _ (grown_refl _ _) rfl
        · obtain rfl := Option.some.inj ho
          have e12 : act.tmps[35]?.getD undef = .bool false := hdep 12 _ (by kernel_rfl) rfl
          have hgd : act.tmps[34]?.getD undef = .bool true := hdep 11 _ (by kernel_rfl) rfl
          have hgd' := getD_bool hgd
          clear hdep hoff hg hstill HW HK HR heq hle
          go_simp
          exact hK _ _ (grown_refl _ _) rfl
        · obtain rfl := Option.some.inj ho
          have hgd : act.tmps[36]?.getD undef = .bool false := hdep 13 _ (by kernel_rfl) rfl
          have hgd' := getD_bool hgd
          clear hdep hoff hg hstill HW HK HR heq hle
          go_simp
          exact hK _ _ (grown_refl _ _) trivial
        · obtain rfl := Option.some.inj ho
          have hgd : act.tmps[36]?.getD undef = .bool false := hdep 13 _ (by kernel_rfl) rfl
          have hgd' := getD_bool hgd
          clear hdep hoff hg hstill HW HK HR heq hle
          go_simp
          exact hK _ _ (grown_refl _ _) trivial
        · obtain rfl := Option.some.inj ho
          have hgd : act.tmps[36]?.getD undef = .bool false := hdep 13 _ (by kernel_rfl) rfl
          have hgd' := getD_bool hgd
          clear hdep hoff hg hstill HW HK HR heq hle
          go_simp
          exact hK _ _ (grown_refl _ _) trivial
        · obtain rfl := Option.some.inj ho
          have e13 : act.tmps[36]?.getD undef = .bool false := hdep 13 _ (by kernel_rfl) rfl
          have hgd : act.tmps[34]?.getD undef = .bool true := hdep 11 _ (by kernel_rfl) rfl
          have hgd' := getD_bool hgd
          clear hdep hoff hg hstill HW HK HR heq hle
          go_simp
          exact hK _ _ (grown_refl _ _) rfl
        · obtain rfl := Option.some.inj ho
          have t3 : act.tmps[3]?.getD undef = .pointer (some ⟨w.heap.size, 0, none⟩) := hoff 3 (by kernel_rfl)
          have hgd : act.tmps[34]?.getD undef = .bool true := hdep 11 _ (by kernel_rfl) rfl
          have hgd' := getD_bool hgd
          clear hdep hoff hg hstill HW HK HR heq hle
          go_simp
          exact hK _ _ (grown_refl _ _) rfl
        · obtain rfl := Option.some.inj ho
          have t4 : act.tmps[4]?.getD undef = .pointer (some ⟨w.heap.size + 1, 0, none⟩) := hoff 4 (by kernel_rfl)
          have hgd : act.tmps[34]?.getD undef = .bool true := hdep 11 _ (by kernel_rfl) rfl
          have hgd' := getD_bool hgd
          clear hdep hoff hg hstill HW HK HR heq hle
          go_simp
          exact hK _ _ (grown_refl _ _) rfl
        · obtain rfl := Option.some.inj ho
          have e18 : act.tmps[41]?.getD undef = .agg #[.int .i64 l0.b, .int .i64 l0.n, .int .i64 l0.e, .int .i64 l0.d, .int .i64 l0.x] := hdep 18 _ (by kernel_rfl) rfl
          have e19 : act.tmps[42]?.getD undef = .agg #[.int .i64 l1.b, .int .i64 l1.n, .int .i64 l1.e, .int .i64 l1.d, .int .i64 l1.x] := hdep 19 _ (by kernel_rfl) rfl
          have hgd : act.tmps[34]?.getD undef = .bool true := hdep 11 _ (by kernel_rfl) rfl
          have hgd' := getD_bool hgd
          clear hdep hoff hg hstill HW HK HR hle
          have heq1 := heq W
          go_simp
          exact hK _ _ (grown_refl _ _) rfl
        · obtain rfl := Option.some.inj ho
          have e17 : act.tmps[40]?.getD undef = .bool false := hdep 17 _ (by kernel_rfl) rfl
          have e20 : act.tmps[43]?.getD undef = .bool false := hdep 20 _ (by kernel_rfl) rfl
          have hgd : act.tmps[34]?.getD undef = .bool true := hdep 11 _ (by kernel_rfl) rfl
          have hgd' := getD_bool hgd
          clear hdep hoff hg hstill HW HK HR heq hle
          go_simp
          exact hK _ _ (grown_refl _ _) (by simp [lo0F, own1])
        · obtain rfl := Option.some.inj ho
          have e11 : act.tmps[34]?.getD undef = .bool true := hdep 11 _ (by kernel_rfl) rfl
          have e21 : act.tmps[44]?.getD undef = .bool true := hdep 21 _ (by kernel_rfl) rfl
          clear hdep hoff hg hstill HW HK HR heq hle
          go_simp
          exact hK _ _ (grown_refl _ _) rfl
        · obtain rfl := Option.some.inj ho
          have e22 : act.tmps[45]?.getD undef = .bool true := hdep 22 _ (by kernel_rfl) rfl
          clear hdep hoff hg hstill HW HK HR heq hle
          go_simp
          exact hK _ _ (grown_refl _ _) rfl
        · obtain rfl := Option.some.inj ho
          have t7 : act.tmps[7]?.getD undef = .bool false := hoff 7 (by kernel_rfl)
          have hgd : act.tmps[46]?.getD undef = .bool true := hdep 23 _ (by kernel_rfl) rfl
          have hgd' := getD_bool hgd
          clear hdep hoff hg hstill HW HK HR heq hle
          go_simp
          exact hK _ _ (grown_refl _ _) rfl
        · obtain rfl := Option.some.inj ho
          have e24 : act.tmps[47]?.getD undef = .bool false := hdep 24 _ (by kernel_rfl) rfl
          have hgd : act.tmps[46]?.getD undef = .bool true := hdep 23 _ (by kernel_rfl) rfl
          have hgd' := getD_bool hgd
          clear hdep hoff hg hstill HW HK HR heq hle
          go_simp
          exact hK _ _ (grown_refl _ _) rfl
        · obtain rfl := Option.some.inj ho
          have e25 : act.tmps[48]?.getD undef = .bool true := hdep 25 _ (by kernel_rfl) rfl
          have hgd : act.tmps[46]?.getD undef = .bool true := hdep 23 _ (by kernel_rfl) rfl
          have hgd' := getD_bool hgd
          clear hdep hoff hg hstill HW HK HR heq hle
          go_simp
          exact hK _ _ (grown_refl _ _) rfl
        · obtain rfl := Option.some.inj ho
          have hgd : act.tmps[49]?.getD undef = .bool true := hdep 26 _ (by kernel_rfl) rfl
          have hgd' := getD_bool hgd
          clear hdep hoff hg hstill HW HK HR heq hle
          go_simp
          exact hK _ _ (grown_refl _ _) trivial
        · obtain rfl := Option.some.inj ho
          have hgd : act.tmps[49]?.getD undef = .bool true := hdep 26 _ (by kernel_rfl) rfl
          have hgd' := getD_bool hgd
          clear hdep hoff hg hstill HW HK HR heq hle
          go_simp
          exact hK _ _ (grown_refl _ _) trivial
        · obtain rfl := Option.some.inj ho
          have hgd : act.tmps[49]?.getD undef = .bool true := hdep 26 _ (by kernel_rfl) rfl
          have hgd' := getD_bool hgd
          clear hdep hoff hg hstill HW HK HR heq hle
          go_simp
          exact hK _ _ (grown_refl _ _) trivial
        · obtain rfl := Option.some.inj ho
          have e26 : act.tmps[49]?.getD undef = .bool true := hdep 26 _ (by kernel_rfl) rfl
          have hgd : act.tmps[46]?.getD undef = .bool true := hdep 23 _ (by kernel_rfl) rfl
          have hgd' := getD_bool hgd
          clear hdep hoff hg hstill HW HK HR heq hle
          go_simp
          exact hK _ _ (grown_refl _ _) rfl
        · obtain rfl := Option.some.inj ho
          have e30 : act.tmps[53]?.getD undef = .bool true := hdep 30 _ (by kernel_rfl) rfl
          have hgd : act.tmps[46]?.getD undef = .bool true := hdep 23 _ (by kernel_rfl) rfl
          have hgd' := getD_bool hgd
          clear hdep hoff hg hstill HW HK HR heq hle
          go_simp
          exact hK _ _ (grown_refl _ _) rfl
        · obtain rfl := Option.some.inj ho
          have hgd : act.tmps[54]?.getD undef = .bool true := hdep 31 _ (by kernel_rfl) rfl
          have hgd' := getD_bool hgd
          clear hdep hoff hg hstill HW HK HR heq hle
          go_simp
          exact hK _ _ (grown_refl _ _) trivial
        · obtain rfl := Option.some.inj ho
          have hgd : act.tmps[54]?.getD undef = .bool true := hdep 31 _ (by kernel_rfl) rfl
          have hgd' := getD_bool hgd
          clear hdep hoff hg hstill HW HK HR heq hle
          go_simp
          exact hK _ _ (grown_refl _ _) trivial
        · obtain rfl := Option.some.inj ho
          have hgd : act.tmps[54]?.getD undef = .bool true := hdep 31 _ (by kernel_rfl) rfl
          have hgd' := getD_bool hgd
          clear hdep hoff hg hstill HW HK HR heq hle
          go_simp
          exact hK _ _ (grown_refl _ _) trivial
        · obtain rfl := Option.some.inj ho
          have e31 : act.tmps[54]?.getD undef = .bool true := hdep 31 _ (by kernel_rfl) rfl
          have hgd : act.tmps[46]?.getD undef = .bool true := hdep 23 _ (by kernel_rfl) rfl
          have hgd' := getD_bool hgd
          clear hdep hoff hg hstill HW HK HR heq hle
          go_simp
          exact hK _ _ (grown_refl _ _) rfl
        · obtain rfl := Option.some.inj ho
          have e23 : act.tmps[46]?.getD undef = .bool true := hdep 23 _ (by kernel_rfl) rfl
          have e35 : act.tmps[58]?.getD undef = .bool true := hdep 35 _ (by kernel_rfl) rfl
          clear hdep hoff hg hstill HW HK HR heq hle
          go_simp
          exact hK _ _ (grown_refl _ _) rfl
        · obtain rfl := Option.some.inj ho
          have e36 : act.tmps[59]?.getD undef = .bool true := hdep 36 _ (by kernel_rfl) rfl
          clear hdep hoff hg hstill HW HK HR heq hle
          go_simp
          exact hK _ _ (grown_refl _ _) rfl
        · exact absurd ho (by simp)
      case fin =>
        intro V W2 hg hF
        have v6 : V (some 6) = .bool true := hF 37 _ rfl
        have HB : Hid (Below w.heap.size w W2) := (HO3.out.more (below_of_grown hg)).bel
        clear hF hg HO3 HP HQ
        simp only [fillA, Act.put, List.setIfInBounds_toArray, List.set_cons_zero, List.set_cons_succ, v6]
        generalize V (some 23) = y23
        generalize V (some 24) = y24
        generalize V (some 25) = y25
        generalize V (some 26) = y26
        generalize V (some 27) = y27
        generalize V (some 28) = y28
        generalize V (some 29) = y29
        generalize V (some 30) = y30
        generalize V (some 31) = y31
        generalize V (some 32) = y32
        generalize V (some 33) = y33
        generalize V (some 34) = y34
        generalize V (some 35) = y35
        generalize V (some 36) = y36
        generalize V (some 37) = y37
        generalize V (some 38) = y38
        generalize V (some 39) = y39
        generalize V (some 40) = y40
        generalize V (some 41) = y41
        generalize V (some 42) = y42
        generalize V (some 43) = y43
        generalize V (some 44) = y44
        generalize V (some 45) = y45
        generalize V (some 46) = y46
        generalize V (some 47) = y47
        generalize V (some 48) = y48
        generalize V (some 49) = y49
        generalize V (some 50) = y50
        generalize V (some 51) = y51
        generalize V (some 52) = y52
        generalize V (some 53) = y53
        generalize V (some 54) = y54
        generalize V (some 55) = y55
        generalize V (some 56) = y56
        generalize V (some 57) = y57
        generalize V (some 58) = y58
        generalize V (some 59) = y59
        clear v6
        go_wp2_with fail
        go_ret
        exact ⟨rfl, HB.out⟩
    | true =>
      obtain ⟨s, hs⟩ : ∃ s, sameL l0 l1 = s := ⟨_, rfl⟩
      obtain ⟨k, hk⟩ : ∃ k, okL l1 = k := ⟨_, rfl⟩
      have HS : Hid (sameL l0 l1 = s) := hs
      have HKK : Hid (okL l1 = k) := hk
      clear hs hk
      cases q with
      | false =>
        cases k with
        | false =>
          go_wp2_with fail
          refine facts_region none 99 (lo1F l0 l1 l2 w.heap.size s) (by kernel_rfl) (by kernel_rfl) (lo1F_stab l0 l1 l2 w.heap.size s) ?step ?fin
          case step =>
            intro i' o' ho act W hg hstill hoff hdep K hK
            have hb := below_of_grown hg
            have hO := HO3.out.more hb
            have xa0 : W.cell? ⟨w.heap.size, 0, none⟩ = some (.int .i64 l0.b) := hO.a.cell 0
            have xa1 : W.cell? ⟨w.heap.size, 1, none⟩ = some (.int .i64 l0.n) := hO.a.cell 1
            have xa2 : W.cell? ⟨w.heap.size, 2, none⟩ = some (.int .i64 l0.e) := hO.a.cell 2
            have xa3 : W.cell? ⟨w.heap.size, 3, none⟩ = some (.int .i64 l0.d) := hO.a.cell 3
            have xa4 : W.cell? ⟨w.heap.size, 4, none⟩ = some (.int .i64 l0.x) := hO.a.cell 4
            have xb0 : W.cell? ⟨w.heap.size + 1, 0, none⟩ = some (.int .i64 l1.b) := hO.b.cell 0
            have xb1 : W.cell? ⟨w.heap.size + 1, 1, none⟩ = some (.int .i64 l1.n) := hO.b.cell 1
            have xb2 : W.cell? ⟨w.heap.size + 1, 2, none⟩ = some (.int .i64 l1.e) := hO.b.cell 2
            have xb3 : W.cell? ⟨w.heap.size + 1, 3, none⟩ = some (.int .i64 l1.d) := hO.b.cell 3
            have xb4 : W.cell? ⟨w.heap.size + 1, 4, none⟩ = some (.int .i64 l1.x) := hO.b.cell 4
            have xc0 : W.cell? ⟨w.heap.size + 1 + 1, 0, none⟩ = some (.int .i64 l2.b) := hO.c.cell 0
            have xc1 : W.cell? ⟨w.heap.size + 1 + 1, 1, none⟩ = some (.int .i64 l2.n) := hO.c.cell 1
            have xc2 : W.cell? ⟨w.heap.size + 1 + 1, 2, none⟩ = some (.int .i64 l2.e) := hO.c.cell 2
            have xc3 : W.cell? ⟨w.heap.size + 1 + 1, 3, none⟩ = some (.int .i64 l2.d) := hO.c.cell 3
            have xc4 : W.cell? ⟨w.heap.size + 1 + 1, 4, none⟩ = some (.int .i64 l2.x) := hO.c.cell 4
            have HW : True := trivial
            have HK : Hid (Calls Tryd.prog 19 #[.agg #[.int .i64 l1.b, .int .i64 l1.n, .int .i64 l1.e, .int .i64 l1.d, .int .i64 l1.x], .agg #[.int .i64 l0.b, .int .i64 l0.n, .int .i64 l0.e, .int .i64 l0.d, .int .i64 l0.x]] W fun e w' => e = .returned (.bool s) ∧ Below W.heap.size W w') := by have := within_any l1 l0 W; rw [inL_same HP.out, HS.out] at this; exact this
            have HR : Hid (Calls Tryd.prog 17 #[.agg #[.int .i64 l1.b, .int .i64 l1.n, .int .i64 l1.e, .int .i64 l1.d, .int .i64 l1.x]] W fun e w' => e = .returned (.bool false) ∧ Below W.heap.size W w') := by have := okl_any l1 W; rw [HKK.out] at this; exact this
            have heq : ∀ U : World, (binOp .eql 26 (.agg #[.int .i64 l0.b, .int .i64 l0.n, .int .i64 l0.e, .int .i64 l0.d, .int .i64 l0.x]) (.agg #[.int .i64 l1.b, .int .i64 l1.n, .int .i64 l1.e, .int .i64 l1.d, .int .i64 l1.x])).run Tryd.prog U = .ok (.bool s) U := fun U => by have := eql_lim l0 l1 U; rw [HS.out] at this; exact this
            have hle : True := trivial
            clear hb hO HO3 HP HQ HS HKK
            rcases i' with _|_|_|_|_|_|_|_|_|_|_|_|_|_|_|_|_|_|_|_|_|_|_|_|_|_|_|_|_|_|_|_|_|_|_|_|_|_|i'
            · obtain rfl := Option.some.inj ho
              have t7 : act.tmps[7]?.getD undef = .bool true := hoff 7 (by kernel_rfl)
              clear hdep hoff hg hstill HW HK HR heq hle
              go_simp
              exact hK _ _ (grown_refl _ _) rfl
            · obtain rfl := Option.some.inj ho
              have e0 : act.tmps[23]?.getD undef = .bool true := hdep 0 _ (by kernel_rfl) rfl
              clear hdep hoff hg hstill HW HK HR heq hle
              go_simp
              exact hK _ _ (grown_refl _ _) rfl
            · obtain rfl := Option.some.inj ho
              have e1 : act.tmps[24]?.getD undef = .bool false := hdep 1 _ (by kernel_rfl) rfl
              clear hdep hoff hg hstill HW HK HR heq hle
              go_simp
              exact hK _ _ (grown_refl _ _) rfl
            · obtain rfl := Option.some.inj ho
              have t8 : act.tmps[8]?.getD undef = .bool false := hoff 8 (by kernel_rfl)
              have hgd : act.tmps[25]?.getD undef = .bool false := hdep 2 _ (by kernel_rfl) rfl
              have hgd' := getD_bool hgd
              clear hdep hoff hg hstill HW HK HR heq hle
              go_simp
              exact hK _ _ (grown_refl _ _) rfl
            · obtain rfl := Option.some.inj ho
              have e3 : act.tmps[26]?.getD undef = .bool false := hdep 3 _ (by kernel_rfl) rfl
              have hgd : act.tmps[25]?.getD undef = .bool false := hdep 2 _ (by kernel_rfl) rfl
              have hgd' := getD_bool hgd
              clear hdep hoff hg hstill HW HK HR heq hle
              go_simp
              exact hK _ _ (grown_refl _ _) rfl
            · obtain rfl := Option.some.inj ho
              have e2 : act.tmps[25]?.getD undef = .bool false := hdep 2 _ (by kernel_rfl) rfl
              have e4 : act.tmps[27]?.getD undef = .bool true := hdep 4 _ (by kernel_rfl) rfl
              clear hdep hoff hg hstill HW HK HR heq hle
              go_simp
              exact hK _ _ (grown_refl _ _) rfl
            · obtain rfl := Option.some.inj ho
              have e5 : act.tmps[28]?.getD undef = .bool true := hdep 5 _ (by kernel_rfl) rfl
              clear hdep hoff hg hstill HW HK HR heq hle
              go_simp
              exact hK _ _ (grown_refl _ _) rfl
            · obtain rfl := Option.some.inj ho
              have hgd : act.tmps[29]?.getD undef = .bool true := hdep 6 _ (by kernel_rfl) rfl
              have hgd' := getD_bool hgd
              clear hdep hoff hg hstill HW HK HR heq hle
              go_simp
              exact hK _ _ (grown_refl _ _) trivial
            · obtain rfl := Option.some.inj ho
              have hgd : act.tmps[29]?.getD undef = .bool true := hdep 6 _ (by kernel_rfl) rfl
              have hgd' := getD_bool hgd
              clear hdep hoff hg hstill HW HK HR heq hle
              go_simp
              exact hK _ _ (grown_refl _ _) trivial
            · obtain rfl := Option.some.inj ho
              have hgd : act.tmps[29]?.getD undef = .bool true := hdep 6 _ (by kernel_rfl) rfl
              have hgd' := getD_bool hgd
              clear hdep hoff hg hstill HW HK HR heq hle
              go_simp
              exact hK _ _ (grown_refl _ _) trivial
            · obtain rfl := Option.some.inj ho
              have e6 : act.tmps[29]?.getD undef = .bool true := hdep 6 _ (by kernel_rfl) rfl
              clear hdep hoff hg hstill HW HK HR heq hle
              go_simp
              exact hK _ _ (grown_refl _ _) rfl
            · obtain rfl := Option.some.inj ho
              have e10 : act.tmps[33]?.getD undef = .bool true := hdep 10 _ (by kernel_rfl) rfl
              clear hdep hoff hg hstill HW HK HR heq hle
              go_simp
              exact hK _ _ (grown_refl _ _) rfl
            · obtain rfl := Option.some.inj ho
              have t7 : act.tmps[7]?.getD undef = .bool true := hoff 7 (by kernel_rfl)
              have hgd : act.tmps[34]?.getD undef = .bool true := hdep 11 _ (by kernel_rfl) rfl
              have hgd' := getD_bool hgd
              clear hdep hoff hg hstill HW HK HR heq hle
              go_simp
              exact hK _ _ (grown_refl _ _) rfl
            · obtain rfl := Option.some.inj ho
              have e12 : act.tmps[35]?.getD undef = .bool true := hdep 12 _ (by kernel_rfl) rfl
              have hgd : act.tmps[34]?.getD undef = .bool true := hdep 11 _ (by kernel_rfl) rfl
              have hgd' := getD_bool hgd
              clear hdep hoff hg hstill HW HK HR heq hle
              go_simp
              exact hK _ _ (grown_refl _ _) rfl
            · obtain rfl := Option.some.inj ho
              have t4 : act.tmps[4]?.getD undef = .pointer (some ⟨w.heap.size + 1, 0, none⟩) := hoff 4 (by kernel_rfl)
              have hgd : act.tmps[36]?.getD undef = .bool true := hdep 13 _ (by kernel_rfl) rfl
              have hgd' := getD_bool hgd
              clear hdep hoff hg hstill HW HK HR heq hle
              go_simp
              exact hK _ _ (grown_refl _ _) rfl
            · obtain rfl := Option.some.inj ho
              have t3 : act.tmps[3]?.getD undef = .pointer (some ⟨w.heap.size, 0, none⟩) := hoff 3 (by kernel_rfl)
              have hgd : act.tmps[36]?.getD undef = .bool true := hdep 13 _ (by kernel_rfl) rfl
              have hgd' := getD_bool hgd
              clear hdep hoff hg hstill HW HK HR heq hle
              go_simp
              exact hK _ _ (grown_refl _ _) rfl
            · obtain rfl := Option.some.inj ho
              have e14 : act.tmps[37]?.getD undef = .agg #[.int .i64 l1.b, .int .i64 l1.n, .int .i64 l1.e, .int .i64 l1.d, .int .i64 l1.x] := hdep 14 _ (by kernel_rfl) rfl
              have e15 : act.tmps[38]?.getD undef = .agg #[.int .i64 l0.b, .int .i64 l0.n, .int .i64 l0.e, .int .i64 l0.d, .int .i64 l0.x] := hdep 15 _ (by kernel_rfl) rfl
              have hgd : act.tmps[36]?.getD undef = .bool true := hdep 13 _ (by kernel_rfl) rfl
              have hgd' := getD_bool hgd
              clear hdep hoff hg hstill HW HR heq hle
              go_simp
              refine Calls.mono (Hid.out HK) ?_
              rintro e w' ⟨rfl, hb⟩
              exact hK _ _ (grown_of_below hb _) rfl
            · obtain rfl := Option.some.inj ho
              have e13 : act.tmps[36]?.getD undef = .bool true := hdep 13 _ (by kernel_rfl) rfl
              have e16 : act.tmps[39]?.getD undef = .bool s := hdep 16 _ (by kernel_rfl) rfl
              have hgd : act.tmps[34]?.getD undef = .bool true := hdep 11 _ (by kernel_rfl) rfl
              have hgd' := getD_bool hgd
              clear hdep hoff hg hstill HW HK HR heq hle
              go_simp
              exact hK _ _ (grown_refl _ _) rfl
            · obtain rfl := Option.some.inj ho
              have t3 : act.tmps[3]?.getD undef = .pointer (some ⟨w.heap.size, 0, none⟩) := hoff 3 (by kernel_rfl)
              have hgd : act.tmps[34]?.getD undef = .bool true := hdep 11 _ (by kernel_rfl) rfl
              have hgd' := getD_bool hgd
              clear hdep hoff hg hstill HW HK HR heq hle
              go_simp
              exact hK _ _ (grown_refl _ _) rfl
            · obtain rfl := Option.some.inj ho
              have t4 : act.tmps[4]?.getD undef = .pointer (some ⟨w.heap.size + 1, 0, none⟩) := hoff 4 (by kernel_rfl)
              have hgd : act.tmps[34]?.getD undef = .bool true := hdep 11 _ (by kernel_rfl) rfl
              have hgd' := getD_bool hgd
              clear hdep hoff hg hstill HW HK HR heq hle
              go_simp
              exact hK _ _ (grown_refl _ _) rfl
            · obtain rfl := Option.some.inj ho
              have e18 : act.tmps[41]?.getD undef = .agg #[.int .i64 l0.b, .int .i64 l0.n, .int .i64 l0.e, .int .i64 l0.d, .int .i64 l0.x] := hdep 18 _ (by kernel_rfl) rfl
              have e19 : act.tmps[42]?.getD undef = .agg #[.int .i64 l1.b, .int .i64 l1.n, .int .i64 l1.e, .int .i64 l1.d, .int .i64 l1.x] := hdep 19 _ (by kernel_rfl) rfl
              have hgd : act.tmps[34]?.getD undef = .bool true := hdep 11 _ (by kernel_rfl) rfl
              have hgd' := getD_bool hgd
              clear hdep hoff hg hstill HW HK HR hle
              have heq1 := heq W
              go_simp
              exact hK _ _ (grown_refl _ _) rfl
            · obtain rfl := Option.some.inj ho
              have e17 : act.tmps[40]?.getD undef = .bool s := hdep 17 _ (by kernel_rfl) rfl
              have e20 : act.tmps[43]?.getD undef = .bool s := hdep 20 _ (by kernel_rfl) rfl
              have hgd : act.tmps[34]?.getD undef = .bool true := hdep 11 _ (by kernel_rfl) rfl
              have hgd' := getD_bool hgd
              clear hdep hoff hg hstill HW HK HR heq hle
              go_simp
              exact hK _ _ (grown_refl _ _) (by simp [lo1F, own1])
            · obtain rfl := Option.some.inj ho
              have e11 : act.tmps[34]?.getD undef = .bool true := hdep 11 _ (by kernel_rfl) rfl
              have e21 : act.tmps[44]?.getD undef = .bool true := hdep 21 _ (by kernel_rfl) rfl
              clear hdep hoff hg hstill HW HK HR heq hle
              go_simp
              exact hK _ _ (grown_refl _ _) rfl
            · obtain rfl := Option.some.inj ho
              have e22 : act.tmps[45]?.getD undef = .bool true := hdep 22 _ (by kernel_rfl) rfl
              clear hdep hoff hg hstill HW HK HR heq hle
              go_simp
              exact hK _ _ (grown_refl _ _) rfl
            · obtain rfl := Option.some.inj ho
              have t7 : act.tmps[7]?.getD undef = .bool true := hoff 7 (by kernel_rfl)
              have hgd : act.tmps[46]?.getD undef = .bool true := hdep 23 _ (by kernel_rfl) rfl
              have hgd' := getD_bool hgd
              clear hdep hoff hg hstill HW HK HR heq hle
              go_simp
              exact hK _ _ (grown_refl _ _) rfl
            · obtain rfl := Option.some.inj ho
              have e24 : act.tmps[47]?.getD undef = .bool true := hdep 24 _ (by kernel_rfl) rfl
              have hgd : act.tmps[46]?.getD undef = .bool true := hdep 23 _ (by kernel_rfl) rfl
              have hgd' := getD_bool hgd
              clear hdep hoff hg hstill HW HK HR heq hle
              go_simp
              exact hK _ _ (grown_refl _ _) rfl
            · obtain rfl := Option.some.inj ho
              have e25 : act.tmps[48]?.getD undef = .bool false := hdep 25 _ (by kernel_rfl) rfl
              have hgd : act.tmps[46]?.getD undef = .bool true := hdep 23 _ (by kernel_rfl) rfl
              have hgd' := getD_bool hgd
              clear hdep hoff hg hstill HW HK HR heq hle
              go_simp
              exact hK _ _ (grown_refl _ _) rfl
            · obtain rfl := Option.some.inj ho
              have t4 : act.tmps[4]?.getD undef = .pointer (some ⟨w.heap.size + 1, 0, none⟩) := hoff 4 (by kernel_rfl)
              have hgd : act.tmps[49]?.getD undef = .bool false := hdep 26 _ (by kernel_rfl) rfl
              have hgd' := getD_bool hgd
              clear hdep hoff hg hstill HW HK HR heq hle
              go_simp
              exact hK _ _ (grown_refl _ _) rfl
            · obtain rfl := Option.some.inj ho
              have e27 : act.tmps[50]?.getD undef = .agg #[.int .i64 l1.b, .int .i64 l1.n, .int .i64 l1.e, .int .i64 l1.d, .int .i64 l1.x] := hdep 27 _ (by kernel_rfl) rfl
              have hgd : act.tmps[49]?.getD undef = .bool false := hdep 26 _ (by kernel_rfl) rfl
              have hgd' := getD_bool hgd
              clear hdep hoff hg hstill HW HK heq hle
              go_simp
              refine Calls.mono (Hid.out HR) ?_
              rintro e w' ⟨rfl, hb⟩
              exact hK _ _ (grown_of_below hb _) rfl
            · obtain rfl := Option.some.inj ho
              have e28 : act.tmps[51]?.getD undef = .bool false := hdep 28 _ (by kernel_rfl) rfl
              have hgd : act.tmps[49]?.getD undef = .bool false := hdep 26 _ (by kernel_rfl) rfl
              have hgd' := getD_bool hgd
              clear hdep hoff hg hstill HW HK HR heq hle
              go_simp
              exact hK _ _ (grown_refl _ _) rfl
            · obtain rfl := Option.some.inj ho
              have e26 : act.tmps[49]?.getD undef = .bool false := hdep 26 _ (by kernel_rfl) rfl
              have e29 : act.tmps[52]?.getD undef = .bool true := hdep 29 _ (by kernel_rfl) rfl
              have hgd : act.tmps[46]?.getD undef = .bool true := hdep 23 _ (by kernel_rfl) rfl
              have hgd' := getD_bool hgd
              clear hdep hoff hg hstill HW HK HR heq hle
              go_simp
              exact hK _ _ (grown_refl _ _) rfl
            · obtain rfl := Option.some.inj ho
              have e30 : act.tmps[53]?.getD undef = .bool true := hdep 30 _ (by kernel_rfl) rfl
              have hgd : act.tmps[46]?.getD undef = .bool true := hdep 23 _ (by kernel_rfl) rfl
              have hgd' := getD_bool hgd
              clear hdep hoff hg hstill HW HK HR heq hle
              go_simp
              exact hK _ _ (grown_refl _ _) rfl
            · obtain rfl := Option.some.inj ho
              have hgd : act.tmps[54]?.getD undef = .bool true := hdep 31 _ (by kernel_rfl) rfl
              have hgd' := getD_bool hgd
              clear hdep hoff hg hstill HW HK HR heq hle
              go_simp
              exact hK _ _ (grown_refl _ _) trivial
            · obtain rfl := Option.some.inj ho
              have hgd : act.tmps[54]?.getD undef = .bool true := hdep 31 _ (by kernel_rfl) rfl
              have hgd' := getD_bool hgd
              clear hdep hoff hg hstill HW HK HR heq hle
              go_simp
              exact hK _ _ (grown_refl _ _) trivial
            · obtain rfl := Option.some.inj ho
              have hgd : act.tmps[54]?.getD undef = .bool true := hdep 31 _ (by kernel_rfl) rfl
              have hgd' := getD_bool hgd
              clear hdep hoff hg hstill HW HK HR heq hle
              go_simp
              exact hK _ _ (grown_refl _ _) trivial
            · obtain rfl := Option.some.inj ho
              have e31 : act.tmps[54]?.getD undef = .bool true := hdep 31 _ (by kernel_rfl) rfl
              have hgd : act.tmps[46]?.getD undef = .bool true := hdep 23 _ (by kernel_rfl) rfl
              have hgd' := getD_bool hgd
              clear hdep hoff hg hstill HW HK HR heq hle
              go_simp
              exact hK _ _ (grown_refl _ _) rfl
            · obtain rfl := Option.some.inj ho
              have e23 : act.tmps[46]?.getD undef = .bool true := hdep 23 _ (by kernel_rfl) rfl
              have e35 : act.tmps[58]?.getD undef = .bool true := hdep 35 _ (by kernel_rfl) rfl
              clear hdep hoff hg hstill HW HK HR heq hle
              go_simp
              exact hK _ _ (grown_refl _ _) rfl
            · obtain rfl := Option.some.inj ho
              have e36 : act.tmps[59]?.getD undef = .bool true := hdep 36 _ (by kernel_rfl) rfl
              clear hdep hoff hg hstill HW HK HR heq hle
              go_simp
              exact hK _ _ (grown_refl _ _) rfl
            · exact absurd ho (by simp)
          case fin =>
            intro V W2 hg hF
            have v6 : V (some 6) = .bool true := hF 37 _ rfl
            have HB : Hid (Below w.heap.size w W2) := (HO3.out.more (below_of_grown hg)).bel
            clear hF hg HO3 HP HQ
            simp only [fillA, Act.put, List.setIfInBounds_toArray, List.set_cons_zero, List.set_cons_succ, v6]
            generalize V (some 23) = y23
            generalize V (some 24) = y24
            generalize V (some 25) = y25
            generalize V (some 26) = y26
            generalize V (some 27) = y27
            generalize V (some 28) = y28
            generalize V (some 29) = y29
            generalize V (some 30) = y30
            generalize V (some 31) = y31
            generalize V (some 32) = y32
            generalize V (some 33) = y33
            generalize V (some 34) = y34
            generalize V (some 35) = y35
            generalize V (some 36) = y36
            generalize V (some 37) = y37
            generalize V (some 38) = y38
            generalize V (some 39) = y39
            generalize V (some 40) = y40
            generalize V (some 41) = y41
            generalize V (some 42) = y42
            generalize V (some 43) = y43
            generalize V (some 44) = y44
            generalize V (some 45) = y45
            generalize V (some 46) = y46
            generalize V (some 47) = y47
            generalize V (some 48) = y48
            generalize V (some 49) = y49
            generalize V (some 50) = y50
            generalize V (some 51) = y51
            generalize V (some 52) = y52
            generalize V (some 53) = y53
            generalize V (some 54) = y54
            generalize V (some 55) = y55
            generalize V (some 56) = y56
            generalize V (some 57) = y57
            generalize V (some 58) = y58
            generalize V (some 59) = y59
            clear v6
            go_wp2_with fail
            go_ret
            exact ⟨rfl, HB.out⟩
        | true =>
          go_wp2_with fail
          refine facts_region none 99 (lo2F l0 l1 l2 w.heap.size s) (by kernel_rfl) (by kernel_rfl) (lo2F_stab l0 l1 l2 w.heap.size s) ?step ?fin
          case step =>
            intro i' o' ho act W hg hstill hoff hdep K hK
            have hb := below_of_grown hg
            have hO := HO3.out.more hb
            have xa0 : W.cell? ⟨w.heap.size, 0, none⟩ = some (.int .i64 l0.b) := hO.a.cell 0
            have xa1 : W.cell? ⟨w.heap.size, 1, none⟩ = some (.int .i64 l0.n) := hO.a.cell 1
            have xa2 : W.cell? ⟨w.heap.size, 2, none⟩ = some (.int .i64 l0.e) := hO.a.cell 2
            have xa3 : W.cell? ⟨w.heap.size, 3, none⟩ = some (.int .i64 l0.d) := hO.a.cell 3
            have xa4 : W.cell? ⟨w.heap.size, 4, none⟩ = some (.int .i64 l0.x) := hO.a.cell 4
            have xb0 : W.cell? ⟨w.heap.size + 1, 0, none⟩ = some (.int .i64 l1.b) := hO.b.cell 0
            have xb1 : W.cell? ⟨w.heap.size + 1, 1, none⟩ = some (.int .i64 l1.n) := hO.b.cell 1
            have xb2 : W.cell? ⟨w.heap.size + 1, 2, none⟩ = some (.int .i64 l1.e) := hO.b.cell 2
            have xb3 : W.cell? ⟨w.heap.size + 1, 3, none⟩ = some (.int .i64 l1.d) := hO.b.cell 3
            have xb4 : W.cell? ⟨w.heap.size + 1, 4, none⟩ = some (.int .i64 l1.x) := hO.b.cell 4
            have xc0 : W.cell? ⟨w.heap.size + 1 + 1, 0, none⟩ = some (.int .i64 l2.b) := hO.c.cell 0
            have xc1 : W.cell? ⟨w.heap.size + 1 + 1, 1, none⟩ = some (.int .i64 l2.n) := hO.c.cell 1
            have xc2 : W.cell? ⟨w.heap.size + 1 + 1, 2, none⟩ = some (.int .i64 l2.e) := hO.c.cell 2
            have xc3 : W.cell? ⟨w.heap.size + 1 + 1, 3, none⟩ = some (.int .i64 l2.d) := hO.c.cell 3
            have xc4 : W.cell? ⟨w.heap.size + 1 + 1, 4, none⟩ = some (.int .i64 l2.x) := hO.c.cell 4
            have HW : True := trivial
            have HK : Hid (Calls Tryd.prog 19 #[.agg #[.int .i64 l1.b, .int .i64 l1.n, .int .i64 l1.e, .int .i64 l1.d, .int .i64 l1.x], .agg #[.int .i64 l0.b, .int .i64 l0.n, .int .i64 l0.e, .int .i64 l0.d, .int .i64 l0.x]] W fun e w' => e = .returned (.bool s) ∧ Below W.heap.size W w') := by have := within_any l1 l0 W; rw [inL_same HP.out, HS.out] at this; exact this
            have HR : Hid (Calls Tryd.prog 17 #[.agg #[.int .i64 l1.b, .int .i64 l1.n, .int .i64 l1.e, .int .i64 l1.d, .int .i64 l1.x]] W fun e w' => e = .returned (.bool true) ∧ Below W.heap.size W w') := by have := okl_any l1 W; rw [HKK.out] at this; exact this
            have heq : ∀ U : World, (binOp .eql 26 (.agg #[.int .i64 l0.b, .int .i64 l0.n, .int .i64 l0.e, .int .i64 l0.d, .int .i64 l0.x]) (.agg #[.int .i64 l1.b, .int .i64 l1.n, .int .i64 l1.e, .int .i64 l1.d, .int .i64 l1.x])).run Tryd.prog U = .ok (.bool s) U := fun U => by have := eql_lim l0 l1 U; rw [HS.out] at this; exact this
            have hle : l0.n ≤ 16777216 := inL_nodes HP.out HKK.out
            clear hb hO HO3 HP HQ HS HKK
            rcases i' with _|_|_|_|_|_|_|_|_|_|_|_|_|_|_|_|_|_|_|_|_|_|_|_|_|_|_|_|_|_|_|_|_|_|_|_|_|_|i'
            · obtain rfl := Option.some.inj ho
              have t7 : act.tmps[7]?.getD undef = .bool true := hoff 7 (by kernel_rfl)
              clear hdep hoff hg hstill HW HK HR heq hle
              go_simp
              exact hK _ _ (grown_refl _ _) rfl
            · obtain rfl := Option.some.inj ho
              have e0 : act.tmps[23]?.getD undef = .bool true := hdep 0 _ (by kernel_rfl) rfl
              clear hdep hoff hg hstill HW HK HR heq hle
              go_simp
              exact hK _ _ (grown_refl _ _) rfl
            · obtain rfl := Option.some.inj ho
              have e1 : act.tmps[24]?.getD undef = .bool false := hdep 1 _ (by kernel_rfl) rfl
              clear hdep hoff hg hstill HW HK HR heq hle
              go_simp
              exact hK _ _ (grown_refl _ _) rfl
            · obtain rfl := Option.some.inj ho
              have t8 : act.tmps[8]?.getD undef = .bool false := hoff 8 (by kernel_rfl)
              have hgd : act.tmps[25]?.getD undef = .bool false := hdep 2 _ (by kernel_rfl) rfl
              have hgd' := getD_bool hgd
              clear hdep hoff hg hstill HW HK HR heq hle
              go_simp
              exact hK _ _ (grown_refl _ _) rfl
            · obtain rfl := Option.some.inj ho
              have e3 : act.tmps[26]?.getD undef = .bool false := hdep 3 _ (by kernel_rfl) rfl
              have hgd : act.tmps[25]?.getD undef = .bool false := hdep 2 _ (by kernel_rfl) rfl
              have hgd' := getD_bool hgd
              clear hdep hoff hg hstill HW HK HR heq hle
              go_simp
              exact hK _ _ (grown_refl _ _) rfl
            · obtain rfl := Option.some.inj ho
              have e2 : act.tmps[25]?.getD undef = .bool false := hdep 2 _ (by kernel_rfl) rfl
              have e4 : act.tmps[27]?.getD undef = .bool true := hdep 4 _ (by kernel_rfl) rfl
              clear hdep hoff hg hstill HW HK HR heq hle
              go_simp
              exact hK _ _ (grown_refl _ _) rfl
            · obtain rfl := Option.some.inj ho
              have e5 : act.tmps[28]?.getD undef = .bool true := hdep 5 _ (by kernel_rfl) rfl
              clear hdep hoff hg hstill HW HK HR heq hle
              go_simp
              exact hK _ _ (grown_refl _ _) rfl
            · obtain rfl := Option.some.inj ho
              have hgd : act.tmps[29]?.getD undef = .bool true := hdep 6 _ (by kernel_rfl) rfl
              have hgd' := getD_bool hgd
              clear hdep hoff hg hstill HW HK HR heq hle
              go_simp
              exact hK _ _ (grown_refl _ _) trivial
            · obtain rfl := Option.some.inj ho
              have hgd : act.tmps[29]?.getD undef = .bool true := hdep 6 _ (by kernel_rfl) rfl
              have hgd' := getD_bool hgd
              clear hdep hoff hg hstill HW HK HR heq hle
              go_simp
              exact hK _ _ (grown_refl _ _) trivial
            · obtain rfl := Option.some.inj ho
              have hgd : act.tmps[29]?.getD undef = .bool true := hdep 6 _ (by kernel_rfl) rfl
              have hgd' := getD_bool hgd
              clear hdep hoff hg hstill HW HK HR heq hle
              go_simp
              exact hK _ _ (grown_refl _ _) trivial
            · obtain rfl := Option.some.inj ho
              have e6 : act.tmps[29]?.getD undef = .bool true := hdep 6 _ (by kernel_rfl) rfl
              clear hdep hoff hg hstill HW HK HR heq hle
              go_simp
              exact hK _ _ (grown_refl _ _) rfl
            · obtain rfl := Option.some.inj ho
              have e10 : act.tmps[33]?.getD undef = .bool true := hdep 10 _ (by kernel_rfl) rfl
              clear hdep hoff hg hstill HW HK HR heq hle
              go_simp
              exact hK _ _ (grown_refl _ _) rfl
            · obtain rfl := Option.some.inj ho
              have t7 : act.tmps[7]?.getD undef = .bool true := hoff 7 (by kernel_rfl)
              have hgd : act.tmps[34]?.getD undef = .bool true := hdep 11 _ (by kernel_rfl) rfl
              have hgd' := getD_bool hgd
              clear hdep hoff hg hstill HW HK HR heq hle
              go_simp
              exact hK _ _ (grown_refl _ _) rfl
            · obtain rfl := Option.some.inj ho
              have e12 : act.tmps[35]?.getD undef = .bool true := hdep 12 _ (by kernel_rfl) rfl
              have hgd : act.tmps[34]?.getD undef = .bool true := hdep 11 _ (by kernel_rfl) rfl
              have hgd' := getD_bool hgd
              clear hdep hoff hg hstill HW HK HR heq hle
              go_simp
              exact hK _ _ (grown_refl _ _) rfl
            · obtain rfl := Option.some.inj ho
              have t4 : act.tmps[4]?.getD undef = .pointer (some ⟨w.heap.size + 1, 0, none⟩) := hoff 4 (by kernel_rfl)
              have hgd : act.tmps[36]?.getD undef = .bool true := hdep 13 _ (by kernel_rfl) rfl
              have hgd' := getD_bool hgd
              clear hdep hoff hg hstill HW HK HR heq hle
              go_simp
              exact hK _ _ (grown_refl _ _) rfl
            · obtain rfl := Option.some.inj ho
              have t3 : act.tmps[3]?.getD undef = .pointer (some ⟨w.heap.size, 0, none⟩) := hoff 3 (by kernel_rfl)
              have hgd : act.tmps[36]?.getD undef = .bool true := hdep 13 _ (by kernel_rfl) rfl
              have hgd' := getD_bool hgd
              clear hdep hoff hg hstill HW HK HR heq hle
              go_simp
              exact hK _ _ (grown_refl _ _) rfl
            · obtain rfl := Option.some.inj ho
              have e14 : act.tmps[37]?.getD undef = .agg #[.int .i64 l1.b, .int .i64 l1.n, .int .i64 l1.e, .int .i64 l1.d, .int .i64 l1.x] := hdep 14 _ (by kernel_rfl) rfl
              have e15 : act.tmps[38]?.getD undef = .agg #[.int .i64 l0.b, .int .i64 l0.n, .int .i64 l0.e, .int .i64 l0.d, .int .i64 l0.x] := hdep 15 _ (by kernel_rfl) rfl
              have hgd : act.tmps[36]?.getD undef = .bool true := hdep 13 _ (by kernel_rfl) rfl
              have hgd' := getD_bool hgd
              clear hdep hoff hg hstill HW HR heq hle
              go_simp
              refine Calls.mono (Hid.out HK) ?_
              rintro e w' ⟨rfl, hb⟩
              exact hK _ _ (grown_of_below hb _) rfl
            · obtain rfl := Option.some.inj ho
              have e13 : act.tmps[36]?.getD undef = .bool true := hdep 13 _ (by kernel_rfl) rfl
              have e16 : act.tmps[39]?.getD undef = .bool s := hdep 16 _ (by kernel_rfl) rfl
              have hgd : act.tmps[34]?.getD undef = .bool true := hdep 11 _ (by kernel_rfl) rfl
              have hgd' := getD_bool hgd
              clear hdep hoff hg hstill HW HK HR heq hle
              go_simp
              exact hK _ _ (grown_refl _ _) rfl
            · obtain rfl := Option.some.inj ho
              have t3 : act.tmps[3]?.getD undef = .pointer (some ⟨w.heap.size, 0, none⟩) := hoff 3 (by kernel_rfl)
              have hgd : act.tmps[34]?.getD undef = .bool true := hdep 11 _ (by kernel_rfl) rfl
              have hgd' := getD_bool hgd
              clear hdep hoff hg hstill HW HK HR heq hle
              go_simp
              exact hK _ _ (grown_refl _ _) rfl
            · obtain rfl := Option.some.inj ho
              have t4 : act.tmps[4]?.getD undef = .pointer (some ⟨w.heap.size + 1, 0, none⟩) := hoff 4 (by kernel_rfl)
              have hgd : act.tmps[34]?.getD undef = .bool true := hdep 11 _ (by kernel_rfl) rfl
              have hgd' := getD_bool hgd
              clear hdep hoff hg hstill HW HK HR heq hle
              go_simp
              exact hK _ _ (grown_refl _ _) rfl
            · obtain rfl := Option.some.inj ho
              have e18 : act.tmps[41]?.getD undef = .agg #[.int .i64 l0.b, .int .i64 l0.n, .int .i64 l0.e, .int .i64 l0.d, .int .i64 l0.x] := hdep 18 _ (by kernel_rfl) rfl
              have e19 : act.tmps[42]?.getD undef = .agg #[.int .i64 l1.b, .int .i64 l1.n, .int .i64 l1.e, .int .i64 l1.d, .int .i64 l1.x] := hdep 19 _ (by kernel_rfl) rfl
              have hgd : act.tmps[34]?.getD undef = .bool true := hdep 11 _ (by kernel_rfl) rfl
              have hgd' := getD_bool hgd
              clear hdep hoff hg hstill HW HK HR hle
              have heq1 := heq W
              go_simp
              exact hK _ _ (grown_refl _ _) rfl
            · obtain rfl := Option.some.inj ho
              have e17 : act.tmps[40]?.getD undef = .bool s := hdep 17 _ (by kernel_rfl) rfl
              have e20 : act.tmps[43]?.getD undef = .bool s := hdep 20 _ (by kernel_rfl) rfl
              have hgd : act.tmps[34]?.getD undef = .bool true := hdep 11 _ (by kernel_rfl) rfl
              have hgd' := getD_bool hgd
              clear hdep hoff hg hstill HW HK HR heq hle
              go_simp
              exact hK _ _ (grown_refl _ _) (by simp [lo2F, own1])
            · obtain rfl := Option.some.inj ho
              have e11 : act.tmps[34]?.getD undef = .bool true := hdep 11 _ (by kernel_rfl) rfl
              have e21 : act.tmps[44]?.getD undef = .bool true := hdep 21 _ (by kernel_rfl) rfl
              clear hdep hoff hg hstill HW HK HR heq hle
              go_simp
              exact hK _ _ (grown_refl _ _) rfl
            · obtain rfl := Option.some.inj ho
              have e22 : act.tmps[45]?.getD undef = .bool true := hdep 22 _ (by kernel_rfl) rfl
              clear hdep hoff hg hstill HW HK HR heq hle
              go_simp
              exact hK _ _ (grown_refl _ _) rfl
            · obtain rfl := Option.some.inj ho
              have t7 : act.tmps[7]?.getD undef = .bool true := hoff 7 (by kernel_rfl)
              have hgd : act.tmps[46]?.getD undef = .bool true := hdep 23 _ (by kernel_rfl) rfl
              have hgd' := getD_bool hgd
              clear hdep hoff hg hstill HW HK HR heq hle
              go_simp
              exact hK _ _ (grown_refl _ _) rfl
            · obtain rfl := Option.some.inj ho
              have e24 : act.tmps[47]?.getD undef = .bool true := hdep 24 _ (by kernel_rfl) rfl
              have hgd : act.tmps[46]?.getD undef = .bool true := hdep 23 _ (by kernel_rfl) rfl
              have hgd' := getD_bool hgd
              clear hdep hoff hg hstill HW HK HR heq hle
              go_simp
              exact hK _ _ (grown_refl _ _) rfl
            · obtain rfl := Option.some.inj ho
              have e25 : act.tmps[48]?.getD undef = .bool false := hdep 25 _ (by kernel_rfl) rfl
              have hgd : act.tmps[46]?.getD undef = .bool true := hdep 23 _ (by kernel_rfl) rfl
              have hgd' := getD_bool hgd
              clear hdep hoff hg hstill HW HK HR heq hle
              go_simp
              exact hK _ _ (grown_refl _ _) rfl
            · obtain rfl := Option.some.inj ho
              have t4 : act.tmps[4]?.getD undef = .pointer (some ⟨w.heap.size + 1, 0, none⟩) := hoff 4 (by kernel_rfl)
              have hgd : act.tmps[49]?.getD undef = .bool false := hdep 26 _ (by kernel_rfl) rfl
              have hgd' := getD_bool hgd
              clear hdep hoff hg hstill HW HK HR heq hle
              go_simp
              exact hK _ _ (grown_refl _ _) rfl
            · obtain rfl := Option.some.inj ho
              have e27 : act.tmps[50]?.getD undef = .agg #[.int .i64 l1.b, .int .i64 l1.n, .int .i64 l1.e, .int .i64 l1.d, .int .i64 l1.x] := hdep 27 _ (by kernel_rfl) rfl
              have hgd : act.tmps[49]?.getD undef = .bool false := hdep 26 _ (by kernel_rfl) rfl
              have hgd' := getD_bool hgd
              clear hdep hoff hg hstill HW HK heq hle
              go_simp
              refine Calls.mono (Hid.out HR) ?_
              rintro e w' ⟨rfl, hb⟩
              exact hK _ _ (grown_of_below hb _) rfl
            · obtain rfl := Option.some.inj ho
              have e28 : act.tmps[51]?.getD undef = .bool true := hdep 28 _ (by kernel_rfl) rfl
              have hgd : act.tmps[49]?.getD undef = .bool false := hdep 26 _ (by kernel_rfl) rfl
              have hgd' := getD_bool hgd
              clear hdep hoff hg hstill HW HK HR heq hle
              go_simp
              exact hK _ _ (grown_refl _ _) rfl
            · obtain rfl := Option.some.inj ho
              have e26 : act.tmps[49]?.getD undef = .bool false := hdep 26 _ (by kernel_rfl) rfl
              have e29 : act.tmps[52]?.getD undef = .bool false := hdep 29 _ (by kernel_rfl) rfl
              have hgd : act.tmps[46]?.getD undef = .bool true := hdep 23 _ (by kernel_rfl) rfl
              have hgd' := getD_bool hgd
              clear hdep hoff hg hstill HW HK HR heq hle
              go_simp
              exact hK _ _ (grown_refl _ _) rfl
            · obtain rfl := Option.some.inj ho
              have e30 : act.tmps[53]?.getD undef = .bool false := hdep 30 _ (by kernel_rfl) rfl
              have hgd : act.tmps[46]?.getD undef = .bool true := hdep 23 _ (by kernel_rfl) rfl
              have hgd' := getD_bool hgd
              clear hdep hoff hg hstill HW HK HR heq hle
              go_simp
              exact hK _ _ (grown_refl _ _) rfl
            · obtain rfl := Option.some.inj ho
              have t3 : act.tmps[3]?.getD undef = .pointer (some ⟨w.heap.size, 0, none⟩) := hoff 3 (by kernel_rfl)
              have hgd : act.tmps[54]?.getD undef = .bool false := hdep 31 _ (by kernel_rfl) rfl
              have hgd' := getD_bool hgd
              clear hdep hoff hg hstill HW HK HR heq hle
              go_simp
              exact hK _ _ (grown_refl _ _) rfl
            · obtain rfl := Option.some.inj ho
              have e32 : act.tmps[55]?.getD undef = .pointer (some ⟨w.heap.size, 1, none⟩) := hdep 32 _ (by kernel_rfl) rfl
              have hgd : act.tmps[54]?.getD undef = .bool false := hdep 31 _ (by kernel_rfl) rfl
              have hgd' := getD_bool hgd
              clear hdep hoff hg hstill HW HK HR heq hle
              go_simp
              exact hK _ _ (grown_refl _ _) rfl
            · obtain rfl := Option.some.inj ho
              have e33 : act.tmps[56]?.getD undef = .int .i64 l0.n := hdep 33 _ (by kernel_rfl) rfl
              have hgd : act.tmps[54]?.getD undef = .bool false := hdep 31 _ (by kernel_rfl) rfl
              have hgd' := getD_bool hgd
              clear hdep hoff hg hstill HW HK HR heq
              go_simp
              exact hK _ _ (grown_refl _ _) rfl
            · obtain rfl := Option.some.inj ho
              have e31 : act.tmps[54]?.getD undef = .bool false := hdep 31 _ (by kernel_rfl) rfl
              have e34 : act.tmps[57]?.getD undef = .bool true := hdep 34 _ (by kernel_rfl) rfl
              have hgd : act.tmps[46]?.getD undef = .bool true := hdep 23 _ (by kernel_rfl) rfl
              have hgd' := getD_bool hgd
              clear hdep hoff hg hstill HW HK HR heq hle
              go_simp
              exact hK _ _ (grown_refl _ _) rfl
            · obtain rfl := Option.some.inj ho
              have e23 : act.tmps[46]?.getD undef = .bool true := hdep 23 _ (by kernel_rfl) rfl
              have e35 : act.tmps[58]?.getD undef = .bool true := hdep 35 _ (by kernel_rfl) rfl
              clear hdep hoff hg hstill HW HK HR heq hle
              go_simp
              exact hK _ _ (grown_refl _ _) rfl
            · obtain rfl := Option.some.inj ho
              have e36 : act.tmps[59]?.getD undef = .bool true := hdep 36 _ (by kernel_rfl) rfl
              clear hdep hoff hg hstill HW HK HR heq hle
              go_simp
              exact hK _ _ (grown_refl _ _) rfl
            · exact absurd ho (by simp)
          case fin =>
            intro V W2 hg hF
            have v6 : V (some 6) = .bool true := hF 37 _ rfl
            have HB : Hid (Below w.heap.size w W2) := (HO3.out.more (below_of_grown hg)).bel
            clear hF hg HO3 HP HQ
            simp only [fillA, Act.put, List.setIfInBounds_toArray, List.set_cons_zero, List.set_cons_succ, v6]
            generalize V (some 23) = y23
            generalize V (some 24) = y24
            generalize V (some 25) = y25
            generalize V (some 26) = y26
            generalize V (some 27) = y27
            generalize V (some 28) = y28
            generalize V (some 29) = y29
            generalize V (some 30) = y30
            generalize V (some 31) = y31
            generalize V (some 32) = y32
            generalize V (some 33) = y33
            generalize V (some 34) = y34
            generalize V (some 35) = y35
            generalize V (some 36) = y36
            generalize V (some 37) = y37
            generalize V (some 38) = y38
            generalize V (some 39) = y39
            generalize V (some 40) = y40
            generalize V (some 41) = y41
            generalize V (some 42) = y42
            generalize V (some 43) = y43
            generalize V (some 44) = y44
            generalize V (some 45) = y45
            generalize V (some 46) = y46
            generalize V (some 47) = y47
            generalize V (some 48) = y48
            generalize V (some 49) = y49
            generalize V (some 50) = y50
            generalize V (some 51) = y51
            generalize V (some 52) = y52
            generalize V (some 53) = y53
            generalize V (some 54) = y54
            generalize V (some 55) = y55
            generalize V (some 56) = y56
            generalize V (some 57) = y57
            generalize V (some 58) = y58
            generalize V (some 59) = y59
            clear v6
            go_wp2_with fail
            go_ret
            exact ⟨rfl, HB.out⟩
      | true =>
        cases k with
        | false =>
          go_wp2_with fail
          refine facts_region none 99 (lo3F l0 l1 l2 w.heap.size s) (by kernel_rfl) (by kernel_rfl) (lo3F_stab l0 l1 l2 w.heap.size s) ?step ?fin
          case step =>
            intro i' o' ho act W hg hstill hoff hdep K hK
            have hb := below_of_grown hg
            have hO := HO3.out.more hb
            have xa0 : W.cell? ⟨w.heap.size, 0, none⟩ = some (.int .i64 l0.b) := hO.a.cell 0
            have xa1 : W.cell? ⟨w.heap.size, 1, none⟩ = some (.int .i64 l0.n) := hO.a.cell 1
            have xa2 : W.cell? ⟨w.heap.size, 2, none⟩ = some (.int .i64 l0.e) := hO.a.cell 2
            have xa3 : W.cell? ⟨w.heap.size, 3, none⟩ = some (.int .i64 l0.d) := hO.a.cell 3
            have xa4 : W.cell? ⟨w.heap.size, 4, none⟩ = some (.int .i64 l0.x) := hO.a.cell 4
            have xb0 : W.cell? ⟨w.heap.size + 1, 0, none⟩ = some (.int .i64 l1.b) := hO.b.cell 0
            have xb1 : W.cell? ⟨w.heap.size + 1, 1, none⟩ = some (.int .i64 l1.n) := hO.b.cell 1
            have xb2 : W.cell? ⟨w.heap.size + 1, 2, none⟩ = some (.int .i64 l1.e) := hO.b.cell 2
            have xb3 : W.cell? ⟨w.heap.size + 1, 3, none⟩ = some (.int .i64 l1.d) := hO.b.cell 3
            have xb4 : W.cell? ⟨w.heap.size + 1, 4, none⟩ = some (.int .i64 l1.x) := hO.b.cell 4
            have xc0 : W.cell? ⟨w.heap.size + 1 + 1, 0, none⟩ = some (.int .i64 l2.b) := hO.c.cell 0
            have xc1 : W.cell? ⟨w.heap.size + 1 + 1, 1, none⟩ = some (.int .i64 l2.n) := hO.c.cell 1
            have xc2 : W.cell? ⟨w.heap.size + 1 + 1, 2, none⟩ = some (.int .i64 l2.e) := hO.c.cell 2
            have xc3 : W.cell? ⟨w.heap.size + 1 + 1, 3, none⟩ = some (.int .i64 l2.d) := hO.c.cell 3
            have xc4 : W.cell? ⟨w.heap.size + 1 + 1, 4, none⟩ = some (.int .i64 l2.x) := hO.c.cell 4
            have HW : Hid (Calls Tryd.prog 19 #[.agg #[.int .i64 l0.b, .int .i64 l0.n, .int .i64 l0.e, .int .i64 l0.d, .int .i64 l0.x], .agg #[.int .i64 l2.b, .int .i64 l2.n, .int .i64 l2.e, .int .i64 l2.d, .int .i64 l2.x]] W fun e w' => e = .returned (.bool true) ∧ Below W.heap.size W w') := by have := within_any l0 l2 W; rw [inL_trans HP.out HQ.out] at this; exact this
            have HK : Hid (Calls Tryd.prog 19 #[.agg #[.int .i64 l1.b, .int .i64 l1.n, .int .i64 l1.e, .int .i64 l1.d, .int .i64 l1.x], .agg #[.int .i64 l0.b, .int .i64 l0.n, .int .i64 l0.e, .int .i64 l0.d, .int .i64 l0.x]] W fun e w' => e = .returned (.bool s) ∧ Below W.heap.size W w') := by have := within_any l1 l0 W; rw [inL_same HP.out, HS.out] at this; exact this
            have HR : Hid (Calls Tryd.prog 17 #[.agg #[.int .i64 l1.b, .int .i64 l1.n, .int .i64 l1.e, .int .i64 l1.d, .int .i64 l1.x]] W fun e w' => e = .returned (.bool false) ∧ Below W.heap.size W w') := by have := okl_any l1 W; rw [HKK.out] at this; exact this
            have heq : ∀ U : World, (binOp .eql 26 (.agg #[.int .i64 l0.b, .int .i64 l0.n, .int .i64 l0.e, .int .i64 l0.d, .int .i64 l0.x]) (.agg #[.int .i64 l1.b, .int .i64 l1.n, .int .i64 l1.e, .int .i64 l1.d, .int .i64 l1.x])).run Tryd.prog U = .ok (.bool s) U := fun U => by have := eql_lim l0 l1 U; rw [HS.out] at this; exact this
            have hle : True := trivial
            clear hb hO HO3 HP HQ HS HKK
            rcases i' with _|_|_|_|_|_|_|_|_|_|_|_|_|_|_|_|_|_|_|_|_|_|_|_|_|_|_|_|_|_|_|_|_|_|_|_|_|_|i'
            · obtain rfl := Option.some.inj ho
              have t7 : act.tmps[7]?.getD undef = .bool true := hoff 7 (by kernel_rfl)
              clear hdep hoff hg hstill HW HK HR heq hle
              go_simp
              exact hK _ _ (grown_refl _ _) rfl
            · obtain rfl := Option.some.inj ho
              have e0 : act.tmps[23]?.getD undef = .bool true := hdep 0 _ (by kernel_rfl) rfl
              clear hdep hoff hg hstill HW HK HR heq hle
              go_simp
              exact hK _ _ (grown_refl _ _) rfl
            · obtain rfl := Option.some.inj ho
              have e1 : act.tmps[24]?.getD undef = .bool false := hdep 1 _ (by kernel_rfl) rfl
              clear hdep hoff hg hstill HW HK HR heq hle
              go_simp
              exact hK _ _ (grown_refl _ _) rfl
            · obtain rfl := Option.some.inj ho
              have t8 : act.tmps[8]?.getD undef = .bool true := hoff 8 (by kernel_rfl)
              have hgd : act.tmps[25]?.getD undef = .bool false := hdep 2 _ (by kernel_rfl) rfl
              have hgd' := getD_bool hgd
              clear hdep hoff hg hstill HW HK HR heq hle
              go_simp
              exact hK _ _ (grown_refl _ _) rfl
            · obtain rfl := Option.some.inj ho
              have e3 : act.tmps[26]?.getD undef = .bool true := hdep 3 _ (by kernel_rfl) rfl
              have hgd : act.tmps[25]?.getD undef = .bool false := hdep 2 _ (by kernel_rfl) rfl
              have hgd' := getD_bool hgd
              clear hdep hoff hg hstill HW HK HR heq hle
              go_simp
              exact hK _ _ (grown_refl _ _) rfl
            · obtain rfl := Option.some.inj ho
              have e2 : act.tmps[25]?.getD undef = .bool false := hdep 2 _ (by kernel_rfl) rfl
              have e4 : act.tmps[27]?.getD undef = .bool false := hdep 4 _ (by kernel_rfl) rfl
              clear hdep hoff hg hstill HW HK HR heq hle
              go_simp
              exact hK _ _ (grown_refl _ _) rfl
            · obtain rfl := Option.some.inj ho
              have e5 : act.tmps[28]?.getD undef = .bool false := hdep 5 _ (by kernel_rfl) rfl
              clear hdep hoff hg hstill HW HK HR heq hle
              go_simp
              exact hK _ _ (grown_refl _ _) rfl
            · obtain rfl := Option.some.inj ho
              have t3 : act.tmps[3]?.getD undef = .pointer (some ⟨w.heap.size, 0, none⟩) := hoff 3 (by kernel_rfl)
              have hgd : act.tmps[29]?.getD undef = .bool false := hdep 6 _ (by kernel_rfl) rfl
              have hgd' := getD_bool hgd
              clear hdep hoff hg hstill HW HK HR heq hle
              go_simp
              exact hK _ _ (grown_refl _ _) rfl
            · obtain rfl := Option.some.inj ho
              have t5 : act.tmps[5]?.getD undef = .pointer (some ⟨w.heap.size + 1 + 1, 0, none⟩) := hoff 5 (by kernel_rfl)
              have hgd : act.tmps[29]?.getD undef = .bool false := hdep 6 _ (by kernel_rfl) rfl
              have hgd' := getD_bool hgd
              clear hdep hoff hg hstill HW HK HR heq hle
              go_simp
              exact hK _ _ (grown_refl _ _) rfl
            · obtain rfl := Option.some.inj ho
              have e7 : act.tmps[30]?.getD undef = .agg #[.int .i64 l0.b, .int .i64 l0.n, .int .i64 l0.e, .int .i64 l0.d, .int .i64 l0.x] := hdep 7 _ (by kernel_rfl) rfl
              have e8 : act.tmps[31]?.getD undef = .agg #[.int .i64 l2.b, .int .i64 l2.n, .int .i64 l2.e, .int .i64 l2.d, .int .i64 l2.x] := hdep 8 _ (by kernel_rfl) rfl
              have hgd : act.tmps[29]?.getD undef = .bool false := hdep 6 _ (by kernel_rfl) rfl
              have hgd' := getD_bool hgd
              clear hdep hoff hg hstill HK HR heq hle
              go_simp
              refine Calls.mono (Hid.out HW) ?_
              rintro e w' ⟨rfl, hb⟩
              exact hK _ _ (grown_of_below hb _) rfl
            · obtain rfl := Option.some.inj ho
              have e6 : act.tmps[29]?.getD undef = .bool false := hdep 6 _ (by kernel_rfl) rfl
              have e9 : act.tmps[32]?.getD undef = .bool true := hdep 9 _ (by kernel_rfl) rfl
              clear hdep hoff hg hstill HW HK HR heq hle
              go_simp
              exact hK _ _ (grown_refl _ _) rfl
            · obtain rfl := Option.some.inj ho
              have e10 : act.tmps[33]?.getD undef = .bool true := hdep 10 _ (by kernel_rfl) rfl
              clear hdep hoff hg hstill HW HK HR heq hle
              go_simp
              exact hK _ _ (grown_refl _ _) rfl
            · obtain rfl := Option.some.inj ho
              have t7 : act.tmps[7]?.getD undef = .bool true := hoff 7 (by kernel_rfl)
              have hgd : act.tmps[34]?.getD undef = .bool true := hdep 11 _ (by kernel_rfl) rfl
              have hgd' := getD_bool hgd
              clear hdep hoff hg hstill HW HK HR heq hle
              go_simp
              exact hK _ _ (grown_refl _ _) rfl
            · obtain rfl := Option.some.inj ho
              have e12 : act.tmps[35]?.getD undef = .bool true := hdep 12 _ (by kernel_rfl) rfl
              have hgd : act.tmps[34]?.getD undef = .bool true := hdep 11 _ (by kernel_rfl) rfl
              have hgd' := getD_bool hgd
              clear hdep hoff hg hstill HW HK HR heq hle
              go_simp
              exact hK _ _ (grown_refl _ _) rfl
            · obtain rfl := Option.some.inj ho
              have t4 : act.tmps[4]?.getD undef = .pointer (some ⟨w.heap.size + 1, 0, none⟩) := hoff 4 (by kernel_rfl)
              have hgd : act.tmps[36]?.getD undef = .bool true := hdep 13 _ (by kernel_rfl) rfl
              have hgd' := getD_bool hgd
              clear hdep hoff hg hstill HW HK HR heq hle
              go_simp
              exact hK _ _ (grown_refl _ _) rfl
            · obtain rfl := Option.some.inj ho
              have t3 : act.tmps[3]?.getD undef = .pointer (some ⟨w.heap.size, 0, none⟩) := hoff 3 (by kernel_rfl)
              have hgd : act.tmps[36]?.getD undef = .bool true := hdep 13 _ (by kernel_rfl) rfl
              have hgd' := getD_bool hgd
              clear hdep hoff hg hstill HW HK HR heq hle
              go_simp
              exact hK _ _ (grown_refl _ _) rfl
            · obtain rfl := Option.some.inj ho
              have e14 : act.tmps[37]?.getD undef = .agg #[.int .i64 l1.b, .int .i64 l1.n, .int .i64 l1.e, .int .i64 l1.d, .int .i64 l1.x] := hdep 14 _ (by kernel_rfl) rfl
              have e15 : act.tmps[38]?.getD undef = .agg #[.int .i64 l0.b, .int .i64 l0.n, .int .i64 l0.e, .int .i64 l0.d, .int .i64 l0.x] := hdep 15 _ (by kernel_rfl) rfl
              have hgd : act.tmps[36]?.getD undef = .bool true := hdep 13 _ (by kernel_rfl) rfl
              have hgd' := getD_bool hgd
              clear hdep hoff hg hstill HW HR heq hle
              go_simp
              refine Calls.mono (Hid.out HK) ?_
              rintro e w' ⟨rfl, hb⟩
              exact hK _ _ (grown_of_below hb _) rfl
            · obtain rfl := Option.some.inj ho
              have e13 : act.tmps[36]?.getD undef = .bool true := hdep 13 _ (by kernel_rfl) rfl
              have e16 : act.tmps[39]?.getD undef = .bool s := hdep 16 _ (by kernel_rfl) rfl
              have hgd : act.tmps[34]?.getD undef = .bool true := hdep 11 _ (by kernel_rfl) rfl
              have hgd' := getD_bool hgd
              clear hdep hoff hg hstill HW HK HR heq hle
              go_simp
              exact hK _ _ (grown_refl _ _) rfl
            · obtain rfl := Option.some.inj ho
              have t3 : act.tmps[3]?.getD undef = .pointer (some ⟨w.heap.size, 0, none⟩) := hoff 3 (by kernel_rfl)
              have hgd : act.tmps[34]?.getD undef = .bool true := hdep 11 _ (by kernel_rfl) rfl
              have hgd' := getD_bool hgd
              clear hdep hoff hg hstill HW HK HR heq hle
              go_simp
              exact hK _ _ (grown_refl _ _) rfl
            · obtain rfl := Option.some.inj ho
              have t4 : act.tmps[4]?.getD undef = .pointer (some ⟨w.heap.size + 1, 0, none⟩) := hoff 4 (by kernel_rfl)
              have hgd : act.tmps[34]?.getD undef = .bool true := hdep 11 _ (by kernel_rfl) rfl
              have hgd' := getD_bool hgd
              clear hdep hoff hg hstill HW HK HR heq hle
              go_simp
              exact hK _ _ (grown_refl _ _) rfl
            · obtain rfl := Option.some.inj ho
              have e18 : act.tmps[41]?.getD undef = .agg #[.int .i64 l0.b, .int .i64 l0.n, .int .i64 l0.e, .int .i64 l0.d, .int .i64 l0.x] := hdep 18 _ (by kernel_rfl) rfl
              have e19 : act.tmps[42]?.getD undef = .agg #[.int .i64 l1.b, .int .i64 l1.n, .int .i64 l1.e, .int .i64 l1.d, .int .i64 l1.x] := hdep 19 _ (by kernel_rfl) rfl
              have hgd : act.tmps[34]?.getD undef = .bool true := hdep 11 _ (by kernel_rfl) rfl
              have hgd' := getD_bool hgd
              clear hdep hoff hg hstill HW HK HR hle
              have heq1 := heq W
              go_simp
              exact hK _ _ (grown_refl _ _) rfl
            · obtain rfl := Option.some.inj ho
              have e17 : act.tmps[40]?.getD undef = .bool s := hdep 17 _ (by kernel_rfl) rfl
              have e20 : act.tmps[43]?.getD undef = .bool s := hdep 20 _ (by kernel_rfl) rfl
              have hgd : act.tmps[34]?.getD undef = .bool true := hdep 11 _ (by kernel_rfl) rfl
              have hgd' := getD_bool hgd
              clear hdep hoff hg hstill HW HK HR heq hle
              go_simp
              exact hK _ _ (grown_refl _ _) (by simp [lo3F, own1])
            · obtain rfl := Option.some.inj ho
              have e11 : act.tmps[34]?.getD undef = .bool true := hdep 11 _ (by kernel_rfl) rfl
              have e21 : act.tmps[44]?.getD undef = .bool true := hdep 21 _ (by kernel_rfl) rfl
              clear hdep hoff hg hstill HW HK HR heq hle
              go_simp
              exact hK _ _ (grown_refl _ _) rfl
            · obtain rfl := Option.some.inj ho
              have e22 : act.tmps[45]?.getD undef = .bool true := hdep 22 _ (by kernel_rfl) rfl
              clear hdep hoff hg hstill HW HK HR heq hle
              go_simp
              exact hK _ _ (grown_refl _ _) rfl
            · obtain rfl := Option.some.inj ho
              have t7 : act.tmps[7]?.getD undef = .bool true := hoff 7 (by kernel_rfl)
              have hgd : act.tmps[46]?.getD undef = .bool true := hdep 23 _ (by kernel_rfl) rfl
              have hgd' := getD_bool hgd
              clear hdep hoff hg hstill HW HK HR heq hle
              go_simp
              exact hK _ _ (grown_refl _ _) rfl
            · obtain rfl := Option.some.inj ho
              have e24 : act.tmps[47]?.getD undef = .bool true := hdep 24 _ (by kernel_rfl) rfl
              have hgd : act.tmps[46]?.getD undef = .bool true := hdep 23 _ (by kernel_rfl) rfl
              have hgd' := getD_bool hgd
              clear hdep hoff hg hstill HW HK HR heq hle
              go_simp
              exact hK _ _ (grown_refl _ _) rfl
            · obtain rfl := Option.some.inj ho
              have e25 : act.tmps[48]?.getD undef = .bool false := hdep 25 _ (by kernel_rfl) rfl
              have hgd : act.tmps[46]?.getD undef = .bool true := hdep 23 _ (by kernel_rfl) rfl
              have hgd' := getD_bool hgd
              clear hdep hoff hg hstill HW HK HR heq hle
              go_simp
              exact hK _ _ (grown_refl _ _) rfl
            · obtain rfl := Option.some.inj ho
              have t4 : act.tmps[4]?.getD undef = .pointer (some ⟨w.heap.size + 1, 0, none⟩) := hoff 4 (by kernel_rfl)
              have hgd : act.tmps[49]?.getD undef = .bool false := hdep 26 _ (by kernel_rfl) rfl
              have hgd' := getD_bool hgd
              clear hdep hoff hg hstill HW HK HR heq hle
              go_simp
              exact hK _ _ (grown_refl _ _) rfl
            · obtain rfl := Option.some.inj ho
              have e27 : act.tmps[50]?.getD undef = .agg #[.int .i64 l1.b, .int .i64 l1.n, .int .i64 l1.e, .int .i64 l1.d, .int .i64 l1.x] := hdep 27 _ (by kernel_rfl) rfl
              have hgd : act.tmps[49]?.getD undef = .bool false := hdep 26 _ (by kernel_rfl) rfl
              have hgd' := getD_bool hgd
              clear hdep hoff hg hstill HW HK heq hle
              go_simp
              refine Calls.mono (Hid.out HR) ?_
              rintro e w' ⟨rfl, hb⟩
              exact hK _ _ (grown_of_below hb _) rfl
            · obtain rfl := Option.some.inj ho
              have e28 : act.tmps[51]?.getD undef = .bool false := hdep 28 _ (by kernel_rfl) rfl
              have hgd : act.tmps[49]?.getD undef = .bool false := hdep 26 _ (by kernel_rfl) rfl
              have hgd' := getD_bool hgd
              clear hdep hoff hg hstill HW HK HR heq hle
              go_simp
              exact hK _ _ (grown_refl _ _) rfl
            · obtain rfl := Option.some.inj ho
              have e26 : act.tmps[49]?.getD undef = .bool false := hdep 26 _ (by kernel_rfl) rfl
              have e29 : act.tmps[52]?.getD undef = .bool true := hdep 29 _ (by kernel_rfl) rfl
              have hgd : act.tmps[46]?.getD undef = .bool true := hdep 23 _ (by kernel_rfl) rfl
              have hgd' := getD_bool hgd
              clear hdep hoff hg hstill HW HK HR heq hle
              go_simp
              exact hK _ _ (grown_refl _ _) rfl
            · obtain rfl := Option.some.inj ho
              have e30 : act.tmps[53]?.getD undef = .bool true := hdep 30 _ (by kernel_rfl) rfl
              have hgd : act.tmps[46]?.getD undef = .bool true := hdep 23 _ (by kernel_rfl) rfl
              have hgd' := getD_bool hgd
              clear hdep hoff hg hstill HW HK HR heq hle
              go_simp
              exact hK _ _ (grown_refl _ _) rfl
            · obtain rfl := Option.some.inj ho
              have hgd : act.tmps[54]?.getD undef = .bool true := hdep 31 _ (by kernel_rfl) rfl
              have hgd' := getD_bool hgd
              clear hdep hoff hg hstill HW HK HR heq hle
              go_simp
              exact hK _ _ (grown_refl _ _) trivial
            · obtain rfl := Option.some.inj ho
              have hgd : act.tmps[54]?.getD undef = .bool true := hdep 31 _ (by kernel_rfl) rfl
              have hgd' := getD_bool hgd
              clear hdep hoff hg hstill HW HK HR heq hle
              go_simp
              exact hK _ _ (grown_refl _ _) trivial
            · obtain rfl := Option.some.inj ho
              have hgd : act.tmps[54]?.getD undef = .bool true := hdep 31 _ (by kernel_rfl) rfl
              have hgd' := getD_bool hgd
              clear hdep hoff hg hstill HW HK HR heq hle
              go_simp
              exact hK _ _ (grown_refl _ _) trivial
            · obtain rfl := Option.some.inj ho
              have e31 : act.tmps[54]?.getD undef = .bool true := hdep 31 _ (by kernel_rfl) rfl
              have hgd : act.tmps[46]?.getD undef = .bool true := hdep 23 _ (by kernel_rfl) rfl
              have hgd' := getD_bool hgd
              clear hdep hoff hg hstill HW HK HR heq hle
              go_simp
              exact hK _ _ (grown_refl _ _) rfl
            · obtain rfl := Option.some.inj ho
              have e23 : act.tmps[46]?.getD undef = .bool true := hdep 23 _ (by kernel_rfl) rfl
              have e35 : act.tmps[58]?.getD undef = .bool true := hdep 35 _ (by kernel_rfl) rfl
              clear hdep hoff hg hstill HW HK HR heq hle
              go_simp
              exact hK _ _ (grown_refl _ _) rfl
            · obtain rfl := Option.some.inj ho
              have e36 : act.tmps[59]?.getD undef = .bool true := hdep 36 _ (by kernel_rfl) rfl
              clear hdep hoff hg hstill HW HK HR heq hle
              go_simp
              exact hK _ _ (grown_refl _ _) rfl
            · exact absurd ho (by simp)
          case fin =>
            intro V W2 hg hF
            have v6 : V (some 6) = .bool true := hF 37 _ rfl
            have HB : Hid (Below w.heap.size w W2) := (HO3.out.more (below_of_grown hg)).bel
            clear hF hg HO3 HP HQ
            simp only [fillA, Act.put, List.setIfInBounds_toArray, List.set_cons_zero, List.set_cons_succ, v6]
            generalize V (some 23) = y23
            generalize V (some 24) = y24
            generalize V (some 25) = y25
            generalize V (some 26) = y26
            generalize V (some 27) = y27
            generalize V (some 28) = y28
            generalize V (some 29) = y29
            generalize V (some 30) = y30
            generalize V (some 31) = y31
            generalize V (some 32) = y32
            generalize V (some 33) = y33
            generalize V (some 34) = y34
            generalize V (some 35) = y35
            generalize V (some 36) = y36
            generalize V (some 37) = y37
            generalize V (some 38) = y38
            generalize V (some 39) = y39
            generalize V (some 40) = y40
            generalize V (some 41) = y41
            generalize V (some 42) = y42
            generalize V (some 43) = y43
            generalize V (some 44) = y44
            generalize V (some 45) = y45
            generalize V (some 46) = y46
            generalize V (some 47) = y47
            generalize V (some 48) = y48
            generalize V (some 49) = y49
            generalize V (some 50) = y50
            generalize V (some 51) = y51
            generalize V (some 52) = y52
            generalize V (some 53) = y53
            generalize V (some 54) = y54
            generalize V (some 55) = y55
            generalize V (some 56) = y56
            generalize V (some 57) = y57
            generalize V (some 58) = y58
            generalize V (some 59) = y59
            clear v6
            go_wp2_with fail
            go_ret
            exact ⟨rfl, HB.out⟩
        | true =>
          go_wp2_with fail
          refine facts_region none 99 (lo4F l0 l1 l2 w.heap.size s) (by kernel_rfl) (by kernel_rfl) (lo4F_stab l0 l1 l2 w.heap.size s) ?step ?fin
          case step =>
            intro i' o' ho act W hg hstill hoff hdep K hK
            have hb := below_of_grown hg
            have hO := HO3.out.more hb
            have xa0 : W.cell? ⟨w.heap.size, 0, none⟩ = some (.int .i64 l0.b) := hO.a.cell 0
            have xa1 : W.cell? ⟨w.heap.size, 1, none⟩ = some (.int .i64 l0.n) := hO.a.cell 1
            have xa2 : W.cell? ⟨w.heap.size, 2, none⟩ = some (.int .i64 l0.e) := hO.a.cell 2
            have xa3 : W.cell? ⟨w.heap.size, 3, none⟩ = some (.int .i64 l0.d) := hO.a.cell 3
            have xa4 : W.cell? ⟨w.heap.size, 4, none⟩ = some (.int .i64 l0.x) := hO.a.cell 4
            have xb0 : W.cell? ⟨w.heap.size + 1, 0, none⟩ = some (.int .i64 l1.b) := hO.b.cell 0
            have xb1 : W.cell? ⟨w.heap.size + 1, 1, none⟩ = some (.int .i64 l1.n) := hO.b.cell 1
            have xb2 : W.cell? ⟨w.heap.size + 1, 2, none⟩ = some (.int .i64 l1.e) := hO.b.cell 2
            have xb3 : W.cell? ⟨w.heap.size + 1, 3, none⟩ = some (.int .i64 l1.d) := hO.b.cell 3
            have xb4 : W.cell? ⟨w.heap.size + 1, 4, none⟩ = some (.int .i64 l1.x) := hO.b.cell 4
            have xc0 : W.cell? ⟨w.heap.size + 1 + 1, 0, none⟩ = some (.int .i64 l2.b) := hO.c.cell 0
            have xc1 : W.cell? ⟨w.heap.size + 1 + 1, 1, none⟩ = some (.int .i64 l2.n) := hO.c.cell 1
            have xc2 : W.cell? ⟨w.heap.size + 1 + 1, 2, none⟩ = some (.int .i64 l2.e) := hO.c.cell 2
            have xc3 : W.cell? ⟨w.heap.size + 1 + 1, 3, none⟩ = some (.int .i64 l2.d) := hO.c.cell 3
            have xc4 : W.cell? ⟨w.heap.size + 1 + 1, 4, none⟩ = some (.int .i64 l2.x) := hO.c.cell 4
            have HW : Hid (Calls Tryd.prog 19 #[.agg #[.int .i64 l0.b, .int .i64 l0.n, .int .i64 l0.e, .int .i64 l0.d, .int .i64 l0.x], .agg #[.int .i64 l2.b, .int .i64 l2.n, .int .i64 l2.e, .int .i64 l2.d, .int .i64 l2.x]] W fun e w' => e = .returned (.bool true) ∧ Below W.heap.size W w') := by have := within_any l0 l2 W; rw [inL_trans HP.out HQ.out] at this; exact this
            have HK : Hid (Calls Tryd.prog 19 #[.agg #[.int .i64 l1.b, .int .i64 l1.n, .int .i64 l1.e, .int .i64 l1.d, .int .i64 l1.x], .agg #[.int .i64 l0.b, .int .i64 l0.n, .int .i64 l0.e, .int .i64 l0.d, .int .i64 l0.x]] W fun e w' => e = .returned (.bool s) ∧ Below W.heap.size W w') := by have := within_any l1 l0 W; rw [inL_same HP.out, HS.out] at this; exact this
            have HR : Hid (Calls Tryd.prog 17 #[.agg #[.int .i64 l1.b, .int .i64 l1.n, .int .i64 l1.e, .int .i64 l1.d, .int .i64 l1.x]] W fun e w' => e = .returned (.bool true) ∧ Below W.heap.size W w') := by have := okl_any l1 W; rw [HKK.out] at this; exact this
            have heq : ∀ U : World, (binOp .eql 26 (.agg #[.int .i64 l0.b, .int .i64 l0.n, .int .i64 l0.e, .int .i64 l0.d, .int .i64 l0.x]) (.agg #[.int .i64 l1.b, .int .i64 l1.n, .int .i64 l1.e, .int .i64 l1.d, .int .i64 l1.x])).run Tryd.prog U = .ok (.bool s) U := fun U => by have := eql_lim l0 l1 U; rw [HS.out] at this; exact this
            have hle : l0.n ≤ 16777216 := inL_nodes HP.out HKK.out
            clear hb hO HO3 HP HQ HS HKK
            rcases i' with _|_|_|_|_|_|_|_|_|_|_|_|_|_|_|_|_|_|_|_|_|_|_|_|_|_|_|_|_|_|_|_|_|_|_|_|_|_|i'
            · obtain rfl := Option.some.inj ho
              have t7 : act.tmps[7]?.getD undef = .bool true := hoff 7 (by kernel_rfl)
              clear hdep hoff hg hstill HW HK HR heq hle
              go_simp
              exact hK _ _ (grown_refl _ _) rfl
            · obtain rfl := Option.some.inj ho
              have e0 : act.tmps[23]?.getD undef = .bool true := hdep 0 _ (by kernel_rfl) rfl
              clear hdep hoff hg hstill HW HK HR heq hle
              go_simp
              exact hK _ _ (grown_refl _ _) rfl
            · obtain rfl := Option.some.inj ho
              have e1 : act.tmps[24]?.getD undef = .bool false := hdep 1 _ (by kernel_rfl) rfl
              clear hdep hoff hg hstill HW HK HR heq hle
              go_simp
              exact hK _ _ (grown_refl _ _) rfl
            · obtain rfl := Option.some.inj ho
              have t8 : act.tmps[8]?.getD undef = .bool true := hoff 8 (by kernel_rfl)
              have hgd : act.tmps[25]?.getD undef = .bool false := hdep 2 _ (by kernel_rfl) rfl
              have hgd' := getD_bool hgd
              clear hdep hoff hg hstill HW HK HR heq hle
              go_simp
              exact hK _ _ (grown_refl _ _) rfl
            · obtain rfl := Option.some.inj ho
              have e3 : act.tmps[26]?.getD undef = .bool true := hdep 3 _ (by kernel_rfl) rfl
              have hgd : act.tmps[25]?.getD undef = .bool false := hdep 2 _ (by kernel_rfl) rfl
              have hgd' := getD_bool hgd
              clear hdep hoff hg hstill HW HK HR heq hle
              go_simp
              exact hK _ _ (grown_refl _ _) rfl
            · obtain rfl := Option.some.inj ho
              have e2 : act.tmps[25]?.getD undef = .bool false := hdep 2 _ (by kernel_rfl) rfl
              have e4 : act.tmps[27]?.getD undef = .bool false := hdep 4 _ (by kernel_rfl) rfl
              clear hdep hoff hg hstill HW HK HR heq hle
              go_simp
              exact hK _ _ (grown_refl _ _) rfl
            · obtain rfl := Option.some.inj ho
              have e5 : act.tmps[28]?.getD undef = .bool false := hdep 5 _ (by kernel_rfl) rfl
              clear hdep hoff hg hstill HW HK HR heq hle
              go_simp
              exact hK _ _ (grown_refl _ _) rfl
            · obtain rfl := Option.some.inj ho
              have t3 : act.tmps[3]?.getD undef = .pointer (some ⟨w.heap.size, 0, none⟩) := hoff 3 (by kernel_rfl)
              have hgd : act.tmps[29]?.getD undef = .bool false := hdep 6 _ (by kernel_rfl) rfl
              have hgd' := getD_bool hgd
              clear hdep hoff hg hstill HW HK HR heq hle
              go_simp
              exact hK _ _ (grown_refl _ _) rfl
            · obtain rfl := Option.some.inj ho
              have t5 : act.tmps[5]?.getD undef = .pointer (some ⟨w.heap.size + 1 + 1, 0, none⟩) := hoff 5 (by kernel_rfl)
              have hgd : act.tmps[29]?.getD undef = .bool false := hdep 6 _ (by kernel_rfl) rfl
              have hgd' := getD_bool hgd
              clear hdep hoff hg hstill HW HK HR heq hle
              go_simp
              exact hK _ _ (grown_refl _ _) rfl
            · obtain rfl := Option.some.inj ho
              have e7 : act.tmps[30]?.getD undef = .agg #[.int .i64 l0.b, .int .i64 l0.n, .int .i64 l0.e, .int .i64 l0.d, .int .i64 l0.x] := hdep 7 _ (by kernel_rfl) rfl
              have e8 : act.tmps[31]?.getD undef = .agg #[.int .i64 l2.b, .int .i64 l2.n, .int .i64 l2.e, .int .i64 l2.d, .int .i64 l2.x] := hdep 8 _ (by kernel_rfl) rfl
              have hgd : act.tmps[29]?.getD undef = .bool false := hdep 6 _ (by kernel_rfl) rfl
              have hgd' := getD_bool hgd
              clear hdep hoff hg hstill HK HR heq hle
              go_simp
              refine Calls.mono (Hid.out HW) ?_
              rintro e w' ⟨rfl, hb⟩
              exact hK _ _ (grown_of_below hb _) rfl
            · obtain rfl := Option.some.inj ho
              have e6 : act.tmps[29]?.getD undef = .bool false := hdep 6 _ (by kernel_rfl) rfl
              have e9 : act.tmps[32]?.getD undef = .bool true := hdep 9 _ (by kernel_rfl) rfl
              clear hdep hoff hg hstill HW HK HR heq hle
              go_simp
              exact hK _ _ (grown_refl _ _) rfl
            · obtain rfl := Option.some.inj ho
              have e10 : act.tmps[33]?.getD undef = .bool true := hdep 10 _ (by kernel_rfl) rfl
              clear hdep hoff hg hstill HW HK HR heq hle
              go_simp
              exact hK _ _ (grown_refl _ _) rfl
            · obtain rfl := Option.some.inj ho
              have t7 : act.tmps[7]?.getD undef = .bool true := hoff 7 (by kernel_rfl)
              have hgd : act.tmps[34]?.getD undef = .bool true := hdep 11 _ (by kernel_rfl) rfl
              have hgd' := getD_bool hgd
              clear hdep hoff hg hstill HW HK HR heq hle
              go_simp
              exact hK _ _ (grown_refl _ _) rfl
            · obtain rfl := Option.some.inj ho
              have e12 : act.tmps[35]?.getD undef = .bool true := hdep 12 _ (by kernel_rfl) rfl
              have hgd : act.tmps[34]?.getD undef = .bool true := hdep 11 _ (by kernel_rfl) rfl
              have hgd' := getD_bool hgd
              clear hdep hoff hg hstill HW HK HR heq hle
              go_simp
              exact hK _ _ (grown_refl _ _) rfl
            · obtain rfl := Option.some.inj ho
              have t4 : act.tmps[4]?.getD undef = .pointer (some ⟨w.heap.size + 1, 0, none⟩) := hoff 4 (by kernel_rfl)
              have hgd : act.tmps[36]?.getD undef = .bool true := hdep 13 _ (by kernel_rfl) rfl
              have hgd' := getD_bool hgd
              clear hdep hoff hg hstill HW HK HR heq hle
              go_simp
              exact hK _ _ (grown_refl _ _) rfl
            · obtain rfl := Option.some.inj ho
              have t3 : act.tmps[3]?.getD undef = .pointer (some ⟨w.heap.size, 0, none⟩) := hoff 3 (by kernel_rfl)
              have hgd : act.tmps[36]?.getD undef = .bool true := hdep 13 _ (by kernel_rfl) rfl
              have hgd' := getD_bool hgd
              clear hdep hoff hg hstill HW HK HR heq hle
              go_simp
              exact hK _ _ (grown_refl _ _) rfl
            · obtain rfl := Option.some.inj ho
              have e14 : act.tmps[37]?.getD undef = .agg #[.int .i64 l1.b, .int .i64 l1.n, .int .i64 l1.e, .int .i64 l1.d, .int .i64 l1.x] := hdep 14 _ (by kernel_rfl) rfl
              have e15 : act.tmps[38]?.getD undef = .agg #[.int .i64 l0.b, .int .i64 l0.n, .int .i64 l0.e, .int .i64 l0.d, .int .i64 l0.x] := hdep 15 _ (by kernel_rfl) rfl
              have hgd : act.tmps[36]?.getD undef = .bool true := hdep 13 _ (by kernel_rfl) rfl
              have hgd' := getD_bool hgd
              clear hdep hoff hg hstill HW HR heq hle
              go_simp
              refine Calls.mono (Hid.out HK) ?_
              rintro e w' ⟨rfl, hb⟩
              exact hK _ _ (grown_of_below hb _) rfl
            · obtain rfl := Option.some.inj ho
              have e13 : act.tmps[36]?.getD undef = .bool true := hdep 13 _ (by kernel_rfl) rfl
              have e16 : act.tmps[39]?.getD undef = .bool s := hdep 16 _ (by kernel_rfl) rfl
              have hgd : act.tmps[34]?.getD undef = .bool true := hdep 11 _ (by kernel_rfl) rfl
              have hgd' := getD_bool hgd
              clear hdep hoff hg hstill HW HK HR heq hle
              go_simp
              exact hK _ _ (grown_refl _ _) rfl
            · obtain rfl := Option.some.inj ho
              have t3 : act.tmps[3]?.getD undef = .pointer (some ⟨w.heap.size, 0, none⟩) := hoff 3 (by kernel_rfl)
              have hgd : act.tmps[34]?.getD undef = .bool true := hdep 11 _ (by kernel_rfl) rfl
              have hgd' := getD_bool hgd
              clear hdep hoff hg hstill HW HK HR heq hle
              go_simp
              exact hK _ _ (grown_refl _ _) rfl
            · obtain rfl := Option.some.inj ho
              have t4 : act.tmps[4]?.getD undef = .pointer (some ⟨w.heap.size + 1, 0, none⟩) := hoff 4 (by kernel_rfl)
              have hgd : act.tmps[34]?.getD undef = .bool true := hdep 11 _ (by kernel_rfl) rfl
              have hgd' := getD_bool hgd
              clear hdep hoff hg hstill HW HK HR heq hle
              go_simp
              exact hK _ _ (grown_refl _ _) rfl
            · obtain rfl := Option.some.inj ho
              have e18 : act.tmps[41]?.getD undef = .agg #[.int .i64 l0.b, .int .i64 l0.n, .int .i64 l0.e, .int .i64 l0.d, .int .i64 l0.x] := hdep 18 _ (by kernel_rfl) rfl
              have e19 : act.tmps[42]?.getD undef = .agg #[.int .i64 l1.b, .int .i64 l1.n, .int .i64 l1.e, .int .i64 l1.d, .int .i64 l1.x] := hdep 19 _ (by kernel_rfl) rfl
              have hgd : act.tmps[34]?.getD undef = .bool true := hdep 11 _ (by kernel_rfl) rfl
              have hgd' := getD_bool hgd
              clear hdep hoff hg hstill HW HK HR hle
              have heq1 := heq W
              go_simp
              exact hK _ _ (grown_refl _ _) rfl
            · obtain rfl := Option.some.inj ho
              have e17 : act.tmps[40]?.getD undef = .bool s := hdep 17 _ (by kernel_rfl) rfl
              have e20 : act.tmps[43]?.getD undef = .bool s := hdep 20 _ (by kernel_rfl) rfl
              have hgd : act.tmps[34]?.getD undef = .bool true := hdep 11 _ (by kernel_rfl) rfl
              have hgd' := getD_bool hgd
              clear hdep hoff hg hstill HW HK HR heq hle
              go_simp
              exact hK _ _ (grown_refl _ _) (by simp [lo4F, own1])
            · obtain rfl := Option.some.inj ho
              have e11 : act.tmps[34]?.getD undef = .bool true := hdep 11 _ (by kernel_rfl) rfl
              have e21 : act.tmps[44]?.getD undef = .bool true := hdep 21 _ (by kernel_rfl) rfl
              clear hdep hoff hg hstill HW HK HR heq hle
              go_simp
              exact hK _ _ (grown_refl _ _) rfl
            · obtain rfl := Option.some.inj ho
              have e22 : act.tmps[45]?.getD undef = .bool true := hdep 22 _ (by kernel_rfl) rfl
              clear hdep hoff hg hstill HW HK HR heq hle
              go_simp
              exact hK _ _ (grown_refl _ _) rfl
            · obtain rfl := Option.some.inj ho
              have t7 : act.tmps[7]?.getD undef = .bool true := hoff 7 (by kernel_rfl)
              have hgd : act.tmps[46]?.getD undef = .bool true := hdep 23 _ (by kernel_rfl) rfl
              have hgd' := getD_bool hgd
              clear hdep hoff hg hstill HW HK HR heq hle
              go_simp
              exact hK _ _ (grown_refl _ _) rfl
            · obtain rfl := Option.some.inj ho
              have e24 : act.tmps[47]?.getD undef = .bool true := hdep 24 _ (by kernel_rfl) rfl
              have hgd : act.tmps[46]?.getD undef = .bool true := hdep 23 _ (by kernel_rfl) rfl
              have hgd' := getD_bool hgd
              clear hdep hoff hg hstill HW HK HR heq hle
              go_simp
              exact hK _ _ (grown_refl _ _) rfl
            · obtain rfl := Option.some.inj ho
              have e25 : act.tmps[48]?.getD undef = .bool false := hdep 25 _ (by kernel_rfl) rfl
              have hgd : act.tmps[46]?.getD undef = .bool true := hdep 23 _ (by kernel_rfl) rfl
              have hgd' := getD_bool hgd
              clear hdep hoff hg hstill HW HK HR heq hle
              go_simp
              exact hK _ _ (grown_refl _ _) rfl
            · obtain rfl := Option.some.inj ho
              have t4 : act.tmps[4]?.getD undef = .pointer (some ⟨w.heap.size + 1, 0, none⟩) := hoff 4 (by kernel_rfl)
              have hgd : act.tmps[49]?.getD undef = .bool false := hdep 26 _ (by kernel_rfl) rfl
              have hgd' := getD_bool hgd
              clear hdep hoff hg hstill HW HK HR heq hle
              go_simp
              exact hK _ _ (grown_refl _ _) rfl
            · obtain rfl := Option.some.inj ho
              have e27 : act.tmps[50]?.getD undef = .agg #[.int .i64 l1.b, .int .i64 l1.n, .int .i64 l1.e, .int .i64 l1.d, .int .i64 l1.x] := hdep 27 _ (by kernel_rfl) rfl
              have hgd : act.tmps[49]?.getD undef = .bool false := hdep 26 _ (by kernel_rfl) rfl
              have hgd' := getD_bool hgd
              clear hdep hoff hg hstill HW HK heq hle
              go_simp
              refine Calls.mono (Hid.out HR) ?_
              rintro e w' ⟨rfl, hb⟩
              exact hK _ _ (grown_of_below hb _) rfl
            · obtain rfl := Option.some.inj ho
              have e28 : act.tmps[51]?.getD undef = .bool true := hdep 28 _ (by kernel_rfl) rfl
              have hgd : act.tmps[49]?.getD undef = .bool false := hdep 26 _ (by kernel_rfl) rfl
              have hgd' := getD_bool hgd
              clear hdep hoff hg hstill HW HK HR heq hle
              go_simp
              exact hK _ _ (grown_refl _ _) rfl
            · obtain rfl := Option.some.inj ho
              have e26 : act.tmps[49]?.getD undef = .bool false := hdep 26 _ (by kernel_rfl) rfl
              have e29 : act.tmps[52]?.getD undef = .bool false := hdep 29 _ (by kernel_rfl) rfl
              have hgd : act.tmps[46]?.getD undef = .bool true := hdep 23 _ (by kernel_rfl) rfl
              have hgd' := getD_bool hgd
              clear hdep hoff hg hstill HW HK HR heq hle
              go_simp
              exact hK _ _ (grown_refl _ _) rfl
            · obtain rfl := Option.some.inj ho
              have e30 : act.tmps[53]?.getD undef = .bool false := hdep 30 _ (by kernel_rfl) rfl
              have hgd : act.tmps[46]?.getD undef = .bool true := hdep 23 _ (by kernel_rfl) rfl
              have hgd' := getD_bool hgd
              clear hdep hoff hg hstill HW HK HR heq hle
              go_simp
              exact hK _ _ (grown_refl _ _) rfl
            · obtain rfl := Option.some.inj ho
              have t3 : act.tmps[3]?.getD undef = .pointer (some ⟨w.heap.size, 0, none⟩) := hoff 3 (by kernel_rfl)
              have hgd : act.tmps[54]?.getD undef = .bool false := hdep 31 _ (by kernel_rfl) rfl
              have hgd' := getD_bool hgd
              clear hdep hoff hg hstill HW HK HR heq hle
              go_simp
              exact hK _ _ (grown_refl _ _) rfl
            · obtain rfl := Option.some.inj ho
              have e32 : act.tmps[55]?.getD undef = .pointer (some ⟨w.heap.size, 1, none⟩) := hdep 32 _ (by kernel_rfl) rfl
              have hgd : act.tmps[54]?.getD undef = .bool false := hdep 31 _ (by kernel_rfl) rfl
              have hgd' := getD_bool hgd
              clear hdep hoff hg hstill HW HK HR heq hle
              go_simp
              exact hK _ _ (grown_refl _ _) rfl
            · obtain rfl := Option.some.inj ho
              have e33 : act.tmps[56]?.getD undef = .int .i64 l0.n := hdep 33 _ (by kernel_rfl) rfl
              have hgd : act.tmps[54]?.getD undef = .bool false := hdep 31 _ (by kernel_rfl) rfl
              have hgd' := getD_bool hgd
              clear hdep hoff hg hstill HW HK HR heq
              go_simp
              exact hK _ _ (grown_refl _ _) rfl
            · obtain rfl := Option.some.inj ho
              have e31 : act.tmps[54]?.getD undef = .bool false := hdep 31 _ (by kernel_rfl) rfl
              have e34 : act.tmps[57]?.getD undef = .bool true := hdep 34 _ (by kernel_rfl) rfl
              have hgd : act.tmps[46]?.getD undef = .bool true := hdep 23 _ (by kernel_rfl) rfl
              have hgd' := getD_bool hgd
              clear hdep hoff hg hstill HW HK HR heq hle
              go_simp
              exact hK _ _ (grown_refl _ _) rfl
            · obtain rfl := Option.some.inj ho
              have e23 : act.tmps[46]?.getD undef = .bool true := hdep 23 _ (by kernel_rfl) rfl
              have e35 : act.tmps[58]?.getD undef = .bool true := hdep 35 _ (by kernel_rfl) rfl
              clear hdep hoff hg hstill HW HK HR heq hle
              go_simp
              exact hK _ _ (grown_refl _ _) rfl
            · obtain rfl := Option.some.inj ho
              have e36 : act.tmps[59]?.getD undef = .bool true := hdep 36 _ (by kernel_rfl) rfl
              clear hdep hoff hg hstill HW HK HR heq hle
              go_simp
              exact hK _ _ (grown_refl _ _) rfl
            · exact absurd ho (by simp)
          case fin =>
            intro V W2 hg hF
            have v6 : V (some 6) = .bool true := hF 37 _ rfl
            have HB : Hid (Below w.heap.size w W2) := (HO3.out.more (below_of_grown hg)).bel
            clear hF hg HO3 HP HQ
            simp only [fillA, Act.put, List.setIfInBounds_toArray, List.set_cons_zero, List.set_cons_succ, v6]
            generalize V (some 23) = y23
            generalize V (some 24) = y24
            generalize V (some 25) = y25
            generalize V (some 26) = y26
            generalize V (some 27) = y27
            generalize V (some 28) = y28
            generalize V (some 29) = y29
            generalize V (some 30) = y30
            generalize V (some 31) = y31
            generalize V (some 32) = y32
            generalize V (some 33) = y33
            generalize V (some 34) = y34
            generalize V (some 35) = y35
            generalize V (some 36) = y36
            generalize V (some 37) = y37
            generalize V (some 38) = y38
            generalize V (some 39) = y39
            generalize V (some 40) = y40
            generalize V (some 41) = y41
            generalize V (some 42) = y42
            generalize V (some 43) = y43
            generalize V (some 44) = y44
            generalize V (some 45) = y45
            generalize V (some 46) = y46
            generalize V (some 47) = y47
            generalize V (some 48) = y48
            generalize V (some 49) = y49
            generalize V (some 50) = y50
            generalize V (some 51) = y51
            generalize V (some 52) = y52
            generalize V (some 53) = y53
            generalize V (some 54) = y54
            generalize V (some 55) = y55
            generalize V (some 56) = y56
            generalize V (some 57) = y57
            generalize V (some 58) = y58
            generalize V (some 59) = y59
            clear v6
            go_wp2_with fail
            go_ret
            exact ⟨rfl, HB.out⟩

set_option maxRecDepth 100000 in
theorem lifted (os : Os) (started : os.Started) (H : Type) (enc : TypeId × Value → H) :
    ReturnsInHanded {} Tryd.checked os 7 .any (fun w args => (Rows.limitOrderSpec.pre enc Tryd.prog Tryd.f7 [] false w args ∧ laidMetH Tryd.prog laid2 w) ∧ sizedMet enc Tryd.prog Tryd.f7 (OpenSpec.ofChange Rows.limitOrderSpec) false w args)
      (Rows.limitOrderSpec.post enc Tryd.prog Tryd.f7 false true false false) := by
  refine returnsInHanded_of_change_and (C := Tryd.checked) (X := fun w _ => laidMetH Tryd.prog laid2 w) (fun _ _ _ hh h => h.of_heap hh) own started (by kernel_rfl) Tryd.func7
    (ChangeSpec.witness_shaped (enc := enc) (C := Tryd.checked) (os := os) (X := fun w _ => laidMetH Tryd.prog laid2 w) false (World.doorLaid Tryd.prog 400 os) #[.agg #[.int .i64 0, .int .i64 0, .int .i64 0, .int .i64 0, .int .i64 0], .agg #[.int .i64 0, .int .i64 0, .int .i64 0, .int .i64 0, .int .i64 0], .agg #[.int .i64 0, .int .i64 0, .int .i64 0, .int .i64 0, .int .i64 0]] 8 rfl (World.shaped_of_RefB (by kernel_rfl) (by kernel_rfl)) (by kernel_rfl) (by kernel_rfl) (by kernel_rfl) (door_met os _)) ?_
  intro W base args ds gs before hval0 hW _ _ hL _
  have hval : ∀ (j : Nat) t v, Tryd.f7.params[j]? = some t → args[j]? = some v → Value.okWide Tryd.prog W .any base t v := hval0
  have hW' := hW
  obtain ⟨p, q, hA0, hV, rfl, hfz, hnd⟩ := hW
  have hA : DataW.TrodAll enc Tryd.prog W 0 (fun _ => true) true Tryd.f7.params.toList args.toList ds p := hA0
  rw [Tryd.params7] at hA hval
  obtain ⟨v0, vs0, d0, ds0, p0, q0, hargs, rfl, rfl, h0, r0⟩ := trodAll_cons hA
  obtain ⟨v1, vs1, d1, ds1, p1, q1, rfl, rfl, rfl, h1, r1⟩ := trodAll_cons r0
  obtain ⟨v2, vs2, d2, ds2, p2, q2, rfl, rfl, rfl, h2, r2⟩ := trodAll_cons r1
  obtain ⟨rfl, rfl, rfl⟩ := trodAll_nil r2
  obtain rfl : args = #[v0, v1, v2] := by cases args; simp_all
  obtain ⟨rfl, rfl⟩ := trodVars_none hV
  have K0 := h0
  have lt0 : ∀ x ∈ p0, x.block < W.heap.size := by obtain ⟨m, hm⟩ := K0; exact DataW.trod_lt m _ _ _ hm
  obtain ⟨l0, rfl, w0⟩ := open_lim Tryd.underlying26 (by kernel_rfl) (by kernel_rfl) Tryd.underlying3 Tryd.underlying3 Tryd.underlying3 Tryd.underlying3 Tryd.underlying3 (hval 0 26 v0 rfl rfl) h0
  have K1 := h1
  have lt1 : ∀ x ∈ p1, x.block < W.heap.size := by obtain ⟨m, hm⟩ := K1; exact DataW.trod_lt m _ _ _ hm
  obtain ⟨l1, rfl, w1⟩ := open_lim Tryd.underlying26 (by kernel_rfl) (by kernel_rfl) Tryd.underlying3 Tryd.underlying3 Tryd.underlying3 Tryd.underlying3 Tryd.underlying3 (hval 1 26 v1 rfl rfl) h1
  have K2 := h2
  have lt2 : ∀ x ∈ p2, x.block < W.heap.size := by obtain ⟨m, hm⟩ := K2; exact DataW.trod_lt m _ _ _ hm
  obtain ⟨l2, rfl, w2⟩ := open_lim Tryd.underlying26 (by kernel_rfl) (by kernel_rfl) Tryd.underlying3 Tryd.underlying3 Tryd.underlying3 Tryd.underlying3 Tryd.underlying3 (hval 2 26 v2 rfl rfl) h2
  clear hA0 hval0
  refine (walk l0 l1 l2 W w0 w1 w2 (tabs_of hL)).mono fun e W' ⟨he, bel⟩ => ?_
  subst he
  exact ⟨_, rfl, _, _, _, [], _, [], hW', trodAll_mk1 (shut_bool Tryd.underlying4 _), (trodAll_cons_mk (Below.trod laidOut (by kernel_rfl) (of_decide_eq_true (by kernel_rfl)) K0 bel lt0) (trodAll_cons_mk (Below.trod laidOut (by kernel_rfl) (of_decide_eq_true (by kernel_rfl)) K1 bel lt1) (trodAll_cons_mk (Below.trod laidOut (by kernel_rfl) (of_decide_eq_true (by kernel_rfl)) K2 bel lt2) trodAll_mk0))), rfl, bel.frame _, fun h => by cases h⟩

theorem row : Rows.limitOrderRow.holds Tryd.pinned (OpenSpec.ofChange Rows.limitOrderSpec) :=
  OpenClaim.holds_of_wide 7 Tryd.f7 rfl rfl rfl rfl rfl rfl rfl ⟨rfl, rfl, rfl, rfl, rfl⟩ rfl rfl rfl rfl rfl (by kernel_rfl) Tryd.func7 (by kernel_rfl)
    (of_decide_eq_true (by kernel_rfl)) (by unfold Func.isWrapper; first | (rw [if_pos (by decide +kernel)]; kernel_rfl) | (rw [if_neg (by decide +kernel)]; exact ⟨rfl, rfl⟩))
    (fun os started H enc _ => lifted os started H enc)

/-- No parameter wants a stand-in; the program's own looks are off: what the card asks. -/
theorem plain (f : FuncId) (fn : Func) (hf : Tryd.pinned.checked.prog.funcNamed Rows.limitOrderRow.func = some f) (hfn : Tryd.pinned.checked.prog.funcs[f]? = some fn) :
    false = Tryd.pinned.checked.prog.looks [] ∧ ∀ (j : Nat) t, fn.params[j]? = some t → Tryd.pinned.checked.prog.wantsStandIn t = false := by
  obtain rfl : f = 7 := Option.some.inj ((show Tryd.prog.funcNamed Rows.limitOrderRow.func = some 7 by kernel_rfl).symm.trans hf) |>.symm
  obtain rfl : fn = Tryd.f7 := (Option.some.inj (Tryd.func7.symm.trans hfn)).symm
  refine ⟨by kernel_rfl, fun j t ht => ?_⟩
  have hm := Array.mem_of_getElem? ht
  have hall : (Tryd.f7.params.toList.all fun u => !Tryd.prog.wantsStandIn u) = true := by kernel_rfl
  exact (show Tryd.prog.wantsStandIn t = false by simpa using List.all_eq_true.1 hall t (by simpa using hm))

/-- ████ THE CARD ████ -/
theorem over : Rows.LimitOrderCardSaid :=
  Claim7.holds_tied_plain_at .later [] _ _ _ _ row (fun _ h => by cases h) (by kernel_rfl) (fun _ h => by cases h) limitOrder_row_tie rfl ⟨rfl, rfl⟩ (by kernel_rfl) rfl plain (by kernel_rfl)

end Go.Proofs.YtdioecmpcppleaaDoor.limitOrder

namespace Go.Proofs.YtdioecmpcppleaaDoor
theorem limitOrder_holds : Rows.LimitOrderCardSaid := limitOrder.over
#print axioms limitOrder_holds
end Go.Proofs.YtdioecmpcppleaaDoor
