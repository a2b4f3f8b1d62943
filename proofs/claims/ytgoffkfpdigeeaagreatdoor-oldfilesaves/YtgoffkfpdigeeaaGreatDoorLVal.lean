/- Is a scene valid within limits: the contracts of the program's and of the document's own Valid. -/
import Derived.Test.YtgoffkfpdigeeaaGreatDoorLTyp
import Derived.Test.YtgoffkfpdigeeaaGreatDoorLM
import Derived.Test.YtgoffkfpdigeeaaGreatDoorGH
namespace Go.Proofs.YtgoffkfpdigeeaaGreatDoor
open Go.RowKit Go.Maps Go.WideMaps Go.Sort

/-- What is wrong with a scene. -/
def VaIs (X : List Nx) (r : Int) (l : Lm) (d : Nat) (e z : Int) : Prop :=
  (okL l = false ∧ e = 1 ∧ z = -1) ∨ (okL l = true ∧ tyE X ≠ 0 ∧ e = tyE X ∧ z = tyZ X) ∨
    (okL l = true ∧ tyE X = 0 ∧ ∃ n y, CheckIs X r n y ∧ ((n ≠ 0 ∧ e = n ∧ z = y) ∨ (n = 0 ∧ ((inL (meL X d) l = false ∧ e = 19 ∧ z = -1) ∨ (inL (meL X d) l = true ∧ e = 0 ∧ z = 0)))))
def VaOut (X : List Nx) (r : Int) (l : Lm) (d : Nat) (w w' : World) (e : Ending) : Prop := ∃ n z : Int, e = .returned (.tuple #[.int .i64 n, .int .i64 z]) ∧ VaIs X r l d n z ∧ Below w.heap.size w w'

/-- The facts of the region that holds a measure against limits. -/
def vlF (X : List Nx) (a : Option Addr) (c : Nat) (r : Int) (d : Nat) (b n e f x : Int) (q : Bool) : Nat → Value → World → Prop
  | 0, v, _ => v = .agg #[.slice a X.length c, .int .i64 r]
  | 1, v, _ => v = .agg #[.int .i64 0, .int .i64 X.length, .int .i64 (edg X : Nat), .int .i64 (d : Nat), .int .i64 (txb X : Nat)]
  | 2, v, _ => v = .agg #[.int .i64 b, .int .i64 n, .int .i64 e, .int .i64 f, .int .i64 x]
  | 3, v, _ => v = .bool q
  | 4, v, _ => v = .bool (!q)
  | _, _, _ => True
theorem vlF_stab (X : List Nx) (a : Option Addr) (c : Nat) (r : Int) (d : Nat) (b n e f x : Int) (q : Bool) : ∀ ix jx v w w', ix ≠ jx → World.grownBy w w' (if ix = 99 then none else none) → vlF X a c r d b n e f x q jx v w → vlF X a c r d b n e f x q jx v w' := by
  intro ix jx v w w' hne hg h
  match jx, h with
  | 0, h | 1, h | 2, h | 3, h | 4, h => exact h
  | n + 5, _ => trivial

/-- The facts of the region that holds a measure against limits. -/
def rvF (X : List Nx) (a : Option Addr) (c : Nat) (r : Int) (d : Nat) (b n e f x : Int) (q : Bool) : Nat → Value → World → Prop
  | 0, v, _ => v = .agg #[.slice a X.length c, .int .i64 r]
  | 1, v, _ => v = .agg #[.int .i64 0, .int .i64 X.length, .int .i64 (edg X : Nat), .int .i64 (d : Nat), .int .i64 (txb X : Nat)]
  | 2, v, _ => v = .agg #[.int .i64 b, .int .i64 n, .int .i64 e, .int .i64 f, .int .i64 x]
  | 3, v, _ => v = .bool q
  | 4, v, _ => v = .bool (!q)
  | _, _, _ => True
theorem rvF_stab (X : List Nx) (a : Option Addr) (c : Nat) (r : Int) (d : Nat) (b n e f x : Int) (q : Bool) : ∀ ix jx v w w', ix ≠ jx → World.grownBy w w' (if ix = 99 then none else none) → rvF X a c r d b n e f x q jx v w → rvF X a c r d b n e f x q jx v w' := by
  intro ix jx v w w' hne hg h
  match jx, h with
  | 0, h | 1, h | 2, h | 3, h | 4, h => exact h
  | n + 5, _ => trivial

end Go.Proofs.YtgoffkfpdigeeaaGreatDoor
