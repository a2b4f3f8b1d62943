/- What is wrong with a scene of version 1: pure. -/
import Derived.Test.YtgoffkfpdigeeaaGreatDoorLScO
import Derived.Test.YtgoffkfpdigeeaaGreatDoorLVal
namespace Go.Proofs.YtgoffkfpdigeeaaGreatDoor
open Go.RowKit

/-- What is wrong with a node, by its kind of version 1. -/
def tyNo (N : Nd) : Int := if (oldSp N.kind).ok = false then 9 else chkN N (oldSp N.kind).ints (oldSp N.kind).texts (oldSp N.kind).least (oldSp N.kind).most
/-- .. with the first of some nodes of which something is. -/
def tyGo : List Nx → Nat → Int × Int
  | [], _ => (0, 0)
  | x :: t, k => if tyNo x.nd = 0 then tyGo t (k + 1) else (tyNo x.nd, (k : Int))
def tyEo (X : List Nx) : Int := (tyGo X 0).1
def tyZo (X : List Nx) : Int := (tyGo X 0).2
theorem tyGo_at (X : List Nx) (i : Nat) (h : i < X.length) : tyGo (X.drop i) i = if tyNo (X.getD i noNx).nd = 0 then tyGo (X.drop (i + 1)) (i + 1) else (tyNo (X.getD i noNx).nd, (i : Int)) := by
  rw [show X.drop i = X[i] :: X.drop (i + 1) from List.drop_eq_getElem_cons h, show X.getD i noNx = X[i] by simp [h]]
  rfl
/-- What is wrong with a scene. -/
def VoIs (X : List Nx) (r : Int) (l : Lm) (d : Nat) (e z : Int) : Prop :=
  (okL l = false ∧ e = 1 ∧ z = -1) ∨ (okL l = true ∧ tyEo X ≠ 0 ∧ e = tyEo X ∧ z = tyZo X) ∨
    (okL l = true ∧ tyEo X = 0 ∧ ∃ n y, CheckIs X r n y ∧ ((n ≠ 0 ∧ e = n ∧ z = y) ∨ (n = 0 ∧ ((inL (meL X d) l = false ∧ e = 19 ∧ z = -1) ∨ (inL (meL X d) l = true ∧ e = 0 ∧ z = 0)))))
def VoOut (X : List Nx) (r : Int) (l : Lm) (d : Nat) (w w' : World) (e : Ending) : Prop := ∃ n z : Int, e = .returned (.tuple #[.int .i64 n, .int .i64 z]) ∧ VoIs X r l d n z ∧ Below w.heap.size w w'
end Go.Proofs.YtgoffkfpdigeeaaGreatDoor
