/- The contracts of ref's Depths and Ints. -/
import Derived.Test.YtcdpjaaiojpelaaDoorGRchk
namespace Go.Proofs.YtcdpjaaiojpelaaDoor
open Go.RowKit Go.Maps Go.WideMaps Go.Sort

theorem fold1_mem (f : Nat → Nat) (l : List Nat) (k : Nat) (hk : k ∈ l) : f k ≤ fold1 f l := by
  have : ∀ (l : List Nat) (m : Nat), k ∈ l → f k ≤ l.foldl (fun m k => max m (f k)) m := by
    intro l
    induction l with
    | nil => intro m q; simp at q
    | cons x t ih =>
      intro m q
      rw [List.foldl_cons]
      rcases List.mem_cons.1 q with rfl | q
      · exact Nat.le_trans (Nat.le_max_right _ _) (foldl_ge f t _)
      · exact ih _ q
  exact this l 0 hk
theorem getD_toNat (l : List Int) (j : Nat) (hj : j < l.length) : (l.map Int.toNat).getD j 0 = (l.getD j 0).toNat := by simp [hj]
/-- Heights are one. -/
theorem HtIs.uniq {K : List (List Nat)} {h h' : Nat → Nat} (hh : HtIs K h) (hh' : HtIs K h') (hk : Ok9 K) : ∀ (n a : Nat), h a = n → a < K.length → h a = h' a := by
  intro n
  induction n using Nat.strongRecOn with
  | _ n ih =>
    intro a hn ha
    rw [hh a ha, hh' a ha]
    congr 1
    refine fold1_congr _ (fun k e => ih (h k) ?_ k rfl (hk a k e))
    have := fold1_mem h _ k e
    have := hh a ha
    omega

def DepsOut (X : List Nx) (h : Nat → Nat) (w w' : World) (e : Ending) : Prop := ∃ g out, e = .returned (.slice (some ⟨g, 0, none⟩) X.length X.length) ∧ AtN 3 w' g (fnV X.length out) ∧ (∀ x, x < X.length → out x = h x) ∧ Below w.heap.size w w'

end Go.Proofs.YtcdpjaaiojpelaaDoor
