/- The library's Reverse at nodes, laid over this program (the text out of the kit's own lay-plain.mjs): nodes in a block of the call's own, in the other order. -/
import Derived.Shelf.SlGeneric
import Derived.Ground.SlgnProg
import Derived.Shelf.SlicesQ.Reverse
import Derived.Test.YtkcaeajhbeenbaaDoorCScp2
import Derived.Test.YtkcaeajhbeenbaaDoorCC
namespace Go.Proofs.YtkcaeajhbeenbaaDoor
open Go.Shelf Go.RowKit Go.Lib Go.Sort

def reverseNd_ren : Go.Shelf.Ren := ⟨fun | 35 => 67 | n => n, fun | 22 => 22 | 23 => 48 | 3 => 3 | 4 => 4 | 0 => 0 | n => n, fun | n => n⟩
theorem reverseNd : Go.Proofs.SlLaysE0.n35 Tryd.prog reverseNd_ren := {
  mixed := by kernel_rfl
  f35 := ⟨Tryd.f67.name, by decide, Tryd.func67.trans (congrArg some (by kernel_rfl))⟩
  t0 := Tryd.underlying0
  a0 := Tryd.isAgg0
  z0 := Tryd.sizeOf0
  v0 := Tryd.zeroValue0
  t3 := Tryd.underlying3
  a3 := Tryd.isAgg3
  z3 := Tryd.sizeOf3
  v3 := Tryd.zeroValue3
  t4 := Tryd.underlying4
  a4 := Tryd.isAgg4
  z4 := Tryd.sizeOf4
  v4 := Tryd.zeroValue4
  t22 := Tryd.underlying22
  a22 := Tryd.isAgg22
  z22 := Tryd.sizeOf22
  v22 := Tryd.zeroValue22 }

abbrev nxInh : Inhabited Nx := ⟨noNx⟩
theorem nxC_len (x : Nx) : (nxC x).length = 4 := rfl
theorem nxC_one (x : Nx) : ∀ v ∈ nxC x, v.oneCell' = true := by
  intro v hv
  simp only [nxC, List.mem_cons, List.not_mem_nil, or_false] at hv
  rcases hv with rfl | rfl | rfl | rfl <;> rfl
/-- Nodes' cells, one behind the other. -/
theorem flat_nxV (Z : List Nx) : @flatK Nx nxInh nxC 4 Z.toArray = (nxV Z).toArray := by
  letI := nxInh
  have hz : (flatK nxC 4 Z.toArray).size = Z.length * 4 := by rw [size_flatK]; rfl
  refine Array.ext (by rw [hz]; exact (nxV_length Z).symm) fun t h1 h2 => ?_
  rw [hz] at h1
  have e1 := get_flatK nxC 4 Z.toArray t h1
  rw [getElem!_pos _ t (by rw [hz]; exact h1)] at e1
  rw [e1]
  have hq : t / 4 < Z.length := by omega
  have hr : t % 4 < 4 := Nat.mod_lt _ (by decide)
  have e2 := nxV_at Z (t / 4) (t % 4) hq hr
  rw [show t / 4 * 4 + t % 4 = t by omega] at e2
  have e3 : Z.toArray[t / 4]! = Z.getD (t / 4) noNx := by
    rw [getElem!_pos Z.toArray (t / 4) hq, List.getD_eq_getElem?_getD, List.getElem?_eq_getElem hq]
    rfl
  rw [e3, getElem!_pos (nxC (Z.getD (t / 4) noNx)) (t % 4) hr]
  rw [List.getElem?_eq_getElem (by rw [nxV_length]; exact h1), List.getElem?_eq_getElem hr] at e2
  exact (Option.some.inj e2).symm

theorem prev_any (Y : List Nx) (gn cap : Nat) (w : World) (h : AtN 48 w gn (nxV Y).toArray) (hl : Y.length ≤ 1000000) :
    Calls Tryd.prog 67 #[.slice (some ⟨gn, 0, none⟩) Y.length cap] w fun e w' => e = .returned (.tuple #[]) ∧ AtN 48 w' gn (nxV Y.reverse).toArray ∧ Fr (fun q => q = gn) w w' := by
  letI := nxInh
  have hH : HoldsK nxC 4 w gn 0 Y.toArray := by
    unfold HoldsK
    rw [flat_nxV]
    intro j hj
    have hj' : j < (nxV Y).length := by simpa using hj
    rw [Nat.zero_add]
    refine ⟨(h.cell j).trans ?_, h.fz j⟩
    rw [getElem!_pos (nxV Y).toArray j hj]
    simp [hj']
  refine Calls.mono (AnyQ.slices_Reverse reverseNd 4 Tryd.isAgg48 Tryd.sizeOf48 nxC nxC_len nxC_one gn 0 cap Y.toArray w hH (by simp; omega)) ?_
  rintro e w' ⟨rfl, n, rfl⟩
  have hr : Y.toArray.reverse = Y.reverse.toArray := by simp
  refine ⟨rfl, ?_, ?_⟩
  · have h' : (Sort.ahead w n).heap[gn]? = some (.cells (nxV Y).toArray 48 (0, 0)) := h
    have hs : (nxV Y).toArray.size = (nxV Y.reverse).toArray.size := by simp [nxV_length]
    show ((Sort.ahead w n).heap.modify gn (onCells (putCells id 0 (flatK nxC 4 Y.toArray.reverse))))[gn]? = _
    rw [Array.getElem?_modify, if_pos rfl, h', hr, flat_nxV]
    show some (Obj.cells (putCells id 0 (nxV Y.reverse).toArray (nxV Y).toArray) 48 (0, 0)) = _
    congr 2
    unfold putCells
    refine Array.ext (by rw [Array.size_mapIdx]; exact hs) fun k h1 h2 => ?_
    rw [Array.getElem_mapIdx, if_pos ⟨Nat.zero_le _, by omega⟩, Nat.sub_zero, getElem!_pos _ k h2]
    rfl
  · refine ⟨rfl, rfl, rfl, ?_, fun i hi hn => ?_⟩
    · show w.heap.size ≤ ((Sort.ahead w n).heap.modify gn _).size
      rw [Array.size_modify]
      exact Nat.le_refl _
    · show ((Sort.ahead w n).heap.modify gn _)[i]? = _
      rw [Array.getElem?_modify, if_neg (fun q => hn q.symm)]
      rfl
end Go.Proofs.YtkcaeajhbeenbaaDoor
