/- The canonical scene has the same measure, and is valid just if the scene is; plain words. -/
import Derived.Test.YtdioecmpcppleaaDoorLSame
import Derived.Test.YtdioecmpcppleaaDoorCC
namespace Go.Proofs.YtdioecmpcppleaaDoor
open Go.RowKit Go.Maps Go.WideMaps Go.Sort

theorem pIntern_nodup {L : List ByteArray} (h : L.Nodup) (s : ByteArray) : (pIntern L s).Nodup := by
  unfold pIntern
  by_cases q : idx6 s L < L.length
  · rw [if_pos q]; exact h
  · rw [if_neg q, List.nodup_append]
    refine ⟨h, by simp, fun a ha b hb e => ?_⟩
    simp only [List.mem_singleton] at hb
    subst e hb
    exact q ((idx6_mem _ _).2 ha)
theorem foldlT_nodup (T : List ByteArray) : ∀ L : List ByteArray, L.Nodup → (T.foldl pIntern L).Nodup := by
  induction T with
  | nil => intro L h; exact h
  | cons x r ih =>
    intro L h
    rw [List.foldl_cons]
    exact ih _ (pIntern_nodup h x)
theorem itn_nodup (T : List ByteArray) : (itn T).Nodup := foldlT_nodup T [] List.nodup_nil
/-- The same texts, the same bytes. -/
theorem itn_same {T U : List ByteArray} (h : ∀ s, s ∈ T ↔ s ∈ U) : sum6 (itn T) = sum6 (itn U) := by
  have hp : (itn T).Perm (itn U) := (List.perm_ext_iff_of_nodup (itn_nodup T) (itn_nodup U)).2 (fun s => by rw [itn_mem, itn_mem, h])
  exact List.Perm.sum_nat (hp.map ByteArray.size)
theorem allT_mem (X : List Nx) (s : ByteArray) : s ∈ allT X ↔ ∃ i, i < X.length ∧ s ∈ (X.getD i noNx).nd.texts := by
  unfold allT
  rw [List.mem_flatMap]
  constructor
  · rintro ⟨x, hx, hs⟩
    obtain ⟨i, hi, rfl⟩ := List.getElem_of_mem hx
    exact ⟨i, hi, by rwa [List.getD_eq_getElem?_getD, List.getElem?_eq_getElem hi]⟩
  · rintro ⟨i, hi, hs⟩
    rw [List.getD_eq_getElem?_getD, List.getElem?_eq_getElem hi] at hs
    exact ⟨X[i], List.getElem_mem hi, hs⟩
theorem tyE_all (X : List Nx) : tyE X = 0 ↔ ∀ i, i < X.length → tyN (X.getD i noNx).nd = 0 := by
  unfold tyE
  rw [tyG_zero]
  constructor
  · intro h i hi
    rw [List.getD_eq_getElem?_getD, List.getElem?_eq_getElem hi]
    exact h _ (List.getElem_mem hi)
  · intro h x hx
    obtain ⟨i, hi, rfl⟩ := List.getElem_of_mem hx
    have := h i hi
    rwa [List.getD_eq_getElem?_getD, List.getElem?_eq_getElem hi] at this
theorem ren_tyN (f : Int → Int) (N : Nd) : tyN (renNd f N) = tyN N := by simp [tyN, chk, renNd]

section
variable {X Y : List Nx} {p : Nat → Nat} {r : Int} {l : Lm} {d : Nat}
theorem Ren.txb (h : Ren X Y p) : txb Y = txb X := by
  refine itn_same fun s => ?_
  rw [allT_mem, allT_mem]
  constructor
  · rintro ⟨j, hj, hs⟩
    rw [h.len] at hj
    obtain ⟨i, hi, rfl⟩ := h.per.onto j hj
    rw [h.nd i hi] at hs
    exact ⟨i, hi, hs⟩
  · rintro ⟨i, hi, hs⟩
    exact ⟨p i, by rw [h.len]; exact h.per.lt i hi, by rw [h.nd i hi]; exact hs⟩
theorem Ren.ty (h : Ren X Y p) : tyE Y = 0 ↔ tyE X = 0 := by
  rw [tyE_all, tyE_all]
  constructor
  · intro q i hi
    have := q (p i) (by rw [h.len]; exact h.per.lt i hi)
    rwa [h.nd i hi, ren_tyN] at this
  · intro q j hj
    rw [h.len] at hj
    obtain ⟨i, hi, rfl⟩ := h.per.onto j hj
    rw [h.nd i hi, ren_tyN]
    exact q i hi
theorem Ren.fnx (h : Ren X Y p) (hX : FnX X) : FnX Y := fun j hj => by
  rw [h.len] at hj
  obtain ⟨i, hi, rfl⟩ := h.per.onto j hj
  rw [h.nd i hi]
  exact hX i hi
theorem Ren.meL (h : Ren X Y p) : meL Y d = meL X d := by
  unfold Go.Proofs.YtdioecmpcppleaaDoor.meL
  rw [h.len, h.edg, h.txb]
theorem Ren.meC (h : Ren X Y p) : meC Y d = meC X d := by
  unfold Go.Proofs.YtdioecmpcppleaaDoor.meC
  rw [h.len, h.edg, h.txb]
theorem Ren.va {r' : Int} (h : Ren X Y p) (hr : RightIs X r) (hr' : RightIs Y r') {e z e' z' : Int} (hv : VaIs X r l d e z) (hv' : VaIs Y r' l d e' z') : (e' = 0 ↔ e = 0) ∧ (e' = 19 ↔ e = 19) := by
  rw [hv.zero, hv'.zero, hv.limit, hv'.limit, h.meL]
  unfold Whole
  rw [h.ty]
  simp [hr, hr']
end

end Go.Proofs.YtdioecmpcppleaaDoor
