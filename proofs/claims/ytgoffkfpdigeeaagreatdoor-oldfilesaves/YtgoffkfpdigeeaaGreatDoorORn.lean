/- Scenes of the same nodes, and by other names: their texts, edges, measure and depth: pure. -/
import Derived.Test.YtgoffkfpdigeeaaGreatDoorCC
import Derived.Test.YtgoffkfpdigeeaaGreatDoorLM
import Derived.Test.YtgoffkfpdigeeaaGreatDoorLTyp
import Derived.Test.YtgoffkfpdigeeaaGreatDoorGI
namespace Go.Proofs.YtgoffkfpdigeeaaGreatDoor
open Go.RowKit Go.Maps Go.WideMaps Go.Sort

theorem pIn_nd {L : List ByteArray} (h : L.Nodup) (s : ByteArray) : (pIntern L s).Nodup := by
  unfold pIntern
  by_cases q : idx6 s L < L.length
  · rw [if_pos q]; exact h
  · rw [if_neg q, List.nodup_append]
    refine ⟨h, by simp, fun a ha b hb e => ?_⟩
    simp only [List.mem_singleton] at hb
    subst e hb
    exact q ((idx6_mem _ _).2 ha)
theorem foldlT_nd (T : List ByteArray) : ∀ L : List ByteArray, L.Nodup → (T.foldl pIntern L).Nodup := by
  induction T with
  | nil => intro L h; exact h
  | cons x r ih =>
    intro L h
    rw [List.foldl_cons]
    exact ih _ (pIn_nd h x)
theorem itn_nd (T : List ByteArray) : (itn T).Nodup := foldlT_nd T [] List.nodup_nil
/-- The same texts, the same bytes. -/
theorem itn_same {T U : List ByteArray} (h : ∀ s, s ∈ T ↔ s ∈ U) : sum6 (itn T) = sum6 (itn U) := by
  have hp : (itn T).Perm (itn U) := (List.perm_ext_iff_of_nodup (itn_nd T) (itn_nd U)).2 (fun s => by rw [itn_mem, itn_mem, h])
  exact List.Perm.sum_nat (hp.map ByteArray.size)
theorem allT_mem (X : List Nx) (s : ByteArray) : s ∈ allT X ↔ ∃ i, i < X.length ∧ s ∈ (X.getD i noNx).nd.texts := by
  unfold allT
  rw [List.mem_flatMap]
  constructor
  · rintro ⟨x, hx, hs⟩
    obtain ⟨i, hi, rfl⟩ := List.getElem_of_mem hx
    exact ⟨i, hi, by rwa [List.getD_eq_getElem?_getD, List.getElem?_eq_getElem hi]⟩
  · rintro ⟨i, hi, hs⟩
    rw [List.getD_eq_getElem?_getD, List.getElem?_eq_getElem hi] at hs
    exact ⟨X[i], List.getElem_mem hi, hs⟩
section
variable {X Y : List Nx} {p : Nat → Nat} {r : Int} {l : Lm} {d : Nat}
theorem Ren.txb (h : Ren X Y p) : txb Y = txb X := by
  refine itn_same fun s => ?_
  rw [allT_mem, allT_mem]
  constructor
  · rintro ⟨j, hj, hs⟩
    rw [h.len] at hj
    obtain ⟨i, hi, rfl⟩ := h.per.onto j hj
    rw [h.nd i hi] at hs
    exact ⟨i, hi, hs⟩
  · rintro ⟨i, hi, hs⟩
    exact ⟨p i, by rw [h.len]; exact h.per.lt i hi, by rw [h.nd i hi]; exact hs⟩
theorem Ren.fnx (h : Ren X Y p) (hX : FnX X) : FnX Y := fun j hj => by
  rw [h.len] at hj
  obtain ⟨i, hi, rfl⟩ := h.per.onto j hj
  rw [h.nd i hi]
  exact hX i hi
theorem same_edg (h : Y.map Nx.nd = X.map Nx.nd) : edg Y = edg X := by
  have e : ∀ Z : List Nx, edg Z = ((Z.map Nx.nd).map fun N => N.kids.length).sum := fun Z => by simp [edg, Function.comp_def]
  rw [e, e, h]
theorem same_allT (h : Y.map Nx.nd = X.map Nx.nd) : allT Y = allT X := by
  have e : ∀ Z : List Nx, allT Z = (Z.map Nx.nd).flatMap fun N => N.texts := fun Z => by simp [allT, List.flatMap_map]
  rw [e, e, h]
theorem same_txb (h : Y.map Nx.nd = X.map Nx.nd) : txb Y = txb X := by
  unfold txb
  rw [same_allT h]
theorem same_meL (h : Y.map Nx.nd = X.map Nx.nd) : meL Y d = meL X d := by
  unfold meL
  rw [same_len h, same_edg h, same_txb h]
theorem same_fn (h : Y.map Nx.nd = X.map Nx.nd) (hX : FnX X) : FnX Y := fun i hi => by
  rw [same_nd h]
  exact hX i (by rw [← same_len h]; exact hi)
end
theorem can_depth {X Y : List Nx} {r : Int} {d : Nat} (hR : RightIs X r) (hY : Y.map Nx.nd = cX X r) (hd : DepthIs X r d) : DepthIs Y ((X.length : Int) - 1) d := by
  have h := can_ren hR hY
  have e := can_root hR
  obtain ⟨d', hd'⟩ := depth_there Y ((X.length : Int) - 1)
  have hd2 := hd'
  rw [← e] at hd2
  have := h.depth hR hd hd2
  subst this
  exact hd'
/-- A scene of these nodes, wherever their lists lie. -/
def bare (P : List Nd) : List Nx := P.map fun N => ⟨N, none, 0, none, 0, none, 0⟩
theorem bare_nd (P : List Nd) : (bare P).map Nx.nd = P := by
  unfold bare
  rw [List.map_map]
  exact List.map_id' P
theorem check_right {X : List Nx} {r : Int} (h : RightIs X r) : CheckIs X r 0 0 := .inr (.inr ⟨h.1, h.2.1, .inr ⟨h.2.2.1, .inr ⟨rfl, rfl, h.2.2.2⟩⟩⟩)
end Go.Proofs.YtgoffkfpdigeeaaGreatDoor
