/- Scenes whose nodes have other places: they have the same canonical one; plain words. -/
import Derived.Test.YtcdpjaaiojpelaaDoorCRef2
namespace Go.Proofs.YtcdpjaaiojpelaaDoor
open Go.RowKit Go.Maps Go.WideMaps Go.Sort

/-- The same scene, with its nodes at other places. -/
structure Ren (X Y : List Nx) (p : Nat → Nat) : Prop where
  per : Per X.length p
  len : Y.length = X.length
  nd : ∀ i, i < X.length → (Y.getD (p i) noNx).nd = renNd (fun z => (p z.toNat : Int)) (X.getD i noNx).nd
section
variable {X Y : List Nx} {p : Nat → Nat} {r : Int}
theorem Ren.k (h : Ren X Y p) : RenK (kX X) (kX Y) p := by
  refine ⟨by rw [kX_length]; exact h.per, by rw [kX_length, kX_length]; exact h.len, fun i hi => ?_⟩
  rw [kX_length] at hi
  rw [kX_at X i hi, kX_at Y (p i) (by rw [h.len]; exact h.per.lt i hi), h.nd i hi]
  simp only [renNd, List.map_map]
  refine List.map_congr_left fun z _ => ?_
  simp
theorem getD_mapI (f : Int → Int) (l : List Int) (t : Nat) (ht : t < l.length) : (l.map f).getD t 0 = f l[t] := by simp [ht]
theorem kid_place (hok : ∀ i, i < X.length → okAt X i) {i : Nat} (hi : i < X.length) {z : Int} (hz : z ∈ (X.getD i noNx).nd.kids) : 0 ≤ z ∧ z.toNat < X.length := by
  obtain ⟨t, ht, rfl⟩ := List.getElem_of_mem hz
  have := hok i hi t ht
  rw [show (X.getD i noNx).nd.kids.getD t 0 = (X.getD i noNx).nd.kids[t] by rw [List.getD_eq_getElem?_getD, List.getElem?_eq_getElem ht]; rfl] at this
  have := isPb_iff.1 this
  omega
theorem Ren.right (h : Ren X Y p) (hR : RightIs X r) : RightIs Y (p r.toNat : Int) := by
  have hr := hR.root
  have hk := h.k
  refine ⟨?_, fun j hj t ht => ?_, (hk.dag hR.dag).2, fun y hy => ?_⟩
  · rw [isPb_iff, h.len]
    have := h.per.lt _ hr.2
    omega
  · rw [h.len] at hj ⊢
    obtain ⟨i, hi, rfl⟩ := h.per.onto j hj
    rw [h.nd i hi] at ht ⊢
    simp only [renNd, List.length_map] at ht
    have hz := kid_place hR.2.1 hi (List.getElem_mem ht)
    have hl := h.per.lt _ hz.2
    simp only [renNd]
    rw [getD_mapI _ _ t ht, isPb_iff]
    omega
  · rw [h.len] at hy
    obtain ⟨x, hx, rfl⟩ := h.per.onto y hy
    rw [Int.toNat_natCast]
    exact hk.rt (hR.2.2.2 x hx)
theorem Ren.ord (h : Ren X Y p) (hR : RightIs X r) : oX Y (p r.toNat : Int) = (oX X r).map p := by
  unfold oX
  rw [Int.toNat_natCast]
  exact ordO_ren h.k (kX_ok hR.2.1) (by rw [kX_length]; exact hR.root.2)
/-- The same canonical scene. -/
theorem Ren.can (h : Ren X Y p) (hR : RightIs X r) : cX Y (p r.toNat : Int) = cX X r := by
  have ho := h.ord hR
  have hlt : ∀ i ∈ oX X r, i < X.length := fun i hi => by have := hR.ord.good.lt i hi; rwa [kX_length] at this
  unfold cX
  rw [ho, List.map_map]
  refine List.map_congr_left fun i hi => ?_
  simp only [Function.comp]
  rw [h.nd i (hlt i hi)]
  simp only [renNd, List.map_map]
  congr 1
  refine List.map_congr_left fun z hz => ?_
  have hz' := kid_place hR.2.1 (hlt i hi) hz
  simp only [Function.comp, pX]
  rw [ho, Int.toNat_natCast, idx_ren (K := kX X) (by rw [kX_length]; exact h.per) (fun x hx => by rw [kX_length]; exact hlt x hx) (by rw [kX_length]; exact hz'.2)]
theorem Ren.small (h : Ren X Y p) (hX : Small X) : Small Y := by
  refine ⟨by rw [h.len]; exact hX.1, fun j hj => ?_⟩
  rw [h.len] at hj
  obtain ⟨i, hi, rfl⟩ := h.per.onto j hj
  rw [h.nd i hi, renNd_great]
  exact hX.2 i hi
theorem fold1_ren (f g : Nat → Nat) (l : List Nat) : fold1 f (l.map g) = fold1 (fun k => f (g k)) l := by simp [fold1, List.foldl_map]
theorem DepthIs.one {d d' : Nat} (h : DepthIs X r d) (h' : DepthIs X r d') (hR : RightIs X r) : d' = d := by
  obtain ⟨f, h1, rfl, _⟩ := h.2 hR
  obtain ⟨g, h2, rfl, _⟩ := h'.2 hR
  exact HtIs.uniq h2 h1 (kX_ok hR.2.1) _ _ rfl (by rw [kX_length]; exact hR.root.2)
theorem Ren.depth (h : Ren X Y p) (hR : RightIs X r) {d d' : Nat} (hd : DepthIs X r d) (hd' : DepthIs Y (p r.toNat : Int) d') : d' = d := by
  obtain ⟨f, h1, rfl, _⟩ := hd.2 hR
  obtain ⟨g, h2, rfl, _⟩ := hd'.2 (h.right hR)
  rw [Int.toNat_natCast]
  have hk := h.k
  have h3 : HtIs (kX X) (fun x => g (p x)) := fun a ha => by
    have := h2 (p a) (by rw [hk.len]; exact hk.per.lt a ha)
    rw [hk.kids a ha, fold1_ren] at this
    exact this
  exact HtIs.uniq h3 h1 (kX_ok hR.2.1) _ r.toNat rfl (by rw [kX_length]; exact hR.root.2)
theorem edg_range (X : List Nx) : edg X = ((List.range X.length).map fun i => (X.getD i noNx).nd.kids.length).sum := by
  unfold edg
  congr 1
  refine List.ext_getElem (by simp) (fun i h1 h2 => ?_)
  have : i < X.length := by simpa using h1
  simp [this]
theorem Ren.edg (h : Ren X Y p) : edg Y = edg X := by
  rw [edg_range Y, edg_range X, h.len]
  have hp : ((List.range X.length).map p).Perm (List.range X.length) := by
    refine (List.perm_ext_iff_of_nodup ?_ List.nodup_range).2 (fun y => ?_)
    · refine List.pairwise_map.2 ?_
      refine List.Pairwise.imp_of_mem (R := fun a b => a ≠ b) (fun {a b} ha hb hne q => hne (h.per.inj a b (List.mem_range.1 ha) (List.mem_range.1 hb) q)) ?_
      exact List.nodup_range
    · constructor
      · intro hy
        obtain ⟨x, hx, rfl⟩ := List.mem_map.1 hy
        exact List.mem_range.2 (h.per.lt x (List.mem_range.1 hx))
      · intro hy
        obtain ⟨x, hx, rfl⟩ := h.per.onto y (List.mem_range.1 hy)
        exact List.mem_map_of_mem (List.mem_range.2 hx)
  rw [← List.Perm.sum_nat (hp.map fun i => (Y.getD i noNx).nd.kids.length), List.map_map]
  congr 1
  refine List.map_congr_left fun i hi => ?_
  simp only [Function.comp]
  rw [h.nd i (List.mem_range.1 hi)]
  simp [renNd]
end

/-- The canonical scene is the scene, with its nodes at their places. -/
theorem can_ren {X Y : List Nx} {r : Int} (hR : RightIs X r) (hY : Y.map Nx.nd = cX X r) : Ren X Y (oX X r).idxOf := by
  have hord := hR.ord
  have hol := oX_length hR
  have hlen : Y.length = X.length := by
    have := congrArg List.length hY
    simp only [List.length_map, cX] at this
    omega
  refine ⟨⟨fun i hi => ?_, fun i j hi hj e => idx_inj (oX_all hR i hi) (oX_all hR j hj) e⟩, hlen, fun i hi => ?_⟩
  · have := hord.idx (x := i) (by rw [kX_length]; exact hi)
    rwa [kX_length] at this
  · have hil : (oX X r).idxOf i < (oX X r).length := List.idxOf_lt_length_of_mem (oX_all hR i hi)
    have h1 : (Y.map Nx.nd)[(oX X r).idxOf i]? = (cX X r)[(oX X r).idxOf i]? := by rw [hY]
    unfold cX at h1
    rw [List.getElem?_map, List.getElem?_map, List.getElem?_eq_getElem hil, List.getElem?_eq_getElem (by omega)] at h1
    have e : (oX X r)[(oX X r).idxOf i] = i := List.getElem_idxOf hil
    rw [e] at h1
    rw [List.getD_eq_getElem?_getD, List.getElem?_eq_getElem (by omega)]
    show _ = renNd (pX X r) _
    simpa using h1
theorem can_root {X : List Nx} {r : Int} (hR : RightIs X r) : (((oX X r).idxOf r.toNat : Nat) : Int) = (X.length : Int) - 1 := by
  have : (oX X r).idxOf r.toNat + 1 = (kX X).length := hR.ord.last
  rw [kX_length] at this
  omega
/-- In one kids stand ahead. -/
theorem can_ahead {X Y : List Nx} {r : Int} (hR : RightIs X r) (hY : Y.map Nx.nd = cX X r) (i : Nat) (hi : i < X.length) (z : Int) (hz : z ∈ (Y.getD i noNx).nd.kids) : 0 ≤ z ∧ z < i := by
  have h := can_ren hR hY
  obtain ⟨x, hx, rfl⟩ := h.per.onto i hi
  rw [h.nd x hx] at hz
  simp only [renNd] at hz
  obtain ⟨t, ht, rfl⟩ := List.mem_map.1 hz
  have h1 := kid_place hR.2.1 hx ht
  have h2 := (hR.ord.good.kids x (oX_all hR x hx) t.toNat (by
    unfold Ed
    rw [kX_at X x hx]
    exact List.mem_map_of_mem ht)).2
  have h3 : (oX X r).idxOf t.toNat < (oX X r).idxOf x := h2
  omega
theorem oX_range {X : List Nx} {r : Int} (h : IsCan X r) : oX X r = List.range X.length := by
  have hol := oX_length h.1
  refine List.ext_getElem (by simp [hol]) (fun j h1 h2 => ?_)
  have hj : j < X.length := by omega
  have := List.getElem_idxOf (List.idxOf_lt_length_of_mem (oX_all h.1 j hj))
  simp only [h.2 j hj] at this
  rw [this]
  simp
theorem isCan_iff (X : List Nx) (r : Int) : IsCan X r ↔ RightIs X r ∧ ((X.length : Int) - 1 = r ∧ X.map Nx.nd = cX X r) := by
  constructor
  · intro h
    have hR := h.1
    refine ⟨hR, ?_, ?_⟩
    · rw [← can_root hR, h.2 _ hR.root.2]
      exact hR.root.1.symm
    · unfold cX
      rw [oX_range h]
      refine List.ext_getElem (by simp) (fun j h1 h2 => ?_)
      have hj : j < X.length := by simpa using h1
      simp only [List.getElem_map, List.getElem_range]
      have e : X.getD j noNx = X[j] := by rw [List.getD_eq_getElem?_getD, List.getElem?_eq_getElem hj]; rfl
      rw [e]
      have hk : X[j].nd.kids.map (pX X r) = X[j].nd.kids := by
        rw [← e]
        have : ∀ l : List Int, (∀ z ∈ l, 0 ≤ z ∧ z.toNat < X.length) → l.map (pX X r) = l := fun l => by
          induction l with
          | nil => exact fun _ => rfl
          | cons z t ih =>
            intro hl
            obtain ⟨q1, q2⟩ := hl z (by simp)
            rw [List.map_cons, ih (fun y hy => hl y (by simp [hy]))]
            congr 1
            unfold pX
            rw [h.2 _ q2]
            omega
        exact this _ (fun z hz => kid_place hR.2.1 hj hz)
      show X[j].nd = renNd (pX X r) X[j].nd
      unfold renNd
      rw [hk]
  · rintro ⟨hR, h1, h2⟩
    have h := can_ren hR h2
    have ho := h.ord hR
    rw [can_root hR, h1] at ho
    refine ⟨hR, fun i hi => ?_⟩
    have hil := List.idxOf_lt_length_of_mem (oX_all hR i hi)
    have h3 : (oX X r)[(oX X r).idxOf i]? = ((oX X r).map (oX X r).idxOf)[(oX X r).idxOf i]? := by rw [← ho]
    rw [List.getElem?_map, List.getElem?_eq_getElem hil, List.getElem_idxOf hil] at h3
    have h4 : i = (oX X r).idxOf i := by simpa using h3
    exact h4.symm
theorem can_right {X Y : List Nx} {r : Int} (hR : RightIs X r) (hY : Y.map Nx.nd = cX X r) : RightIs Y ((X.length : Int) - 1) := by
  have := (can_ren hR hY).right hR
  rwa [can_root hR] at this
theorem can_can {X Y : List Nx} {r : Int} (hR : RightIs X r) (hY : Y.map Nx.nd = cX X r) : cX Y ((X.length : Int) - 1) = cX X r := by
  have := (can_ren hR hY).can hR
  rwa [can_root hR] at this
theorem can_isCan {X Y : List Nx} {r : Int} (hR : RightIs X r) (hY : Y.map Nx.nd = cX X r) : IsCan Y ((X.length : Int) - 1) := by
  have h := can_ren hR hY
  refine (isCan_iff Y _).2 ⟨can_right hR hY, by rw [h.len], by rw [can_can hR hY]; exact hY⟩
/-- Scenes with the same nodes have the same one. -/
theorem same_kX {X Y : List Nx} (h : Y.map Nx.nd = X.map Nx.nd) : kX Y = kX X := by
  have : ∀ Z : List Nx, kX Z = (Z.map Nx.nd).map fun N => N.kids.map Int.toNat := fun Z => by simp [kX, kOf, lks, lnOf]
  rw [this, this, h]
theorem same_oX {X Y : List Nx} (h : Y.map Nx.nd = X.map Nx.nd) (r : Int) : oX Y r = oX X r := by unfold oX; rw [same_kX h]
theorem same_cX {X Y : List Nx} (h : Y.map Nx.nd = X.map Nx.nd) {r : Int} (hR : RightIs X r) : cX Y r = cX X r := by
  have hlt : ∀ i ∈ oX X r, i < X.length := fun i hi => by have := hR.ord.good.lt i hi; rwa [kX_length] at this
  unfold cX
  rw [same_oX h]
  refine List.map_congr_left fun i hi => ?_
  have : pX Y r = pX X r := by funext z; unfold pX; rw [same_oX h]
  rw [this, nds_at h i (hlt i hi)]

end Go.Proofs.YtcdpjaaiojpelaaDoor
