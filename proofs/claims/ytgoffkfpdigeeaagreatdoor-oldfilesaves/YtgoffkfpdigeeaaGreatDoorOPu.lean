/- Scenes of version 1: what a scene made flat is; who is forward: pure. (Laid ahead in round 15.) -/
import Derived.Test.YtgoffkfpdigeeaaGreatDoorOTy
import Derived.Test.YtgoffkfpdigeeaaGreatDoorOFl
import Derived.Test.YtgoffkfpdigeeaaGreatDoorORn
namespace Go.Proofs.YtgoffkfpdigeeaaGreatDoor
open Go.RowKit Go.Maps Go.WideMaps Go.Sort

/-- Is all right, by version 1, but for the limits? -/
def WhoO (X : List Nx) (r : Int) : Prop := tyEo X = 0 ∧ RightIs X r
section
variable {X Y T : List Nx} {p : Nat → Nat} {r : Int} {l : Lm} {d d' : Nat}
theorem VoIs.uniq {e z e' z' : Int} (h : VoIs X r l d e z) (h' : VoIs X r l d e' z') : e' = e ∧ z' = z := by
  rcases h with ⟨h1, rfl, rfl⟩ | ⟨h1, h2, rfl, rfl⟩ | ⟨h1, h2, n, y, hc, h3⟩
  · rcases h' with ⟨_, rfl, rfl⟩ | ⟨q, _⟩ | ⟨q, _⟩
    · exact ⟨rfl, rfl⟩
    · rw [h1] at q; cases q
    · rw [h1] at q; cases q
  · rcases h' with ⟨q, _⟩ | ⟨_, _, rfl, rfl⟩ | ⟨_, q, _⟩
    · rw [h1] at q; cases q
    · exact ⟨rfl, rfl⟩
    · exact absurd q h2
  · rcases h' with ⟨q, _⟩ | ⟨_, q, _⟩ | ⟨_, _, n', y', hc', h3'⟩
    · rw [h1] at q; cases q
    · exact absurd h2 q
    · obtain ⟨rfl, rfl⟩ := hc.uniq hc'
      rcases h3 with ⟨p, rfl, rfl⟩ | ⟨p, ⟨p1, rfl, rfl⟩ | ⟨p1, rfl, rfl⟩⟩
      · rcases h3' with ⟨_, rfl, rfl⟩ | ⟨q, _⟩
        · exact ⟨rfl, rfl⟩
        · exact absurd q p
      · rcases h3' with ⟨q, _⟩ | ⟨_, ⟨_, rfl, rfl⟩ | ⟨q, _⟩⟩
        · exact absurd p q
        · exact ⟨rfl, rfl⟩
        · rw [p1] at q; cases q
      · rcases h3' with ⟨q, _⟩ | ⟨_, ⟨q, _⟩ | ⟨_, rfl, rfl⟩⟩
        · exact absurd p q
        · rw [p1] at q; cases q
        · exact ⟨rfl, rfl⟩
theorem VoIs.zero {e z : Int} (h : VoIs X r l d e z) : e = 0 ↔ okL l = true ∧ WhoO X r ∧ inL (meL X d) l = true := by
  rcases h with ⟨h1, rfl, rfl⟩ | ⟨h1, h2, rfl, rfl⟩ | ⟨h1, h2, n, y, hc, h3⟩
  · exact ⟨fun q => by omega, fun q => by rw [h1] at q; exact absurd q.1 (by simp)⟩
  · exact ⟨fun q => absurd q h2, fun q => absurd q.2.1.1 h2⟩
  · have hr := hc.right
    rcases h3 with ⟨p, rfl, rfl⟩ | ⟨p, ⟨p1, rfl, rfl⟩ | ⟨p1, rfl, rfl⟩⟩
    · exact ⟨fun q => absurd q p, fun q => absurd (hr.2 q.2.1.2) p⟩
    · exact ⟨fun q => by omega, fun q => by rw [p1] at q; exact absurd q.2.2 (by simp)⟩
    · exact ⟨fun _ => ⟨h1, ⟨h2, hr.1 p⟩, p1⟩, fun _ => rfl⟩
theorem vo_good (ho : okL l = true) (hW : WhoO X r) (hi : inL (meL X d) l = true) : VoIs X r l d 0 0 :=
  .inr (.inr ⟨ho, hW.1, 0, 0, check_right hW.2, .inr ⟨rfl, .inr ⟨hi, rfl, rfl⟩⟩⟩)
theorem same_tyGo : ∀ (X Y : List Nx) (k : Nat), Y.map Nx.nd = X.map Nx.nd → tyGo Y k = tyGo X k
  | [], [], _, _ => rfl
  | x :: t, y :: u, k, h => by
    simp only [List.map_cons, List.cons.injEq] at h
    unfold tyGo
    rw [h.1, same_tyGo t u (k + 1) h.2]
  | [], _ :: _, _, h => by simp at h
  | _ :: _, [], _, h => by simp at h
theorem same_tyEo (h : Y.map Nx.nd = X.map Nx.nd) : tyEo Y = tyEo X := congrArg Prod.fst (same_tyGo X Y 0 h)
theorem same_tyZo (h : Y.map Nx.nd = X.map Nx.nd) : tyZo Y = tyZo X := congrArg Prod.snd (same_tyGo X Y 0 h)
theorem same_vo (h : Y.map Nx.nd = X.map Nx.nd) {e z : Int} (hv : VoIs Y r l d e z) : VoIs X r l d e z := by
  unfold VoIs at hv ⊢
  rw [same_tyEo h, same_tyZo h, same_meL h] at hv
  rcases hv with q | q | ⟨q1, q2, n, y, q3, q4⟩
  · exact .inl q
  · exact .inr (.inl q)
  · exact .inr (.inr ⟨q1, q2, n, y, same_check h q3, q4⟩)
theorem tyGo_zero : ∀ (X : List Nx) (k : Nat), (tyGo X k).1 = 0 ↔ ∀ x ∈ X, tyNo x.nd = 0
  | [], _ => by simp [tyGo]
  | x :: t, k => by
    unfold tyGo
    by_cases h : tyNo x.nd = 0
    · rw [if_pos h, tyGo_zero t (k + 1)]
      simp [h]
    · rw [if_neg h]
      simp [h]
theorem tyEo_iff (X : List Nx) : tyEo X = 0 ↔ ∀ i, i < X.length → tyNo (X.getD i noNx).nd = 0 := by
  unfold tyEo
  rw [tyGo_zero]
  constructor
  · intro h i hi
    rw [List.getD_eq_getElem?_getD, List.getElem?_eq_getElem hi]
    exact h _ (List.getElem_mem hi)
  · intro h x hx
    obtain ⟨i, hi, rfl⟩ := List.getElem_of_mem hx
    have := h i hi
    rwa [List.getD_eq_getElem?_getD, List.getElem?_eq_getElem hi] at this
theorem ren_tyNo (f : Int → Int) (N : Nd) : tyNo (renNd f N) = tyNo N := by simp [tyNo, chkN, renNd]
theorem Ren.tyo (h : Ren X Y p) : tyEo Y = 0 ↔ tyEo X = 0 := by
  rw [tyEo_iff, tyEo_iff]
  constructor
  · intro q i hi
    have := q (p i) (by rw [h.len]; exact h.per.lt i hi)
    rwa [h.nd i hi, ren_tyNo] at this
  · intro q j hj
    rw [h.len] at hj
    obtain ⟨i, hi, rfl⟩ := h.per.onto j hj
    rw [h.nd i hi, ren_tyNo]
    exact q i hi

/-- What is made flat of a scene: by other names it is the scene, and the same canonical one is of both. -/
structure Flt (X T : List Nx) (r : Int) : Prop where
  right : RightIs T 0
  can : cX T 0 = cX X r
  len : T.length = X.length
  edg : Go.Proofs.YtgoffkfpdigeeaaGreatDoor.edg T = Go.Proofs.YtgoffkfpdigeeaaGreatDoor.edg X
  txb : Go.Proofs.YtgoffkfpdigeeaaGreatDoor.txb T = Go.Proofs.YtgoffkfpdigeeaaGreatDoor.txb X
  tyo : tyEo T = 0 ↔ tyEo X = 0
  depth : ∀ d d', DepthIs X r d → DepthIs T 0 d' → d' = d
  small : Small X → Small T
  fnx : FnX X → FnX T
  fwd : ∀ i, i < T.length → ∀ z ∈ (T.getD i noNx).nd.kids, (i : Int) < z
theorem flt_of (hX : Small X) (hR : RightIs X r) (hT : T.map Nx.nd = fX X r) : Flt X T r := by
  have hY := bare_nd (cX X r)
  have h1 := can_ren hR hY
  have hl : (bare (cX X r)).length = X.length := h1.len
  have hRY := can_right hR hY
  have hYs := h1.small hX
  have hTl : T.length = X.length := by
    have := congrArg List.length hT
    unfold fX at this
    rw [List.length_map, List.length_reverse, List.length_map] at this
    rw [this, ← hl]
    unfold bare
    rw [List.length_map]
  have hTn : ∀ j, j < (bare (cX X r)).length → (T.getD j noNx).nd = trnNd (bare (cX X r)).length ((bare (cX X r)).getD ((bare (cX X r)).length - 1 - j) noNx).nd := fun j hj => by
    have h3 := map_at (X := T) (j := j) (by omega)
    have h4 := map_at (X := bare (cX X r)) (j := (bare (cX X r)).length - 1 - j) (by omega)
    rw [hY] at h4
    rw [hT] at h3
    unfold fX at h3
    have hc : (cX X r).length = X.length := by rw [← hY, List.length_map, hl]
    rw [List.getElem?_reverse (by rw [List.length_map]; omega), List.length_map, List.getElem?_map, hc, ← hl, h4] at h3
    exact (Option.some.inj h3).symm
  obtain ⟨h2, h2r⟩ := turn_ren hYs hRY (by rw [hTl, hl]) hTn
  have h0 : (((bare (cX X r)).length - 1 - ((X.length : Int) - 1).toNat : Nat) : Int) = 0 := by
    have hp := hR.1
    have := of_decide_eq_true (show decide (0 ≤ r ∧ r < X.length) = true from hp)
    omega
  have hRT := h2.right hRY
  have hcT := h2.can hRY
  rw [h0] at hRT hcT
  refine ⟨hRT, by rw [hcT]; exact can_can hR hY, hTl, by rw [h2.edg, h1.edg], by rw [h2.txb, h1.txb], h2.tyo.trans h1.tyo, fun d d' hd hd' => ?_, fun _ => h2.small hYs, fun hF => h2.fnx (h1.fnx hF), fun i hi z hz => ?_⟩
  · have hdY := can_depth hR hY hd
    rw [← h0] at hd'
    exact h2.depth hRY hdY hd'
  · have hi2 : i < (bare (cX X r)).length := by omega
    rw [hTn i hi2] at hz
    simp only [trnNd] at hz
    obtain ⟨t, ht, rfl⟩ := List.mem_map.1 hz
    have h5 := can_ahead hR hY ((bare (cX X r)).length - 1 - i) (by omega) t ht
    have hn := hYs.1
    have h6 := (trn_place (n := (bare (cX X r)).length) (z := t) hn (isPb_iff.2 (by omega))).2
    rw [h6]
    omega
theorem Flt.again {T U : List Nx} (h : Flt X T r) (hT : T.map Nx.nd = fX X r) (hU : U.map Nx.nd = fX T 0) : U.map Nx.nd = T.map Nx.nd := by
  rw [hU, hT]
  unfold fX
  rw [h.can, h.len]
theorem Flt.meL (h : Flt X T r) : meL T d = Go.Proofs.YtgoffkfpdigeeaaGreatDoor.meL X d := by
  unfold Go.Proofs.YtgoffkfpdigeeaaGreatDoor.meL
  rw [h.len, h.edg, h.txb]
theorem Flt.vo (h : Flt X T r) (hR : RightIs X r) (hd : DepthIs X r d) (hd' : DepthIs T 0 d') {e z e' z' : Int} (hv : VoIs X r l d e z) (hv' : VoIs T 0 l d' e' z') : e' = 0 ↔ e = 0 := by
  have := h.depth d d' hd hd'
  subst this
  rw [hv.zero, hv'.zero, h.meL]
  unfold WhoO
  rw [h.tyo]
  simp [hR, h.right]
/-- Is a scene right, and forward? -/
def FowIs (X : List Nx) (r : Int) : Prop := RightIs X r ∧ r = 0 ∧ ∀ i, i < X.length → ∀ z ∈ (X.getD i noNx).nd.kids, (i : Int) < z
theorem Flt.fw (h : Flt X T r) : FowIs T 0 := ⟨h.right, rfl, h.fwd⟩
theorem FowIs.none (h : FowIs X r) : ∀ i, i < X.length → ∀ z ∈ (X.getD i noNx).nd.kids, z ≠ 0 := fun i hi z hz q => by
  have := h.2.2 i hi z hz
  omega
theorem same_fw (h : Y.map Nx.nd = X.map Nx.nd) : FowIs Y r ↔ FowIs X r := by
  unfold FowIs
  rw [same_right h, same_len h]
  simp only [same_nd h]
end
end Go.Proofs.YtgoffkfpdigeeaaGreatDoor
