/- A scene with its nodes in the other order: the words. -/
import Derived.Test.YtlfibkfjklggeaaGLaw
namespace Go.Proofs.Ytlfibkfjklggeaa
open Go.RowKit Go.Maps Go.WideMaps Go.Sort

theorem kid_of9 {X : List Nx} {k m : Nat} (hk : k < X.length) (e : Ed (kX X) k m) : ∃ j, j < (X.getD k noNx).nd.kids.length ∧ ((X.getD k noNx).nd.kids.getD j 0).toNat = m := by
  unfold Ed at e
  rw [kX_at X k hk] at e
  obtain ⟨v, hv, rfl⟩ := List.mem_map.1 e
  obtain ⟨j, hj, rfl⟩ := List.getElem_of_mem hv
  exact ⟨j, hj, by rw [List.getD_eq_getElem?_getD, List.getElem?_eq_getElem hj]; rfl⟩

/-- A place, counted from the other end. -/
def trn (n : Nat) (z : Int) : Int := wrap64 ((n : Int) - 1 - z)
theorem trn_in (n : Nat) (z : Int) : inR (trn n z) := by
  unfold trn inR wrap64
  omega
theorem trn_back {n : Nat} {z : Int} (h : inR z) : trn n (trn n z) = z := by
  unfold trn wrap64
  obtain ⟨h1, h2⟩ := h
  omega
theorem trn_place {n : Nat} {z : Int} (hn : n ≤ 60) (h : isPb n z = true) : isPb n (trn n z) = true ∧ trn n z = ((n - 1 - z.toNat : Nat) : Int) := by
  have h1 := isPb_iff.1 h
  have h2 : trn n z = (n : Int) - 1 - z := by
    unfold trn
    rw [IntWalk.wrap64_in _ (by omega)]
  refine ⟨isPb_iff.2 ?_, ?_⟩ <;> rw [h2] <;> omega
/-- A node in a turned scene. -/
def trnNd (n : Nat) (N : Nd) : Nd := ⟨N.kind, N.ints, N.texts, N.kids.map (trn n)⟩
theorem trnNd_great (n : Nat) (N : Nd) : great (trnNd n N) = great N := by
  unfold great trnNd
  simp only [List.length_map]
/-- A turned scene. -/
structure Tn (X T : List Nx) (r r' : Int) : Prop where
  len : T.length = X.length
  nd : ∀ j, j < X.length → (T.getD j noNx).nd.kids = ((X.getD (X.length - 1 - j) noNx).nd.kids).map (trn X.length)
  few : X.length ≤ 60
  root : r' = trn X.length r
  inr : inR r
  ink : ∀ i, i < X.length → ∀ k ∈ (X.getD i noNx).nd.kids, inR k
section
variable {X T : List Nx} {r r' : Int}
theorem Tn.symm (h : Tn X T r r') : Tn T X r' r := by
  have hl := h.len
  refine ⟨hl.symm, fun j hj => ?_, by rw [hl]; exact h.few, by rw [h.root, hl, trn_back h.inr], by rw [h.root]; exact trn_in _ _, fun i hi k hk => ?_⟩
  · rw [h.nd _ (by omega), hl, List.map_map, show X.length - 1 - (X.length - 1 - j) = j by omega]
    rw [hl] at hj
    have q : ∀ l : List Int, (∀ k ∈ l, inR k) → l = l.map (trn X.length ∘ trn X.length) := fun l => by
      induction l with
      | nil => exact fun _ => rfl
      | cons a t ih =>
        intro hl
        rw [List.map_cons, ← ih (fun k hk => hl k (List.mem_cons_of_mem _ hk))]
        simp only [Function.comp]
        rw [trn_back (hl a (by simp))]
    exact q _ (h.ink j hj)
  · rw [h.nd i (by omega)] at hk
    obtain ⟨z, _, rfl⟩ := List.mem_map.1 hk
    exact trn_in _ _
theorem Tn.place (h : Tn X T r r') (hp : isPb X.length r = true) : isPb T.length r' = true ∧ r'.toNat = X.length - 1 - r.toNat := by
  obtain ⟨h1, h2⟩ := trn_place h.few hp
  rw [h.len, h.root]
  exact ⟨h1, by rw [h2, Int.toNat_natCast]⟩
theorem Tn.ok (h : Tn X T r r') (ho : ∀ i, i < X.length → okAt X i) : ∀ i, i < T.length → okAt T i := by
  intro i hi j hj
  rw [h.len] at hi ⊢
  rw [h.nd i hi] at hj ⊢
  have hj' : j < (X.getD (X.length - 1 - i) noNx).nd.kids.length := by simpa using hj
  have := ho (X.length - 1 - i) (by omega) j hj'
  have e : ((X.getD (X.length - 1 - i) noNx).nd.kids.map (trn X.length)).getD j 0 = trn X.length ((X.getD (X.length - 1 - i) noNx).nd.kids.getD j 0) := by
    generalize (X.getD (X.length - 1 - i) noNx).nd.kids = l at hj' ⊢
    simp [hj']
  rw [e]
  exact (trn_place h.few this).1
theorem Tn.ed (h : Tn X T r r') (ho : ∀ i, i < X.length → okAt X i) {a b : Nat} (e : Ed (kX X) a b) : Ed (kX T) (X.length - 1 - a) (X.length - 1 - b) := by
  have ha : a < X.length := by have := e.lt; rwa [kX_length] at this
  obtain ⟨j, hj, rfl⟩ := kid_of9 ha e
  have hp := ho a ha j hj
  obtain ⟨_, h2⟩ := trn_place h.few hp
  unfold Ed
  rw [kX_at T _ (by rw [h.len]; omega), h.nd _ (by omega), show X.length - 1 - (X.length - 1 - a) = a by omega, List.map_map]
  generalize (X.getD a noNx).nd.kids = l at hj h2 ⊢
  refine List.mem_map.2 ⟨l.getD j 0, by rw [List.getD_eq_getElem?_getD, List.getElem?_eq_getElem hj]; exact List.getElem_mem hj, ?_⟩
  simp only [Function.comp]
  rw [h2, Int.toNat_natCast]
theorem Tn.rt (h : Tn X T r r') (ho : ∀ i, i < X.length → okAt X i) {a b : Nat} (q : Rt (Ed (kX X)) a b) : Rt (Ed (kX T)) (X.length - 1 - a) (X.length - 1 - b) :=
  q (fun x => Rt (Ed (kX T)) (X.length - 1 - a) (X.length - 1 - x)) (Rt.refl _ _) (fun _ _ p e => p.tail (h.ed ho e))
theorem Tn.lead (h : Tn X T r r') (ho : ∀ i, i < X.length → okAt X i) {a b : Nat} (q : Lead (Ed (kX X)) a b) : Lead (Ed (kX T)) (X.length - 1 - a) (X.length - 1 - b) := by
  obtain ⟨c, e, q⟩ := q
  exact ⟨_, h.ed ho e, h.rt ho q⟩
theorem Tn.acyc (h : Tn X T r r') (ho : ∀ i, i < X.length → okAt X i) (hc : ∀ x, ¬ Lead (Ed (kX X)) x x) : ∀ x, ¬ Lead (Ed (kX T)) x x := fun x q => by
  have := h.symm.lead (h.ok ho) q
  exact hc _ this
theorem Tn.all (h : Tn X T r r') (ho : ∀ i, i < X.length → okAt X i) (hp : isPb X.length r = true) (hc : ∀ x, x < X.length → Rt (Ed (kX X)) r.toNat x) : ∀ x, x < T.length → Rt (Ed (kX T)) r'.toNat x := fun x hx => by
  have := h.rt ho (hc (X.length - 1 - x) (by rw [h.len] at hx; omega))
  rw [(h.place hp).2]
  rwa [show X.length - 1 - (X.length - 1 - x) = x by rw [h.len] at hx; omega] at this
theorem Tn.right (h : Tn X T r r') (hr : RightIs X r) : RightIs T r' := ⟨(h.place hr.1).1, h.ok hr.2.1, h.acyc hr.2.1 hr.2.2.1, h.all hr.2.1 hr.1 hr.2.2.2⟩
theorem Tn.code (h : Tn X T r r') {e z e' z' : Int} (hc : CheckIs X r e z) (hc' : CheckIs T r' e' z') : e' = e := by
  rcases hc with ⟨h1, rfl, rfl⟩ | ⟨h1, i, hi, rfl, rfl, hno, hbe⟩ | ⟨h1, h2, ⟨i, rfl, rfl, hf⟩ | ⟨h3, ⟨i, rfl, rfl, hi, hn, hb⟩ | ⟨rfl, rfl, h4⟩⟩⟩
  · rcases hc' with ⟨_, q, _⟩ | ⟨_, _, _, q, _⟩ | ⟨q, _⟩
    · exact q
    · exact q
    · have := (h.symm.place q).1; rw [h1] at this; cases this
  · rcases hc' with ⟨_, q, _⟩ | ⟨_, _, _, q, _⟩ | ⟨_, q, _⟩
    · exact q
    · exact q
    · exact absurd (h.symm.ok q i hi) hno
  · rcases hc' with ⟨q, _⟩ | ⟨_, i', hi', _, _, q, _⟩ | ⟨_, q2, ⟨i', q, _⟩ | ⟨q3, _⟩⟩
    · rw [(h.place h1).1] at q; cases q
    · exact absurd (h.ok h2 i' hi') q
    · exact q
    · exact absurd hf.1 (h.symm.acyc q2 q3 i)
  · rcases hc' with ⟨q, _⟩ | ⟨_, i', hi', _, _, q, _⟩ | ⟨q1, q2, ⟨i', _, _, q⟩ | ⟨_, ⟨_, q, _⟩ | ⟨_, _, q⟩⟩⟩
    · rw [(h.place h1).1] at q; cases q
    · exact absurd (h.ok h2 i' hi') q
    · exact absurd q.1 (h.acyc h2 h3 i')
    · exact q
    · exact absurd (h.symm.all q2 q1 q i hi) hn
  · rcases hc' with ⟨q, _⟩ | ⟨_, i', hi', _, _, q, _⟩ | ⟨q1, q2, ⟨i', _, _, q⟩ | ⟨_, ⟨i', _, _, hi', q, _⟩ | ⟨q, _, _⟩⟩⟩
    · rw [(h.place h1).1] at q; cases q
    · exact absurd (h.ok h2 i' hi') q
    · exact absurd q.1 (h.acyc h2 h3 i')
    · exact absurd (h.all h2 h1 h4 i' hi') q
    · exact q
theorem fold1_map (f : Nat → Nat) (g : Nat → Nat) (l : List Nat) : fold1 f (l.map g) = fold1 (fun k => f (g k)) l := by simp [fold1, List.foldl_map]
theorem Tn.kids (h : Tn X T r r') (ho : ∀ i, i < X.length → okAt X i) {a : Nat} (ha : a < X.length) : (kX T).getD a [] = ((kX X).getD (X.length - 1 - a) []).map (fun k => X.length - 1 - k) := by
  rw [kX_at T a (by rw [h.len]; exact ha), kX_at X _ (by omega), h.nd a ha, List.map_map, List.map_map]
  refine List.map_congr_left fun z hz => ?_
  simp only [Function.comp]
  obtain ⟨j, hj, rfl⟩ := List.getElem_of_mem hz
  have := ho (X.length - 1 - a) (by omega) j hj
  rw [show (X.getD (X.length - 1 - a) noNx).nd.kids.getD j 0 = (X.getD (X.length - 1 - a) noNx).nd.kids[j] by rw [List.getD_eq_getElem?_getD, List.getElem?_eq_getElem hj]; rfl] at this
  rw [(trn_place h.few this).2, Int.toNat_natCast]
theorem Tn.ht (h : Tn X T r r') (ho : ∀ i, i < X.length → okAt X i) {f : Nat → Nat} (hf : HtIs (kX X) f) : HtIs (kX T) (fun y => f (X.length - 1 - y)) := by
  intro a ha
  rw [kX_length, h.len] at ha
  rw [h.kids ho ha, fold1_map]
  show f (X.length - 1 - a) = _
  rw [hf (X.length - 1 - a) (by rw [kX_length]; omega)]
  congr 1
  refine fold1_congr _ (fun k hk => ?_)
  have : k < X.length := by have := kX_ok ho (X.length - 1 - a) k hk; rwa [kX_length] at this
  show f k = f (X.length - 1 - (X.length - 1 - k))
  rw [show X.length - 1 - (X.length - 1 - k) = k by omega]
theorem DepthIs.uniq {d d' : Nat} (h : DepthIs X r d) (h' : DepthIs X r d') : d' = d := by
  by_cases hR : RightIs X r
  · obtain ⟨f, h1, rfl, _⟩ := h.2 hR
    obtain ⟨g, h2, rfl, _⟩ := h'.2 hR
    have hr := isPb_iff.1 hR.1
    exact HtIs.uniq h2 h1 (kX_ok hR.2.1) _ _ rfl (by rw [kX_length]; omega)
  · rw [h.1 hR, h'.1 hR]
theorem Tn.depth (h : Tn X T r r') {d d' : Nat} (hd : DepthIs X r d) (hd' : DepthIs T r' d') : d' = d := by
  by_cases hR : RightIs X r
  · obtain ⟨f, h1, rfl, _⟩ := hd.2 hR
    obtain ⟨g, h2, rfl, _⟩ := hd'.2 (h.right hR)
    have hr := isPb_iff.1 hR.1
    have hp := h.place hR.1
    have := HtIs.uniq h2 (h.ht hR.2.1 h1) (kX_ok (h.ok hR.2.1)) _ r'.toNat rfl (by rw [kX_length, h.len]; omega)
    rw [this]
    show f (X.length - 1 - r'.toNat) = f r.toNat
    rw [hp.2, show X.length - 1 - (X.length - 1 - r.toNat) = r.toNat by omega]
  · rw [hd.1 hR, hd'.1 (fun q => hR (h.symm.right q))]
theorem Tn.fix (h : Tn X T r r') : ∃ d : Nat, (∀ d2, DepthIs X r d2 → d2 = d) ∧ ∀ d2, DepthIs T r' d2 → d2 = d := by
  by_cases h1 : ∃ d, DepthIs X r d
  · obtain ⟨d, hd⟩ := h1
    exact ⟨d, fun _ q => hd.uniq q, fun _ q => h.depth hd q⟩
  · by_cases h2 : ∃ d, DepthIs T r' d
    · obtain ⟨d, hd⟩ := h2
      exact ⟨d, fun _ q => absurd ⟨_, q⟩ h1, fun _ q => hd.uniq q⟩
    · exact ⟨0, fun _ q => absurd ⟨_, q⟩ h1, fun _ q => absurd ⟨_, q⟩ h2⟩
theorem Tn.edg (h : Tn X T r r') : edg T = edg X := by
  have e : T.map (fun x => x.nd.kids.length) = (X.map fun x => x.nd.kids.length).reverse := by
    refine List.ext_getElem (by simp [h.len]) (fun i h1 h2 => ?_)
    have hi : i < T.length := by simpa using h1
    have hx : i < X.length := by rw [← h.len]; exact hi
    have := congrArg List.length (h.nd i hx)
    rw [List.length_map, show T.getD i noNx = T[i] by rw [List.getD_eq_getElem?_getD, List.getElem?_eq_getElem hi]; rfl, show X.getD (X.length - 1 - i) noNx = X[X.length - 1 - i]'(by omega) by rw [List.getD_eq_getElem?_getD, List.getElem?_eq_getElem (by omega)]; rfl] at this
    simp only [List.getElem_map, List.getElem_reverse, List.length_map]
    exact this
  unfold Proofs.Ytlfibkfjklggeaa.edg
  rw [e, List.sum_reverse]
theorem Tn.small (hs : Small X) (hl : T.length = X.length) (hn : ∀ j, j < X.length → (T.getD j noNx).nd = trnNd X.length (X.getD (X.length - 1 - j) noNx).nd) : Small T :=
  ⟨by rw [hl]; exact hs.1, fun i hi => by rw [hn i (by omega), trnNd_great]; exact hs.2 _ (by omega)⟩
end

end Go.Proofs.Ytlfibkfjklggeaa
