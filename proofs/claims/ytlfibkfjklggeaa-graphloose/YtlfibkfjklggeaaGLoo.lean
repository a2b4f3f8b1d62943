/- A map of numbers that counts; what GraphLoose holds of the nodes below one. -/
import Derived.Test.YtlfibkfjklggeaaGLaw
namespace Go.Proofs.Ytlfibkfjklggeaa
open Go.RowKit Go.Maps Go.WideMaps Go.Sort

def addN (M : List Nat) (k : Nat) : List Nat := if k ∈ M then M else M ++ [k]
theorem mem_addN (M : List Nat) (k x : Nat) : x ∈ addN M k ↔ x ∈ M ∨ x = k := by
  unfold addN
  by_cases h : k ∈ M
  · rw [if_pos h]
    constructor
    · exact .inl
    · rintro (q | rfl)
      · exact q
      · exact h
  · rw [if_neg h]
    simp
theorem nodup_addN {M : List Nat} (hM : M.Nodup) (k : Nat) : (addN M k).Nodup := by
  unfold addN
  by_cases h : k ∈ M
  · rw [if_pos h]; exact hM
  · rw [if_neg h, List.nodup_append]
    refine ⟨hM, by simp, fun a ha b hb e => ?_⟩
    simp at hb
    subst hb e
    exact h ha
theorem sub_len : ∀ (L M : List Nat), L.Nodup → (∀ x ∈ L, x ∈ M) → L.length ≤ M.length
  | [], _, _, _ => Nat.zero_le _
  | a :: t, M, h, s => by
    have hn := List.nodup_cons.1 h
    have ha : a ∈ M := s a (by simp)
    have h1 := sub_len t (M.erase a) hn.2 (fun x hx => (List.mem_erase_of_ne (fun (e : x = a) => hn.1 (e ▸ hx))).2 (s x (List.mem_cons_of_mem _ hx)))
    have h2 := List.length_erase_of_mem ha
    have h3 := List.length_pos_of_mem ha
    simp only [List.length_cons]
    omega

/-- The map of what was met, with how many it holds. -/
def MetS (w : World) (g n : Nat) (M : List Nat) : Prop := M.Nodup ∧ ∃ D : DataW Unit, w.ownsMap Try.prog 3 (plainElem Try.prog 4) g n D ∧ (∀ k : Nat, k < 1000000000000 → D.atKey (kN k) (bE false) = bE (decide (k ∈ M))) ∧ (∀ k : Nat, k < 1000000000000 → Maps.has D (kN k) = decide (k ∈ M)) ∧ Maps.size D = M.length
section
variable {S : Nat → Prop} {w w' : World} {g n : Nat} {M : List Nat}
theorem MetS.met (h : MetS w g n M) : Met w g n M := by obtain ⟨_, D, h1, h2, _⟩ := h; exact ⟨D, h1, h2⟩
theorem MetS.fr (h : MetS w g n M) (k : Fr S w w') (hn : ¬ S g) : MetS w' g n M := by
  obtain ⟨h0, D, h1, h2⟩ := h
  exact ⟨h0, D, map_fr h1 k hn, h2⟩
theorem MetS.below (h : MetS w g n M) (k : Below w.heap.size w w') : MetS w' g n M := h.fr (Fr.of_below (S := fun _ => False) k) id
theorem MetS.made (w : World) : MetS (w.alloc (.map #[] 0)) w.heap.size 0 [] := ⟨List.nodup_nil, _, World.ownsMap_made w Try.prog 3 (plainElem (H := Unit) Try.prog 4), fun _ _ => rfl, fun _ _ => rfl, rfl⟩
theorem MetS.put (h : MetS w g n M) (k : Nat) (hk : k < 1000000000000) (hn : n < maxLen) : ∃ w', (Instr.mapUpdate 41 (.map (some g)) (.int .i64 (k : Int)) (.bool true)).run Try.prog w = .ok () w' ∧ MetS w' g (n + 1) (addN M k) ∧ w.grownBy w' (some g) := by
  obtain ⟨h0, D, h1, h2, hh, hs⟩ := h
  have hm := h1.isMap
  have ht := h1.tidy lawN9
  obtain ⟨w', hr, h3, h4⟩ := h1.update lawN9 Try.underlying41 hn (kN_key k (inR_nat hk)) (plainElem_bool Try.underlying4 true)
  have hne : ∀ j : Nat, j ≠ k → kN (j : Int) ≠ kN k := fun j e => by simp only [kN, ne_eq, Lit.int.injEq, true_and]; omega
  refine ⟨w', hr, ⟨nodup_addN h0 k, _, h3, fun j hj => ?_, fun j hj => ?_, ?_⟩, h4⟩
  · by_cases e : j = k
    · subst e
      rw [atKey_put_same hm (kN_is j)]
      simp [bE, mem_addN]
    · rw [atKey_put_other (hne j e), h2 j hj]
      simp [e, mem_addN]
  · by_cases e : j = k
    · subst e
      rw [has_put_same hm (kN_is j)]
      simp [mem_addN]
    · rw [has_put_other (hne j e), hh j hj]
      simp [e, mem_addN]
  · rw [size_put ht, hh k hk, hs]
    unfold addN
    by_cases e : k ∈ M
    · simp [e]
    · simp [e]
theorem MetS.len (h : MetS w g n M) (ty : TypeId) : (Builtin.len_ #[41] ty #[.map (some g)]).run Try.prog w = .ok (.int .i64 (M.length : Int)) w := by
  obtain ⟨h0, D, h1, h2, hh, hs⟩ := h
  rw [h1.len Try.underlying41 ty, hs]
end
theorem LsAt.qTrue {w : World} {a : Option Addr} {cs : List Value} (h : LsAt w a cs) : LsQ (fun _ => True) w a cs := by
  obtain ⟨b, o, h1, h2⟩ := h
  exact ⟨b, o, h1, fun i hi => ⟨⟨trivial, (h2 i hi).1⟩, (h2 i hi).2⟩⟩

/-- A node's kids. -/
theorem kid_is {X : List Nx} (h : ∀ i, i < X.length → okAt X i) {k j : Nat} (hk : k < X.length) (hj : j < (X.getD k noNx).nd.kids.length) : ∃ m : Nat, (X.getD k noNx).nd.kids.getD j 0 = m ∧ m < X.length ∧ Ed (kX X) k m := by
  have h1 := isPb_iff.1 (h k hk j hj)
  refine ⟨((X.getD k noNx).nd.kids.getD j 0).toNat, (Int.toNat_of_nonneg h1.1).symm, by omega, ?_⟩
  unfold Ed
  rw [kX_at X k hk]
  generalize (X.getD k noNx).nd.kids = l at hj ⊢
  exact List.mem_map.2 ⟨_, by rw [List.getD_eq_getElem?_getD, List.getElem?_eq_getElem hj]; exact List.getElem_mem hj, rfl⟩
theorem kid_of {X : List Nx} {k m : Nat} (hk : k < X.length) (e : Ed (kX X) k m) : ∃ j, j < (X.getD k noNx).nd.kids.length ∧ ((X.getD k noNx).nd.kids.getD j 0).toNat = m := by
  unfold Ed at e
  rw [kX_at X k hk] at e
  obtain ⟨v, hv, rfl⟩ := List.mem_map.1 e
  obtain ⟨j, hj, rfl⟩ := List.getElem_of_mem hv
  exact ⟨j, hj, by rw [List.getD_eq_getElem?_getD, List.getElem?_eq_getElem hj]; rfl⟩
/-- Below a node: itself, and what is below its kids. -/
theorem loose_same {X : List Nx} {r : Int} {k : Nat} {l M : List Nat} (hR : RightIs X r) (hk : k < X.length) (hb : BelowIs X r k l) (hn : M.Nodup)
    (hM : ∀ x, x ∈ M ↔ x = k ∨ ∃ j, j < (X.getD k noNx).nd.kids.length ∧ Rt (Ed (kX X)) ((X.getD k noNx).nd.kids.getD j 0).toNat x) : (∀ x, x ∈ l ↔ x ∈ M) ∧ l.length = M.length := by
  have hp : isPb X.length (k : Int) = true := isPb_iff.2 ⟨by omega, by omega⟩
  obtain ⟨h1, h2⟩ := hb.2 ⟨hR.1, hR.2.1, hp⟩
  have h3 : ∀ x, x ∈ l ↔ x ∈ M := fun x => by
    rw [h2 x, hM x, Int.toNat_natCast]
    constructor
    · intro q
      rcases q.cases with q | ⟨c, e, q⟩
      · exact .inl q.symm
      · obtain ⟨j, hj, rfl⟩ := kid_of hk e
        exact .inr ⟨j, hj, q⟩
    · rintro (rfl | ⟨j, hj, q⟩)
      · exact Rt.refl _ _
      · obtain ⟨m, hm, _, e⟩ := kid_is hR.2.1 hk hj
        rw [hm, Int.toNat_natCast] at q
        exact Rt.head e q
  have hln : l.Nodup := h1.imp (fun q => Nat.ne_of_lt q)
  exact ⟨h3, Nat.le_antisymm (sub_len l M hln (fun x hx => (h3 x).1 hx)) (sub_len M l hn (fun x hx => (h3 x).2 hx))⟩
theorem loose_root {X : List Nx} {r : Int} {l : List Nat} (hR : RightIs X r) (hb : BelowIs X r r l) : l.length = X.length := by
  obtain ⟨h1, h2⟩ := hb.2 ⟨hR.1, hR.2.1, hR.1⟩
  have hr := isPb_iff.1 hR.1
  have hln : l.Nodup := h1.imp (fun q => Nat.ne_of_lt q)
  refine Nat.le_antisymm (nodup_le _ _ hln (fun x hx => ?_)) (all_le _ _ (fun x hx => (h2 x).2 (hR.2.2.2 x hx)))
  have := Ok9.rt (kX_ok hR.2.1) (by rw [kX_length]; omega) ((h2 x).1 hx)
  rwa [kX_length] at this

end Go.Proofs.Ytlfibkfjklggeaa
