/- Records one behind the other over one table; and a node that stands elsewhere. -/
import Derived.Test.YtknfecclijoefaaDoorRBa
namespace Go.Proofs.YtknfecclijoefaaDoor
open Go.RowKit

theorem pIntern_sub (L : List ByteArray) (s t : ByteArray) (h : t ∈ L ∨ t = s) : t ∈ pIntern L s := by
  unfold pIntern
  split
  · rename_i q
    rcases h with h | rfl
    · exact h
    · exact (idx6_mem _ _).1 q
  · rw [List.mem_append]
    rcases h with h | rfl
    · exact .inl h
    · exact .inr (by simp)
theorem itF_sub (T : List ByteArray) : ∀ (L : List ByteArray) (s : ByteArray), s ∈ L ∨ s ∈ T → s ∈ itF L T := by
  induction T with
  | nil => intro L s h; rcases h with h | h; exact h; simp at h
  | cons x r ih =>
    intro L s h
    refine ih (pIntern L x) s ?_
    rcases h with h | h
    · exact .inl (pIntern_sub L x s (.inl h))
    · rw [List.mem_cons] at h
      rcases h with h | h
      · exact .inl (pIntern_sub L x s (.inr h))
      · exact .inr h
theorem itF_nodup (T : List ByteArray) : ∀ L : List ByteArray, L.Nodup → (itF L T).Nodup := by
  induction T with
  | nil => intro L h; exact h
  | cons x r ih =>
    intro L h
    refine ih (pIntern L x) ?_
    unfold pIntern
    split
    · exact h
    · rename_i q
      rw [List.nodup_append]
      refine ⟨h, by simp, ?_⟩
      intro a ha c hc
      simp at hc
      subst hc
      exact fun e => q ((idx6_mem _ _).2 (e ▸ ha))

/-- The records of these, one behind the other. -/
def rAll (p : Int) : List Nd → List ByteArray → List UInt8
  | [], _ => []
  | N :: r, L => rB N p L ++ rAll p r (itF L N.texts)
/-- The table then. -/
def rTab : List Nd → List ByteArray → List ByteArray
  | [], L => L
  | N :: r, L => rTab r (itF L N.texts)
theorem rTab_snoc (n : Nd) : ∀ (l : List Nd) (L : List ByteArray), rTab (l ++ [n]) L = itF (rTab l L) n.texts
  | [], _ => rfl
  | N :: r, L => rTab_snoc n r (itF L N.texts)
theorem rAll_snoc (p : Int) (n : Nd) : ∀ (l : List Nd) (L : List ByteArray), rAll p (l ++ [n]) L = rAll p l L ++ rB n p (rTab l L)
  | [], L => by simp [rAll, rTab]
  | N :: r, L => by
    show rB N p L ++ rAll p (r ++ [n]) (itF L N.texts) = (rB N p L ++ rAll p r (itF L N.texts)) ++ rB n p (rTab r (itF L N.texts))
    rw [rAll_snoc p n r, List.append_assoc]
theorem rTab_keep : ∀ (l : List Nd) (L : List ByteArray) (s : ByteArray), s ∈ L → idx6 s (rTab l L) = idx6 s L ∧ s ∈ rTab l L
  | [], _, _, h => ⟨rfl, h⟩
  | N :: r, L, s, h => by
    have h1 := itF_at N.texts (L := L) (s := s) ((idx6_mem _ _).2 h)
    have h2 := rTab_keep r (itF L N.texts) s (itF_sub _ _ _ (.inl h))
    exact ⟨h2.1.trans h1.1, h2.2⟩
theorem rTab_len : ∀ (l : List Nd) (L : List ByteArray), (∀ N ∈ l, N.texts.length ≤ 100) → (rTab l L).length ≤ L.length + 100 * l.length
  | [], _, _ => by simp [rTab]
  | N :: r, L, h => by
    have h1 := itF_len N.texts L
    have h2 := rTab_len r (itF L N.texts) (fun M q => h M (by simp [q]))
    have h3 := h N (by simp)
    show (rTab r (itF L N.texts)).length ≤ _
    rw [List.length_cons]
    omega

/-- The first of what is left is got, with the table that there is in the end. -/
theorem rAll_got (b : ByteArray) (p edges : Int) (N : Nd) (r : List Nd) (L : List ByteArray) (k : Nat) (x : List UInt8) (h : b.data.toList.drop k = rAll p (N :: r) L ++ x) (hE : rE N p = 0) (hf : fine N.ints) (hp : p ≤ 16777216) (hM : (rTab (N :: r) L).length ≤ 16777216)
    (hk : N.kids.length ≤ 16777216) (he : (N.kids.length : Int) ≤ edges) : gNd b p (rTab (N :: r) L) edges k 0 = (N, k + (rB N p L).length, 0) ∧ b.data.toList.drop (k + (rB N p L).length) = rAll p r (itF L N.texts) ++ x := by
  have h' : b.data.toList.drop k = rB N p L ++ (rAll p r (itF L N.texts) ++ x) := by rw [h, ← List.append_assoc]; rfl
  refine ⟨gNd_put b N p edges L _ k _ h' hE hf hp hM (fun s hs => ?_) hk he, drop_more h' rfl⟩
  have := rTab_keep r (itF L N.texts) s (itF_sub _ _ _ (.inr hs))
  exact ⟨this.1, (idx6_mem _ _).2 this.2⟩

/-- The node whose kids stand so much further on. -/
def mvN (N : Nd) (d : Int) : Nd := ⟨N.kind, N.ints, N.texts, N.kids.map (· + d)⟩
theorem mvN_rB (N : Nd) (p d : Int) (L : List ByteArray) : rB (mvN N d) (p + d) L = rB N p L := by
  unfold rB mvN
  dsimp only
  rw [List.length_map]
  have e : rK (p + d) (N.kids.map (· + d)) = rK p N.kids := by
    unfold rK
    rw [List.flatMap_map]
    rw [List.flatMap_def, List.flatMap_def]
    exact congrArg List.flatten (List.map_congr_left fun k _ => by rw [show p + d - (k + d) = p - k by omega])
  rw [e]
theorem mvN_rE (N : Nd) (p d : Int) (hd : 0 ≤ d) (h : rE N p = 0) : rE (mvN N d) (p + d) = 0 := by
  obtain ⟨h1, h2, h3, h4, h5⟩ := rE_zero h
  unfold rOk at h5
  rw [List.all_eq_true] at h5
  have f4 : tyN (mvN N d) = 0 := by
    unfold tyN chkN mvN
    dsimp only
    rw [List.length_map, h1, h2, h3, h4]
    rfl
  unfold rE
  rw [if_pos f4, rOk_yes, if_pos rfl]
  intro i hi
  have hi' : i < N.kids.length := by simpa [mvN] using hi
  have := of_decide_eq_true (h5 i (by simpa using hi'))
  rw [List.getD_eq_getElem?_getD, List.getElem?_eq_getElem hi'] at this
  have e : (mvN N d).kids.getD i 0 = N.kids[i] + d := by
    simp [mvN, List.getD_eq_getElem?_getD, List.getElem?_eq_getElem hi']
  rw [e]
  simp at this
  omega

end Go.Proofs.YtknfecclijoefaaDoor
