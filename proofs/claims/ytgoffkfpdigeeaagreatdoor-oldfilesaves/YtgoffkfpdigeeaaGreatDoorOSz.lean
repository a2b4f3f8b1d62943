/- How great a file of version 1 of a scene that is played is, and which nodes are read of it. -/
import Derived.Test.YtgoffkfpdigeeaaGreatDoorORc
import Derived.Test.YtgoffkfpdigeeaaGreatDoorOFn
import Derived.Test.YtgoffkfpdigeeaaGreatDoorOLo
namespace Go.Proofs.YtgoffkfpdigeeaaGreatDoor
open Go.RowKit Go.Maps Go.WideMaps Go.Sort

theorem oT_le : ∀ T : List ByteArray, (∀ s ∈ T, s.size ≤ 3000) → (oT T).length ≤ 3010 * T.length
  | [], _ => Nat.le_refl _
  | x :: T, h => by
    have h1 := put_length x.size
    have h2 := h x (by simp)
    have h3 := oT_le T fun s q => h s (by simp [q])
    rw [show oT (x :: T) = (put x.size ++ x.data.toList) ++ oT T by simp [oT], List.length_append, List.length_append, list_size, List.length_cons]
    omega
theorem oB_le {N : Nd} (h : SmN N) : (oB N).length ≤ 36080 := by
  have h1 := put_length N.kind.toNat
  have h2 := put_length N.kids.length
  have h3 : (rI N.ints).length ≤ 10 * N.ints.length := flat_ten _ _
  have h4 : (oK N.kids).length ≤ 10 * N.kids.length := flat_ten _ _
  have h5 := oT_le N.texts fun s hs => by
    obtain ⟨i, hi, rfl⟩ := List.getElem_of_mem hs
    have := h.s i hi
    rwa [List.getD_eq_getElem?_getD, List.getElem?_eq_getElem hi] at this
  have := h.i
  have := h.t
  have := h.k
  unfold oB
  simp only [List.length_append]
  omega
theorem oBs_le : ∀ P : List Nd, (∀ N ∈ P, (oB N).length ≤ 36080) → (P.flatMap oB).length ≤ 36080 * P.length
  | [], _ => Nat.le_refl _
  | N :: P, h => by
    have h1 := h N (by simp)
    have h2 := oBs_le P fun M q => h M (by simp [q])
    rw [show (N :: P).flatMap oB = oB N ++ P.flatMap oB by simp, List.length_append, List.length_cons]
    omega
theorem oC_le {X : List Nx} {r : Int} (hX : Small X) (hf : X.length ≤ 60) (hF : FnX X) (hW : tyEo X = 0) (hR : RightIs X r) : (oC (X.map Nx.nd)).size ≤ 2164810 := by
  have h1 := put_length (X.map Nx.nd).length
  have h2 := oBs_le (X.map Nx.nd) fun N q => by
    obtain ⟨x, hx, rfl⟩ := List.mem_map.1 q
    obtain ⟨i, hi, rfl⟩ := List.getElem_of_mem hx
    have e : X[i] = X.getD i noNx := by rw [List.getD_eq_getElem?_getD, List.getElem?_eq_getElem hi]; rfl
    rw [e]
    exact oB_le (smn_of hX hF hW hR i hi)
  have h3 : (X.map Nx.nd).length = X.length := List.length_map _
  have h4 : (oC (X.map Nx.nd)).size = (oR (X.map Nx.nd)).length := by rw [← list_size, oC_list]
  rw [h4]
  unfold oR
  rw [List.length_append]
  omega
theorem oF_sizes {X : List Nx} {r : Int} (hX : Small X) (hf : X.length ≤ 60) (hF : FnX X) (hW : tyEo X = 0) (hR : RightIs X r) : 5 ≤ (oF (X.map Nx.nd)).size ∧ (oF (X.map Nx.nd)).size ≤ 2164830 := by
  have h1 := oC_le hX hf hF hW hR
  have h4 := (pPut_ok mD 1 (oS (oC (X.map Nx.nd))) (oS_put (by omega))).2.2.2.2.2
  have hb := bodyL_le 2164810 (oS (oC (X.map Nx.nd))) fun s hs => by
    simp only [oS, List.mem_cons, List.not_mem_nil, or_false] at hs
    subst hs
    exact h1
  have h5 : (oF (X.map Nx.nd)).size = (pPut mD 1 (oS (oC (X.map Nx.nd)))).1.length := by rw [← list_size, oF_list]
  have h6 := congrArg List.length h4
  rw [List.length_append, List.length_cons] at h6
  have h7 : mD.data.toList.length = 4 := rfl
  have h8 : (oS (oC (X.map Nx.nd))).length = 1 := rfl
  rw [h8] at hb
  omega

/-- The nodes that are read are few, and none is big. -/
def QnO (R : ByteArray) (l : Lm) : Prop :=
  ∀ P k' e', oNds R (pUint R 0 0 l.n).1 l.x (pUint R 0 0 l.n).1.toNat 0 l.e (pUint R 0 0 l.n).2.1 = (P, k', e') → P.length ≤ 1401 ∧ ∀ N ∈ P, big N = false ∧ fine N.ints
theorem oNds_pre3 (b : ByteArray) (c tx : Int) (hb : b.size ≤ 3000) : ∀ (n : Nat) (p ed : Int) (k : Nat) (P : List Nd) (k' : Nat) (e' : Int), k ≤ b.size → oNds b c tx n p ed k = (P, k', e') → k + 2 * P.length ≤ b.size ∧ ∀ N ∈ P, big N = false ∧ fine N.ints
  | 0, p, ed, k, P, k', e', hk, h => by
    simp only [oNds, Prod.mk.injEq] at h
    obtain ⟨rfl, _, _⟩ := h
    exact ⟨by simpa using hk, fun N q => by simp at q⟩
  | n + 1, p, ed, k, P, k', e', hk, h => by
    obtain ⟨N, k1, e1, hq⟩ : ∃ N k1 e1, oNd b p c tx ed k 0 = (N, k1, e1) := ⟨_, _, _, rfl⟩
    unfold oNds at h
    rw [hq] at h
    dsimp only at h
    split at h
    · simp only [Prod.mk.injEq] at h
      obtain ⟨rfl, _, _⟩ := h
      exact ⟨by simpa using hk, fun N q => by simp at q⟩
    · rename_i q
      have q0 : e1 = 0 := by omega
      subst q0
      obtain ⟨a1, a2, _, a4, a5, _⟩ := oNd_two hk hq
      obtain ⟨P', k2, e2, hr⟩ : ∃ P' k2 e2, oNds b c tx n (p + 1) (ed - N.kids.length) k1 = (P', k2, e2) := ⟨_, _, _, rfl⟩
      rw [hr] at h
      simp only [Prod.mk.injEq] at h
      obtain ⟨rfl, rfl, rfl⟩ := h
      obtain ⟨b1, b2⟩ := oNds_pre3 b c tx hb n (p + 1) (ed - N.kids.length) k1 P' k2 e2 a2 hr
      refine ⟨by simp only [List.length_cons]; omega, fun M hM => ?_⟩
      rcases List.mem_cons.1 hM with rfl | hM
      · exact ⟨a4 hb, a5⟩
      · exact b2 M hM
theorem qno_small {R : ByteArray} {l : Lm} (h : R.size ≤ 2800) : QnO R l := fun P k' e' hS => by
  obtain ⟨h1, h2⟩ := oNds_pre3 R _ _ (by omega) _ _ _ _ P k' e' (pUint_at R 0 0 l.n (Nat.zero_le _)).2 hS
  exact ⟨by omega, h2⟩
theorem oNds_pre (b : ByteArray) (c tx0 tx : Int) (hc : c ≤ 16777216) (htx : 0 ≤ tx) : ∀ (P : List Nd) (p ed : Int) (k : Nat) (r : List UInt8), k ≤ b.size → 0 ≤ p → b.data.toList.drop k = P.flatMap oB ++ r → (∀ (i : Nat) (N : Nd), P[i]? = some N → OkN N (p + i) c tx0) → (oNds b c tx P.length p ed k).1.length ≤ P.length ∧ ∀ N ∈ (oNds b c tx P.length p ed k).1, N ∈ P
  | [], p, ed, k, r, _, _, _, _ => ⟨Nat.le_refl _, fun N q => by simp [oNds] at q⟩
  | N :: P, p, ed, k, r, hk, hp, h, hi => by
    have e1 : (N :: P).flatMap oB = oB N ++ P.flatMap oB := by simp
    rw [e1, List.append_assoc] at h
    have hN : OkN N p c tx0 := by have := hi 0 N rfl; simpa using this
    rcases oNd_less b N p c tx0 tx ed k _ hk h hN hp hc htx with ⟨hp1, he⟩ | hp1
    · have hk2 := (oNd_at b p c tx ed k 0 hk).2
      rw [hp1] at hk2
      have ih := oNds_pre b c tx0 tx hc htx P (p + 1) (ed - N.kids.length) (k + (oB N).length) r hk2 (by omega) (drop_more h rfl) (fun i M hM => by
        have := hi (i + 1) M (by simpa using hM)
        rwa [show p + ((i + 1 : Nat) : Int) = p + 1 + i by omega] at this)
      rw [List.length_cons]; unfold oNds
      rw [hp1]
      dsimp only
      rw [if_neg (by simp)]
      refine ⟨by simp only [List.length_cons]; have := ih.1; omega, fun M hM => ?_⟩
      rcases List.mem_cons.1 hM with rfl | hM
      · simp
      · exact List.mem_cons_of_mem _ (ih.2 M hM)
    · rw [List.length_cons]; unfold oNds
      rw [if_pos (by rw [hp1]; decide)]
      exact ⟨Nat.zero_le _, fun M q => by simp at q⟩
theorem qno_put {X : List Nx} {l l0 : Lm} {d : Nat} (hS : Small X) (hF : FnX X) (hW : tyEo X = 0) (hf : FowIs X 0) (h0 : okL l0 = true) (hi0 : inL (meL X d) l0 = true) (ho : okL l = true) : QnO (oC (X.map Nx.nd)) l := fun P k' e' hP => by
  have hK := okp_of hS hF hW hf h0 hi0
  have hb := oC_list (X.map Nx.nd)
  have h1 : (oC (X.map Nx.nd)).data.toList.drop 0 = put (X.map Nx.nd).length ++ ((X.map Nx.nd).flatMap oB ++ []) := by rw [List.drop_zero, hb, List.append_nil]; rfl
  have htx : 0 ≤ l.x := (of_decide_eq_true (show decide (okP l) = true from ho)).2.2.2.2.1
  by_cases hn : ((X.map Nx.nd).length : Int) ≤ l.n
  · have u1 := uint_put l.n h1 hK.few hn
    have a1 := (pUint_at (oC (X.map Nx.nd)) 0 0 l.n (Nat.zero_le _)).2
    rw [u1] at hP a1
    have d1 := drop_more h1 rfl
    dsimp only at hP
    rw [Int.toNat_natCast] at hP
    obtain ⟨g1, g2⟩ := oNds_pre (oC (X.map Nx.nd)) (X.map Nx.nd).length l0.x l.x (by have := hK.few; omega) htx (X.map Nx.nd) 0 l.e _ [] a1 (by omega) d1 (fun i N hN => by have := hK.nod i N hN; rwa [Int.zero_add])
    rw [hP] at g1 g2
    have hl : (X.map Nx.nd).length = X.length := List.length_map _
    have := hS.1
    refine ⟨by dsimp only at g1; omega, fun N q => ?_⟩
    obtain ⟨x, hx, rfl⟩ := List.mem_map.1 (g2 N q)
    obtain ⟨i, hi, rfl⟩ := List.getElem_of_mem hx
    have e : X[i] = X.getD i noNx := by rw [List.getD_eq_getElem?_getD, List.getElem?_eq_getElem hi]; rfl
    rw [e]
    exact ⟨hS.2 i hi, hF i hi⟩
  · rw [uint_less h1 hK.few (by omega)] at hP
    simp only [Int.toNat_zero, oNds, Prod.mk.injEq] at hP
    obtain ⟨rfl, _, _⟩ := hP
    exact ⟨Nat.zero_le _, fun N q => by simp at q⟩
/-- What the program's Load asks of the bytes. -/
theorem qno_small_of {b : ByteArray} {l : Lm} (hz : b.size ≤ 2800) : ∀ R, opK b l = (0, R) → R.size ≤ 4000000 ∧ QnO R l := fun R h => by
  have h2 := (ofile_of (b := b) (l := l) (by rw [h])).2
  rw [h] at h2
  dsimp only at h2
  exact ⟨by omega, qno_small (by omega)⟩
theorem qno_put_of {X : List Nx} {l l0 : Lm} {d : Nat} (hS : Small X) (hn : X.length ≤ 60) (hF : FnX X) (hW : tyEo X = 0) (hf : FowIs X 0) (h0 : okL l0 = true) (hi0 : inL (meL X d) l0 = true) (ho : okL l = true) : ∀ R, opK (oF (X.map Nx.nd)) l = (0, R) → R.size ≤ 4000000 ∧ QnO R l := fun R h => by
  have hz := oC_le hS hn hF hW hf.1
  by_cases hb : l.b < ((oF (X.map Nx.nd)).size : Int)
  · have := opK_2 _ _ ho hb
    rw [h] at this
    cases this
  · have hk : opK (oF (X.map Nx.nd)) l = (0, oC (X.map Nx.nd)) := opK_put ho (by omega) hb
    rw [h] at hk
    simp only [Prod.mk.injEq, true_and] at hk
    subst hk
    exact ⟨by omega, qno_put hS hF hW hf h0 hi0 ho⟩
end Go.Proofs.YtgoffkfpdigeeaaGreatDoor
