/- The contract of the document's own Put of a scene. -/
import Derived.Test.YthfemhpbamcpjaaDoorRA
import Derived.Test.YthfemhpbamcpjaaDoorRB
import Derived.Test.YthfemhpbamcpjaaDoorTC
import Derived.Test.YthfemhpbamcpjaaDoorLTyp
import Derived.Test.YthfemhpbamcpjaaDoorGH
import Derived.Test.YthfemhpbamcpjaaDoorCIs
namespace Go.Proofs.YthfemhpbamcpjaaDoor
open Go.RowKit

/-- What Put tells: the texts' bytes, the nodes' bytes, the error. -/
def PuIs (X : List Nx) (r : Int) (A C : ByteArray) (e : Int) : Prop :=
  (tyE X ≠ 0 ∧ e = tyE X ∧ A = ⟨#[]⟩ ∧ C = ⟨#[]⟩) ∨
    (tyE X = 0 ∧ ∃ n y, CheckIs X r n y ∧ ((n ≠ 0 ∧ e = n ∧ A = ⟨#[]⟩ ∧ C = ⟨#[]⟩) ∨ (n = 0 ∧ ((¬ IsCan X r ∧ e = 16 ∧ A = ⟨#[]⟩ ∧ C = ⟨#[]⟩) ∨
      (IsCan X r ∧ e = 0 ∧ A.data.toList = pPut6 (rTab (X.map Nx.nd) []) ∧ C.data.toList = put X.length ++ rAllN 0 (X.map Nx.nd) [])))))
def PuOut (X : List Nx) (r : Int) (w w' : World) (e : Ending) : Prop := ∃ (A C : ByteArray) (k : Int), e = .returned (.tuple #[.string A, .string C, .int .i64 k]) ∧ PuIs X r A C k ∧ Below w.heap.size w w'

theorem rB_size (N : Nd) (p : Int) (L : List ByteArray) (hb : big N = false) : (rB N p L).length ≤ 12020 := by
  obtain ⟨h0, h6, h7, _⟩ := big_no hb
  have h1 := put_length N.kind.toNat
  have h2 := put_length N.kids.length
  have h3 : (rI N.ints).length ≤ 10 * N.ints.length := flat_ten _ _
  have h4 : (rT (itF L N.texts) N.texts).length ≤ 10 * N.texts.length := flat_ten _ _
  have h5 : (rK p N.kids).length ≤ 10 * N.kids.length := flat_ten _ _
  unfold rB
  simp only [List.length_append]
  omega
theorem itF_sumB (T : List ByteArray) : ∀ L : List ByteArray, (∀ s ∈ T, s.size ≤ 1000) → sum6 (itF L T) ≤ sum6 L + 1000 * T.length := by
  induction T with
  | nil => intro L _; simp [itF]
  | cons x r ih =>
    intro L h
    have h1 := ih (pIntern L x) (fun s hs => h s (by simp [hs]))
    have h2 : sum6 (pIntern L x) ≤ sum6 L + x.size := by
      unfold pIntern
      split
      · omega
      · rw [sum6_append]; simp [sum6]
    have h3 := h x (by simp)
    have h4 : itF L (x :: r) = itF (pIntern L x) r := rfl
    rw [h4, List.length_cons]
    omega
/-- Is every node put, where all is well? -/
theorem tyE_all {X : List Nx} (h : tyE X = 0) : ∀ i, i < X.length → tyN (X.getD i noNx).nd = 0 := by
  have key : ∀ (X : List Nx) (k : Nat), (tyG X k).1 = 0 → ∀ i, i < X.length → tyN (X.getD i noNx).nd = 0 := by
    intro X
    induction X with
    | nil => intro k _ i hi; simp at hi
    | cons x r ih =>
      intro k hk i hi
      unfold tyG at hk
      by_cases hx : tyN x.nd = 0
      · rw [if_pos hx] at hk
        match i with
        | 0 => simpa using hx
        | i + 1 => simpa using ih (k + 1) hk i (by simpa using hi)
      · rw [if_neg hx] at hk
        exact absurd hk hx
  exact key X 0 h
theorem tyN_texts {N : Nd} (h : tyN N = 0) : N.texts.length ≤ 2 := by
  have h1 : rE N 0 = 0 ∨ rE N 0 = 13 := by
    unfold rE
    rw [if_pos h]
    split
    · exact .inl rfl
    · exact .inr rfl
  unfold tyN at h
  split at h
  · cases h
  · unfold chkN at h
    split at h
    · cases h
    · split at h
      · cases h
      · rename_i h2 h3
        have h4 : fitT N.texts (newSp N.kind).texts = true := by simpa using h3
        unfold fitT at h4
        rw [Bool.and_eq_true, decide_eq_true_eq] at h4
        have := newSp_small N.kind
        omega
theorem getD_in {L : List Int} {j : Nat} (h : j < L.length) : L.getD j 0 ∈ L := by
  rw [List.getD_eq_getElem?_getD, List.getElem?_eq_getElem h]
  exact List.getElem_mem h
theorem can_kids {X : List Nx} {r : Int} (h : IsCan X r) {i : Nat} (hi : i < X.length) (j : Nat) (hj : j < (X.getD i noNx).nd.kids.length) : 0 ≤ (X.getD i noNx).nd.kids.getD j 0 ∧ (X.getD i noNx).nd.kids.getD j 0 < i := by
  have h1 := h.1.2.1 i hi j hj
  unfold isPb at h1
  have h2 := of_decide_eq_true h1
  have hm : (X.getD i noNx).nd.kids.getD j 0 ∈ (X.getD i noNx).nd.kids := getD_in hj
  have hE : Ed (kX X) i ((X.getD i noNx).nd.kids.getD j 0).toNat := by
    unfold Ed
    rw [kX_at X i hi]
    exact List.mem_map_of_mem hm
  have h3 := h.1.ord.good.kids i (oX_all h.1 i hi) _ hE
  have h4 : ((X.getD i noNx).nd.kids.getD j 0).toNat < X.length := by omega
  have h5 := h3.2
  have e1 : (ordO (kX X) r.toNat).idxOf i = i := h.2 i hi
  have e2 : (ordO (kX X) r.toNat).idxOf ((X.getD i noNx).nd.kids.getD j 0).toNat = ((X.getD i noNx).nd.kids.getD j 0).toNat := h.2 _ h4
  unfold oX at h5
  rw [e1, e2] at h5
  omega
theorem can_rE {X : List Nx} {r : Int} (h : IsCan X r) (ht : tyE X = 0) {i : Nat} (hi : i < X.length) : rE (X.getD i noNx).nd i = 0 := by
  unfold rE
  rw [if_pos (tyE_all ht i hi), if_pos (rOk_yes (fun j hj => can_kids h hi j hj))]

end Go.Proofs.YthfemhpbamcpjaaDoor
