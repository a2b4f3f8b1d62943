/- A node's record, as plain mathematics: what is wrong, which texts, which bytes. -/
import Derived.Test.YtknfecclijoefaaDoorLTy0
import Derived.Test.YtknfecclijoefaaDoorLTx
import Derived.Test.YtknfecclijoefaaDoorVA
import Derived.Test.YtknfecclijoefaaDoorUA
namespace Go.Proofs.YtknfecclijoefaaDoor
open Go.RowKit

/-- A table with more texts. -/
def itF (L T : List ByteArray) : List ByteArray := T.foldl pIntern L
theorem itF_snoc (L T : List ByteArray) (s : ByteArray) : itF L (T ++ [s]) = pIntern (itF L T) s := by simp [itF, List.foldl_append]
theorem pIntern_at {L : List ByteArray} {s t : ByteArray} (h : idx6 s L < L.length) : idx6 s (pIntern L t) = idx6 s L ∧ idx6 s (pIntern L t) < (pIntern L t).length := by
  unfold pIntern
  split
  · exact ⟨rfl, h⟩
  · have := idx6_append s L [t] h
    exact ⟨this, by rw [this, List.length_append]; omega⟩
theorem itF_at (T : List ByteArray) : ∀ {L : List ByteArray} {s : ByteArray}, idx6 s L < L.length → idx6 s (itF L T) = idx6 s L ∧ idx6 s (itF L T) < (itF L T).length := by
  induction T with
  | nil => intro L s h; exact ⟨rfl, h⟩
  | cons x r ih =>
    intro L s h
    obtain ⟨h1, h2⟩ := pIntern_at (t := x) h
    obtain ⟨h3, h4⟩ := ih (L := pIntern L x) (s := s) (by rw [h1] at h2 ⊢; exact h2)
    exact ⟨h3.trans h1, h4⟩
theorem pIntern_le (L : List ByteArray) (s : ByteArray) : (pIntern L s).length ≤ L.length + 1 := by
  unfold pIntern
  split <;> simp
theorem itF_len (T : List ByteArray) : ∀ L : List ByteArray, (itF L T).length ≤ L.length + T.length := by
  induction T with
  | nil => intro L; simp [itF]
  | cons x r ih =>
    intro L
    have h1 := ih (pIntern L x)
    have h2 := pIntern_le L x
    have h3 : itF L (x :: r) = itF (pIntern L x) r := rfl
    rw [h3, List.length_cons]
    omega
/-- The number of the k-th text is the same, now and in the end. -/
theorem itF_num (L T : List ByteArray) (i : Nat) (h : i < T.length) : idx6 (T.getD i noT) (itF L (T.take i)) = idx6 (T.getD i noT) (itF L T) := by
  obtain ⟨h1, h2⟩ := pIntern_idx (itF L (T.take i)) (T.getD i noT)
  have h3 : T = (T.take i ++ [T.getD i noT]) ++ T.drop (i + 1) := by
    rw [List.append_assoc, List.singleton_append, List.getD_eq_getElem?_getD, List.getElem?_eq_getElem h]
    show T = T.take i ++ T[i] :: T.drop (i + 1)
    rw [← List.drop_eq_getElem_cons h, List.take_append_drop]
  have h4 : itF L T = itF (pIntern (itF L (T.take i)) (T.getD i noT)) (T.drop (i + 1)) := by
    conv => lhs; rw [h3]
    unfold itF
    rw [List.foldl_append, List.foldl_append]
    rfl
  have h5 := itF_at (T.drop (i + 1)) (L := pIntern (itF L (T.take i)) (T.getD i noT)) (s := T.getD i noT) (by rw [h2]; exact h1)
  rw [h4, h5.1]
  exact h2.symm

/-- Are all kids ahead? -/
def rOk (N : Nd) (p : Int) : Bool := (List.range N.kids.length).all fun i => decide (0 ≤ N.kids.getD i 0 ∧ N.kids.getD i 0 < p)
theorem rOk_yes {N : Nd} {p : Int} (h : ∀ i, i < N.kids.length → 0 ≤ N.kids.getD i 0 ∧ N.kids.getD i 0 < p) : rOk N p = true := by
  unfold rOk
  rw [List.all_eq_true]
  intro i hi
  exact decide_eq_true (h i (by simpa using hi))
theorem rOk_no {N : Nd} {p : Int} {i : Nat} (hi : i < N.kids.length) (h : ¬ (0 ≤ N.kids.getD i 0 ∧ N.kids.getD i 0 < p)) : rOk N p = false := by
  unfold rOk
  exact List.all_eq_false.2 ⟨i, by simpa using hi, by rw [decide_eq_false h]; simp⟩
/-- What is wrong with a node that is to be put. -/
def rE (N : Nd) (p : Int) : Int := if tyN N = 0 then (if rOk N p = true then 0 else 13) else tyN N

def rI (l : List Int) : List UInt8 := l.flatMap fun z => put (zig z).toNat
def rT (M l : List ByteArray) : List UInt8 := l.flatMap fun s => put (idx6 s M)
def rK (p : Int) (l : List Int) : List UInt8 := l.flatMap fun k => put (p - k).toNat
/-- The record. -/
def rB (N : Nd) (p : Int) (L : List ByteArray) : List UInt8 := put N.kind.toNat ++ rI N.ints ++ rT (itF L N.texts) N.texts ++ put N.kids.length ++ rK p N.kids

theorem flat_take {α : Type} (f : α → List UInt8) (l : List α) (d : α) (i : Nat) (h : i < l.length) : (l.take (i + 1)).flatMap f = (l.take i).flatMap f ++ f (l.getD i d) := by
  rw [List.take_add_one, List.getElem?_eq_getElem h, List.flatMap_append, List.getD_eq_getElem?_getD, List.getElem?_eq_getElem h]
  simp
theorem flat_ten {α : Type} (f : α → Nat) (l : List α) : (l.flatMap fun z => put (f z)).length ≤ 10 * l.length := by
  induction l with
  | nil => simp
  | cons x r ih =>
    have := (put_length (f x)).2
    rw [List.flatMap_cons, List.length_append, List.length_cons]
    omega

/-- What Put leaves: S the bytes, M the table, k the error. -/
def PutIs (N : Nd) (p : Int) (L : List ByteArray) (S : ByteArray) (M : List ByteArray) (k : Int) : Prop :=
  k = rE N p ∧ (k ≠ 0 → S = ⟨#[]⟩ ∧ M = L) ∧ (k = 0 → S.data.toList = rB N p L ∧ M = itF L N.texts)

end Go.Proofs.YtknfecclijoefaaDoor
