/- A node's record, as plain mathematics: what is wrong, which texts, which bytes. -/
import Derived.Test.YthfemhpbamcpjaaDoorLTy0
import Derived.Test.YthfemhpbamcpjaaDoorLTx
import Derived.Test.YthfemhpbamcpjaaDoorVA
import Derived.Test.YthfemhpbamcpjaaDoorUA
import Derived.Test.YthfemhpbamcpjaaDoorGD
import Derived.Lib.Strings
import Derived.Test.YthfemhpbamcpjaaDoorVB
import Derived.Test.YthfemhpbamcpjaaDoorVC
import Derived.Deep.AppendLies
import Derived.Deep.RegionLaw
import Derived.Laws.OwnMore
namespace Go.Proofs.YthfemhpbamcpjaaDoor
open Go.RowKit

/-- A table with more texts. -/
def itF (L T : List ByteArray) : List ByteArray := T.foldl pIntern L
theorem itF_snoc (L T : List ByteArray) (s : ByteArray) : itF L (T ++ [s]) = pIntern (itF L T) s := by simp [itF, List.foldl_append]
theorem pIntern_at {L : List ByteArray} {s t : ByteArray} (h : idx6 s L < L.length) : idx6 s (pIntern L t) = idx6 s L ∧ idx6 s (pIntern L t) < (pIntern L t).length := by
  unfold pIntern
  split
  · exact ⟨rfl, h⟩
  · have := idx6_append s L [t] h
    exact ⟨this, by rw [this, List.length_append]; omega⟩
theorem itF_at (T : List ByteArray) : ∀ {L : List ByteArray} {s : ByteArray}, idx6 s L < L.length → idx6 s (itF L T) = idx6 s L ∧ idx6 s (itF L T) < (itF L T).length := by
  induction T with
  | nil => intro L s h; exact ⟨rfl, h⟩
  | cons x r ih =>
    intro L s h
    obtain ⟨h1, h2⟩ := pIntern_at (t := x) h
    obtain ⟨h3, h4⟩ := ih (L := pIntern L x) (s := s) (by rw [h1] at h2 ⊢; exact h2)
    exact ⟨h3.trans h1, h4⟩
theorem pIntern_le (L : List ByteArray) (s : ByteArray) : (pIntern L s).length ≤ L.length + 1 := by
  unfold pIntern
  split <;> simp
theorem itF_len (T : List ByteArray) : ∀ L : List ByteArray, (itF L T).length ≤ L.length + T.length := by
  induction T with
  | nil => intro L; simp [itF]
  | cons x r ih =>
    intro L
    have h1 := ih (pIntern L x)
    have h2 := pIntern_le L x
    have h3 : itF L (x :: r) = itF (pIntern L x) r := rfl
    rw [h3, List.length_cons]
    omega
/-- The number of the k-th text is the same, now and in the end. -/
theorem itF_num (L T : List ByteArray) (i : Nat) (h : i < T.length) : idx6 (T.getD i noT) (itF L (T.take i)) = idx6 (T.getD i noT) (itF L T) := by
  obtain ⟨h1, h2⟩ := pIntern_idx (itF L (T.take i)) (T.getD i noT)
  have h3 : T = (T.take i ++ [T.getD i noT]) ++ T.drop (i + 1) := by
    rw [List.append_assoc, List.singleton_append, List.getD_eq_getElem?_getD, List.getElem?_eq_getElem h]
    show T = T.take i ++ T[i] :: T.drop (i + 1)
    rw [← List.drop_eq_getElem_cons h, List.take_append_drop]
  have h4 : itF L T = itF (pIntern (itF L (T.take i)) (T.getD i noT)) (T.drop (i + 1)) := by
    conv => lhs; rw [h3]
    unfold itF
    rw [List.foldl_append, List.foldl_append]
    rfl
  have h5 := itF_at (T.drop (i + 1)) (L := pIntern (itF L (T.take i)) (T.getD i noT)) (s := T.getD i noT) (by rw [h2]; exact h1)
  rw [h4, h5.1]
  exact h2.symm

/-- Are all kids ahead? -/
def rOk (N : Nd) (p : Int) : Bool := (List.range N.kids.length).all fun i => decide (0 ≤ N.kids.getD i 0 ∧ N.kids.getD i 0 < p)
theorem rOk_yes {N : Nd} {p : Int} (h : ∀ i, i < N.kids.length → 0 ≤ N.kids.getD i 0 ∧ N.kids.getD i 0 < p) : rOk N p = true := by
  unfold rOk
  rw [List.all_eq_true]
  intro i hi
  exact decide_eq_true (h i (by simpa using hi))
theorem rOk_no {N : Nd} {p : Int} {i : Nat} (hi : i < N.kids.length) (h : ¬ (0 ≤ N.kids.getD i 0 ∧ N.kids.getD i 0 < p)) : rOk N p = false := by
  unfold rOk
  exact List.all_eq_false.2 ⟨i, by simpa using hi, by rw [decide_eq_false h]; simp⟩
/-- What is wrong with a node that is to be put. -/
def rE (N : Nd) (p : Int) : Int := if tyN N = 0 then (if rOk N p = true then 0 else 13) else tyN N

def rI (l : List Int) : List UInt8 := l.flatMap fun z => put (zig z).toNat
def rT (M l : List ByteArray) : List UInt8 := l.flatMap fun s => put (idx6 s M)
def rK (p : Int) (l : List Int) : List UInt8 := l.flatMap fun k => put (p - k).toNat
/-- The record. -/
def rB (N : Nd) (p : Int) (L : List ByteArray) : List UInt8 := put N.kind.toNat ++ rI N.ints ++ rT (itF L N.texts) N.texts ++ put N.kids.length ++ rK p N.kids

theorem flat_take {α : Type} (f : α → List UInt8) (l : List α) (d : α) (i : Nat) (h : i < l.length) : (l.take (i + 1)).flatMap f = (l.take i).flatMap f ++ f (l.getD i d) := by
  rw [List.take_add_one, List.getElem?_eq_getElem h, List.flatMap_append, List.getD_eq_getElem?_getD, List.getElem?_eq_getElem h]
  simp
theorem flat_ten {α : Type} (f : α → Nat) (l : List α) : (l.flatMap fun z => put (f z)).length ≤ 10 * l.length := by
  induction l with
  | nil => simp
  | cons x r ih =>
    have := (put_length (f x)).2
    rw [List.flatMap_cons, List.length_append, List.length_cons]
    omega

/-- What Put leaves: S the bytes, M the table, k the error. -/
def PutIs (N : Nd) (p : Int) (L : List ByteArray) (S : ByteArray) (M : List ByteArray) (k : Int) : Prop :=
  k = rE N p ∧ (k ≠ 0 → S = ⟨#[]⟩ ∧ M = L) ∧ (k = 0 → S.data.toList = rB N p L ∧ M = itF L N.texts)

end Go.Proofs.YthfemhpbamcpjaaDoor
/- The contract of the document's own Put of a record. -/
namespace Go.Proofs.YthfemhpbamcpjaaDoor
open Go.RowKit

def PutOut (N : Nd) (p : Int) (L : List ByteArray) (w w' : World) (e : Ending) : Prop :=
  ∃ (S : ByteArray) (a : Option Addr) (cap b o : Nat) (M : List ByteArray) (k : Int), e = .returned (.tuple #[.string S, .slice a M.length cap, .int .i64 k]) ∧ TxI w' a cap b o M ∧ PutIs N p L S M k ∧ Below w.heap.size w w'

end Go.Proofs.YthfemhpbamcpjaaDoor
/- A node that is read, as plain mathematics: the numbers, the texts, the kids, up to the first error. -/
namespace Go.Proofs.YthfemhpbamcpjaaDoor
open Go.RowKit

/-- An error of one's own. -/
def fl (e d : Int) : Int := if e = 0 then d else e

def gIs (b : ByteArray) : List Int → Nat → Int → List Int × Nat × Int
  | [], k, e => ([], k, e)
  | c :: r, k, e => if e ≠ 0 then ([], k, e) else
    ((pInt b k e).1 :: (gIs b r (pInt b k e).2.1 (if in7 c (pInt b k e).1 = true then (pInt b k e).2.2 else fl (pInt b k e).2.2 10)).1,
      (gIs b r (pInt b k e).2.1 (if in7 c (pInt b k e).1 = true then (pInt b k e).2.2 else fl (pInt b k e).2.2 10)).2)
def gTs (b : ByteArray) (L : List ByteArray) : Nat → Nat → Int → List ByteArray × Nat × Int
  | 0, k, e => ([], k, e)
  | n + 1, k, e => if e ≠ 0 then ([], k, e) else
    if (pUint b k e 16777216).2.2 ≠ 0 then ([], (pUint b k e 16777216).2.1, (pUint b k e 16777216).2.2)
    else if (L.length : Int) ≤ (pUint b k e 16777216).1 then ([], (pUint b k e 16777216).2.1, 13)
    else (L.getD (pUint b k e 16777216).1.toNat noT :: (gTs b L n (pUint b k e 16777216).2.1 0).1, (gTs b L n (pUint b k e 16777216).2.1 0).2)
def gKs (b : ByteArray) (p : Int) : Nat → Nat → Int → List Int × Nat × Int
  | 0, k, e => ([], k, e)
  | n + 1, k, e => if e ≠ 0 then ([], k, e) else
    (wrap64 (p - (pUint b k e 16777216).1) :: (gKs b p n (pUint b k e 16777216).2.1 (if (pUint b k e 16777216).1 < 1 ∨ p < (pUint b k e 16777216).1 then fl (pUint b k e 16777216).2.2 13 else (pUint b k e 16777216).2.2)).1,
      (gKs b p n (pUint b k e 16777216).2.1 (if (pUint b k e 16777216).1 < 1 ∨ p < (pUint b k e 16777216).1 then fl (pUint b k e 16777216).2.2 13 else (pUint b k e 16777216).2.2)).2)

/-- What comes behind the kind: q the kind, where it is read to, and the error then. -/
def gRest (b : ByteArray) (p : Int) (L : List ByteArray) (edges : Int) (S : Sp) (k : Nat) (e : Int) : (List Int × List ByteArray × List Int) × Nat × Int :=
  let I := gIs b S.ints k e
  let T := gTs b L S.texts.toNat I.2.1 I.2.2
  let m := pUint b T.2.1 T.2.2 (max edges 0)
  let K := gKs b p m.1.toNat m.2.1 (if m.1 < S.least ∨ (0 ≤ S.most ∧ S.most < m.1) then fl m.2.2 12 else m.2.2)
  ((I.1, T.1, K.1), K.2)
/-- The node, where it is read to, the error. -/
def gNd (b : ByteArray) (p : Int) (L : List ByteArray) (edges : Int) (k : Nat) (e : Int) : Nd × Nat × Int :=
  let q := pUint b k e 16777216
  let R := gRest b p L edges (newSp q.1) q.2.1 (if (newSp q.1).ok = true then q.2.2 else fl q.2.2 9)
  if R.2.2 = 0 then (⟨q.1, R.1.1, R.1.2.1, R.1.2.2⟩, R.2.1, 0) else (⟨0, [], [], []⟩, R.2.1, R.2.2)

theorem gIs_at (b : ByteArray) : ∀ (C : List Int) (k : Nat) (e : Int), k ≤ b.size → k ≤ (gIs b C k e).2.1 ∧ (gIs b C k e).2.1 ≤ b.size
  | [], k, e, h => ⟨Nat.le_refl _, h⟩
  | c :: r, k, e, h => by
    unfold gIs
    split
    · exact ⟨Nat.le_refl _, h⟩
    · have h1 := pInt_at b k e h
      have h2 := gIs_at b r (pInt b k e).2.1 (if in7 c (pInt b k e).1 = true then (pInt b k e).2.2 else fl (pInt b k e).2.2 10) h1.2
      exact ⟨by dsimp only; omega, h2.2⟩
theorem gTs_at (b : ByteArray) (L : List ByteArray) : ∀ (n k : Nat) (e : Int), k ≤ b.size → k ≤ (gTs b L n k e).2.1 ∧ (gTs b L n k e).2.1 ≤ b.size
  | 0, k, e, h => ⟨Nat.le_refl _, h⟩
  | n + 1, k, e, h => by
    have h1 := pUint_at b k e 16777216 h
    unfold gTs
    split
    · exact ⟨Nat.le_refl _, h⟩
    · split
      · exact h1
      · split
        · exact h1
        · have h2 := gTs_at b L n (pUint b k e 16777216).2.1 0 h1.2
          exact ⟨by dsimp only; omega, h2.2⟩
theorem gKs_at (b : ByteArray) (p : Int) : ∀ (n k : Nat) (e : Int), k ≤ b.size → k ≤ (gKs b p n k e).2.1 ∧ (gKs b p n k e).2.1 ≤ b.size
  | 0, k, e, h => ⟨Nat.le_refl _, h⟩
  | n + 1, k, e, h => by
    have h1 := pUint_at b k e 16777216 h
    unfold gKs
    split
    · exact ⟨Nat.le_refl _, h⟩
    · have h2 := gKs_at b p n (pUint b k e 16777216).2.1 (if (pUint b k e 16777216).1 < 1 ∨ p < (pUint b k e 16777216).1 then fl (pUint b k e 16777216).2.2 13 else (pUint b k e 16777216).2.2) h1.2
      exact ⟨by dsimp only; omega, h2.2⟩
theorem gIs_stop (b : ByteArray) (C : List Int) (k : Nat) {e : Int} (h : e ≠ 0) : gIs b C k e = ([], k, e) := by
  cases C with
  | nil => rfl
  | cons c r => unfold gIs; rw [if_pos h]
theorem gTs_stop (b : ByteArray) (L : List ByteArray) (n k : Nat) {e : Int} (h : e ≠ 0) : gTs b L n k e = ([], k, e) := by
  cases n with
  | zero => rfl
  | succ n => unfold gTs; rw [if_pos h]
theorem gKs_stop (b : ByteArray) (p : Int) (n k : Nat) {e : Int} (h : e ≠ 0) : gKs b p n k e = ([], k, e) := by
  cases n with
  | zero => rfl
  | succ n => unfold gKs; rw [if_pos h]
theorem pUint_top (b : ByteArray) (k : Nat) (e m : Int) : 0 ≤ (pUint b k e m).1 ∧ (pUint b k e m).1 ≤ 16777216 ∧ ((pUint b k e m).2.2 ≠ 0 → (pUint b k e m).1 = 0) := by
  unfold pUint
  split
  · exact ⟨by simp, by simp, fun _ => rfl⟩
  · split
    · exact ⟨by simp, by simp, fun _ => rfl⟩
    · split
      · exact ⟨by simp, by simp, fun _ => rfl⟩
      · exact ⟨by dsimp only; omega, by dsimp only; omega, fun q => absurd rfl q⟩
theorem pInt_top (b : ByteArray) (k : Nat) (e : Int) (hk : k ≤ b.size) : -9223372036854775808 ≤ (pInt b k e).1 ∧ (pInt b k e).1 ≤ 9223372036854775807 := by
  unfold pInt
  split
  · exact ⟨by simp, by simp⟩
  · split
    · exact ⟨by simp, by simp⟩
    · rename_i h
      have h1 := num_ok b k (by omega) hk
      exact zag_range _ (by omega) (by omega)

end Go.Proofs.YthfemhpbamcpjaaDoor
/- The contract of the document's own Get of a record. -/
namespace Go.Proofs.YthfemhpbamcpjaaDoor
open Go.RowKit

theorem row_ne {w : World} {B C : Nat} {e e' : TypeId} {v v' : Value} {n n' : Nat} {xs xs' : List Value} (h : w.ownsRow B e 1 v n xs) (h' : w.ownsRow C e' 1 v' n' xs') (ht : e ≠ e') : v'.ownBlock = none ∨ v'.ownBlock ≠ v.ownBlock := by
  rcases h'.2 with ⟨rfl, _⟩ | ⟨g', cap', cur', rfl, _, q', _⟩
  · exact .inl rfl
  · rcases h.2 with ⟨rfl, _⟩ | ⟨g, cap, cur, rfl, _, q, _⟩
    · exact .inr (by simp [Value.ownBlock])
    · refine .inr fun e1 => ?_
      simp only [Value.ownBlock, Option.some.injEq] at e1
      subst e1
      rw [q] at q'
      injection q' with q'
      injection q' with _ q'
      exact ht q'
theorem row_kept {w w' : World} {B : Nat} {e : TypeId} {n : Nat} {v : Value} {xs : List Value} {row : Option Nat} (ho : w.ownsRow B e 1 v n xs) (hg : w.grownBy w' row) (hr : v.ownBlock = none ∨ v.ownBlock ≠ row) : w'.ownsRow B e 1 v n xs := ho.kept hg hr
theorem row_low {w : World} {B : Nat} {e : TypeId} {n : Nat} {v : Value} {xs : List Value} {row : Option Nat} (ho : w.ownsRow B e 1 v n xs) (hr : ∀ k, row = some k → k < B) : v.ownBlock = none ∨ v.ownBlock ≠ row := by
  cases hv : v.ownBlock with
  | none => exact .inl rfl
  | some q => exact .inr (fun e => by have := (ho.lt q hv).1; have := hr q e.symm; omega)

/-- A row isn't the block of a struct. -/
theorem row_at {w : World} {B g : Nat} {e T : TypeId} {n : Nat} {v : Value} {xs : List Value} {cs : Array Value} (ho : w.ownsRow B e 1 v n xs) (h : AtN T w g cs) (ht : e ≠ T) : v.ownBlock ≠ some g := by
  intro hv
  rcases ho.2 with ⟨rfl, _⟩ | ⟨g', cap, cur, rfl, _, q, _⟩
  · cases hv
  · simp only [Value.ownBlock, Option.some.injEq] at hv
    subst hv
    have h' : w.heap[g']? = _ := h
    rw [q] at h'
    injection h' with h'
    injection h' with _ h'
    exact ht h'
/-- A store into a block that is new. -/
theorem gnew {a b : World} {row : Option Nat} (h : a.grownBy b row) (p : Addr) (hp : a.heap.size ≤ p.block) (v : Value) : a.grownBy (b.setCell p v) row :=
  ⟨h.os, h.tape, h.output, by simpa [World.setCell] using h.size, fun i hi hn => (Below.heap_setCell _ _ _ _ (by omega)).trans (h.block i hi hn)⟩

end Go.Proofs.YthfemhpbamcpjaaDoor
