/- A node's record, as plain mathematics: what is wrong, which texts, which bytes. -/
import Derived.Test.YtgoffkfpdigeeaaGreatDoorLTy0
import Derived.Test.YtgoffkfpdigeeaaGreatDoorLTx
import Derived.Test.YtgoffkfpdigeeaaGreatDoorVA
import Derived.Test.YtgoffkfpdigeeaaGreatDoorUA
import Derived.Test.YtgoffkfpdigeeaaGreatDoorGD
import Derived.Lib.Strings
import Derived.Test.YtgoffkfpdigeeaaGreatDoorVB
import Derived.Test.YtgoffkfpdigeeaaGreatDoorVC
import Derived.Deep.AppendLies
import Derived.Deep.RegionLaw
import Derived.Laws.OwnMore
namespace Go.Proofs.YtgoffkfpdigeeaaGreatDoor
open Go.RowKit

/-- A table with more texts. -/
def itF (L T : List ByteArray) : List ByteArray := T.foldl pIntern L
theorem itF_snoc (L T : List ByteArray) (s : ByteArray) : itF L (T ++ [s]) = pIntern (itF L T) s := by simp [itF, List.foldl_append]
theorem pIntern_at {L : List ByteArray} {s t : ByteArray} (h : idx6 s L < L.length) : idx6 s (pIntern L t) = idx6 s L ∧ idx6 s (pIntern L t) < (pIntern L t).length := by
  unfold pIntern
  split
  · exact ⟨rfl, h⟩
  · have := idx6_append s L [t] h
    exact ⟨this, by rw [this, List.length_append]; omega⟩
theorem itF_at (T : List ByteArray) : ∀ {L : List ByteArray} {s : ByteArray}, idx6 s L < L.length → idx6 s (itF L T) = idx6 s L ∧ idx6 s (itF L T) < (itF L T).length := by
  induction T with
  | nil => intro L s h; exact ⟨rfl, h⟩
  | cons x r ih =>
    intro L s h
    obtain ⟨h1, h2⟩ := pIntern_at (t := x) h
    obtain ⟨h3, h4⟩ := ih (L := pIntern L x) (s := s) (by rw [h1] at h2 ⊢; exact h2)
    exact ⟨h3.trans h1, h4⟩
theorem pIntern_le (L : List ByteArray) (s : ByteArray) : (pIntern L s).length ≤ L.length + 1 := by
  unfold pIntern
  split <;> simp
theorem itF_len (T : List ByteArray) : ∀ L : List ByteArray, (itF L T).length ≤ L.length + T.length := by
  induction T with
  | nil => intro L; simp [itF]
  | cons x r ih =>
    intro L
    have h1 := ih (pIntern L x)
    have h2 := pIntern_le L x
    have h3 : itF L (x :: r) = itF (pIntern L x) r := rfl
    rw [h3, List.length_cons]
    omega
/-- The number of the k-th text is the same, now and in the end. -/
theorem itF_num (L T : List ByteArray) (i : Nat) (h : i < T.length) : idx6 (T.getD i noT) (itF L (T.take i)) = idx6 (T.getD i noT) (itF L T) := by
  obtain ⟨h1, h2⟩ := pIntern_idx (itF L (T.take i)) (T.getD i noT)
  have h3 : T = (T.take i ++ [T.getD i noT]) ++ T.drop (i + 1) := by
    rw [List.append_assoc, List.singleton_append, List.getD_eq_getElem?_getD, List.getElem?_eq_getElem h]
    show T = T.take i ++ T[i] :: T.drop (i + 1)
    rw [← List.drop_eq_getElem_cons h, List.take_append_drop]
  have h4 : itF L T = itF (pIntern (itF L (T.take i)) (T.getD i noT)) (T.drop (i + 1)) := by
    conv => lhs; rw [h3]
    unfold itF
    rw [List.foldl_append, List.foldl_append]
    rfl
  have h5 := itF_at (T.drop (i + 1)) (L := pIntern (itF L (T.take i)) (T.getD i noT)) (s := T.getD i noT) (by rw [h2]; exact h1)
  rw [h4, h5.1]
  exact h2.symm

/-- Are all kids ahead? -/
def rOk (N : Nd) (p : Int) : Bool := (List.range N.kids.length).all fun i => decide (0 ≤ N.kids.getD i 0 ∧ N.kids.getD i 0 < p)
theorem rOk_yes {N : Nd} {p : Int} (h : ∀ i, i < N.kids.length → 0 ≤ N.kids.getD i 0 ∧ N.kids.getD i 0 < p) : rOk N p = true := by
  unfold rOk
  rw [List.all_eq_true]
  intro i hi
  exact decide_eq_true (h i (by simpa using hi))
theorem rOk_no {N : Nd} {p : Int} {i : Nat} (hi : i < N.kids.length) (h : ¬ (0 ≤ N.kids.getD i 0 ∧ N.kids.getD i 0 < p)) : rOk N p = false := by
  unfold rOk
  exact List.all_eq_false.2 ⟨i, by simpa using hi, by rw [decide_eq_false h]; simp⟩
/-- What is wrong with a node that is to be put. -/
def rE (N : Nd) (p : Int) : Int := if tyN N = 0 then (if rOk N p = true then 0 else 13) else tyN N

def rI (l : List Int) : List UInt8 := l.flatMap fun z => put (zig z).toNat
def rT (M l : List ByteArray) : List UInt8 := l.flatMap fun s => put (idx6 s M)
def rK (p : Int) (l : List Int) : List UInt8 := l.flatMap fun k => put (p - k).toNat
/-- The record. -/
def rB (N : Nd) (p : Int) (L : List ByteArray) : List UInt8 := put N.kind.toNat ++ rI N.ints ++ rT (itF L N.texts) N.texts ++ put N.kids.length ++ rK p N.kids

theorem flat_take {α : Type} (f : α → List UInt8) (l : List α) (d : α) (i : Nat) (h : i < l.length) : (l.take (i + 1)).flatMap f = (l.take i).flatMap f ++ f (l.getD i d) := by
  rw [List.take_add_one, List.getElem?_eq_getElem h, List.flatMap_append, List.getD_eq_getElem?_getD, List.getElem?_eq_getElem h]
  simp
theorem flat_ten {α : Type} (f : α → Nat) (l : List α) : (l.flatMap fun z => put (f z)).length ≤ 10 * l.length := by
  induction l with
  | nil => simp
  | cons x r ih =>
    have := (put_length (f x)).2
    rw [List.flatMap_cons, List.length_append, List.length_cons]
    omega

/-- What Put leaves: S the bytes, M the table, k the error. -/
def PutIs (N : Nd) (p : Int) (L : List ByteArray) (S : ByteArray) (M : List ByteArray) (k : Int) : Prop :=
  k = rE N p ∧ (k ≠ 0 → S = ⟨#[]⟩ ∧ M = L) ∧ (k = 0 → S.data.toList = rB N p L ∧ M = itF L N.texts)

end Go.Proofs.YtgoffkfpdigeeaaGreatDoor
/- The contract of the document's own Put of a record. -/
namespace Go.Proofs.YtgoffkfpdigeeaaGreatDoor
open Go.RowKit

def PutOut (N : Nd) (p : Int) (L : List ByteArray) (w w' : World) (e : Ending) : Prop :=
  ∃ (S : ByteArray) (a : Option Addr) (cap b o : Nat) (M : List ByteArray) (k : Int), e = .returned (.tuple #[.string S, .slice a M.length cap, .int .i64 k]) ∧ TxI w' a cap b o M ∧ PutIs N p L S M k ∧ Below w.heap.size w w'

end Go.Proofs.YtgoffkfpdigeeaaGreatDoor
/- A node that is read, as plain mathematics: the numbers, the texts, the kids, up to the first error. -/
namespace Go.Proofs.YtgoffkfpdigeeaaGreatDoor
open Go.RowKit

/-- An error of one's own. -/
def fl (e d : Int) : Int := if e = 0 then d else e

def gIs (b : ByteArray) : List Int → Nat → Int → List Int × Nat × Int
  | [], k, e => ([], k, e)
  | c :: r, k, e => if e ≠ 0 then ([], k, e) else
    ((pInt b k e).1 :: (gIs b r (pInt b k e).2.1 (if in7 c (pInt b k e).1 = true then (pInt b k e).2.2 else fl (pInt b k e).2.2 10)).1,
      (gIs b r (pInt b k e).2.1 (if in7 c (pInt b k e).1 = true then (pInt b k e).2.2 else fl (pInt b k e).2.2 10)).2)
def gTs (b : ByteArray) (L : List ByteArray) : Nat → Nat → Int → List ByteArray × Nat × Int
  | 0, k, e => ([], k, e)
  | n + 1, k, e => if e ≠ 0 then ([], k, e) else
    if (pUint b k e 16777216).2.2 ≠ 0 then ([], (pUint b k e 16777216).2.1, (pUint b k e 16777216).2.2)
    else if (L.length : Int) ≤ (pUint b k e 16777216).1 then ([], (pUint b k e 16777216).2.1, 13)
    else (L.getD (pUint b k e 16777216).1.toNat noT :: (gTs b L n (pUint b k e 16777216).2.1 0).1, (gTs b L n (pUint b k e 16777216).2.1 0).2)
def gKs (b : ByteArray) (p : Int) : Nat → Nat → Int → List Int × Nat × Int
  | 0, k, e => ([], k, e)
  | n + 1, k, e => if e ≠ 0 then ([], k, e) else
    (wrap64 (p - (pUint b k e 16777216).1) :: (gKs b p n (pUint b k e 16777216).2.1 (if (pUint b k e 16777216).1 < 1 ∨ p < (pUint b k e 16777216).1 then fl (pUint b k e 16777216).2.2 13 else (pUint b k e 16777216).2.2)).1,
      (gKs b p n (pUint b k e 16777216).2.1 (if (pUint b k e 16777216).1 < 1 ∨ p < (pUint b k e 16777216).1 then fl (pUint b k e 16777216).2.2 13 else (pUint b k e 16777216).2.2)).2)

/-- What comes behind the kind: q the kind, where it is read to, and the error then. -/
def gRest (b : ByteArray) (p : Int) (L : List ByteArray) (edges : Int) (S : Sp) (k : Nat) (e : Int) : (List Int × List ByteArray × List Int) × Nat × Int :=
  let I := gIs b S.ints k e
  let T := gTs b L S.texts.toNat I.2.1 I.2.2
  let m := pUint b T.2.1 T.2.2 (max edges 0)
  let K := gKs b p m.1.toNat m.2.1 (if m.1 < S.least ∨ (0 ≤ S.most ∧ S.most < m.1) then fl m.2.2 12 else m.2.2)
  ((I.1, T.1, K.1), K.2)
/-- The node, where it is read to, the error. -/
def gNd (b : ByteArray) (p : Int) (L : List ByteArray) (edges : Int) (k : Nat) (e : Int) : Nd × Nat × Int :=
  let q := pUint b k e 16777216
  let R := gRest b p L edges (newSp q.1) q.2.1 (if (newSp q.1).ok = true then q.2.2 else fl q.2.2 9)
  if R.2.2 = 0 then (⟨q.1, R.1.1, R.1.2.1, R.1.2.2⟩, R.2.1, 0) else (⟨0, [], [], []⟩, R.2.1, R.2.2)

theorem gIs_at (b : ByteArray) : ∀ (C : List Int) (k : Nat) (e : Int), k ≤ b.size → k ≤ (gIs b C k e).2.1 ∧ (gIs b C k e).2.1 ≤ b.size
  | [], k, e, h => ⟨Nat.le_refl _, h⟩
  | c :: r, k, e, h => by
    unfold gIs
    split
    · exact ⟨Nat.le_refl _, h⟩
    · have h1 := pInt_at b k e h
      have h2 := gIs_at b r (pInt b k e).2.1 (if in7 c (pInt b k e).1 = true then (pInt b k e).2.2 else fl (pInt b k e).2.2 10) h1.2
      exact ⟨by dsimp only; omega, h2.2⟩
theorem gTs_at (b : ByteArray) (L : List ByteArray) : ∀ (n k : Nat) (e : Int), k ≤ b.size → k ≤ (gTs b L n k e).2.1 ∧ (gTs b L n k e).2.1 ≤ b.size
  | 0, k, e, h => ⟨Nat.le_refl _, h⟩
  | n + 1, k, e, h => by
    have h1 := pUint_at b k e 16777216 h
    unfold gTs
    split
    · exact ⟨Nat.le_refl _, h⟩
    · split
      · exact h1
      · split
        · exact h1
        · have h2 := gTs_at b L n (pUint b k e 16777216).2.1 0 h1.2
          exact ⟨by dsimp only; omega, h2.2⟩
theorem gKs_at (b : ByteArray) (p : Int) : ∀ (n k : Nat) (e : Int), k ≤ b.size → k ≤ (gKs b p n k e).2.1 ∧ (gKs b p n k e).2.1 ≤ b.size
  | 0, k, e, h => ⟨Nat.le_refl _, h⟩
  | n + 1, k, e, h => by
    have h1 := pUint_at b k e 16777216 h
    unfold gKs
    split
    · exact ⟨Nat.le_refl _, h⟩
    · have h2 := gKs_at b p n (pUint b k e 16777216).2.1 (if (pUint b k e 16777216).1 < 1 ∨ p < (pUint b k e 16777216).1 then fl (pUint b k e 16777216).2.2 13 else (pUint b k e 16777216).2.2) h1.2
      exact ⟨by dsimp only; omega, h2.2⟩
theorem gIs_stop (b : ByteArray) (C : List Int) (k : Nat) {e : Int} (h : e ≠ 0) : gIs b C k e = ([], k, e) := by
  cases C with
  | nil => rfl
  | cons c r => unfold gIs; rw [if_pos h]
theorem gTs_stop (b : ByteArray) (L : List ByteArray) (n k : Nat) {e : Int} (h : e ≠ 0) : gTs b L n k e = ([], k, e) := by
  cases n with
  | zero => rfl
  | succ n => unfold gTs; rw [if_pos h]
theorem gKs_stop (b : ByteArray) (p : Int) (n k : Nat) {e : Int} (h : e ≠ 0) : gKs b p n k e = ([], k, e) := by
  cases n with
  | zero => rfl
  | succ n => unfold gKs; rw [if_pos h]
theorem pUint_top (b : ByteArray) (k : Nat) (e m : Int) : 0 ≤ (pUint b k e m).1 ∧ (pUint b k e m).1 ≤ 16777216 ∧ ((pUint b k e m).2.2 ≠ 0 → (pUint b k e m).1 = 0) := by
  unfold pUint
  split
  · exact ⟨by simp, by simp, fun _ => rfl⟩
  · split
    · exact ⟨by simp, by simp, fun _ => rfl⟩
    · split
      · exact ⟨by simp, by simp, fun _ => rfl⟩
      · exact ⟨by dsimp only; omega, by dsimp only; omega, fun q => absurd rfl q⟩
theorem pInt_top (b : ByteArray) (k : Nat) (e : Int) (hk : k ≤ b.size) : -9223372036854775808 ≤ (pInt b k e).1 ∧ (pInt b k e).1 ≤ 9223372036854775807 := by
  unfold pInt
  split
  · exact ⟨by simp, by simp⟩
  · split
    · exact ⟨by simp, by simp⟩
    · rename_i h
      have h1 := num_ok b k (by omega) hk
      exact zag_range _ (by omega) (by omega)

end Go.Proofs.YtgoffkfpdigeeaaGreatDoor
/- The contract of the document's own Get of a record. -/
namespace Go.Proofs.YtgoffkfpdigeeaaGreatDoor
open Go.RowKit

theorem row_ne {w : World} {B C : Nat} {e e' : TypeId} {v v' : Value} {n n' : Nat} {xs xs' : List Value} (h : w.ownsRow B e 1 v n xs) (h' : w.ownsRow C e' 1 v' n' xs') (ht : e ≠ e') : v'.ownBlock = none ∨ v'.ownBlock ≠ v.ownBlock := by
  rcases h'.2 with ⟨rfl, _⟩ | ⟨g', cap', cur', rfl, _, q', _⟩
  · exact .inl rfl
  · rcases h.2 with ⟨rfl, _⟩ | ⟨g, cap, cur, rfl, _, q, _⟩
    · exact .inr (by simp [Value.ownBlock])
    · refine .inr fun e1 => ?_
      simp only [Value.ownBlock, Option.some.injEq] at e1
      subst e1
      rw [q] at q'
      injection q' with q'
      injection q' with _ q'
      exact ht q'
theorem row_kept {w w' : World} {B : Nat} {e : TypeId} {n : Nat} {v : Value} {xs : List Value} {row : Option Nat} (ho : w.ownsRow B e 1 v n xs) (hg : w.grownBy w' row) (hr : v.ownBlock = none ∨ v.ownBlock ≠ row) : w'.ownsRow B e 1 v n xs := ho.kept hg hr
theorem row_low {w : World} {B : Nat} {e : TypeId} {n : Nat} {v : Value} {xs : List Value} {row : Option Nat} (ho : w.ownsRow B e 1 v n xs) (hr : ∀ k, row = some k → k < B) : v.ownBlock = none ∨ v.ownBlock ≠ row := by
  cases hv : v.ownBlock with
  | none => exact .inl rfl
  | some q => exact .inr (fun e => by have := (ho.lt q hv).1; have := hr q e.symm; omega)

/-- A row isn't the block of a struct. -/
theorem row_at {w : World} {B g : Nat} {e T : TypeId} {n : Nat} {v : Value} {xs : List Value} {cs : Array Value} (ho : w.ownsRow B e 1 v n xs) (h : AtN T w g cs) (ht : e ≠ T) : v.ownBlock ≠ some g := by
  intro hv
  rcases ho.2 with ⟨rfl, _⟩ | ⟨g', cap, cur, rfl, _, q, _⟩
  · cases hv
  · simp only [Value.ownBlock, Option.some.injEq] at hv
    subst hv
    have h' : w.heap[g']? = _ := h
    rw [q] at h'
    injection h' with h'
    injection h' with _ h'
    exact ht h'
/-- A store into a block that is new. -/
theorem gnew {a b : World} {row : Option Nat} (h : a.grownBy b row) (p : Addr) (hp : a.heap.size ≤ p.block) (v : Value) : a.grownBy (b.setCell p v) row :=
  ⟨h.os, h.tape, h.output, by simpa [World.setCell] using h.size, fun i hi hn => (Below.heap_setCell _ _ _ _ (by omega)).trans (h.block i hi hn)⟩

/-- What the reading of a node holds: gN the node's block, gS the Spec's. -/
structure Gi (w wr : World) (g gN gS : Nat) (bs : ByteArray) (k : Nat) (e : Int) (N : Nd) (v1 v2 v3 : Value) (sb : Option Addr) (sc : Nat) (S : Sp) : Prop where
  cur : Rf wr g bs k e
  nd : AtN 51 wr gN #[.int .i64 N.kind, v1, v2, v3]
  own : OwnNd wr (gS + 1) N v1 v2 v3
  sp : AtN 117 wr gS #[.slice sb S.ints.length sc, .int .i64 S.texts, .int .i64 S.least, .int .i64 S.most]
  cls : wr.ownsRow w.heap.size 3 1 (.slice sb S.ints.length sc) S.ints.length (iV S.ints)
  low : ∀ r, (Value.slice sb S.ints.length sc).ownBlock = some r → r < gS
  res : AtN 51 wr w.heap.size #[.int .i64 0, .slice none 0 0, .slice none 0 0, .slice none 0 0]
  fr : w.grownBy wr (some g)
  hg : g < w.heap.size
  hN : w.heap.size < gN
  hS : gN < gS
  kb : k ≤ bs.size
section
variable {w wr w' : World} {g gN gS : Nat} {bs : ByteArray} {k k' : Nat} {e e' : Int} {N : Nd} {v1 v2 v3 : Value} {sb : Option Addr} {sc : Nat} {S : Sp}
/-- The cursor goes on. -/
theorem Gi.read (h : Gi w wr g gN gS bs k e N v1 v2 v3 sb sc S) (hw : wr.grownBy w' (some g)) (hc : Rf w' g bs k' e') (hk : k' ≤ bs.size) : Gi w w' g gN gS bs k' e' N v1 v2 v3 sb sc S := by
  have h1 := h.hg
  have h2 := h.hN
  have h3 := h.hS
  exact ⟨hc, h.nd.kept hw (by simp; omega), h.own.kept hw (fun q hq => by cases hq; omega), h.sp.kept hw (by simp; omega), row_kept h.cls hw (row_low h.cls (fun q hq => by cases hq; omega)), h.low, h.res.kept hw (by simp; omega), gtrans h.fr hw, h.hg, h.hN, h.hS, hk⟩
/-- Memory that is new. -/
theorem Gi.more (h : Gi w wr g gN gS bs k e N v1 v2 v3 sb sc S) (hb : Below wr.heap.size wr w') : Gi w w' g gN gS bs k e N v1 v2 v3 sb sc S :=
  ⟨At3.belowAll h.cur hb, h.nd.belowAll hb, h.own.belowB hb, h.sp.belowAll hb, own_below h.cls hb (Nat.le_refl _), h.low, h.res.belowAll hb, gtrans h.fr (gbelow hb), h.hg, h.hN, h.hS, h.kb⟩
/-- One of the node's rows grows; nothing else of this. -/
theorem Gi.keep (h : Gi w wr g gN gS bs k e N v1 v2 v3 sb sc S) {row : Option Nat} (hw : wr.grownBy w' row) (hr : ∀ q, row = some q → gS < q) : Rf w' g bs k e ∧ AtN 51 w' gN #[.int .i64 N.kind, v1, v2, v3] ∧ AtN 117 w' gS #[.slice sb S.ints.length sc, .int .i64 S.texts, .int .i64 S.least, .int .i64 S.most] ∧
    w'.ownsRow w.heap.size 3 1 (.slice sb S.ints.length sc) S.ints.length (iV S.ints) ∧ AtN 51 w' w.heap.size #[.int .i64 0, .slice none 0 0, .slice none 0 0, .slice none 0 0] ∧ w.grownBy w' (some g) := by
  have h1 := h.hg
  have h2 := h.hN
  have h3 := h.hS
  have hne : ∀ q, q ≤ gS → some q ≠ row := fun q hq e => by have := hr q e.symm; omega
  refine ⟨At3.kept h.cur hw (hne _ (by omega)), h.nd.kept hw (hne _ (by omega)), h.sp.kept hw (hne _ (by omega)), row_kept h.cls hw ?_, h.res.kept hw (hne _ (by omega)), ?_⟩
  · cases hv : (Value.slice sb S.ints.length sc).ownBlock with
    | none => exact .inl rfl
    | some q => exact .inr (hne q (by have := h.low q hv; omega))
  · have hf := h.fr
    exact ⟨hw.os.trans hf.os, hw.tape.trans hf.tape, hw.output.trans hf.output, Nat.le_trans hf.size hw.size, fun i hi hn => (hw.block i (Nat.lt_of_lt_of_le hi hf.size) (hne i (by omega))).trans (hf.block i hi hn)⟩
theorem Gi.rows (h : Gi w wr g gN gS bs k e N v1 v2 v3 sb sc S) : (∀ q, v1.ownBlock = some q → gS < q) ∧ (∀ q, v2.ownBlock = some q → gS < q) ∧ ∀ q, v3.ownBlock = some q → gS < q :=
  ⟨fun q hq => (h.own.i.lt q hq).1, fun q hq => (h.own.t.lt q hq).1, fun q hq => (h.own.k.lt q hq).1⟩
theorem Gi.app1 (h : Gi w wr g gN gS bs k e N v1 v2 v3 sb sc S) {g2 cap2 : Nat} {x : Int} (hw : wr.grownBy w' v1.ownBlock) (ho : w'.ownsRow (gS + 1) 2 1 (.slice (some ⟨g2, 0, none⟩) (N.ints.length + 1) cap2) (N.ints.length + 1) (iV N.ints ++ [.int .i64 x])) :
    Gi w (w'.setCell ⟨gN, 1, none⟩ (.slice (some ⟨g2, 0, none⟩) (N.ints.length + 1) cap2)) g gN gS bs k e ⟨N.kind, N.ints ++ [x], N.texts, N.kids⟩ (.slice (some ⟨g2, 0, none⟩) (N.ints.length + 1) cap2) v2 v3 sb sc S := by
  obtain ⟨r1, r2, r3⟩ := h.rows
  obtain ⟨k1, k2, k3, k4, k5, k6⟩ := h.keep hw r1
  have h1 := h.hg
  have h2 := h.hN
  have h3 := h.hS
  have ht : w'.ownsRow (gS + 1) 9 1 v2 N.texts.length (tV N.texts) := row_kept h.own.t hw (row_ne h.own.i h.own.t (by decide))
  have hk : w'.ownsRow (gS + 1) 3 1 v3 N.kids.length (iV N.kids) := row_kept h.own.k hw (row_ne h.own.i h.own.k (by decide))
  have ho2 : w'.ownsRow (gS + 1) 2 1 (.slice (some ⟨g2, 0, none⟩) (N.ints.length + 1) cap2) (N.ints ++ [x]).length (iV (N.ints ++ [x])) := by simpa [iV] using ho
  refine ⟨At3.setOther k1 _ (by simp; omega) _, by simpa using k2.set 1 _, ?_, k3.setOther _ (by simp; omega) _, own_set k4 _ (fun q hq e => row_at k4 k2 (by decide) (by rw [hq, e])) _, h.low, k5.setOther _ (by simp; omega) _, ?_, h1, h2, h3, h.kb⟩
  · exact OwnNd.set (B := gS + 1) (N := ⟨N.kind, N.ints ++ [x], N.texts, N.kids⟩) ⟨ho2, ht, hk⟩ ⟨gN, 1, none⟩ (by simp; omega) _
  · exact gnew k6 ⟨gN, 1, none⟩ (by simp; omega) _
theorem Gi.app2 (h : Gi w wr g gN gS bs k e N v1 v2 v3 sb sc S) {g2 cap2 : Nat} {x : ByteArray} (hw : wr.grownBy w' v2.ownBlock) (ho : w'.ownsRow (gS + 1) 9 1 (.slice (some ⟨g2, 0, none⟩) (N.texts.length + 1) cap2) (N.texts.length + 1) (tV N.texts ++ [.string x])) :
    Gi w (w'.setCell ⟨gN, 2, none⟩ (.slice (some ⟨g2, 0, none⟩) (N.texts.length + 1) cap2)) g gN gS bs k e ⟨N.kind, N.ints, N.texts ++ [x], N.kids⟩ v1 (.slice (some ⟨g2, 0, none⟩) (N.texts.length + 1) cap2) v3 sb sc S := by
  obtain ⟨r1, r2, r3⟩ := h.rows
  obtain ⟨k1, k2, k3, k4, k5, k6⟩ := h.keep hw r2
  have h1 := h.hg
  have h2 := h.hN
  have h3 := h.hS
  have hi : w'.ownsRow (gS + 1) 2 1 v1 N.ints.length (iV N.ints) := row_kept h.own.i hw (row_ne h.own.t h.own.i (by decide))
  have hk : w'.ownsRow (gS + 1) 3 1 v3 N.kids.length (iV N.kids) := row_kept h.own.k hw (row_ne h.own.t h.own.k (by decide))
  have ho2 : w'.ownsRow (gS + 1) 9 1 (.slice (some ⟨g2, 0, none⟩) (N.texts.length + 1) cap2) (N.texts ++ [x]).length (tV (N.texts ++ [x])) := by simpa [tV] using ho
  refine ⟨At3.setOther k1 _ (by simp; omega) _, by simpa using k2.set 2 _, ?_, k3.setOther _ (by simp; omega) _, own_set k4 _ (fun q hq e => row_at k4 k2 (by decide) (by rw [hq, e])) _, h.low, k5.setOther _ (by simp; omega) _, ?_, h1, h2, h3, h.kb⟩
  · exact OwnNd.set (B := gS + 1) (N := ⟨N.kind, N.ints, N.texts ++ [x], N.kids⟩) ⟨hi, ho2, hk⟩ ⟨gN, 2, none⟩ (by simp; omega) _
  · exact gnew k6 ⟨gN, 2, none⟩ (by simp; omega) _
theorem Gi.app3 (h : Gi w wr g gN gS bs k e N v1 v2 v3 sb sc S) {g2 cap2 : Nat} {x : Int} (hw : wr.grownBy w' v3.ownBlock) (ho : w'.ownsRow (gS + 1) 3 1 (.slice (some ⟨g2, 0, none⟩) (N.kids.length + 1) cap2) (N.kids.length + 1) (iV N.kids ++ [.int .i64 x])) :
    Gi w (w'.setCell ⟨gN, 3, none⟩ (.slice (some ⟨g2, 0, none⟩) (N.kids.length + 1) cap2)) g gN gS bs k e ⟨N.kind, N.ints, N.texts, N.kids ++ [x]⟩ v1 v2 (.slice (some ⟨g2, 0, none⟩) (N.kids.length + 1) cap2) sb sc S := by
  obtain ⟨r1, r2, r3⟩ := h.rows
  obtain ⟨k1, k2, k3, k4, k5, k6⟩ := h.keep hw r3
  have h1 := h.hg
  have h2 := h.hN
  have h3 := h.hS
  have hi : w'.ownsRow (gS + 1) 2 1 v1 N.ints.length (iV N.ints) := row_kept h.own.i hw (row_ne h.own.k h.own.i (by decide))
  have ht : w'.ownsRow (gS + 1) 9 1 v2 N.texts.length (tV N.texts) := row_kept h.own.t hw (row_ne h.own.k h.own.t (by decide))
  have ho2 : w'.ownsRow (gS + 1) 3 1 (.slice (some ⟨g2, 0, none⟩) (N.kids.length + 1) cap2) (N.kids ++ [x]).length (iV (N.kids ++ [x])) := by simpa [iV] using ho
  refine ⟨At3.setOther k1 _ (by simp; omega) _, by simpa using k2.set 3 _, ?_, k3.setOther _ (by simp; omega) _, own_set k4 _ (fun q hq e => row_at k4 k2 (by decide) (by rw [hq, e])) _, h.low, k5.setOther _ (by simp; omega) _, ?_, h1, h2, h3, h.kb⟩
  · exact OwnNd.set (B := gS + 1) (N := ⟨N.kind, N.ints, N.texts, N.kids ++ [x]⟩) ⟨hi, ht, ho2⟩ ⟨gN, 3, none⟩ (by simp; omega) _
  · exact gnew k6 ⟨gN, 3, none⟩ (by simp; omega) _
theorem Gi.c0 (h : Gi w wr g gN gS bs k e N v1 v2 v3 sb sc S) : wr.cell? ⟨gN, 0, none⟩ = some (.int .i64 N.kind) := h.nd.cell 0
theorem Gi.c1 (h : Gi w wr g gN gS bs k e N v1 v2 v3 sb sc S) : wr.cell? ⟨gN, 1, none⟩ = some v1 := h.nd.cell 1
theorem Gi.c2 (h : Gi w wr g gN gS bs k e N v1 v2 v3 sb sc S) : wr.cell? ⟨gN, 2, none⟩ = some v2 := h.nd.cell 2
theorem Gi.c3 (h : Gi w wr g gN gS bs k e N v1 v2 v3 sb sc S) : wr.cell? ⟨gN, 3, none⟩ = some v3 := h.nd.cell 3
theorem Gi.d0 (h : Gi w wr g gN gS bs k e N v1 v2 v3 sb sc S) : wr.cell? ⟨gS, 0, none⟩ = some (.slice sb S.ints.length sc) := h.sp.cell 0
theorem Gi.d1 (h : Gi w wr g gN gS bs k e N v1 v2 v3 sb sc S) : wr.cell? ⟨gS, 1, none⟩ = some (.int .i64 S.texts) := h.sp.cell 1
theorem Gi.d2 (h : Gi w wr g gN gS bs k e N v1 v2 v3 sb sc S) : wr.cell? ⟨gS, 2, none⟩ = some (.int .i64 S.least) := h.sp.cell 2
theorem Gi.d3 (h : Gi w wr g gN gS bs k e N v1 v2 v3 sb sc S) : wr.cell? ⟨gS, 3, none⟩ = some (.int .i64 S.most) := h.sp.cell 3
theorem Gi.ce (h : Gi w wr g gN gS bs k e N v1 v2 v3 sb sc S) : wr.cell? ⟨g, 2, none⟩ = some (.int .i64 e) := h.cur.c2
/-- The texts of a table that came in stay. -/
theorem TxI.grew {a : Option Addr} {cap b o : Nat} {L : List ByteArray} (hx : TxI w a cap b o L) (h : w.grownBy wr (some g)) (hb : 0 < L.length → b ≠ g) : TxI wr a cap b o L := by
  refine ⟨hx.ptr, fun i hi => ?_, hx.cap_, hx.nil⟩
  obtain ⟨q1, q2⟩ := hx.at_ i hi
  exact ⟨Nat.lt_of_lt_of_le q1 h.size, (World.cell?_of_block (h.block b q1 (by simp; exact hb (by omega)))).trans q2⟩
end

/-- What Get leaves. -/
def NdGot (w w' : World) (g : Nat) (bs : ByteArray) (r : Ending) (R : Nd × Nat × Int) : Prop :=
  ∃ a1 c1 a2 c2 a3 c3, r = .returned (.agg #[.int .i64 R.1.kind, .slice a1 R.1.ints.length c1, .slice a2 R.1.texts.length c2, .slice a3 R.1.kids.length c3]) ∧ OwnNd w' w.heap.size R.1 (.slice a1 R.1.ints.length c1) (.slice a2 R.1.texts.length c2) (.slice a3 R.1.kids.length c3) ∧ Rf w' g bs R.2.1 R.2.2 ∧ w.grownBy w' (some g)

end Go.Proofs.YtgoffkfpdigeeaaGreatDoor
