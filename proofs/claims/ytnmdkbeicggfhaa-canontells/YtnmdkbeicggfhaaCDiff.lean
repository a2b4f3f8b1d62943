/- The fields that differ: as lists; the contracts of the two Diff. -/
import Derived.Test.YtnmdkbeicggfhaaGMem
import Derived.Deep.AppendLies
import Derived.Deep.QuietTactic
import Derived.BigQuiet
namespace Go.Proofs.Ytnmdkbeicggfhaa
open Go.RowKit

/-- A field to be set. -/
structure St where
  text : Bool
  field : Int
  n : Int
  s : ByteArray
def stC (x : St) : List Value := [.bool x.text, .int .i64 x.field, .int .i64 x.n, .string x.s]
def stV (L : List St) : List Value := L.flatMap stC
theorem stV_length (L : List St) : (stV L).length = L.length * 4 := by
  induction L with
  | nil => rfl
  | cons x r ih => simp only [stV, List.flatMap_cons, List.length_append, List.length_cons] at ih ⊢; simp only [stC, List.length_cons, List.length_nil] at *; omega
theorem stV_cell (L : List St) : ∀ u ∈ stV L, u.oneCell' = true := by
  intro u hu
  simp only [stV, List.mem_flatMap, stC] at hu
  obtain ⟨x, _, hx⟩ := hu
  simp at hx
  rcases hx with rfl | rfl | rfl | rfl <;> rfl
theorem stV_append (L M : List St) : stV (L ++ M) = stV L ++ stV M := by simp [stV]
theorem stV_one (x : St) : stV [x] = stC x := by simp [stV]

/-- The numbers, and the texts, that differ, up to a place. -/
def dI (a b : List Int) : Nat → List St
  | 0 => []
  | k + 1 => dI a b k ++ (if a.getD k 0 = b.getD k 0 then [] else [⟨false, k, b.getD k 0, noT⟩])
def dT (a b : List ByteArray) : Nat → List St
  | 0 => []
  | k + 1 => dT a b k ++ (if a.getD k noT = b.getD k noT then [] else [⟨true, k, 0, b.getD k noT⟩])
theorem dI_le (a b : List Int) (k : Nat) : (dI a b k).length ≤ k := by
  induction k with
  | zero => simp [dI]
  | succ k ih => simp only [dI, List.length_append]; split <;> simp <;> omega
theorem dT_le (a b : List ByteArray) (k : Nat) : (dT a b k).length ≤ k := by
  induction k with
  | zero => simp [dT]
  | succ k ih => simp only [dT, List.length_append]; split <;> simp <;> omega
def DL (A B : Nd) (i j : Nat) : List St := dI A.ints B.ints i ++ dT A.texts B.texts j
theorem DL_le (A B : Nd) (i j : Nat) : (DL A B i j).length ≤ i + j := by
  have := dI_le A.ints B.ints i
  have := dT_le A.texts B.texts j
  simp only [DL, List.length_append]; omega
theorem DL_i1 (A B : Nd) (i : Nat) (h : A.ints.getD i 0 = B.ints.getD i 0) : DL A B (i + 1) 0 = DL A B i 0 := by simp only [DL, dI, if_pos h, dT, List.append_nil]
theorem DL_i2 (A B : Nd) (i : Nat) (h : ¬ A.ints.getD i 0 = B.ints.getD i 0) : DL A B (i + 1) 0 = DL A B i 0 ++ [⟨false, i, B.ints.getD i 0, noT⟩] := by simp only [DL, dI, if_neg h, dT, List.append_nil]
theorem DL_t1 (A B : Nd) (n i : Nat) (h : A.texts.getD i noT = B.texts.getD i noT) : DL A B n (i + 1) = DL A B n i := by simp only [DL, dT, if_pos h, List.append_nil]
theorem DL_t2 (A B : Nd) (n i : Nat) (h : ¬ A.texts.getD i noT = B.texts.getD i noT) : DL A B n (i + 1) = DL A B n i ++ [⟨true, i, 0, B.texts.getD i noT⟩] := by simp only [DL, dT, if_neg h, List.append_assoc]

/-- Can two nodes' fields be compared? -/
def cmp (A B : Nd) : Bool := decide (A.kind = B.kind ∧ A.ints.length = B.ints.length ∧ A.texts.length = B.texts.length)
/-- The fields that differ. -/
def dL (A B : Nd) : List St := if cmp A B = true then DL A B A.ints.length A.texts.length else []

/-- A list of sets of the call's own, and whether there is one. -/
def StOut (w w' : World) (e : Ending) (ok : Bool) (L : List St) : Prop :=
  ∃ a c, e = .returned (.tuple #[.slice a L.length c, .bool ok]) ∧ w'.ownsRow w.heap.size 69 4 (.slice a L.length c) L.length (stV L) ∧ Below w.heap.size w w'

/-- While it is made. -/
structure DfI (w wr : World) (cA cB : Array Value) (v : Value) (L : List St) : Prop where
  a : AtN 40 wr w.heap.size cA
  b : AtN 40 wr (w.heap.size + 1) cB
  own : wr.ownsRow (w.heap.size + 1 + 1) 69 4 v L.length (stV L)
  bel : Below w.heap.size w wr

theorem Try.infoSet : (Try.prog.info? 69).map (fun i => (i.zero, i.size, i.bytes)) = some (some (.agg #[.bool false, .int .i64 0, .int .i64 0, .string ⟨#[]⟩]), 4, 40) := by kernel_rfl

theorem cells_four (w : World) (x0 x1 x2 x3 : Value) (T : TypeId) : ∀ j u, [x0, x1, x2, x3][j]? = some u → (w.alloc (.cells #[x0, x1, x2, x3] T)).cell? ((⟨w.heap.size, 0, none⟩ : Addr).add j) = some u := by
  intro j u hu
  have := World.news_of_block (heap_alloc_new w (.cells #[x0, x1, x2, x3] T)) j u (by simpa using hu)
  exact this

theorem own_shape8 {w : World} {B : Nat} {e : TypeId} {sz n : Nat} {v : Value} {xs : List Value} (h : w.ownsRow B e sz v n xs) : ∃ a cap, v = .slice a n cap := by
  rcases h.2 with ⟨rfl, h2⟩ | ⟨g, cap, cur, rfl, _⟩
  · exact ⟨none, 0, by rw [h2]⟩
  · exact ⟨_, _, rfl⟩


theorem DfI.dn {w wr : World} {cA cB : Array Value} {v : Value} {L : List St} (h : DfI w wr cA cB v L) (n : Nat) : DfI w (wr.drewN n) cA cB v L := ⟨h.a, h.b, h.own, dn_below h.bel n⟩

/-- Behind an append. -/
theorem DfI.more {w wr w2 : World} {cA cB : Array Value} {v : Value} {L : List St} (h : DfI w wr cA cB v L) (x : St) {ob : Obj} {g cap : Nat} (hg : (wr.alloc ob).grownBy w2 v.ownBlock) (ho : w2.ownsRow (w.heap.size + 1 + 1) 69 4 (.slice (some ⟨g, 0, none⟩) (L.length + 1) cap) (L.length + 1) (stV L ++ stC x)) :
    DfI w w2 cA cB (.slice (some ⟨g, 0, none⟩) (L ++ [x]).length cap) (L ++ [x]) := by
  have hrow : ∀ r, v.ownBlock = some r → w.heap.size + 1 + 1 ≤ r := fun r hr => (h.own.lt r hr).1
  refine ⟨(h.a.alloc ob).kept hg (fun e => by have := hrow _ e.symm; omega), (h.b.alloc ob).kept hg (fun e => by have := hrow _ e.symm; omega), ?_, (h.bel.alloc h.bel.size ob).grown hg (by have := h.bel.size; simp; omega) (fun k hk => by have := hrow k hk; omega)⟩
  rw [stV_append, stV_one]
  simpa using ho

end Go.Proofs.Ytnmdkbeicggfhaa
