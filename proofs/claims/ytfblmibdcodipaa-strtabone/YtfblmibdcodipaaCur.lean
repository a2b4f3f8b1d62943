/- Three cells in a block of memory, as a struct behind a pointer: what reads, stores, new blocks and calls leave of them. Over any program. -/
import Derived.Test.YtfblmibdcodipaaKit
import Derived.Deep.Draws
namespace Go.Proofs.Ytfblmibdcodipaa
open Go.RowKit

/-- Three cells, of the struct type T, in block g. -/
def At3 (T : TypeId) (w : World) (g : Nat) (x y z : Value) : Prop := w.heap[g]? = some (.cells #[x, y, z] T (0, 0))

section
variable {T : TypeId} {w w' : World} {g : Nat} {x y z : Value}

theorem At3.lt (h : At3 T w g x y z) : g < w.heap.size := (Array.getElem?_eq_some_iff.1 h).1
theorem At3.c0 (h : At3 T w g x y z) : w.cell? ⟨g, 0, none⟩ = some x := by
  have h' : w.heap[g]? = _ := h
  simp [World.cell?, h']
theorem At3.c1 (h : At3 T w g x y z) : w.cell? ⟨g, 1, none⟩ = some y := by
  have h' : w.heap[g]? = _ := h
  simp [World.cell?, h']
theorem At3.c2 (h : At3 T w g x y z) : w.cell? ⟨g, 2, none⟩ = some z := by
  have h' : w.heap[g]? = _ := h
  simp [World.cell?, h']
theorem At3.fz (h : At3 T w g x y z) (j : Nat) : w.frozen? ⟨g, j, none⟩ = false := frozen_of_row w g j _ T h
theorem At3.kept {row : Option Nat} (h : At3 T w g x y z) (hg : w.grownBy w' row) (hne : some g ≠ row) : At3 T w' g x y z := by
  unfold At3
  rw [hg.block g h.lt hne]
  exact h
theorem At3.below {B : Nat} (h : At3 T w g x y z) (hb : Below B w w') (hg : g < B) : At3 T w' g x y z := by
  unfold At3
  rw [hb.block g hg]
  exact h
theorem At3.belowAll (h : At3 T w g x y z) (hb : Below w.heap.size w w') : At3 T w' g x y z := h.below hb h.lt
theorem At3.alloc (h : At3 T w g x y z) (o : Obj) : At3 T (w.alloc o) g x y z := h.below ((Below.refl w.heap.size w).alloc (Nat.le_refl _) o) h.lt
theorem At3.drew (h : At3 T w g x y z) : At3 T w.drew g x y z := h
theorem At3.drewN (h : At3 T w g x y z) (n : Nat) : At3 T (w.drewN n) g x y z := h
theorem At3.new (w : World) (T : TypeId) (x y z : Value) : At3 T (w.alloc (.cells #[x, y, z] T)) w.heap.size x y z := by
  unfold At3 World.alloc
  simp
theorem At3.set1 (h : At3 T w g x y z) (v : Value) : At3 T (w.setCell ⟨g, 1, none⟩ v) g x v z := by
  have h' : w.heap[g]? = _ := h
  unfold At3 World.setCell
  simp [Array.getElem?_modify, h']
theorem At3.set2 (h : At3 T w g x y z) (v : Value) : At3 T (w.setCell ⟨g, 2, none⟩ v) g x y v := by
  have h' : w.heap[g]? = _ := h
  unfold At3 World.setCell
  simp [Array.getElem?_modify, h']
theorem At3.setOther (h : At3 T w g x y z) (p : Addr) (hp : p.block ≠ g) (v : Value) : At3 T (w.setCell p v) g x y z := by
  unfold At3
  rw [Below.heap_setCell _ _ _ _ (by omega)]
  exact h
end

section
variable {a b c : World} {row : Option Nat}

theorem gtrans (h : a.grownBy b row) (k : b.grownBy c row) : a.grownBy c row :=
  ⟨k.os.trans h.os, k.tape.trans h.tape, k.output.trans h.output, Nat.le_trans h.size k.size, fun i hi hn => (k.block i (Nat.lt_of_lt_of_le hi h.size) hn).trans (h.block i hi hn)⟩
theorem gdrew (h : a.grownBy b row) : a.grownBy b.drew row := ⟨h.os, h.tape, h.output, h.size, h.block⟩
theorem gdrewN (h : a.grownBy b row) (n : Nat) : a.grownBy (b.drewN n) row := ⟨h.os, h.tape, h.output, h.size, h.block⟩
theorem bdrewN {B : Nat} (h : Below B a b) (n : Nat) : Below B a (b.drewN n) := ⟨h.os, h.tape, h.output, h.size, h.block⟩
theorem galloc (h : a.grownBy b row) (o : Obj) : a.grownBy (b.alloc o) row := gtrans h (World.grownBy_alloc b o row)
theorem gset (h : a.grownBy b row) (p : Addr) (hp : some p.block = row) (v : Value) : a.grownBy (b.setCell p v) row :=
  gtrans h ⟨rfl, rfl, rfl, by simp [World.setCell], fun i _ hn => Below.heap_setCell _ _ _ _ (fun e => hn (by rw [e]; exact hp))⟩
theorem gbelow (h : Below a.heap.size a b) : a.grownBy b row := ⟨h.os, h.tape, h.output, h.size, fun i hi _ => h.block i hi⟩
/-- Behind a call that has written into a block alone that is newer than all of these. -/
theorem gother {n : Nat} (h : a.grownBy b row) (k : b.grownBy c (some n)) (hn : a.heap.size ≤ n) : a.grownBy c row :=
  ⟨k.os.trans h.os, k.tape.trans h.tape, k.output.trans h.output, Nat.le_trans h.size k.size, fun i hi hne => (k.block i (Nat.lt_of_lt_of_le hi h.size) (by simp; omega)).trans (h.block i hi hne)⟩
/-- Behind a call that has written into block g alone, g one of the call's own. -/
theorem below_but {B g : Nat} (h : Below B a b) (k : b.grownBy c (some g)) (hB : B ≤ g) (hs : B ≤ b.heap.size) : Below B a c :=
  h.grown k hs (fun i e => by cases e; exact hB)
end

end Go.Proofs.Ytfblmibdcodipaa
