/- The cells of a block of memory, as a struct of the call's own: what reads, stores, new blocks and calls leave of them. Over any program. -/
import Derived.Test.YtcdpjaaiojpelaaDoorKit
import Derived.Deep.Draws
namespace Go.Proofs.YtcdpjaaiojpelaaDoor
open Go.RowKit

/-- These cells, of type T, in block g. -/
def AtN (T : TypeId) (w : World) (g : Nat) (cs : Array Value) : Prop := w.heap[g]? = some (.cells cs T (0, 0))

section
variable {T : TypeId} {w w' : World} {g : Nat} {cs : Array Value}

theorem AtN.lt (h : AtN T w g cs) : g < w.heap.size := (Array.getElem?_eq_some_iff.1 h).1
theorem AtN.cell (h : AtN T w g cs) (j : Nat) : w.cell? ⟨g, j, none⟩ = cs[j]? := by
  have h' : w.heap[g]? = _ := h
  simp [World.cell?, h']
theorem AtN.fz (h : AtN T w g cs) (j : Nat) : w.frozen? ⟨g, j, none⟩ = false := frozen_of_row w g j _ T h
theorem AtN.kept {row : Option Nat} (h : AtN T w g cs) (hg : w.grownBy w' row) (hne : some g ≠ row) : AtN T w' g cs := by
  unfold AtN
  rw [hg.block g h.lt hne]
  exact h
theorem AtN.below {B : Nat} (h : AtN T w g cs) (hb : Below B w w') (hg : g < B) : AtN T w' g cs := by
  unfold AtN
  rw [hb.block g hg]
  exact h
theorem AtN.belowAll (h : AtN T w g cs) (hb : Below w.heap.size w w') : AtN T w' g cs := h.below hb h.lt
theorem AtN.alloc (h : AtN T w g cs) (o : Obj) : AtN T (w.alloc o) g cs := h.below ((Below.refl w.heap.size w).alloc (Nat.le_refl _) o) h.lt
theorem AtN.drew (h : AtN T w g cs) : AtN T w.drew g cs := h
theorem AtN.drewN (h : AtN T w g cs) (n : Nat) : AtN T (w.drewN n) g cs := h
theorem AtN.new (w : World) (T : TypeId) (cs : Array Value) : AtN T (w.alloc (.cells cs T)) w.heap.size cs := by
  unfold AtN World.alloc
  simp
theorem AtN.set (h : AtN T w g cs) (j : Nat) (v : Value) : AtN T (w.setCell ⟨g, j, none⟩ v) g (cs.setIfInBounds j v) := by
  have h' : w.heap[g]? = _ := h
  unfold AtN World.setCell
  simp [Array.getElem?_modify, h']
theorem AtN.setOther (h : AtN T w g cs) (p : Addr) (hp : p.block ≠ g) (v : Value) : AtN T (w.setCell p v) g cs := by
  unfold AtN
  rw [Below.heap_setCell _ _ _ _ (by omega)]
  exact h
end

/-- A row of the call's own, behind a store elsewhere. -/
theorem own_set {w : World} {B : Nat} {e : TypeId} {size : Nat} {v : Value} {n : Nat} {xs : List Value} (h : w.ownsRow B e size v n xs) (p : Addr) (hp : ∀ r, v.ownBlock = some r → r ≠ p.block) (x : Value) : (w.setCell p x).ownsRow B e size v n xs := by
  refine ⟨h.1, ?_⟩
  rcases h.2 with hv | ⟨g, cap, cur, rfl, h1, h2, h3⟩
  · exact .inl hv
  · exact .inr ⟨g, cap, cur, rfl, h1, (Below.heap_setCell _ _ _ _ (hp g rfl)).trans h2, h3⟩
theorem own_below {w w' : World} {B C : Nat} {e : TypeId} {size : Nat} {v : Value} {n : Nat} {xs : List Value} (h : w.ownsRow B e size v n xs) (hb : Below C w w') (hC : w.heap.size ≤ C) : w'.ownsRow B e size v n xs := by
  refine ⟨h.1, ?_⟩
  rcases h.2 with hv | ⟨g, cap, cur, rfl, h1, h2, h3⟩
  · exact .inl hv
  · exact .inr ⟨g, cap, cur, rfl, h1, (hb.block g (Nat.lt_of_lt_of_le (Array.getElem?_eq_some_iff.1 h2).1 hC)).trans h2, h3⟩
theorem own_mono {w : World} {B C : Nat} {e : TypeId} {size : Nat} {v : Value} {n : Nat} {xs : List Value} (h : w.ownsRow B e size v n xs) (hc : C ≤ B) : w.ownsRow C e size v n xs := by
  refine ⟨h.1, ?_⟩
  rcases h.2 with hv | ⟨g, cap, cur, rfl, h1, r⟩
  · exact .inl hv
  · exact .inr ⟨g, cap, cur, rfl, Nat.le_trans hc h1, r⟩
theorem dn_below {B : Nat} {a b : World} (h : Below B a b) (n : Nat) : Below B a (b.drewN n) := ⟨h.os, h.tape, h.output, h.size, h.block⟩
theorem set_below {B : Nat} {a b : World} (h : Below B a b) (p : Addr) (hp : B ≤ p.block) (v : Value) : Below B a (b.setCell p v) :=
  ⟨h.os, h.tape, h.output, by simpa [World.setCell] using h.size, fun i hi => (Below.heap_setCell _ _ _ _ (by omega)).trans (h.block i hi)⟩

end Go.Proofs.YtcdpjaaiojpelaaDoor
