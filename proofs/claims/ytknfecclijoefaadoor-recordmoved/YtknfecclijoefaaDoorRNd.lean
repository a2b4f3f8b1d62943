/- The contract of the document's own Get of a record. -/
import Derived.Test.YtknfecclijoefaaDoorRGm
import Derived.Test.YtknfecclijoefaaDoorVC
import Derived.Test.YtknfecclijoefaaDoorGD
import Derived.Deep.AppendLies
import Derived.Deep.RegionLaw
import Derived.Laws.OwnMore
namespace Go.Proofs.YtknfecclijoefaaDoor
open Go.RowKit

theorem row_ne {w : World} {B C : Nat} {e e' : TypeId} {v v' : Value} {n n' : Nat} {xs xs' : List Value} (h : w.ownsRow B e 1 v n xs) (h' : w.ownsRow C e' 1 v' n' xs') (ht : e ≠ e') : v'.ownBlock = none ∨ v'.ownBlock ≠ v.ownBlock := by
  rcases h'.2 with ⟨rfl, _⟩ | ⟨g', cap', cur', rfl, _, q', _⟩
  · exact .inl rfl
  · rcases h.2 with ⟨rfl, _⟩ | ⟨g, cap, cur, rfl, _, q, _⟩
    · exact .inr (by simp [Value.ownBlock])
    · refine .inr fun e1 => ?_
      simp only [Value.ownBlock, Option.some.injEq] at e1
      subst e1
      rw [q] at q'
      injection q' with q'
      injection q' with _ q'
      exact ht q'
theorem row_kept {w w' : World} {B : Nat} {e : TypeId} {n : Nat} {v : Value} {xs : List Value} {row : Option Nat} (ho : w.ownsRow B e 1 v n xs) (hg : w.grownBy w' row) (hr : v.ownBlock = none ∨ v.ownBlock ≠ row) : w'.ownsRow B e 1 v n xs := ho.kept hg hr
theorem row_low {w : World} {B : Nat} {e : TypeId} {n : Nat} {v : Value} {xs : List Value} {row : Option Nat} (ho : w.ownsRow B e 1 v n xs) (hr : ∀ k, row = some k → k < B) : v.ownBlock = none ∨ v.ownBlock ≠ row := by
  cases hv : v.ownBlock with
  | none => exact .inl rfl
  | some q => exact .inr (fun e => by have := (ho.lt q hv).1; have := hr q e.symm; omega)

/-- A row isn't the block of a struct. -/
theorem row_at {w : World} {B g : Nat} {e T : TypeId} {n : Nat} {v : Value} {xs : List Value} {cs : Array Value} (ho : w.ownsRow B e 1 v n xs) (h : AtN T w g cs) (ht : e ≠ T) : v.ownBlock ≠ some g := by
  intro hv
  rcases ho.2 with ⟨rfl, _⟩ | ⟨g', cap, cur, rfl, _, q, _⟩
  · cases hv
  · simp only [Value.ownBlock, Option.some.injEq] at hv
    subst hv
    have h' : w.heap[g']? = _ := h
    rw [q] at h'
    injection h' with h'
    injection h' with _ h'
    exact ht h'
/-- A store into a block that is new. -/
theorem gnew {a b : World} {row : Option Nat} (h : a.grownBy b row) (p : Addr) (hp : a.heap.size ≤ p.block) (v : Value) : a.grownBy (b.setCell p v) row :=
  ⟨h.os, h.tape, h.output, by simpa [World.setCell] using h.size, fun i hi hn => (Below.heap_setCell _ _ _ _ (by omega)).trans (h.block i hi hn)⟩

/-- What the reading of a node holds: gN the node's block, gS the Spec's. -/
structure Gi (w wr : World) (g gN gS : Nat) (bs : ByteArray) (k : Nat) (e : Int) (N : Nd) (v1 v2 v3 : Value) (sb : Option Addr) (sc : Nat) (S : Sp) : Prop where
  cur : Rf wr g bs k e
  nd : AtN 26 wr gN #[.int .i64 N.kind, v1, v2, v3]
  own : OwnNd wr (gS + 1) N v1 v2 v3
  sp : AtN 78 wr gS #[.slice sb S.ints.length sc, .int .i64 S.texts, .int .i64 S.least, .int .i64 S.most]
  cls : wr.ownsRow w.heap.size 3 1 (.slice sb S.ints.length sc) S.ints.length (iV S.ints)
  low : ∀ r, (Value.slice sb S.ints.length sc).ownBlock = some r → r < gS
  res : AtN 26 wr w.heap.size #[.int .i64 0, .slice none 0 0, .slice none 0 0, .slice none 0 0]
  fr : w.grownBy wr (some g)
  hg : g < w.heap.size
  hN : w.heap.size < gN
  hS : gN < gS
  kb : k ≤ bs.size
section
variable {w wr w' : World} {g gN gS : Nat} {bs : ByteArray} {k k' : Nat} {e e' : Int} {N : Nd} {v1 v2 v3 : Value} {sb : Option Addr} {sc : Nat} {S : Sp}
/-- The cursor goes on. -/
theorem Gi.read (h : Gi w wr g gN gS bs k e N v1 v2 v3 sb sc S) (hw : wr.grownBy w' (some g)) (hc : Rf w' g bs k' e') (hk : k' ≤ bs.size) : Gi w w' g gN gS bs k' e' N v1 v2 v3 sb sc S := by
  have h1 := h.hg
  have h2 := h.hN
  have h3 := h.hS
  exact ⟨hc, h.nd.kept hw (by simp; omega), h.own.kept hw (fun q hq => by cases hq; omega), h.sp.kept hw (by simp; omega), row_kept h.cls hw (row_low h.cls (fun q hq => by cases hq; omega)), h.low, h.res.kept hw (by simp; omega), gtrans h.fr hw, h.hg, h.hN, h.hS, hk⟩
/-- Memory that is new. -/
theorem Gi.more (h : Gi w wr g gN gS bs k e N v1 v2 v3 sb sc S) (hb : Below wr.heap.size wr w') : Gi w w' g gN gS bs k e N v1 v2 v3 sb sc S :=
  ⟨At3.belowAll h.cur hb, h.nd.belowAll hb, h.own.belowB hb, h.sp.belowAll hb, own_below h.cls hb (Nat.le_refl _), h.low, h.res.belowAll hb, gtrans h.fr (gbelow hb), h.hg, h.hN, h.hS, h.kb⟩
/-- One of the node's rows grows; nothing else of this. -/
theorem Gi.keep (h : Gi w wr g gN gS bs k e N v1 v2 v3 sb sc S) {row : Option Nat} (hw : wr.grownBy w' row) (hr : ∀ q, row = some q → gS < q) : Rf w' g bs k e ∧ AtN 26 w' gN #[.int .i64 N.kind, v1, v2, v3] ∧ AtN 78 w' gS #[.slice sb S.ints.length sc, .int .i64 S.texts, .int .i64 S.least, .int .i64 S.most] ∧
    w'.ownsRow w.heap.size 3 1 (.slice sb S.ints.length sc) S.ints.length (iV S.ints) ∧ AtN 26 w' w.heap.size #[.int .i64 0, .slice none 0 0, .slice none 0 0, .slice none 0 0] ∧ w.grownBy w' (some g) := by
  have h1 := h.hg
  have h2 := h.hN
  have h3 := h.hS
  have hne : ∀ q, q ≤ gS → some q ≠ row := fun q hq e => by have := hr q e.symm; omega
  refine ⟨At3.kept h.cur hw (hne _ (by omega)), h.nd.kept hw (hne _ (by omega)), h.sp.kept hw (hne _ (by omega)), row_kept h.cls hw ?_, h.res.kept hw (hne _ (by omega)), ?_⟩
  · cases hv : (Value.slice sb S.ints.length sc).ownBlock with
    | none => exact .inl rfl
    | some q => exact .inr (hne q (by have := h.low q hv; omega))
  · have hf := h.fr
    exact ⟨hw.os.trans hf.os, hw.tape.trans hf.tape, hw.output.trans hf.output, Nat.le_trans hf.size hw.size, fun i hi hn => (hw.block i (Nat.lt_of_lt_of_le hi hf.size) (hne i (by omega))).trans (hf.block i hi hn)⟩
theorem Gi.rows (h : Gi w wr g gN gS bs k e N v1 v2 v3 sb sc S) : (∀ q, v1.ownBlock = some q → gS < q) ∧ (∀ q, v2.ownBlock = some q → gS < q) ∧ ∀ q, v3.ownBlock = some q → gS < q :=
  ⟨fun q hq => (h.own.i.lt q hq).1, fun q hq => (h.own.t.lt q hq).1, fun q hq => (h.own.k.lt q hq).1⟩
theorem Gi.app1 (h : Gi w wr g gN gS bs k e N v1 v2 v3 sb sc S) {g2 cap2 : Nat} {x : Int} (hw : wr.grownBy w' v1.ownBlock) (ho : w'.ownsRow (gS + 1) 2 1 (.slice (some ⟨g2, 0, none⟩) (N.ints.length + 1) cap2) (N.ints.length + 1) (iV N.ints ++ [.int .i64 x])) :
    Gi w (w'.setCell ⟨gN, 1, none⟩ (.slice (some ⟨g2, 0, none⟩) (N.ints.length + 1) cap2)) g gN gS bs k e ⟨N.kind, N.ints ++ [x], N.texts, N.kids⟩ (.slice (some ⟨g2, 0, none⟩) (N.ints.length + 1) cap2) v2 v3 sb sc S := by
  obtain ⟨r1, r2, r3⟩ := h.rows
  obtain ⟨k1, k2, k3, k4, k5, k6⟩ := h.keep hw r1
  have h1 := h.hg
  have h2 := h.hN
  have h3 := h.hS
  have ht : w'.ownsRow (gS + 1) 9 1 v2 N.texts.length (tV N.texts) := row_kept h.own.t hw (row_ne h.own.i h.own.t (by decide))
  have hk : w'.ownsRow (gS + 1) 3 1 v3 N.kids.length (iV N.kids) := row_kept h.own.k hw (row_ne h.own.i h.own.k (by decide))
  have ho2 : w'.ownsRow (gS + 1) 2 1 (.slice (some ⟨g2, 0, none⟩) (N.ints.length + 1) cap2) (N.ints ++ [x]).length (iV (N.ints ++ [x])) := by simpa [iV] using ho
  refine ⟨At3.setOther k1 _ (by simp; omega) _, by simpa using k2.set 1 _, ?_, k3.setOther _ (by simp; omega) _, own_set k4 _ (fun q hq e => row_at k4 k2 (by decide) (by rw [hq, e])) _, h.low, k5.setOther _ (by simp; omega) _, ?_, h1, h2, h3, h.kb⟩
  · exact OwnNd.set (B := gS + 1) (N := ⟨N.kind, N.ints ++ [x], N.texts, N.kids⟩) ⟨ho2, ht, hk⟩ ⟨gN, 1, none⟩ (by simp; omega) _
  · exact gnew k6 ⟨gN, 1, none⟩ (by simp; omega) _
theorem Gi.app2 (h : Gi w wr g gN gS bs k e N v1 v2 v3 sb sc S) {g2 cap2 : Nat} {x : ByteArray} (hw : wr.grownBy w' v2.ownBlock) (ho : w'.ownsRow (gS + 1) 9 1 (.slice (some ⟨g2, 0, none⟩) (N.texts.length + 1) cap2) (N.texts.length + 1) (tV N.texts ++ [.string x])) :
    Gi w (w'.setCell ⟨gN, 2, none⟩ (.slice (some ⟨g2, 0, none⟩) (N.texts.length + 1) cap2)) g gN gS bs k e ⟨N.kind, N.ints, N.texts ++ [x], N.kids⟩ v1 (.slice (some ⟨g2, 0, none⟩) (N.texts.length + 1) cap2) v3 sb sc S := by
  obtain ⟨r1, r2, r3⟩ := h.rows
  obtain ⟨k1, k2, k3, k4, k5, k6⟩ := h.keep hw r2
  have h1 := h.hg
  have h2 := h.hN
  have h3 := h.hS
  have hi : w'.ownsRow (gS + 1) 2 1 v1 N.ints.length (iV N.ints) := row_kept h.own.i hw (row_ne h.own.t h.own.i (by decide))
  have hk : w'.ownsRow (gS + 1) 3 1 v3 N.kids.length (iV N.kids) := row_kept h.own.k hw (row_ne h.own.t h.own.k (by decide))
  have ho2 : w'.ownsRow (gS + 1) 9 1 (.slice (some ⟨g2, 0, none⟩) (N.texts.length + 1) cap2) (N.texts ++ [x]).length (tV (N.texts ++ [x])) := by simpa [tV] using ho
  refine ⟨At3.setOther k1 _ (by simp; omega) _, by simpa using k2.set 2 _, ?_, k3.setOther _ (by simp; omega) _, own_set k4 _ (fun q hq e => row_at k4 k2 (by decide) (by rw [hq, e])) _, h.low, k5.setOther _ (by simp; omega) _, ?_, h1, h2, h3, h.kb⟩
  · exact OwnNd.set (B := gS + 1) (N := ⟨N.kind, N.ints, N.texts ++ [x], N.kids⟩) ⟨hi, ho2, hk⟩ ⟨gN, 2, none⟩ (by simp; omega) _
  · exact gnew k6 ⟨gN, 2, none⟩ (by simp; omega) _
theorem Gi.app3 (h : Gi w wr g gN gS bs k e N v1 v2 v3 sb sc S) {g2 cap2 : Nat} {x : Int} (hw : wr.grownBy w' v3.ownBlock) (ho : w'.ownsRow (gS + 1) 3 1 (.slice (some ⟨g2, 0, none⟩) (N.kids.length + 1) cap2) (N.kids.length + 1) (iV N.kids ++ [.int .i64 x])) :
    Gi w (w'.setCell ⟨gN, 3, none⟩ (.slice (some ⟨g2, 0, none⟩) (N.kids.length + 1) cap2)) g gN gS bs k e ⟨N.kind, N.ints, N.texts, N.kids ++ [x]⟩ v1 v2 (.slice (some ⟨g2, 0, none⟩) (N.kids.length + 1) cap2) sb sc S := by
  obtain ⟨r1, r2, r3⟩ := h.rows
  obtain ⟨k1, k2, k3, k4, k5, k6⟩ := h.keep hw r3
  have h1 := h.hg
  have h2 := h.hN
  have h3 := h.hS
  have hi : w'.ownsRow (gS + 1) 2 1 v1 N.ints.length (iV N.ints) := row_kept h.own.i hw (row_ne h.own.k h.own.i (by decide))
  have ht : w'.ownsRow (gS + 1) 9 1 v2 N.texts.length (tV N.texts) := row_kept h.own.t hw (row_ne h.own.k h.own.t (by decide))
  have ho2 : w'.ownsRow (gS + 1) 3 1 (.slice (some ⟨g2, 0, none⟩) (N.kids.length + 1) cap2) (N.kids ++ [x]).length (iV (N.kids ++ [x])) := by simpa [iV] using ho
  refine ⟨At3.setOther k1 _ (by simp; omega) _, by simpa using k2.set 3 _, ?_, k3.setOther _ (by simp; omega) _, own_set k4 _ (fun q hq e => row_at k4 k2 (by decide) (by rw [hq, e])) _, h.low, k5.setOther _ (by simp; omega) _, ?_, h1, h2, h3, h.kb⟩
  · exact OwnNd.set (B := gS + 1) (N := ⟨N.kind, N.ints, N.texts, N.kids ++ [x]⟩) ⟨hi, ht, ho2⟩ ⟨gN, 3, none⟩ (by simp; omega) _
  · exact gnew k6 ⟨gN, 3, none⟩ (by simp; omega) _
theorem Gi.c0 (h : Gi w wr g gN gS bs k e N v1 v2 v3 sb sc S) : wr.cell? ⟨gN, 0, none⟩ = some (.int .i64 N.kind) := h.nd.cell 0
theorem Gi.c1 (h : Gi w wr g gN gS bs k e N v1 v2 v3 sb sc S) : wr.cell? ⟨gN, 1, none⟩ = some v1 := h.nd.cell 1
theorem Gi.c2 (h : Gi w wr g gN gS bs k e N v1 v2 v3 sb sc S) : wr.cell? ⟨gN, 2, none⟩ = some v2 := h.nd.cell 2
theorem Gi.c3 (h : Gi w wr g gN gS bs k e N v1 v2 v3 sb sc S) : wr.cell? ⟨gN, 3, none⟩ = some v3 := h.nd.cell 3
theorem Gi.d0 (h : Gi w wr g gN gS bs k e N v1 v2 v3 sb sc S) : wr.cell? ⟨gS, 0, none⟩ = some (.slice sb S.ints.length sc) := h.sp.cell 0
theorem Gi.d1 (h : Gi w wr g gN gS bs k e N v1 v2 v3 sb sc S) : wr.cell? ⟨gS, 1, none⟩ = some (.int .i64 S.texts) := h.sp.cell 1
theorem Gi.d2 (h : Gi w wr g gN gS bs k e N v1 v2 v3 sb sc S) : wr.cell? ⟨gS, 2, none⟩ = some (.int .i64 S.least) := h.sp.cell 2
theorem Gi.d3 (h : Gi w wr g gN gS bs k e N v1 v2 v3 sb sc S) : wr.cell? ⟨gS, 3, none⟩ = some (.int .i64 S.most) := h.sp.cell 3
theorem Gi.ce (h : Gi w wr g gN gS bs k e N v1 v2 v3 sb sc S) : wr.cell? ⟨g, 2, none⟩ = some (.int .i64 e) := h.cur.c2
/-- The texts of a table that came in stay. -/
theorem TxI.grew {a : Option Addr} {cap b o : Nat} {L : List ByteArray} (hx : TxI w a cap b o L) (h : w.grownBy wr (some g)) (hb : 0 < L.length → b ≠ g) : TxI wr a cap b o L := by
  refine ⟨hx.ptr, fun i hi => ?_, hx.cap_, hx.nil⟩
  obtain ⟨q1, q2⟩ := hx.at_ i hi
  exact ⟨Nat.lt_of_lt_of_le q1 h.size, (World.cell?_of_block (h.block b q1 (by simp; exact hb (by omega)))).trans q2⟩
end

/-- What Get leaves. -/
def NdGot (w w' : World) (g : Nat) (bs : ByteArray) (r : Ending) (R : Nd × Nat × Int) : Prop :=
  ∃ a1 c1 a2 c2 a3 c3, r = .returned (.agg #[.int .i64 R.1.kind, .slice a1 R.1.ints.length c1, .slice a2 R.1.texts.length c2, .slice a3 R.1.kids.length c3]) ∧ OwnNd w' w.heap.size R.1 (.slice a1 R.1.ints.length c1) (.slice a2 R.1.texts.length c2) (.slice a3 R.1.kids.length c3) ∧ Rf w' g bs R.2.1 R.2.2 ∧ w.grownBy w' (some g)

end Go.Proofs.YtknfecclijoefaaDoor
