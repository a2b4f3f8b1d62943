/- Nodes in memory: what a node's three lists hold, where they lie; nodes of the call's own. -/
import Derived.Test.YtcdpjaaiojpelaaDoorG0
import Derived.Test.YtcdpjaaiojpelaaDoorFReg
import Derived.Deep.RegionLawGrows
namespace Go.Proofs.YtcdpjaaiojpelaaDoor
open Go.RowKit

/-- A node. -/
structure Nd where
  kind : Int
  ints : List Int
  texts : List ByteArray
  kids : List Int

def tV (l : List ByteArray) : List Value := l.map Value.string
theorem iV_length (l : List Int) : (iV l).length = l.length := by simp [iV]
theorem tV_at (l : List ByteArray) (i : Nat) (h : i < l.length) : (tV l)[i]? = some (.string (l.getD i noT)) := by simp [tV, h]
theorem tV_length (l : List ByteArray) : (tV l).length = l.length := by simp [tV]
theorem iV_one (l : List Int) : (iV l).length = l.length * 1 := by simp [iV]
theorem tV_one (l : List ByteArray) : (tV l).length = l.length * 1 := by simp [tV]
theorem iV_cell (l : List Int) : ∀ u ∈ iV l, u.oneCell' = true := by
  intro u hu
  simp only [iV, List.mem_map] at hu
  obtain ⟨_, _, rfl⟩ := hu
  rfl
theorem tV_cell (l : List ByteArray) : ∀ u ∈ tV l, u.oneCell' = true := by
  intro u hu
  simp only [tV, List.mem_map] at hu
  obtain ⟨_, _, rfl⟩ := hu
  rfl

/-- These cells lie where a slice points. -/
def LsAt (w : World) (a : Option Addr) (cs : List Value) : Prop := ∃ b o, (0 < cs.length → a = some ⟨b, o, none⟩) ∧ ∀ i, i < cs.length → b < w.heap.size ∧ w.cell? ⟨b, o + i, none⟩ = cs[i]?

section
variable {w w' : World} {a : Option Addr} {cs : List Value} {B : Nat}
theorem LsAt.belowB (h : LsAt w a cs) (hb : Below w.heap.size w w') : LsAt w' a cs := by
  obtain ⟨b, o, h1, h2⟩ := h
  refine ⟨b, o, h1, fun i hi => ?_⟩
  obtain ⟨h3, h4⟩ := h2 i hi
  exact ⟨Nat.lt_of_lt_of_le h3 hb.size, (hb.cell (p := ⟨b, o + i, none⟩) h3).trans h4⟩
theorem LsAt.alloc (h : LsAt w a cs) (x : Obj) : LsAt (w.alloc x) a cs := h.belowB ((Below.refl w.heap.size w).alloc (Nat.le_refl _) x)
theorem LsAt.drew (h : LsAt w a cs) : LsAt w.drew a cs := h
theorem LsAt.nil (w : World) (a : Option Addr) : LsAt w a [] := ⟨0, 0, fun h => by simp at h, fun i hi => by simp at hi⟩
theorem LsAt.news {y : Addr} (h : LsAt w (some y) cs) : ∀ j u, cs[j]? = some u → w.cell? (y.add j) = some u := by
  obtain ⟨b, o, h1, h2⟩ := h
  intro j u hu
  have hj : j < cs.length := (List.getElem?_eq_some_iff.1 hu).1
  have hy := h1 (by omega)
  simp only [Option.some.injEq] at hy
  subst hy
  rw [show (⟨b, o, none⟩ : Addr).add j = ⟨b, o + j, none⟩ by unfold Addr.add; split <;> simp_all, (h2 j hj).2, hu]
theorem LsAt.of_own {e : TypeId} {n cap : Nat} (h : w.ownsRow B e 1 (.slice a n cap) n cs) : LsAt w a cs := by
  have hl := h.1
  rcases h.2 with ⟨h1, h2⟩ | ⟨g, cap', cur, h1, _, h3, _⟩
  · subst h2
    have : cs = [] := List.length_eq_zero_iff.1 (by simpa using hl)
    subst this
    exact LsAt.nil _ _
  · simp only [Value.slice.injEq] at h1
    obtain ⟨rfl, -, rfl⟩ := h1
    refine ⟨g, 0, fun _ => rfl, fun i hi => ⟨(Array.getElem?_eq_some_iff.1 h3).1, ?_⟩⟩
    rw [Nat.zero_add]
    exact World.ownsRow.cellAt h i (by omega)
/-- What stands at a place. -/
theorem LsAt.at (h : LsAt w a cs) {i : Nat} {v : Value} (hi : cs[i]? = some v) : ∃ b o, a = some ⟨b, o, none⟩ ∧ b < w.heap.size ∧ w.cell? ⟨b, o + i, none⟩ = some v := by
  obtain ⟨b, o, h1, h2⟩ := h
  have hl : i < cs.length := (List.getElem?_eq_some_iff.1 hi).1
  exact ⟨b, o, h1 (by omega), (h2 i hl).1, (h2 i hl).2.trans hi⟩
end

/-- A node, where its lists lie. -/
structure NdAt (w : World) (N : Nd) (a1 a2 a3 : Option Addr) : Prop where
  i : LsAt w a1 (iV N.ints)
  t : LsAt w a2 (tV N.texts)
  k : LsAt w a3 (iV N.kids)
theorem NdAt.belowB {w w' : World} {N : Nd} {a1 a2 a3 : Option Addr} (h : NdAt w N a1 a2 a3) (hb : Below w.heap.size w w') : NdAt w' N a1 a2 a3 := ⟨h.i.belowB hb, h.t.belowB hb, h.k.belowB hb⟩
theorem NdAt.alloc {w : World} {N : Nd} {a1 a2 a3 : Option Addr} (h : NdAt w N a1 a2 a3) (x : Obj) : NdAt (w.alloc x) N a1 a2 a3 := ⟨h.i.alloc x, h.t.alloc x, h.k.alloc x⟩

/-- A node of the call's own, from block B on. -/
structure OwnNd (w : World) (B : Nat) (N : Nd) (v1 v2 v3 : Value) : Prop where
  i : w.ownsRow B 2 1 v1 N.ints.length (iV N.ints)
  t : w.ownsRow B 9 1 v2 N.texts.length (tV N.texts)
  k : w.ownsRow B 3 1 v3 N.kids.length (iV N.kids)
section
variable {w w' : World} {B : Nat} {N : Nd} {v1 v2 v3 : Value}
theorem OwnNd.belowB (h : OwnNd w B N v1 v2 v3) (hb : Below w.heap.size w w') : OwnNd w' B N v1 v2 v3 := ⟨own_below h.i hb (Nat.le_refl _), own_below h.t hb (Nat.le_refl _), own_below h.k hb (Nat.le_refl _)⟩
theorem OwnNd.alloc (h : OwnNd w B N v1 v2 v3) (x : Obj) : OwnNd (w.alloc x) B N v1 v2 v3 := ⟨h.i.alloc x, h.t.alloc x, h.k.alloc x⟩
theorem OwnNd.mono {C : Nat} (h : OwnNd w B N v1 v2 v3) (hc : C ≤ B) : OwnNd w C N v1 v2 v3 := ⟨own_mono h.i hc, own_mono h.t hc, own_mono h.k hc⟩
theorem OwnNd.kept {row : Option Nat} (h : OwnNd w B N v1 v2 v3) (hg : w.grownBy w' row) (hr : ∀ k, row = some k → k < B) : OwnNd w' B N v1 v2 v3 := by
  have key : ∀ {e n v xs}, w.ownsRow B e 1 v n xs → w'.ownsRow B e 1 v n xs := fun {e n v xs} ho => by
    refine ho.kept hg ?_
    cases hv : v.ownBlock with
    | none => exact .inl rfl
    | some q => exact .inr (fun e => by have := (ho.lt q hv).1; have := hr q e.symm; omega)
  exact ⟨key h.i, key h.t, key h.k⟩
theorem OwnNd.set (h : OwnNd w B N v1 v2 v3) (p : Addr) (hp : p.block < B) (x : Value) : OwnNd (w.setCell p x) B N v1 v2 v3 :=
  have key : ∀ {e n v xs}, w.ownsRow B e 1 v n xs → (w.setCell p x).ownsRow B e 1 v n xs := fun {e n v xs} ho => own_set ho p (fun r hr => by have := (ho.lt r hr).1; omega) x
  ⟨key h.i, key h.t, key h.k⟩
theorem OwnNd.ndAt {a1 a2 a3 : Option Addr} {c1 c2 c3 : Nat} (h : OwnNd w B N (.slice a1 N.ints.length c1) (.slice a2 N.texts.length c2) (.slice a3 N.kids.length c3)) : NdAt w N a1 a2 a3 := ⟨LsAt.of_own h.i, LsAt.of_own h.t, LsAt.of_own h.k⟩
end

/-- A node that a call answers, in new memory. -/
def NdOut (w w' : World) (e : Ending) (N : Nd) : Prop :=
  ∃ a1 c1 a2 c2 a3 c3, e = .returned (.agg #[.int .i64 N.kind, .slice a1 N.ints.length c1, .slice a2 N.texts.length c2, .slice a3 N.kids.length c3]) ∧ OwnNd w' w.heap.size N (.slice a1 N.ints.length c1) (.slice a2 N.texts.length c2) (.slice a3 N.kids.length c3) ∧ Below w.heap.size w w'

theorem at_set4 {T : TypeId} {W : World} {g : Nat} {x0 x1 x2 x3 : Value} (h : AtN T W g #[x0, x1, x2, x3]) (v0 v1 v2 v3 : Value) : AtN T ((((W.setCell ⟨g, 0, none⟩ v0).setCell ⟨g, 1, none⟩ v1).setCell ⟨g, 2, none⟩ v2).setCell ⟨g, 3, none⟩ v3) g #[v0, v1, v2, v3] := by
  simpa using (((h.set 0 v0).set 1 v1).set 2 v2).set 3 v3
theorem grown_set {W W' : World} {g : Nat} (h : W.grownBy W' (some g)) (o : Nat) (v : Value) : W.grownBy (W'.setCell ⟨g, o, none⟩ v) (some g) :=
  h.trans ⟨rfl, rfl, rfl, by simp [World.setCell], fun i _ hn => Below.heap_setCell _ _ _ _ (fun e => hn (by rw [e]))⟩
theorem grown_refl (W : World) (row : Option Nat) : W.grownBy W row := ⟨rfl, rfl, rfl, Nat.le_refl _, fun _ _ _ => rfl⟩

theorem eq_text (N p : ByteArray) : (N.toList == p.toList) = decide (N = p) := by
  rw [ByteArray.toList_eq, ByteArray.toList_eq, Bool.eq_iff_iff]
  simp only [beq_iff_eq, decide_eq_true_eq]
  constructor
  · intro h
    cases N; cases p
    simp at h
    rw [h]
  · rintro rfl; rfl

theorem Tryd.infoN8 : (Tryd.prog.info? 2).map (fun i => (i.zero, i.size, i.bytes)) = some (some (.int .i64 0), 1, 8) := by kernel_rfl
theorem Tryd.infoS8 : (Tryd.prog.info? 9).map (fun i => (i.zero, i.size, i.bytes)) = some (some (.string ⟨#[]⟩), 1, 16) := by kernel_rfl

end Go.Proofs.YtcdpjaaiojpelaaDoor
