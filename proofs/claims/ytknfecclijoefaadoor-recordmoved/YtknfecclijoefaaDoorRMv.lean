/- A node whose kids are moved on, one after the other, beside two tables. -/
import Derived.Test.YtknfecclijoefaaDoorRSu
import Derived.Test.YtknfecclijoefaaDoorRSq
namespace Go.Proofs.YtknfecclijoefaaDoor
open Go.RowKit

theorem own_store {w : World} {B n : Nat} {e : TypeId} {a : Option Addr} {cap : Nat} {xs : List Value} (h : w.ownsRow B e 1 (.slice a n cap) n xs) (j : Nat) (hj : j < n) : ∃ g u, a = some ⟨g, 0, none⟩ ∧ w.cell? ⟨g, j, none⟩ = some u ∧ w.frozen? ⟨g, j, none⟩ = false ∧ B ≤ g ∧
    ∀ v, (w.setCell ⟨g, j, none⟩ v).ownsRow B e 1 (.slice (some ⟨g, 0, none⟩) n cap) n (xs.set j v) := by
  rcases h.2 with ⟨_, h2⟩ | ⟨g, cap', cur, he, h1, h2, h3⟩
  · omega
  · simp only [Value.slice.injEq] at he
    obtain ⟨rfl, _, rfl⟩ := he
    have hl := h.1
    refine ⟨g, xs[j], rfl, ?_, h.frozenAt j, h1, fun v => (h.stored j v).1⟩
    rw [h.cellAt j (by omega)]
    simp
/-- Rows of two types lie apart. -/
theorem own_apart {w : World} {B B' n n' c : Nat} {e e' : TypeId} {g : Nat} {v : Value} {xs xs' : List Value} (h : w.ownsRow B e 1 (.slice (some ⟨g, 0, none⟩) n c) n xs) (h' : w.ownsRow B' e' 1 v n' xs') (he : e ≠ e') : ∀ r, v.ownBlock = some r → r ≠ g := by
  intro r hr hrg
  rcases h.2 with ⟨h1, _⟩ | ⟨g1, _, cur, h1, _, h2, _⟩
  · simp at h1
  · simp only [Value.slice.injEq, Option.some.injEq, Addr.mk.injEq, and_true] at h1
    obtain ⟨rfl, -⟩ := h1
    rcases h'.2 with ⟨rfl, _⟩ | ⟨g2, _, cur', rfl, _, h3, _⟩
    · simp [Value.ownBlock] at hr
    · simp only [Value.ownBlock, Option.some.injEq] at hr
      rw [← hrg, ← hr, h3] at h2
      simp only [Option.some.injEq, Obj.cells.injEq] at h2
      exact he h2.2.1.symm
theorem own_at {w : World} {B n c : Nat} {e T : TypeId} {g k : Nat} {cs : Array Value} {xs : List Value} (h : w.ownsRow B e 1 (.slice (some ⟨g, 0, none⟩) n c) n xs) (h' : AtN T w k cs) (he : e ≠ T) : g ≠ k := by
  intro hgk
  rcases h.2 with ⟨h1, _⟩ | ⟨g1, _, cur, h1, _, h2, _⟩
  · simp at h1
  · simp only [Value.slice.injEq, Option.some.injEq, Addr.mk.injEq, and_true] at h1
    obtain ⟨rfl, -⟩ := h1
    have h'' : w.heap[k]? = _ := h'
    rw [hgk, h''] at h2
    simp only [Option.some.injEq, Obj.cells.injEq] at h2
    exact he h2.2.1.symm

theorem iV_set (l : List Int) (j : Nat) (z : Int) : iV (l.set j z) = (iV l).set j (.int .i64 z) := by simp [iV, List.map_set]
theorem OwnNd.storeK {w : World} {B : Nat} {N : Nd} {a : Option Addr} {n c : Nat} {v1 v2 : Value} (h : OwnNd w B N v1 v2 (.slice a n c)) (hn : N.kids.length = n) (j : Nat) (hj : j < n) : ∃ g u, a = some ⟨g, 0, none⟩ ∧ w.cell? ⟨g, j, none⟩ = some u ∧ w.frozen? ⟨g, j, none⟩ = false ∧ B ≤ g ∧
    (∀ (T : TypeId) (k : Nat) (cs : Array Value), 3 ≠ T → AtN T w k cs → g ≠ k) ∧ ∀ z, OwnNd (w.setCell ⟨g, j, none⟩ (.int .i64 z)) B ⟨N.kind, N.ints, N.texts, N.kids.set j z⟩ v1 v2 (.slice (some ⟨g, 0, none⟩) n c) := by
  subst hn
  obtain ⟨g, u, rfl, h1, h2, h3, h4⟩ := own_store h.k j hj
  refine ⟨g, u, rfl, h1, h2, h3, fun T k cs hT hk => own_at h.k hk hT, fun z => ⟨own_set h.i _ (own_apart h.k h.i (by decide)) _, own_set h.t _ (own_apart h.k h.t (by decide)) _, ?_⟩⟩
  have := h4 (.int .i64 z)
  rw [← iV_set] at this
  simpa using this

/-- The kids, i of them moved. -/
def mvK (K : List Int) (d : Int) (i : Nat) : List Int := (K.take i).map (· + d) ++ K.drop i
theorem mvK_len (K : List Int) (d : Int) (i : Nat) : (mvK K d i).length = K.length := by
  unfold mvK
  rw [List.length_append, List.length_map, List.length_take, List.length_drop]
  omega
theorem mvK_zero (K : List Int) (d : Int) : mvK K d 0 = K := by simp [mvK]
theorem mvK_all (K : List Int) (d : Int) (i : Nat) (h : K.length ≤ i) : mvK K d i = K.map (· + d) := by
  unfold mvK
  rw [List.take_of_length_le h, List.drop_eq_nil_of_le h, List.append_nil]
theorem mvK_at (K : List Int) (d : Int) (i : Nat) (h : i < K.length) : (mvK K d i)[i]? = some (K.getD i 0) := by
  unfold mvK
  rw [List.getElem?_append_right (by simp; omega)]
  simp [h, Nat.min_eq_left (Nat.le_of_lt h)]
theorem mvK_set (K : List Int) (d : Int) (i : Nat) (h : i < K.length) : (mvK K d i).set i (K.getD i 0 + d) = mvK K d (i + 1) := by
  unfold mvK
  rw [List.set_append_right _ _ (by simp; omega), List.take_add_one, List.map_append, List.append_assoc]
  congr 1
  have hd : K.drop i = K.getD i 0 :: K.drop (i + 1) := by
    rw [List.drop_eq_getElem_cons h]
    simp [h]
  rw [hd]
  have hl : (List.map (fun x => x + d) (List.take i K)).length = i := by simp; omega
  rw [hl, Nat.sub_self, List.set_cons_zero]
  simp [h]

theorem Pw.fr {w W W' : World} {cs : Array Value} {g gm : Nat} {v : Value} {M : List ByteArray} {S : Nat → Prop} (h : Pw w W cs g gm v M) (k : Fr S W W') (hs : ∀ i, S i → w.heap.size < i ∧ ¬ TbS g gm v i) : Pw w W' cs g gm v M :=
  ⟨h.a.fr k (fun q => by have := (hs _ q).1; omega), h.tb.fr k (fun i hi q => (hs i q).2 hi), Fr.below h.bel k (fun i q => Nat.le_of_lt (hs i q).1) h.bel.size⟩

/-- The node that is moved, in block nm, its lists from Bm on; below them two tables. -/
structure Mv (w W : World) (cs : Array Value) (g gm : Nat) (v : Value) (g2 gm2 : Nat) (v2 : Value) (M1 M2 : List ByteArray) (nm Bm : Nat) (N : Nd) (u1 u2 u3 : Option Addr) (e1 e2 e3 : Nat) (d : Int) (i : Nat) : Prop where
  p : Pw w W cs g gm v M1
  u : Tb W (w.heap.size + 1) g2 gm2 v2 M2
  ap : ∀ k, TbS g gm v k → ¬ TbS g2 gm2 v2 k
  lo : ∀ k, TbS g2 gm2 v2 k → k < Bm
  m : AtN 26 W nm #[.int .i64 N.kind, .slice u1 N.ints.length e1, .slice u2 N.texts.length e2, .slice u3 N.kids.length e3]
  own : OwnNd W Bm ⟨N.kind, N.ints, N.texts, mvK N.kids d i⟩ (.slice u1 N.ints.length e1) (.slice u2 N.texts.length e2) (.slice u3 N.kids.length e3)
  hB : w.heap.size < Bm
  hn : Bm ≤ nm
  far : ∀ k, TbS g gm v k → k ≠ nm ∧ (k < Bm ∨ ((Value.slice u1 N.ints.length e1).ownBlock ≠ some k ∧ (Value.slice u2 N.texts.length e2).ownBlock ≠ some k ∧ (Value.slice u3 N.kids.length e3).ownBlock ≠ some k))
section
variable {w W W' : World} {cs : Array Value} {g gm : Nat} {v : Value} {g2 gm2 : Nat} {v2 : Value} {M1 M2 M' : List ByteArray} {nm Bm : Nat} {N : Nd} {u1 u2 u3 : Option Addr} {e1 e2 e3 : Nat} {d : Int} {i : Nat}
theorem Mv.more (h : Mv w W cs g gm v g2 gm2 v2 M1 M2 nm Bm N u1 u2 u3 e1 e2 e3 d i) (hb : Below W.heap.size W W') : Mv w W' cs g gm v g2 gm2 v2 M1 M2 nm Bm N u1 u2 u3 e1 e2 e3 d i :=
  ⟨h.p.more hb, h.u.below hb, h.ap, h.lo, h.m.belowAll hb, h.own.belowB hb, h.hB, h.hn, h.far⟩
theorem OwnNd.frS {S : Nat → Prop} {B : Nat} {N : Nd} {v1 v2 v3 : Value} (h : OwnNd W B N v1 v2 v3) (k : Fr S W W') (hs : ∀ q, S q → v1.ownBlock ≠ some q ∧ v2.ownBlock ≠ some q ∧ v3.ownBlock ≠ some q) : OwnNd W' B N v1 v2 v3 :=
  ⟨own_fr h.i k (fun r hr q => (hs r q).1 hr), own_fr h.t k (fun r hr q => (hs r q).2.1 hr), own_fr h.k k (fun r hr q => (hs r q).2.2 hr)⟩
/-- Put, into the first table. -/
theorem Mv.put (h : Mv w W cs g gm v g2 gm2 v2 M1 M2 nm Bm N u1 u2 u3 e1 e2 e3 d i) (hi : TIn W W' (w.heap.size + 1) g gm v M') : ∃ v', Mv w W' cs g gm v' g2 gm2 v2 M' M2 nm Bm N u1 u2 u3 e1 e2 e3 d i := by
  obtain ⟨v', h1, h2, h3⟩ := h.p.put hi
  have hml := h.m.lt
  have key : ∀ q, TbS g gm v q → (Value.slice u1 N.ints.length e1).ownBlock ≠ some q ∧ (Value.slice u2 N.texts.length e2).ownBlock ≠ some q ∧ (Value.slice u3 N.kids.length e3).ownBlock ≠ some q := fun q hq => by
    rcases (h.far q hq).2 with hl | hl
    · exact ⟨fun e => by have := (h.own.i.lt q e).1; omega, fun e => by have := (h.own.t.lt q e).1; omega, fun e => by have := (h.own.k.lt q e).1; omega⟩
    · exact hl
  refine ⟨v', h1, h.u.fr h2 (fun k hk q => h.ap k q hk), fun k hk => ?_, h.lo, h.m.fr h2 (fun q => (h.far nm q).1 rfl), h.own.frS h2 key, h.hB, h.hn, fun k hk => ?_⟩
  · rcases h3 k hk with q | q
    · exact h.ap k q
    · exact fun e => by have := h.u.lt k e; omega
  · rcases h3 k hk with q | q
    · exact ⟨(h.far k q).1, .inr (key k q)⟩
    · exact ⟨by omega, .inr ⟨fun e => by have := (h.own.i.lt k e).2; omega, fun e => by have := (h.own.t.lt k e).2; omega, fun e => by have := (h.own.k.lt k e).2; omega⟩⟩
/-- One kid more is moved. -/
theorem Mv.store (h : Mv w W cs g gm v g2 gm2 v2 M1 M2 nm Bm N u1 u2 u3 e1 e2 e3 d i) (hi : i < N.kids.length) (hf : ∀ k, TbS g gm v k → k < Bm) :
    ∃ q, u3 = some ⟨q, 0, none⟩ ∧ W.cell? ⟨q, i, none⟩ = some (.int .i64 (N.kids.getD i 0)) ∧ W.frozen? ⟨q, i, none⟩ = false ∧ q ≠ nm ∧ Mv w (W.setCell ⟨q, i, none⟩ (.int .i64 (N.kids.getD i 0 + d))) cs g gm v g2 gm2 v2 M1 M2 nm Bm N u1 u2 u3 e1 e2 e3 d (i + 1) := by
  obtain ⟨q, x, rfl, h1, h2, h3, h4, h5⟩ := h.own.storeK (by show (mvK N.kids d i).length = _; rw [mvK_len]) i hi
  have hB := h.hB
  have ho := h.own.k
  dsimp only at ho
  rw [mvK_len] at ho
  have hc := World.ownsRow.cellAt ho i (by omega)
  have hx : (iV (mvK N.kids d i))[i]? = some (.int .i64 (N.kids.getD i 0)) := by
    unfold iV
    rw [List.getElem?_map, mvK_at N.kids d i hi]
    rfl
  have k : Fr (fun b => b = q) W (W.setCell ⟨q, i, none⟩ (.int .i64 (N.kids.getD i 0 + d))) := Fr.set (S := fun b => b = q) (Fr.refl _ W) ⟨q, i, none⟩ rfl _
  have hqm : q ≠ nm := h4 26 nm _ (by decide) h.m
  refine ⟨q, rfl, by rw [hc, hx], h2, hqm, h.p.fr k (fun b e => ⟨by omega, fun hk => by have := hf b hk; omega⟩), h.u.fr k (fun b hb e => by have := h.lo b hb; omega), h.ap, h.lo, h.m.fr k (fun e => hqm e.symm), ?_, hB, h.hn, h.far⟩
  have h6 := h5 (N.kids.getD i 0 + d)
  rw [show (⟨N.kind, N.ints, N.texts, mvK N.kids d i⟩ : Nd).kids.set i (N.kids.getD i 0 + d) = mvK N.kids d (i + 1) from mvK_set N.kids d i hi] at h6
  exact h6
end

end Go.Proofs.YtknfecclijoefaaDoor
