/- The facts of the region in which a law asks field's Set, with a list of its own and a block for the answer. -/
import Derived.Test.YtaochgndednamaaDoorFReg2
import Derived.Test.YtaochgndednamaaDoorFSet2
namespace Go.Proofs.YtaochgndednamaaDoor
open Go.RowKit

/-- A node of the call's own, as a value; and with an error. -/
def AggIs (N : Nd) (B : Nat) (v : Value) (W : World) : Prop := ∃ p1 i1 p2 i2 p3 i3, v = .agg #[.int .i64 N.kind, .slice p1 N.ints.length i1, .slice p2 N.texts.length i2, .slice p3 N.kids.length i3] ∧ OwnNd W B N (.slice p1 N.ints.length i1) (.slice p2 N.texts.length i2) (.slice p3 N.kids.length i3)
def TupIs (R : Nd × Int) (B : Nat) (v : Value) (W : World) : Prop := ∃ p1 i1 p2 i2 p3 i3, v = .tuple #[.agg #[.int .i64 R.1.kind, .slice p1 R.1.ints.length i1, .slice p2 R.1.texts.length i2, .slice p3 R.1.kids.length i3], .int .i64 R.2] ∧ OwnNd W B R.1 (.slice p1 R.1.ints.length i1) (.slice p2 R.1.texts.length i2) (.slice p3 R.1.kids.length i3)
/-- The answer's block, empty still; and filled. -/
def BlkIs (B : Nat) (v : Value) (W : World) : Prop := ∃ g x0 x1 x2 x3, v = .pointer (some ⟨g, 0, none⟩) ∧ B ≤ g ∧ AtN 26 W g #[x0, x1, x2, x3]
def PutIs (N : Nd) (B : Nat) (v : Value) (W : World) : Prop := ∃ g p1 i1 p2 i2 p3 i3, v = .pointer (some ⟨g, 0, none⟩) ∧ AtN 26 W g #[.int .i64 N.kind, .slice p1 N.ints.length i1, .slice p2 N.texts.length i2, .slice p3 N.kids.length i3] ∧ OwnNd W B N (.slice p1 N.ints.length i1) (.slice p2 N.texts.length i2) (.slice p3 N.kids.length i3)

/-- What the store of the answer turns. -/
def Stored (B : Nat) (w w' : World) : Prop := ∃ g x0 x1 x2 x3 y0 y1 y2 y3, B ≤ g ∧ AtN 26 w g #[x0, x1, x2, x3] ∧ AtN 26 w' g #[y0, y1, y2, y3] ∧ w.grownBy w' (some g)

theorem own_typed {w w' : World} {B : Nat} {e T : TypeId} {sz n g : Nat} {v : Value} {xs : List Value} {cs : Array Value} (ho : w.ownsRow B e sz v n xs) (he : e ≠ T) (ha : AtN T w g cs) (hg : w.grownBy w' (some g)) : w'.ownsRow B e sz v n xs := by
  refine ho.kept hg ?_
  rcases ho.2 with ⟨rfl, _⟩ | ⟨g1, _, cur, rfl, _, h2, _⟩
  · exact .inl rfl
  · refine .inr (fun e1 => ?_)
    simp only [Value.ownBlock, Option.some.injEq] at e1
    have h' : w.heap[g]? = _ := ha
    rw [e1, h'] at h2
    simp only [Option.some.injEq, Obj.cells.injEq] at h2
    exact he h2.2.1.symm
theorem Stored.row {w w' : World} {B : Nat} {e : TypeId} {sz n C : Nat} {v : Value} {xs : List Value} (h : Stored C w w') (ho : w.ownsRow B e sz v n xs) (he : e ≠ 26) : w'.ownsRow B e sz v n xs := by
  obtain ⟨g, _, _, _, _, _, _, _, _, _, ha, _, hg⟩ := h
  exact own_typed ho he ha hg
theorem Stored.nd {w w' : World} {B C : Nat} {N : Nd} {v1 v2 v3 : Value} (h : Stored C w w') (ho : OwnNd w B N v1 v2 v3) : OwnNd w' B N v1 v2 v3 := ⟨h.row ho.i (by decide), h.row ho.t (by decide), h.row ho.k (by decide)⟩
theorem grown_row {w w' : World} {B : Nat} {e : TypeId} {sz n : Nat} {v : Value} {xs : List Value} (h : w.grownBy w' none) (ho : w.ownsRow B e sz v n xs) : w'.ownsRow B e sz v n xs := ho.kept h (by cases hv : v.ownBlock <;> simp)
theorem grown_nd {w w' : World} {B : Nat} {N : Nd} {v1 v2 v3 : Value} (h : w.grownBy w' none) (ho : OwnNd w B N v1 v2 v3) : OwnNd w' B N v1 v2 v3 := ⟨grown_row h ho.i, grown_row h ho.t, grown_row h ho.k⟩
theorem below_grown0 {w w' : World} (h : Below w.heap.size w w') (row : Option Nat) : w.grownBy w' row := ⟨h.os, h.tape, h.output, h.size, fun i hi _ => h.block i hi⟩

section
variable {w w' : World} {B : Nat} {N : Nd} {R : Nd × Int} {v : Value}
theorem AggIs.grown (h : AggIs N B v w) (hg : w.grownBy w' none) : AggIs N B v w' := by obtain ⟨p1, i1, p2, i2, p3, i3, e, o⟩ := h; exact ⟨p1, i1, p2, i2, p3, i3, e, grown_nd hg o⟩
theorem AggIs.st {C : Nat} (h : AggIs N B v w) (hg : Stored C w w') : AggIs N B v w' := by obtain ⟨p1, i1, p2, i2, p3, i3, e, o⟩ := h; exact ⟨p1, i1, p2, i2, p3, i3, e, hg.nd o⟩
theorem TupIs.grown (h : TupIs R B v w) (hg : w.grownBy w' none) : TupIs R B v w' := by obtain ⟨p1, i1, p2, i2, p3, i3, e, o⟩ := h; exact ⟨p1, i1, p2, i2, p3, i3, e, grown_nd hg o⟩
theorem TupIs.st {C : Nat} (h : TupIs R B v w) (hg : Stored C w w') : TupIs R B v w' := by obtain ⟨p1, i1, p2, i2, p3, i3, e, o⟩ := h; exact ⟨p1, i1, p2, i2, p3, i3, e, hg.nd o⟩
theorem BlkIs.grown (h : BlkIs B v w) (hg : w.grownBy w' none) : BlkIs B v w' := by obtain ⟨g, x0, x1, x2, x3, e, hb, ha⟩ := h; exact ⟨g, x0, x1, x2, x3, e, hb, ha.kept hg (by simp)⟩
theorem BlkIs.st {C : Nat} (h : BlkIs B v w) (hs : Stored C w w') : BlkIs B v w' := by
  obtain ⟨g, x0, x1, x2, x3, e, hb, ha⟩ := h
  obtain ⟨g', _, _, _, _, y0, y1, y2, y3, _, _, ha', hg⟩ := hs
  by_cases hgg : g = g'
  · subst hgg; exact ⟨g, y0, y1, y2, y3, e, hb, ha'⟩
  · exact ⟨g, x0, x1, x2, x3, e, hb, ha.kept hg (by simp [hgg])⟩
theorem PutIs.grown (h : PutIs N B v w) (hg : w.grownBy w' none) : PutIs N B v w' := by obtain ⟨g, p1, i1, p2, i2, p3, i3, e, ha, o⟩ := h; exact ⟨g, p1, i1, p2, i2, p3, i3, e, ha.kept hg (by simp), grown_nd hg o⟩
end
theorem Stored.below {B : Nat} {a w w' : World} (h : Stored B w w') (hb : Below B a w) (hs : B ≤ w.heap.size) : Below B a w' := by
  obtain ⟨g, _, _, _, _, _, _, _, _, hB, _, _, hg⟩ := h
  exact hb.grown hg hs (fun k hk => by cases hk; exact hB)
/-- The store itself. -/
theorem stored4 {w : World} {B g : Nat} {x0 x1 x2 x3 : Value} (ha : AtN 26 w g #[x0, x1, x2, x3]) (hB : B ≤ g) (y0 y1 y2 y3 : Value) : Stored B w ((((w.setCell ⟨g, 0, none⟩ y0).setCell ⟨g, 1, none⟩ y1).setCell ⟨g, 2, none⟩ y2).setCell ⟨g, 3, none⟩ y3) :=
  ⟨g, x0, x1, x2, x3, y0, y1, y2, y3, hB, ha, at_set4 ha y0 y1 y2 y3, grown_set (grown_set (grown_set (grown_set (grown_refl w _) 0 _) 1 _) 2 _) 3 _⟩

/-- What an append onto a list of sets of the call's own may turn. -/
def RowGrown (B : Nat) (w w' : World) : Prop := ∃ v n xs, w.ownsRow B 51 4 v n xs ∧ w.grownBy w' v.ownBlock
theorem RowGrown.row {w w' : World} {B C : Nat} {e : TypeId} {sz n : Nat} {v : Value} {xs : List Value} (h : RowGrown C w w') (ho : w.ownsRow B e sz v n xs) (he : e ≠ 51) : w'.ownsRow B e sz v n xs := by
  obtain ⟨u, m, ys, hu, hg⟩ := h
  refine ho.kept hg ?_
  rcases ho.2 with ⟨rfl, _⟩ | ⟨g1, _, cur, rfl, _, h2, _⟩
  · exact .inl rfl
  · refine .inr (fun e1 => ?_)
    rcases hu.2 with ⟨rfl, _⟩ | ⟨g2, _, cur', rfl, _, h3, _⟩
    · simp [Value.ownBlock] at e1
    · simp only [Value.ownBlock, Option.some.injEq] at e1
      rw [e1, h3] at h2
      simp only [Option.some.injEq, Obj.cells.injEq] at h2
      exact he h2.2.1.symm
theorem RowGrown.at {w w' : World} {C g : Nat} {T : TypeId} {cs : Array Value} (h : RowGrown C w w') (ha : AtN T w g cs) (he : T ≠ 51) : AtN T w' g cs := by
  obtain ⟨u, m, ys, hu, hg⟩ := h
  refine ha.kept hg (fun e1 => ?_)
  rcases hu.2 with ⟨rfl, _⟩ | ⟨g2, _, cur', rfl, _, h3, _⟩
  · simp [Value.ownBlock] at e1
  · simp only [Value.ownBlock, Option.some.injEq] at e1
    have h' : w.heap[g]? = _ := ha
    rw [← e1, h'] at h3
    simp only [Option.some.injEq, Obj.cells.injEq] at h3
    exact he h3.2.1
theorem RowGrown.nd {w w' : World} {B C : Nat} {N : Nd} {v1 v2 v3 : Value} (h : RowGrown C w w') (ho : OwnNd w B N v1 v2 v3) : OwnNd w' B N v1 v2 v3 := ⟨h.row ho.i (by decide), h.row ho.t (by decide), h.row ho.k (by decide)⟩
theorem RowGrown.below {B : Nat} {a w w' : World} (h : RowGrown B w w') (hb : Below B a w) (hs : B ≤ w.heap.size) : Below B a w' := by
  obtain ⟨u, m, ys, hu, hg⟩ := h
  exact hb.grown hg hs (fun k hk => (hu.lt k hk).1)
section
variable {w w' : World} {B C : Nat} {N : Nd} {R : Nd × Int} {v : Value}
theorem AggIs.rg (h : AggIs N B v w) (hg : RowGrown C w w') : AggIs N B v w' := by obtain ⟨p1, i1, p2, i2, p3, i3, e, o⟩ := h; exact ⟨p1, i1, p2, i2, p3, i3, e, hg.nd o⟩
theorem TupIs.rg (h : TupIs R B v w) (hg : RowGrown C w w') : TupIs R B v w' := by obtain ⟨p1, i1, p2, i2, p3, i3, e, o⟩ := h; exact ⟨p1, i1, p2, i2, p3, i3, e, hg.nd o⟩
theorem BlkIs.rg (h : BlkIs B v w) (hg : RowGrown C w w') : BlkIs B v w' := by obtain ⟨g, x0, x1, x2, x3, e, hb, ha⟩ := h; exact ⟨g, x0, x1, x2, x3, e, hb, hg.at ha (by decide)⟩
theorem PutIs.rg (h : PutIs N B v w) (hg : RowGrown C w w') : PutIs N B v w' := by obtain ⟨g, p1, i1, p2, i2, p3, i3, e, ha, o⟩ := h; exact ⟨g, p1, i1, p2, i2, p3, i3, e, hg.at ha (by decide), hg.nd o⟩
end

/-- An append onto a row of the call's own, as a step of a region that draws. -/
theorem step_append_own8 {P : Program} (w : World) {ops : Array Oper} {o : Oper} {a : Act} {K : Act → World → Prop} {Q : Exit → Act → World → Prop} {E : Prop} (hgd : o.guard = none) (s x : Operand) (t : TypeId)
    (ho : o.op = .call { callee := .builtin .append, args := #[s, x], argTypes := #[t, t] })
    (base : Nat) (e : TypeId) (i : TypeInfo) (z : Value) (size bytes : Nat) (ht : P.underlying t = some (.slice e)) (hi : P.info? e = some i) (hz : i.zero = some z)
    (hsize : i.size = size) (hby : i.bytes = bytes) (hzs : z.cells.size = size) (hsz : 0 < size)
    (v : Value) (n : Nat) (xs : List Value) (hs : a.eval s = v) (hown : w.ownsRow base e size v n xs)
    (ad : Addr) (m c : Nat) (news : List Value) (hx : a.eval x = .slice (some ad) m c) (hl : news.length = m * size) (hnews : ∀ j u, news[j]? = some u → w.cell? (ad.add j) = some u) (h1 : ∀ u ∈ news, u.oneCell' = true)
    (h63 : n + m ≤ maxLen) (hbytes : (n + m) * bytes ≤ 140737488355328) (hbase : base ≤ w.heap.size)
    (h : ∀ v' w', w'.ownsRow base e size v' (n + m) (xs ++ news) → w.grownBy w' v.ownBlock → K (a.put o.dst v') w') :
    if Region.wanted o (yielded ops a.tmps) = true then Oper.wp P o a w K Q else E := by
  have hw : Region.wanted o (yielded ops a.tmps) = true := by simp [Region.wanted, hgd]
  rw [if_pos hw]
  exact wp_append_own w s x t ho base e i z size bytes ht hi hz hsize hby hzs hsz v n xs hs hown ad m c news hx hl hnews h1 h63 hbytes hbase fun v' w' h2 h3 _ => h v' w' h2 h3

/-- Pieces of a list of sets. -/
theorem stV_take (L : List St) (i : Nat) (h : i ≤ L.length) : stV (L.take i) = (stV L).take (i * 4) := by
  have e : stV L = stV (L.take i) ++ stV (L.drop i) := by rw [← stV_append, List.take_append_drop]
  have hl : (stV (L.take i)).length = i * 4 := by rw [stV_length, List.length_take]; omega
  rw [e, List.take_left' hl]
theorem stV_drop (L : List St) (i : Nat) (h : i ≤ L.length) : stV (L.drop i) = (stV L).drop (i * 4) := by
  have e : stV L = stV (L.take i) ++ stV (L.drop i) := by rw [← stV_append, List.take_append_drop]
  have hl : (stV (L.take i)).length = i * 4 := by rw [stV_length, List.length_take]; omega
  rw [e, List.drop_left' hl]

end Go.Proofs.YtaochgndednamaaDoor
