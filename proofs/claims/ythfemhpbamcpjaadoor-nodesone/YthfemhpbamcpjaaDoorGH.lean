/- The contract of ref's Led: which nodes one leads to, by one step or more. -/
import Derived.Test.YthfemhpbamcpjaaDoorGG
import Derived.Test.YthfemhpbamcpjaaDoorGB
namespace Go.Proofs.YthfemhpbamcpjaaDoor
open Go.RowKit Go.Maps Go.WideMaps Go.Sort

/-- What is met, and what is to be looked at. -/
structure LInv (K : List (List Nat)) (f : Nat) (work met : List Nat) : Prop where
  m : ∀ x ∈ met, Lead (Ed K) f x
  k : ∀ x ∈ work, Lead (Ed K) f x
  a : ∀ y, Ed K f y → y ∈ met ∨ y ∈ work
  c : ∀ x ∈ met, ∀ y, Ed K x y → y ∈ met ∨ y ∈ work
  nd : met.Nodup
  lt : ∀ x ∈ met, x < K.length
section
variable {K : List (List Nat)} {f x : Nat} {work met : List Nat}
theorem LInv.start (K : List (List Nat)) (f : Nat) : LInv K f (K.getD f []) [] := ⟨by simp, fun x hx => ⟨x, hx, Rt.refl _ _⟩, fun y e => .inr e, by simp, by simp, by simp⟩
theorem LInv.skip (h : LInv K f (x :: work) met) (hx : x ∈ met) : LInv K f work met := by
  have key : ∀ y, y ∈ met ∨ y ∈ x :: work → y ∈ met ∨ y ∈ work := fun y q => by
    rcases q with q | q
    · exact .inl q
    · rcases List.mem_cons.1 q with rfl | q
      · exact .inl hx
      · exact .inr q
  exact ⟨h.m, fun y hy => h.k y (List.mem_cons_of_mem _ hy), fun y e => key y (h.a y e), fun z hz y e => key y (h.c z hz y e), h.nd, h.lt⟩
theorem LInv.add (h : LInv K f (x :: work) met) (hk : Ok9 K) (hf : f < K.length) (hx : x ∉ met) : LInv K f (work ++ K.getD x []) (met ++ [x]) := by
  have hl := h.k x (by simp)
  have key : ∀ y, y ∈ met ∨ y ∈ x :: work → y ∈ met ++ [x] ∨ y ∈ work ++ K.getD x [] := fun y q => by
    rcases q with q | q
    · exact .inl (List.mem_append_left _ q)
    · rcases List.mem_cons.1 q with rfl | q
      · exact .inl (by simp)
      · exact .inr (List.mem_append_left _ q)
  refine ⟨fun y hy => ?_, fun y hy => ?_, fun y e => key y (h.a y e), fun z hz y e => ?_, ?_, fun y hy => ?_⟩
  · rcases List.mem_append.1 hy with hy | hy
    · exact h.m y hy
    · simp only [List.mem_singleton] at hy; subst hy; exact hl
  · rcases List.mem_append.1 hy with hy | hy
    · exact h.k y (List.mem_cons_of_mem _ hy)
    · exact hl.trans (Rt.one hy)
  · rcases List.mem_append.1 hz with hz | hz
    · exact key y (h.c z hz y e)
    · simp only [List.mem_singleton] at hz
      subst hz
      exact .inr (List.mem_append_right _ e)
  · rw [List.nodup_append]
    refine ⟨h.nd, by simp, fun p hp q hq e => ?_⟩
    simp only [List.mem_singleton] at hq
    subst e hq
    exact hx hp
  · rcases List.mem_append.1 hy with hy | hy
    · exact h.lt y hy
    · simp only [List.mem_singleton] at hy
      subst hy
      exact Ok9.rt hk hf hl.rt
theorem LInv.fin (h : LInv K f [] met) (y : Nat) : y ∈ met ↔ Lead (Ed K) f y := by
  refine ⟨h.m y, ?_⟩
  rintro ⟨c, e, r⟩
  exact r (fun z => z ∈ met) ((h.a c e).resolve_right (by simp)) (fun p q hp e => (h.c p hp q e).resolve_right (by simp))
theorem LInv.len (h : LInv K f work met) : met.length ≤ K.length := nodup_le _ _ h.nd h.lt
end

/-- Who was met, by places. -/
def mtV (n : Nat) (met : List Nat) : Array Value := ((List.range n).map fun x => Value.bool (decide (x ∈ met))).toArray
theorem mtV_at (n : Nat) (met : List Nat) (k : Nat) (h : k < n) : (mtV n met)[k]? = some (.bool (decide (k ∈ met))) := by simp [mtV, h]
theorem mtV_new (n : Nat) : madeCells (Value.bool false).cells (n * 1) = mtV n [] := by
  apply Array.ext
  · simp [size_madeCells, mtV]
  · intro i h1 h2
    have h0 : i % 1 = 0 := Nat.mod_one i
    simp [madeCells, mtV, Value.cells, h0]
theorem mtV_set (n : Nat) (met : List Nat) (k : Nat) : (mtV n met).setIfInBounds k (.bool true) = mtV n (met ++ [k]) := by
  apply Array.ext
  · simp [mtV]
  · intro i h1 h2
    simp only [mtV, Array.size_setIfInBounds, List.size_toArray, List.length_map, List.length_range] at h1
    rw [Array.getElem_setIfInBounds (by simpa [mtV] using h1)]
    by_cases e : k = i
    · subst e
      simp [mtV]
    · have e' : ¬ i = k := fun q => e q.symm
      rw [if_neg e]
      simp [mtV, e']
theorem Tryd.infoB9 : (Tryd.prog.info? 4).map (fun i => (i.zero, i.size, i.bytes)) = some (some (.bool false), 1, 1) := by kernel_rfl

/-- The facts of the region that puts a node's kids behind what is to be looked at. -/
def ldF (X : List Nx) (aw : Option Addr) (b o c cw x g B : Nat) (wk : List Nat) (N : Nx) : Nat → (Option Tmp → Value) → World → Prop
  | 0, V, W => W.ownsRow B 3 1 (V (some 36)) 0 [] ∧ ∃ y, V (some 36) = .slice (some ⟨y, 0, none⟩) 0 0
  | 1, V, _ => V (some 37) = .slice aw wk.length cw
  | 2, V, W => W.ownsRow B 3 1 (V (some 38)) wk.length (nV wk)
  | 3, V, _ => V (some 39) = .pointer (some ⟨g, 0, none⟩)
  | 4, V, _ => V (some 40) = .slice (some ⟨b, o, none⟩) X.length c
  | 5, V, _ => V (some 41) = .int .i64 (x : Int)
  | 6, V, _ => V (some 42) = .pointer (some ⟨b, o + x * 4, none⟩)
  | 7, V, _ => V (some 43) = .pointer (some ⟨b, o + x * 4 + 3, none⟩)
  | 8, V, _ => V (some 44) = .slice N.a3 N.nd.kids.length N.c3
  | 9, V, W => W.ownsRow B 3 1 (V (some 45)) (wk.length + N.nd.kids.length) (nV wk ++ iV N.nd.kids)
  | 10, V, W => W.ownsRow B 3 1 (V (some 6)) (wk.length + N.nd.kids.length) (nV wk ++ iV N.nd.kids)
  | _, _, _ => True
def ldR (B : Nat) (i : Nat) (w w' : World) : Prop := if i = 2 ∨ i = 9 then Below B w w' else w.grownBy w' none
def ldC (j : Nat) : Nat := if j = 0 then 2 else if j = 2 then 9 else 1000
def ldD (i j : Nat) : Bool := (i == 9 && j == 0) || (i == 2 && j == 9) || (i == 2 && j == 10) || (i == 9 && j == 10)
theorem grown_own {w w' : World} {B : Nat} {e : TypeId} {n : Nat} {v : Value} {xs : List Value} (hg : w.grownBy w' none) (h : w.ownsRow B e 1 v n xs) : w'.ownsRow B e 1 v n xs := own_below h (below_of_grown hg) (Nat.le_refl _)
theorem ldF_stab (X : List Nx) (aw : Option Addr) (b o c cw x g B : Nat) (wk : List Nat) (N : Nx) : ∀ i j V w w', i ≠ j → ldC j ≠ i → ldD i j = false → ldR B i w w' → ldF X aw b o c cw x g B wk N j V w → ldF X aw b o c cw x g B wk N j V w' := by
  intro i j V w w' hne hc hd hR h
  unfold ldR at hR
  by_cases h5 : i = 2 ∨ i = 9
  · rw [if_pos h5] at hR
    match j, h with
    | 1, h | 3, h | 4, h | 5, h | 6, h | 7, h | 8, h => exact h
    | 0, _ =>
      rcases h5 with rfl | rfl
      · exact absurd rfl hc
      · exact absurd hd (by decide)
    | 2, _ =>
      rcases h5 with rfl | rfl
      · exact absurd rfl hne
      · exact absurd rfl hc
    | 9, _ =>
      rcases h5 with rfl | rfl
      · exact absurd hd (by decide)
      · exact absurd rfl hne
    | 10, _ =>
      rcases h5 with rfl | rfl
      · exact absurd hd (by decide)
      · exact absurd hd (by decide)
    | n + 11, _ => trivial
  · rw [if_neg h5] at hR
    match j, h with
    | 1, h | 3, h | 4, h | 5, h | 6, h | 7, h | 8, h => exact h
    | 0, h => exact ⟨grown_own hR h.1, h.2⟩
    | 2, h | 9, h | 10, h => exact grown_own hR h
    | n + 11, _ => trivial

/-- Behind an append: all below stays. -/
theorem below_app {B : Nat} {w w' : World} {row : Option Nat} (hg : w.grownBy w' row) (hr : ∀ k, row = some k → B ≤ k) (hB : B ≤ w.heap.size) : Below B w w' := (Below.refl B w).grown hg hB hr

def LedOut (K : List (List Nat)) (f : Nat) (w w' : World) (e : Ending) : Prop :=
  ∃ g met, e = .returned (.slice (some ⟨g, 0, none⟩) K.length K.length) ∧ AtN 4 w' g (mtV K.length met) ∧ (∀ x, x ∈ met ↔ Lead (Ed K) f x) ∧ Below w.heap.size w w'

end Go.Proofs.YthfemhpbamcpjaaDoor
/- A list of numbers behind a list of the call's own, whatever its length: at the operation, and at a step of a region that draws its order. -/
namespace Go.Proofs.YthfemhpbamcpjaaDoor
open Go.RowKit Go.Maps Go.WideMaps Go.Sort

theorem run_app9 (W : World) {B n : Nat} {v : Value} {xs : List Value} (hown : W.ownsRow B 3 1 v n xs) (a : Option Addr) (m c : Nat) (l : List Value) (hl : l.length = m) (hls : LsAt W a l) (h1 : ∀ u ∈ l, u.oneCell' = true) (hb : n + m ≤ 1000000) (hB : B ≤ W.heap.size) (ty : TypeId) :
    ∃ v' W', (Builtin.append_ #[38, 38] ty #[v, .slice a m c]).run Tryd.prog W = .ok v' W' ∧ W'.ownsRow B 3 1 v' (n + m) (xs ++ l) ∧ W.grownBy W' v.ownBlock := by
  obtain ⟨i0, hi, hz0, hz1, hz2⟩ := info_parts Tryd.infoI7
  cases a with
  | some ad =>
    obtain ⟨v', W', hr, h2, h3, _⟩ := run_append_own (P := Tryd.prog) W B 38 ty 3 i0 (.int .i64 0) 1 8 Tryd.underlying38 hi hz0 hz1 hz2 rfl (by decide) v n xs hown ad m c l (by omega) hls.news h1 (by unfold maxLen; omega) (by omega) hB
    exact ⟨v', W', hr, h2, h3⟩
  | none =>
    have hm : l = [] := by
      obtain ⟨b, o, h, _⟩ := hls
      cases l with
      | nil => rfl
      | cons x r => exact absurd (h (by simp)) (by simp)
    subst hm
    simp at hl
    subst hl
    refine ⟨v, W, ?_, by simpa using hown, grown_refl _ _⟩
    rcases hown.2 with ⟨rfl, rfl⟩ | ⟨g, cap, cur, rfl, _, _, hnc, _⟩
    · simp [Builtin.append_, run_underlying Tryd.underlying38, sizeOf, typeInfo, hi, Builtin.lenOf, Builtin.firstCells]
    · simp [Builtin.append_, run_underlying Tryd.underlying38, sizeOf, typeInfo, hi, Builtin.lenOf, Builtin.firstCells, hnc, storeCells]

theorem wp_app9 {w : World} {o : Oper} {a : Act} {K : Act → World → Prop} {Q : Exit → Act → World → Prop} (s x : Operand)
    (ho : o.op = .call { callee := .builtin .append, args := #[s, x], argTypes := #[38, 38] }) (B : Nat) (v : Value) (n : Nat) (xs : List Value) (hs : a.eval s = v) (hown : w.ownsRow B 3 1 v n xs)
    (ad : Option Addr) (m c : Nat) (l : List Value) (hx : a.eval x = .slice ad m c) (hl : l.length = m) (hls : LsAt w ad l) (h1 : ∀ u ∈ l, u.oneCell' = true) (hb : n + m ≤ 1000000) (hB : B ≤ w.heap.size)
    (h : ∀ v' w', w'.ownsRow B 3 1 v' (n + m) (xs ++ l) → w.grownBy w' v.ownBlock → K (a.put o.dst v') w') : o.wp Tryd.prog a w K Q := by
  obtain ⟨v', w', hr, h2, h3⟩ := run_app9 w hown ad m c l hl hls h1 hb hB o.type
  unfold Oper.wp execOp
  simp only [ho, resolve, invoke, builtin, Sem.run_bind, Sem.run_pure, Result.andThen_ok, List.map_toArray, List.map_cons, List.map_nil, hs, hx, hr]
  exact h v' w' h2 h3

theorem wpList_app9 {w : World} {ops : Array Oper} {rest : List Oper} {o : Oper} {a : Act} {Q : Exit → Act → World → Prop} (hgd : o.guard = none) (s x : Operand)
    (ho : o.op = .call { callee := .builtin .append, args := #[s, x], argTypes := #[38, 38] }) (B : Nat) (v : Value) (n : Nat) (xs : List Value) (hs : a.eval s = v) (hown : w.ownsRow B 3 1 v n xs)
    (ad : Option Addr) (m c : Nat) (l : List Value) (hx : a.eval x = .slice ad m c) (hl : l.length = m) (hls : LsAt w ad l) (h1 : ∀ u ∈ l, u.oneCell' = true) (hb : n + m ≤ 1000000) (hB : B ≤ w.heap.size)
    (h : ∀ v' w', w'.ownsRow B 3 1 v' (n + m) (xs ++ l) → w.grownBy w' v.ownBlock → wpList Tryd.prog ops Q rest (a.put o.dst v') w') : wpList Tryd.prog ops Q (o :: rest) a w :=
  wpList_plain hgd fun _ hK => wp_app9 s x ho B v n xs hs hown ad m c l hx hl hls h1 hb hB fun v' w' h2 h3 => hK _ _ (h v' w' h2 h3)

theorem step_app9 {w : World} {ops : Array Oper} {o : Oper} {a : Act} {K : Act → World → Prop} {Q : Exit → Act → World → Prop} {E : Prop} (hgd : o.guard = none) (s x : Operand)
    (ho : o.op = .call { callee := .builtin .append, args := #[s, x], argTypes := #[38, 38] }) (B : Nat) (v : Value) (n : Nat) (xs : List Value) (hs : a.eval s = v) (hown : w.ownsRow B 3 1 v n xs)
    (ad : Option Addr) (m c : Nat) (l : List Value) (hx : a.eval x = .slice ad m c) (hl : l.length = m) (hls : LsAt w ad l) (h1 : ∀ u ∈ l, u.oneCell' = true) (hb : n + m ≤ 1000000) (hB : B ≤ w.heap.size)
    (h : ∀ v' w', w'.ownsRow B 3 1 v' (n + m) (xs ++ l) → w.grownBy w' v.ownBlock → K (a.put o.dst v') w') : if Region.wanted o (yielded ops a.tmps) = true then Oper.wp Tryd.prog o a w K Q else E := by
  have hw : Region.wanted o (yielded ops a.tmps) = true := by simp [Region.wanted, hgd]
  rw [if_pos hw]
  exact wp_app9 s x ho B v n xs hs hown ad m c l hx hl hls h1 hb hB h

theorem nV_cell (l : List Nat) : ∀ u ∈ nV l, u.oneCell' = true := by
  intro u hu
  simp only [nV, List.mem_map] at hu
  obtain ⟨_, _, rfl⟩ := hu
  rfl

/-- What is looked at now, and what is left of it. -/
theorem LsQ.rest {Q : Nat → Prop} {w : World} {b o x : Nat} {l : List Nat} (h : LsQ Q w (some ⟨b, o, none⟩) (nV (x :: l))) : LsQ Q w (some ⟨b, o + 1, none⟩) (nV l) ∧ w.cell? ⟨b, o, none⟩ = some (.int .i64 (x : Int)) := by
  obtain ⟨b', o', h1, h2⟩ := h
  have h3 := h1 (by simp [nV])
  simp only [Option.some.injEq, Addr.mk.injEq, and_true] at h3
  obtain ⟨rfl, rfl⟩ := h3
  refine ⟨⟨b, o + 1, fun _ => rfl, fun i hi => ?_⟩, ?_⟩
  · have := h2 (i + 1) (by simp [nV] at hi ⊢; omega)
    rw [show o + (i + 1) = o + 1 + i by omega] at this
    exact ⟨this.1, by rw [this.2]; simp [nV]⟩
  · have := (h2 0 (by simp [nV])).2
    rw [Nat.add_zero] at this
    rw [this]
    rfl
/-- The list of what is to be looked at. -/
def Work (w : World) (g : Nat) (v : Value) (l : List Nat) : Prop := ∃ a c, v = .slice a l.length c ∧ l.length ≤ c ∧ LsQ (fun b => b ≠ g) w a (nV l)
theorem Work.of_own {w : World} {B g n : Nat} {T : TypeId} {v : Value} {l : List Nat} {cs : Array Value} (h : w.ownsRow B 3 1 v n (nV l)) (hn : n = l.length) (ha : AtN T w g cs) (hT : 3 ≠ T) : Work w g v l := by
  subst hn
  have hne := own_ne_at h ha hT
  obtain ⟨a, c, rfl⟩ := own_shape7 h
  refine ⟨a, c, rfl, ?_, (LsQ.of_own h).mono (fun q e _ => hne q e)⟩
  rcases h.2 with ⟨q, q2⟩ | ⟨b, c', cur, q, h1, h2, h3, h4⟩
  · omega
  · simp only [Value.slice.injEq] at q
    omega
theorem LsQ.some {Q : Nat → Prop} {w : World} {a : Option Addr} {x : Nat} {l : List Nat} (h : LsQ Q w a (nV (x :: l))) : ∃ b o, a = Option.some ⟨b, o, none⟩ := by
  obtain ⟨b, o, h1, _⟩ := h
  exact ⟨b, o, h1 (by simp [nV])⟩

/-- All but the first. -/
theorem slice_one (W : World) (b o n c : Nat) (h : n + 1 ≤ c) : ∃ y : Addr, (Instr.slice 38 (.slice (some ⟨b, o, none⟩) (n + 1) c) (some (.int .i64 1)) none none).run Tryd.prog W = .ok (.slice (some y) n (c - 1)) W ∧ (0 < n → y = ⟨b, o + 1, none⟩) := by
  by_cases hc1 : c = 1
  · refine ⟨⟨b, o, none⟩, ?_, fun q => by omega⟩
    simp [Instr.slice, run_underlying Tryd.underlying38, go_sem, hc1]
    omega
  · refine ⟨⟨b, o + 1, none⟩, ?_, fun q => rfl⟩
    simp [Instr.slice, run_underlying Tryd.underlying38, go_sem, hc1]
    intro q
    omega
theorem LsQ.rest' {Q : Nat → Prop} {w : World} {b o x : Nat} {y : Addr} {l : List Nat} (h : LsQ Q w (Option.some ⟨b, o, none⟩) (nV (x :: l))) (hy : 0 < l.length → y = ⟨b, o + 1, none⟩) : LsQ Q w (Option.some y) (nV l) := by
  by_cases h0 : 0 < l.length
  · rw [hy h0]; exact h.rest.1
  · have : l = [] := List.length_eq_zero_iff.1 (by omega)
    subst this
    exact ⟨0, 0, fun q => by simp [nV] at q, fun i hi => by simp [nV] at hi⟩

end Go.Proofs.YthfemhpbamcpjaaDoor
/- The contract of ref's Led, walked. -/
namespace Go.Proofs.YthfemhpbamcpjaaDoor
open Go.RowKit Go.Maps Go.WideMaps Go.Sort

end Go.Proofs.YthfemhpbamcpjaaDoor
/- The contracts of ref's Check, Right and Ints. -/
namespace Go.Proofs.YthfemhpbamcpjaaDoor
open Go.RowKit Go.Maps Go.WideMaps Go.Sort

/-- Is nothing wrong? -/
def RightOut (X : List Nx) (r : Int) (w w' : World) (e : Ending) : Prop := ∃ b, e = .returned (.bool b) ∧ (b = true ↔ RightIs X r) ∧ Below w.heap.size w w'

end Go.Proofs.YthfemhpbamcpjaaDoor
/- The contracts of ref's Depths and Ints. -/
namespace Go.Proofs.YthfemhpbamcpjaaDoor
open Go.RowKit Go.Maps Go.WideMaps Go.Sort

theorem fold1_mem (f : Nat → Nat) (l : List Nat) (k : Nat) (hk : k ∈ l) : f k ≤ fold1 f l := by
  have : ∀ (l : List Nat) (m : Nat), k ∈ l → f k ≤ l.foldl (fun m k => max m (f k)) m := by
    intro l
    induction l with
    | nil => intro m q; simp at q
    | cons x t ih =>
      intro m q
      rw [List.foldl_cons]
      rcases List.mem_cons.1 q with rfl | q
      · exact Nat.le_trans (Nat.le_max_right _ _) (foldl_ge f t _)
      · exact ih _ q
  exact this l 0 hk
theorem getD_toNat (l : List Int) (j : Nat) (hj : j < l.length) : (l.map Int.toNat).getD j 0 = (l.getD j 0).toNat := by simp [hj]
/-- Heights are one. -/
theorem HtIs.uniq {K : List (List Nat)} {h h' : Nat → Nat} (hh : HtIs K h) (hh' : HtIs K h') (hk : Ok9 K) : ∀ (n a : Nat), h a = n → a < K.length → h a = h' a := by
  intro n
  induction n using Nat.strongRecOn with
  | _ n ih =>
    intro a hn ha
    rw [hh a ha, hh' a ha]
    congr 1
    refine fold1_congr _ (fun k e => ih (h k) ?_ k rfl (hk a k e))
    have := fold1_mem h _ k e
    have := hh a ha
    omega

def DepsOut (X : List Nx) (h : Nat → Nat) (w w' : World) (e : Ending) : Prop := ∃ g out, e = .returned (.slice (some ⟨g, 0, none⟩) X.length X.length) ∧ AtN 3 w' g (fnV X.length out) ∧ (∀ x, x < X.length → out x = h x) ∧ Below w.heap.size w w'

end Go.Proofs.YthfemhpbamcpjaaDoor
