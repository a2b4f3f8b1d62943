/- The contract of ref's Led: which nodes one leads to, by one step or more. -/
import Derived.Test.YtcdpjaaiojpelaaDoorGDepth
namespace Go.Proofs.YtcdpjaaiojpelaaDoor
open Go.RowKit Go.Maps Go.WideMaps Go.Sort

/-- What is met, and what is to be looked at. -/
structure LInv (K : List (List Nat)) (f : Nat) (work met : List Nat) : Prop where
  m : ∀ x ∈ met, Lead (Ed K) f x
  k : ∀ x ∈ work, Lead (Ed K) f x
  a : ∀ y, Ed K f y → y ∈ met ∨ y ∈ work
  c : ∀ x ∈ met, ∀ y, Ed K x y → y ∈ met ∨ y ∈ work
  nd : met.Nodup
  lt : ∀ x ∈ met, x < K.length
section
variable {K : List (List Nat)} {f x : Nat} {work met : List Nat}
theorem LInv.start (K : List (List Nat)) (f : Nat) : LInv K f (K.getD f []) [] := ⟨by simp, fun x hx => ⟨x, hx, Rt.refl _ _⟩, fun y e => .inr e, by simp, by simp, by simp⟩
theorem LInv.skip (h : LInv K f (x :: work) met) (hx : x ∈ met) : LInv K f work met := by
  have key : ∀ y, y ∈ met ∨ y ∈ x :: work → y ∈ met ∨ y ∈ work := fun y q => by
    rcases q with q | q
    · exact .inl q
    · rcases List.mem_cons.1 q with rfl | q
      · exact .inl hx
      · exact .inr q
  exact ⟨h.m, fun y hy => h.k y (List.mem_cons_of_mem _ hy), fun y e => key y (h.a y e), fun z hz y e => key y (h.c z hz y e), h.nd, h.lt⟩
theorem LInv.add (h : LInv K f (x :: work) met) (hk : Ok9 K) (hf : f < K.length) (hx : x ∉ met) : LInv K f (work ++ K.getD x []) (met ++ [x]) := by
  have hl := h.k x (by simp)
  have key : ∀ y, y ∈ met ∨ y ∈ x :: work → y ∈ met ++ [x] ∨ y ∈ work ++ K.getD x [] := fun y q => by
    rcases q with q | q
    · exact .inl (List.mem_append_left _ q)
    · rcases List.mem_cons.1 q with rfl | q
      · exact .inl (by simp)
      · exact .inr (List.mem_append_left _ q)
  refine ⟨fun y hy => ?_, fun y hy => ?_, fun y e => key y (h.a y e), fun z hz y e => ?_, ?_, fun y hy => ?_⟩
  · rcases List.mem_append.1 hy with hy | hy
    · exact h.m y hy
    · simp only [List.mem_singleton] at hy; subst hy; exact hl
  · rcases List.mem_append.1 hy with hy | hy
    · exact h.k y (List.mem_cons_of_mem _ hy)
    · exact hl.trans (Rt.one hy)
  · rcases List.mem_append.1 hz with hz | hz
    · exact key y (h.c z hz y e)
    · simp only [List.mem_singleton] at hz
      subst hz
      exact .inr (List.mem_append_right _ e)
  · rw [List.nodup_append]
    refine ⟨h.nd, by simp, fun p hp q hq e => ?_⟩
    simp only [List.mem_singleton] at hq
    subst e hq
    exact hx hp
  · rcases List.mem_append.1 hy with hy | hy
    · exact h.lt y hy
    · simp only [List.mem_singleton] at hy
      subst hy
      exact Ok9.rt hk hf hl.rt
theorem LInv.fin (h : LInv K f [] met) (y : Nat) : y ∈ met ↔ Lead (Ed K) f y := by
  refine ⟨h.m y, ?_⟩
  rintro ⟨c, e, r⟩
  exact r (fun z => z ∈ met) ((h.a c e).resolve_right (by simp)) (fun p q hp e => (h.c p hp q e).resolve_right (by simp))
theorem LInv.len (h : LInv K f work met) : met.length ≤ K.length := nodup_le _ _ h.nd h.lt
end

/-- Who was met, by places. -/
def mtV (n : Nat) (met : List Nat) : Array Value := ((List.range n).map fun x => Value.bool (decide (x ∈ met))).toArray
theorem mtV_at (n : Nat) (met : List Nat) (k : Nat) (h : k < n) : (mtV n met)[k]? = some (.bool (decide (k ∈ met))) := by simp [mtV, h]
theorem mtV_new (n : Nat) : madeCells (Value.bool false).cells (n * 1) = mtV n [] := by
  apply Array.ext
  · simp [size_madeCells, mtV]
  · intro i h1 h2
    have h0 : i % 1 = 0 := Nat.mod_one i
    simp [madeCells, mtV, Value.cells, h0]
theorem mtV_set (n : Nat) (met : List Nat) (k : Nat) : (mtV n met).setIfInBounds k (.bool true) = mtV n (met ++ [k]) := by
  apply Array.ext
  · simp [mtV]
  · intro i h1 h2
    simp only [mtV, Array.size_setIfInBounds, List.size_toArray, List.length_map, List.length_range] at h1
    rw [Array.getElem_setIfInBounds (by simpa [mtV] using h1)]
    by_cases e : k = i
    · subst e
      simp [mtV]
    · have e' : ¬ i = k := fun q => e q.symm
      rw [if_neg e]
      simp [mtV, e']
theorem Tryd.infoB9 : (Tryd.prog.info? 4).map (fun i => (i.zero, i.size, i.bytes)) = some (some (.bool false), 1, 1) := by kernel_rfl

/-- The facts of the region that puts a node's kids behind what is to be looked at. -/
def ldF (X : List Nx) (aw : Option Addr) (b o c cw x g B : Nat) (wk : List Nat) (N : Nx) : Nat → (Option Tmp → Value) → World → Prop
  | 0, V, W => W.ownsRow B 3 1 (V (some 36)) 0 [] ∧ ∃ y, V (some 36) = .slice (some ⟨y, 0, none⟩) 0 0
  | 1, V, _ => V (some 37) = .slice aw wk.length cw
  | 2, V, W => W.ownsRow B 3 1 (V (some 38)) wk.length (nV wk)
  | 3, V, _ => V (some 39) = .pointer (some ⟨g, 0, none⟩)
  | 4, V, _ => V (some 40) = .slice (some ⟨b, o, none⟩) X.length c
  | 5, V, _ => V (some 41) = .int .i64 (x : Int)
  | 6, V, _ => V (some 42) = .pointer (some ⟨b, o + x * 4, none⟩)
  | 7, V, _ => V (some 43) = .pointer (some ⟨b, o + x * 4 + 3, none⟩)
  | 8, V, _ => V (some 44) = .slice N.a3 N.nd.kids.length N.c3
  | 9, V, W => W.ownsRow B 3 1 (V (some 45)) (wk.length + N.nd.kids.length) (nV wk ++ iV N.nd.kids)
  | 10, V, W => W.ownsRow B 3 1 (V (some 6)) (wk.length + N.nd.kids.length) (nV wk ++ iV N.nd.kids)
  | _, _, _ => True
def ldR (B : Nat) (i : Nat) (w w' : World) : Prop := if i = 2 ∨ i = 9 then Below B w w' else w.grownBy w' none
def ldC (j : Nat) : Nat := if j = 0 then 2 else if j = 2 then 9 else 1000
def ldD (i j : Nat) : Bool := (i == 9 && j == 0) || (i == 2 && j == 9) || (i == 2 && j == 10) || (i == 9 && j == 10)
theorem grown_own {w w' : World} {B : Nat} {e : TypeId} {n : Nat} {v : Value} {xs : List Value} (hg : w.grownBy w' none) (h : w.ownsRow B e 1 v n xs) : w'.ownsRow B e 1 v n xs := own_below h (below_of_grown hg) (Nat.le_refl _)
theorem ldF_stab (X : List Nx) (aw : Option Addr) (b o c cw x g B : Nat) (wk : List Nat) (N : Nx) : ∀ i j V w w', i ≠ j → ldC j ≠ i → ldD i j = false → ldR B i w w' → ldF X aw b o c cw x g B wk N j V w → ldF X aw b o c cw x g B wk N j V w' := by
  intro i j V w w' hne hc hd hR h
  unfold ldR at hR
  by_cases h5 : i = 2 ∨ i = 9
  · rw [if_pos h5] at hR
    match j, h with
    | 1, h | 3, h | 4, h | 5, h | 6, h | 7, h | 8, h => exact h
    | 0, _ =>
      rcases h5 with rfl | rfl
      · exact absurd rfl hc
      · exact absurd hd (by decide)
    | 2, _ =>
      rcases h5 with rfl | rfl
      · exact absurd rfl hne
      · exact absurd rfl hc
    | 9, _ =>
      rcases h5 with rfl | rfl
      · exact absurd hd (by decide)
      · exact absurd rfl hne
    | 10, _ =>
      rcases h5 with rfl | rfl
      · exact absurd hd (by decide)
      · exact absurd hd (by decide)
    | n + 11, _ => trivial
  · rw [if_neg h5] at hR
    match j, h with
    | 1, h | 3, h | 4, h | 5, h | 6, h | 7, h | 8, h => exact h
    | 0, h => exact ⟨grown_own hR h.1, h.2⟩
    | 2, h | 9, h | 10, h => exact grown_own hR h
    | n + 11, _ => trivial

/-- Behind an append: all below stays. -/
theorem below_app {B : Nat} {w w' : World} {row : Option Nat} (hg : w.grownBy w' row) (hr : ∀ k, row = some k → B ≤ k) (hB : B ≤ w.heap.size) : Below B w w' := (Below.refl B w).grown hg hB hr

def LedOut (K : List (List Nat)) (f : Nat) (w w' : World) (e : Ending) : Prop :=
  ∃ g met, e = .returned (.slice (some ⟨g, 0, none⟩) K.length K.length) ∧ AtN 4 w' g (mtV K.length met) ∧ (∀ x, x ∈ met ↔ Lead (Ed K) f x) ∧ Below w.heap.size w w'

end Go.Proofs.YtcdpjaaiojpelaaDoor
