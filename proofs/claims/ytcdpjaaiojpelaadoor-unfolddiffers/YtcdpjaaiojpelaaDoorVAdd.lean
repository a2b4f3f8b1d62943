/- The program's table of trees in memory; the contracts of newTrees, number and add. -/
import Derived.Test.YtcdpjaaiojpelaaDoorVTr
import Derived.Test.YtcdpjaaiojpelaaDoorVApp
import Derived.StringKeys
namespace Go.Proofs.YtcdpjaaiojpelaaDoor
open Go.RowKit Go.Maps Go.WideMaps Go.Sort

/-- The place of a text; as many as there are: it isn't there. -/
def idx6 (s : ByteArray) : List ByteArray → Nat
  | [] => 0
  | x :: r => if x = s then 0 else idx6 s r + 1

theorem idx6_le (s : ByteArray) (L : List ByteArray) : idx6 s L ≤ L.length := by
  induction L with
  | nil => exact Nat.le_refl _
  | cons x r ih => unfold idx6; split <;> simp <;> omega
theorem idx6_at (s : ByteArray) : ∀ (L : List ByteArray) (i : Nat) (h : i < L.length), L[i] = s → (∀ j (hj : j < L.length), j < i → L[j] ≠ s) → idx6 s L = i := by
  intro L
  induction L with
  | nil => intro i h; simp at h
  | cons x r ih =>
    intro i h he hn
    unfold idx6
    match i, h, he with
    | 0, _, he => rw [if_pos (by simpa using he)]
    | i + 1, h, he =>
      have h0 := hn 0 (by simp) (by omega)
      rw [if_neg (by simpa using h0), ih i (by simpa using h) (by simpa using he) (fun j hj hji => by have := hn (j + 1) (by simpa using hj) (by omega); simpa using this)]
theorem idx6_no (s : ByteArray) (L : List ByteArray) (h : ∀ j (hj : j < L.length), L[j] ≠ s) : idx6 s L = L.length := by
  induction L with
  | nil => rfl
  | cons x r ih =>
    have h0 := h 0 (by simp)
    unfold idx6
    rw [if_neg (by simpa using h0), ih (fun j hj => by have := h (j + 1) (by simpa using hj); simpa using this)]
    rfl
theorem idx6_get (s : ByteArray) (L : List ByteArray) (h : idx6 s L < L.length) : L[idx6 s L] = s := by
  induction L with
  | nil => simp at h
  | cons x r ih =>
    unfold idx6 at h
    by_cases e : x = s
    · have h0 : idx6 s (x :: r) = 0 := by unfold idx6; rw [if_pos e]
      simp only [h0]
      exact e
    · rw [if_neg e] at h
      have h0 : idx6 s (x :: r) = idx6 s r + 1 := if_neg e
      simp only [h0, List.getElem_cons_succ]
      exact ih (by simpa using h)
theorem idx6_mem (s : ByteArray) (L : List ByteArray) : idx6 s L < L.length ↔ s ∈ L := by
  constructor
  · intro h
    have := List.getElem_mem h
    rw [idx6_get s L h] at this
    exact this
  · intro h
    have hle := idx6_le s L
    by_cases e : idx6 s L = L.length
    · exfalso
      induction L with
      | nil => simp at h
      | cons x r ih =>
        unfold idx6 at e
        by_cases q : x = s
        · rw [if_pos q] at e; simp at e
        · rw [if_neg q] at e
          refine ih ?_ (idx6_le s r) (by simpa using e)
          rcases List.mem_cons.1 h with rfl | h
          · exact absurd rfl q
          · exact h
    · omega
theorem idx6_append (s : ByteArray) (L M : List ByteArray) (h : idx6 s L < L.length) : idx6 s (L ++ M) = idx6 s L := by
  induction L with
  | nil => simp at h
  | cons x r ih =>
    rw [List.cons_append]
    unfold idx6 at h ⊢
    split
    · rfl
    · rename_i q
      rw [if_neg q] at h
      rw [ih (by simpa using h)]

/-- With a text, if it isn't there. -/
def pIntern (L : List ByteArray) (s : ByteArray) : List ByteArray := if idx6 s L < L.length then L else L ++ [s]
theorem pIntern_idx (L : List ByteArray) (s : ByteArray) : idx6 s L < (pIntern L s).length ∧ idx6 s (pIntern L s) = idx6 s L := by
  unfold pIntern
  have hle := idx6_le s L
  by_cases h : idx6 s L < L.length
  · rw [if_pos h]; exact ⟨h, rfl⟩
  · rw [if_neg h]
    have e : idx6 s L = L.length := by omega
    refine ⟨by simp; omega, ?_⟩
    rw [e]
    refine idx6_at s _ L.length (by simp) (by simp) (fun j hj hji => ?_)
    intro hh
    rw [List.getElem_append_left hji] at hh
    have := (idx6_mem s L).2 (hh ▸ List.getElem_mem hji)
    omega
theorem lawS6 : Keyed Tryd.prog 9 := string_keyed Tryd.underlying9
theorem zeroI6 (w : World) : (zeroValue 3).run Tryd.prog w = .ok (.int .i64 0) w := by kernel_rfl

/-- A text as a key, a number as an element. -/
def kS (s : ByteArray) : Lit := .string s.data.toList
def iE (n : Int) : DataW Unit := .lit (.int .i64 n)
theorem kS_key (s : ByteArray) (h : s.size ≤ maxLen) : keyOf Tryd.prog 9 (.string s) = some (kS s) := keyOf_string_mk Tryd.underlying9 h
theorem kS_ne {s t : ByteArray} (h : s ≠ t) : kS s ≠ kS t := by
  intro e
  unfold kS at e
  injection e with e
  apply h
  cases s; cases t
  simp at e
  rw [e]
theorem kS_is (s : ByteArray) : WideAt.IsKeyLit (kS s) := trivial

/-- The numbers of texts, as the map has them. -/
def NumsIs (D : DataW Unit) (L : List ByteArray) : Prop :=
  IsMap D ∧ ∀ s : ByteArray, Maps.has D (kS s) = decide (idx6 s L < L.length) ∧ (idx6 s L < L.length → D.atKey (kS s) (iE 0) = iE (idx6 s L : Nat))
theorem NumsIs.none : NumsIs (.map []) [] := ⟨isMap_empty, fun s => ⟨rfl, fun h => by simp at h⟩⟩
theorem idx6_snoc (L : List ByteArray) (s t : ByteArray) (h : s ≠ t) : idx6 t (L ++ [s]) = if idx6 t L < L.length then idx6 t L else L.length + 1 := by
  by_cases e : idx6 t L < L.length
  · rw [if_pos e, idx6_append t L [s] e]
  · rw [if_neg e]
    have hn : ∀ j (hj : j < (L ++ [s]).length), (L ++ [s])[j] ≠ t := by
      intro j hj q
      have hm : t ∈ L ++ [s] := q ▸ List.getElem_mem hj
      rcases List.mem_append.1 hm with hm | hm
      · exact e ((idx6_mem t L).2 hm)
      · simp at hm
        exact h hm.symm
    rw [idx6_no t _ hn]
    simp
theorem NumsIs.snoc {D : DataW Unit} {L : List ByteArray} (h : NumsIs D L) (s : ByteArray) (hs : ¬ idx6 s L < L.length) : NumsIs (D.put (kS s) (iE (L.length : Nat))) (L ++ [s]) := by
  obtain ⟨hm, h⟩ := h
  refine ⟨hm.put _ _, fun t => ?_⟩
  by_cases e : s = t
  · subst e
    have hi : idx6 s (L ++ [s]) = L.length := by
      have := (pIntern_idx L s).2
      rw [show pIntern L s = L ++ [s] from if_neg hs] at this
      have hle := idx6_le s L
      omega
    refine ⟨?_, fun _ => ?_⟩
    · rw [has_put_same hm (kS_is s)]
      simp [hi]
    · rw [atKey_put_same hm (kS_is s), hi]
  · have hi := idx6_snoc L s t e
    obtain ⟨h1, h2⟩ := h t
    have hle := idx6_le t L
    rw [has_put_other (kS_ne (fun q => e q.symm)), h1]
    by_cases q : idx6 t L < L.length
    · rw [if_pos q] at hi
      refine ⟨by rw [hi, decide_eq_true q, decide_eq_true (by simp; omega)], fun _ => ?_⟩
      rw [atKey_put_other (kS_ne (fun q => e q.symm)), h2 q, hi]
    · rw [if_neg q] at hi
      refine ⟨by rw [hi, decide_eq_false q, decide_eq_false (by simp)], fun r => ?_⟩
      rw [hi] at r
      simp at r


theorem idx_fd (n : Nd) : ∀ A : List Nd, idx6 (txtB n) (A.map txtB) = fdN A n
  | [] => rfl
  | a :: A => by
    have ih := idx_fd n A
    rw [List.map_cons]
    unfold idx6 fdN
    rw [List.findIdx_cons]
    by_cases e : a = n
    · rw [if_pos (by rw [e]), (sameB_iff a n).2 e]; rfl
    · have hs : sameB a n = false := by
        cases h : sameB a n with
        | false => rfl
        | true => exact absurd ((sameB_iff a n).1 h) e
      rw [if_neg (fun q => e (txtB_inj q)), hs]
      exact congrArg (· + 1) ih

/-- A node whose lists lie where they may. -/
structure NdQ (Q : Nat → Prop) (w : World) (x : Nx) : Prop where
  i : LsQ Q w x.a1 (iV x.nd.ints)
  t : LsQ Q w x.a2 (tV x.nd.texts)
  k : LsQ Q w x.a3 (iV x.nd.kids)
theorem NdQ.fr {Q S : Nat → Prop} {w w' : World} {x : Nx} (h : NdQ Q w x) (k : Fr S w w') (hs : ∀ b, Q b → b < w.heap.size → ¬ S b) : NdQ Q w' x := ⟨h.i.fr k hs, h.t.fr k hs, h.k.fr k hs⟩
theorem NdQ.mono {Q Q' : Nat → Prop} {w : World} {x : Nx} (h : NdQ Q w x) (hs : ∀ b, Q b → b < w.heap.size → Q' b) : NdQ Q' w x := ⟨h.i.mono hs, h.t.mono hs, h.k.mono hs⟩
theorem NdQ.below {Q : Nat → Prop} {w w' : World} {x : Nx} (h : NdQ Q w x) (hb : Below w.heap.size w w') : NdQ Q w' x := ⟨h.i.below hb, h.t.below hb, h.k.below hb⟩
theorem NdQ.ndAt {Q : Nat → Prop} {w : World} {x : Nx} (h : NdQ Q w x) : NdAt w x.nd x.a1 x.a2 x.a3 := ⟨h.i.toAt, h.t.toAt, h.k.toAt⟩

/-- The table's own blocks. -/
def TrS (g gm : Nat) (v : Value) (k : Nat) : Prop := k = g ∨ k = gm ∨ v.ownBlock = some k
def TrQ (S : Nat → Prop) (g gm : Nat) (v : Value) (b : Nat) : Prop := ¬ TrS g gm v b ∧ ¬ S b
/-- The table of trees in block g: its nodes, its map in block gm; the nodes' lists in no block of the table's, and in none of S. -/
structure Tr (S : Nat → Prop) (w : World) (B g gm : Nat) (v : Value) (L : List Nx) : Prop where
  cells : AtN 56 w g #[v, .map (some gm)]
  own : w.ownsRow B 42 4 v L.length (nxV L)
  map : ∃ D, w.ownsMap Tryd.prog 9 (plainElem Tryd.prog 3) gm L.length D ∧ NumsIs D ((L.map Nx.nd).map txtB)
  each : ∀ j, j < L.length → NdQ (TrQ S g gm v) w (L.getD j noNx)
  baseG : B ≤ g
  baseM : B ≤ gm
  gm_ne : gm ≠ g
  row_g : v.ownBlock ≠ some g
  row_m : v.ownBlock ≠ some gm
section
variable {S S' : Nat → Prop} {w w' : World} {B g gm : Nat} {v : Value} {L : List Nx}
theorem Tr.ge (h : Tr S w B g gm v L) : ∀ k, TrS g gm v k → B ≤ k := by
  intro k hk
  rcases hk with rfl | rfl | hk
  · exact h.baseG
  · exact h.baseM
  · exact (h.own.lt k hk).1
theorem Tr.lt (h : Tr S w B g gm v L) : ∀ k, TrS g gm v k → k < w.heap.size := by
  intro k hk
  rcases hk with rfl | rfl | hk
  · exact h.cells.lt
  · obtain ⟨D, h1, _⟩ := h.map; exact h1.lt
  · exact (h.own.lt k hk).2
theorem Tr.fr (h : Tr S w B g gm v L) (k : Fr S' w w') (hs : ∀ i, TrS g gm v i → ¬ S' i) (hq : ∀ b, b < w.heap.size → ¬ S b → ¬ TrS g gm v b → ¬ S' b) : Tr S w' B g gm v L := by
  obtain ⟨D, h1, h2⟩ := h.map
  exact ⟨h.cells.fr k (hs g (.inl rfl)), own_fr h.own k (fun r hr => hs r (.inr (.inr hr))), ⟨D, map_fr h1 k (hs gm (.inr (.inl rfl))), h2⟩, fun j hj => (h.each j hj).fr k (fun b q hb => hq b hb q.2 q.1), h.baseG, h.baseM, h.gm_ne, h.row_g, h.row_m⟩
theorem Tr.below (h : Tr S w B g gm v L) (k : Below w.heap.size w w') : Tr S w' B g gm v L := h.fr (Fr.of_below (S := fun _ => False) k) (fun _ _ q => q) (fun _ _ _ _ q => q)
theorem Tr.avoid (h : Tr S w B g gm v L) (hs : ∀ b, b < w.heap.size → ¬ S b → ¬ TrS g gm v b → ¬ S' b) : Tr S' w B g gm v L := ⟨h.cells, h.own, h.map, fun j hj => (h.each j hj).mono (fun b q hb => ⟨q.1, hs b hb q.2 q.1⟩), h.baseG, h.baseM, h.gm_ne, h.row_g, h.row_m⟩
theorem Tr.scAt {a : Option Addr} {c : Nat} (h : Tr S w B g gm (.slice a L.length c) L) : ScAt w a L := ⟨LsAt.of_own4' h.own, fun i hi => (h.each i hi).ndAt⟩
end

set_option maxRecDepth 10000 in
set_option maxHeartbeats 400000 in
theorem trees_any (S0 : Nat → Prop) (w : World) :
    Calls Tryd.prog 25 #[] w fun e w' => e = .returned (.pointer (some ⟨w.heap.size + 1, 0, none⟩)) ∧ Tr S0 w' w.heap.size (w.heap.size + 1) w.heap.size (.slice none 0 0) [] ∧ Below w.heap.size w w' := by
  have hmm := @run_makeMap Tryd.prog
  go_enter Tryd.func25, Tryd.ntmps25
  go_wp2
  go_ret
  have hm := World.ownsMap_made w Tryd.prog 9 (plainElem (H := Unit) Tryd.prog 3)
  have ha := AtN.new (w.alloc (.map #[] 0)) 56 #[.slice none 0 0, .map (some w.heap.size)]
  rw [show (w.alloc (.map #[] 0)).heap.size = w.heap.size + 1 by simp] at ha
  refine ⟨rfl, ⟨ha, ⟨rfl, .inl ⟨rfl, rfl⟩⟩, ⟨_, hm.alloc _, NumsIs.none⟩, fun j hj => by simp at hj, by omega, Nat.le_refl _, by omega, by simp [Value.ownBlock], by simp [Value.ownBlock]⟩, ((Below.refl _ _).alloc (Nat.le_refl _) _).alloc (by simp) _⟩

end Go.Proofs.YtcdpjaaiojpelaaDoor
namespace Go.Proofs.YtcdpjaaiojpelaaDoor
open Go.RowKit Go.Maps Go.WideMaps Go.Sort

/-- What a call leaves that may add a tree. -/
def TrIn (S : Nat → Prop) (w w' : World) (B g gm : Nat) (v : Value) (A : List Nd) : Prop :=
  ∃ v' L', L'.map Nx.nd = A ∧ Tr S w' B g gm v' L' ∧ Fr (TrS g gm v) w w' ∧ ∀ k, TrS g gm v' k → TrS g gm v k ∨ w.heap.size ≤ k

theorem num_fin {S : Nat → Prop} {w w4 w6 : World} {B g gm g2 cap cap2 : Nat} {ao : Option Addr} {L : List Nx} {x : Nx} {D : DataW Unit} {ob : Obj} (HT : Tr S w B g gm (.slice ao L.length cap) L) (HX : NdQ (TrQ S g gm (.slice ao L.length cap)) w x) (F4 : Fr (TrS g gm (.slice ao L.length cap)) w w4)
    (m4 : w4.ownsMap Tryd.prog 9 (plainElem Tryd.prog 3) gm (L.length + 1) D) (hD : NumsIs D (((L ++ [x]).map Nx.nd).map txtB)) (A6 : AtN 56 w6 g #[.slice ao L.length cap, .map (some gm)])
    (O6 : w6.ownsRow B 42 4 (.slice (some ⟨g2, 0, none⟩) (L.length + 1) cap2) (L.length + 1) (nxV L ++ nxC x)) (G6 : ((w4.alloc ob).drew).grownBy w6 (Value.slice ao L.length cap).ownBlock) (L6 : (Value.slice ao L.length cap).ownBlock = some g2 ∨ g2 = ((w4.alloc ob).drew).heap.size) :
    TrIn S w (w6.setCell ⟨g, 0, none⟩ (.slice (some ⟨g2, 0, none⟩) (L.length + 1) cap2)) B g gm (.slice ao L.length cap) ((L ++ [x]).map Nx.nd) := by
  have hsz : ((w4.alloc ob).drew).heap.size = w4.heap.size + 1 := by simp
  rw [hsz] at L6
  have hs4 := F4.size
  have hg := HT.cells.lt
  have hgm := HT.lt gm (.inr (.inl rfl))
  have g2g : g2 ≠ g := by
    rcases L6 with e | e
    · intro q; subst q; exact HT.row_g e
    · omega
  have g2m : g2 ≠ gm := by
    rcases L6 with e | e
    · intro q; subst q; exact HT.row_m e
    · omega
  have F6 : Fr (TrS g gm (.slice ao L.length cap)) w w6 := ((F4.alloc ob).drew).trans (Fr.of_grown (S := TrS g gm (.slice ao L.length cap)) G6 (fun k hk => .inr (.inr hk))) (fun _ q _ => q)
  have F7 := F6.set ⟨g, 0, none⟩ (.inl rfl) (.slice (some ⟨g2, 0, none⟩) (L.length + 1) cap2)
  have S7 : Fr (fun k => k = g) w6 (w6.setCell ⟨g, 0, none⟩ (.slice (some ⟨g2, 0, none⟩) (L.length + 1) cap2)) := (Fr.refl (fun k => k = g) w6).set ⟨g, 0, none⟩ rfl _
  have m6 : w6.ownsMap Tryd.prog 9 (plainElem Tryd.prog 3) gm (L.length + 1) D := map_fr (map_fr m4 (((Fr.refl (fun _ => False) w4).alloc ob).drew) id) (Fr.of_grown (S := fun k => (Value.slice ao L.length cap).ownBlock = some k) G6 (fun k hk => hk)) HT.row_m
  have hlen : (L ++ [x]).length = L.length + 1 := by simp
  have hE : ∀ y : Nx, NdQ (TrQ S g gm (.slice ao L.length cap)) w y → NdQ (TrQ S g gm (.slice (some ⟨g2, 0, none⟩) (L.length + 1) cap2)) (w6.setCell ⟨g, 0, none⟩ (.slice (some ⟨g2, 0, none⟩) (L.length + 1) cap2)) y := fun y hy => by
    have h1 : NdQ (fun b => TrQ S g gm (.slice ao L.length cap) b ∧ b < w.heap.size) w y := hy.mono (fun b q hb => ⟨q, hb⟩)
    refine (h1.fr F7 (fun b q _ => q.1.1)).mono (fun b q _ => ⟨fun e => ?_, q.1.2⟩)
    rcases e with e | e | e
    · exact q.1.1 (.inl e)
    · exact q.1.1 (.inr (.inl e))
    · simp only [Value.ownBlock, Option.some.injEq] at e
      rcases L6 with e' | e'
      · exact q.1.1 (.inr (.inr (by rw [e', e])))
      · omega
  refine ⟨.slice (some ⟨g2, 0, none⟩) (L.length + 1) cap2, L ++ [x], rfl, ⟨?_, ?_, ⟨D, ?_, hD⟩, fun j hj => ?_, HT.baseG, HT.baseM, HT.gm_ne, by simp [Value.ownBlock]; exact g2g, by simp [Value.ownBlock]; exact g2m⟩, F7, fun k hk => ?_⟩
  · simpa using A6.set 0 (.slice (some ⟨g2, 0, none⟩) (L.length + 1) cap2)
  · rw [hlen, nxV_snoc]
    exact own_fr O6 S7 (fun r hr e => by simp [Value.ownBlock] at hr; omega)
  · rw [hlen]
    exact map_fr m6 S7 HT.gm_ne
  · by_cases e : j < L.length
    · rw [show (L ++ [x]).getD j noNx = L.getD j noNx by rw [List.getD_eq_getElem?_getD, List.getElem?_append_left e, ← List.getD_eq_getElem?_getD]]
      exact hE _ (HT.each j e)
    · rw [show j = L.length by omega, show (L ++ [x]).getD L.length noNx = x by simp]
      exact hE _ HX
  · rcases hk with rfl | rfl | hk
    · exact .inl (.inl rfl)
    · exact .inl (.inr (.inl rfl))
    · simp only [Value.ownBlock, Option.some.injEq] at hk
      subst hk
      rcases L6 with e | e
      · exact .inl (.inr (.inr e))
      · exact .inr (by omega)

set_option maxRecDepth 100000 in
set_option maxHeartbeats 4000000 in
theorem number_any {S : Nat → Prop} {w : World} {B g gm : Nat} {v : Value} {L : List Nx} (h : Tr S w B g gm v L) (x : Nx) (hx : NdQ (TrQ S g gm v) w x) (hg : great x.nd = false) (hr : RgN x.nd) (hL : L.length ≤ 200) (ht : Tab w) :
    Calls Tryd.prog 39 #[.pointer (some ⟨g, 0, none⟩), .agg #[.int .i64 x.nd.kind, .slice x.a1 x.nd.ints.length x.c1, .slice x.a2 x.nd.texts.length x.c2, .slice x.a3 x.nd.kids.length x.c3]] w fun e w' => e = .returned (.int .i64 (fdN (L.map Nx.nd) x.nd : Nat)) ∧ TrIn S w w' B g gm v (addN (L.map Nx.nd) x.nd) := by
  obtain ⟨i0, hi, hz0, hz1, hz2⟩ := info_parts Tryd.infoD9
  obtain ⟨ao, cap, rfl⟩ := own_shape4 h.own
  have hts := txt_size hg hr
  have HA : Hid (∀ o, o = .cells #[.int .i64 x.nd.kind, .slice x.a1 x.nd.ints.length x.c1, .slice x.a2 x.nd.texts.length x.c2, .slice x.a3 x.nd.kids.length x.c3] 42 → AtN 42 (w.alloc o) w.heap.size #[.int .i64 x.nd.kind, .slice x.a1 x.nd.ints.length x.c1, .slice x.a2 x.nd.texts.length x.c2, .slice x.a3 x.nd.kids.length x.c3] ∧ Below w.heap.size w (w.alloc o) ∧ Calls Tryd.prog 50 #[.agg #[.int .i64 x.nd.kind, .slice x.a1 x.nd.ints.length x.c1, .slice x.a2 x.nd.texts.length x.c2, .slice x.a3 x.nd.kids.length x.c3]] (w.alloc o) fun e w' => e = .returned (.string (txtB x.nd)) ∧ Below (w.alloc o).heap.size (w.alloc o) w') := by
    rintro _ rfl
    have hb : Below w.heap.size w (w.alloc (.cells #[.int .i64 x.nd.kind, .slice x.a1 x.nd.ints.length x.c1, .slice x.a2 x.nd.texts.length x.c2, .slice x.a3 x.nd.kids.length x.c3] 42)) := (Below.refl w.heap.size w).alloc (Nat.le_refl _) _
    exact ⟨AtN.new w 42 _, hb, text_any x.nd x.a1 x.a2 x.a3 x.c1 x.c2 x.c3 _ (hx.below hb).ndAt hg hr (ht.on hb)⟩
  have HI : Hid (idx6 (txtB x.nd) ((L.map Nx.nd).map txtB) = fdN (L.map Nx.nd) x.nd ∧ (((L.map Nx.nd).map txtB)).length = L.length) := ⟨idx_fd x.nd (L.map Nx.nd), by simp⟩
  have hlen : (L.map Nx.nd).length = L.length := by simp
  have HX : Hid (NdQ (TrQ S g gm (.slice ao L.length cap)) w x) := hx
  have HT : Hid (Tr S w B g gm (.slice ao L.length cap) L) := h
  clear hx h hg hr ht
  go_enter Tryd.func39, Tryd.ntmps39
  go_wp2_with fail
  obtain ⟨h1, h2, h3⟩ := HA.out _ rfl
  refine Calls.mono h3 ?_
  rintro e w1 ⟨rfl, hb1⟩
  have HB1 : Hid (Below w.heap.size w w1) := h2.trans (hb1.mono h2.size)
  have HN1 : Hid (AtN 42 w1 w.heap.size #[.int .i64 x.nd.kind, .slice x.a1 x.nd.ints.length x.c1, .slice x.a2 x.nd.texts.length x.c2, .slice x.a3 x.nd.kids.length x.c3]) := h1.belowAll hb1
  have HT1 : Hid (Tr S w1 B g gm (.slice ao L.length cap) L) := HT.out.below HB1.out
  clear HA h1 h2 h3 hb1
  have c1 : w1.cell? ⟨g, 1, none⟩ = some (.map (some gm)) := HT1.out.cells.cell 1
  obtain ⟨D, hmap, HD⟩ := HT1.out.map
  obtain ⟨q1, q2⟩ := HD.2 (txtB x.nd)
  rw [HI.out.1, HI.out.2] at q1 q2
  have hkey := kS_key (txtB x.nd) (by unfold maxLen; omega)
  by_cases hlt : fdN (L.map Nx.nd) x.nd < L.length
  · rw [decide_eq_true hlt] at q1
    have h3 : Hid _ := q2 hlt
    have HE : Hid (addN (L.map Nx.nd) x.nd = L.map Nx.nd) := if_pos (by rw [hlen]; exact hlt)
    clear q2 HD
    generalize txtB x.nd = T at *
    go_wp2_with (at_lookup; refine wpList_lookup_own_ok_int _ rfl _ _ 54 rfl 9 3 .i64 lawS6 Tryd.underlying54 Tryd.underlying3 (zeroI6 _) gm L.length D rfl hmap _ _ rfl hkey ?_; intro c hat hwc; obtain rfl : c = (fdN (L.map Nx.nd) x.nd : Nat) := by (have := hat.symm.trans h3.out; injection this with this; injection this))
    go_ret
    refine ⟨rfl, _, L, HE.out.symm, HT1.out, Fr.of_below HB1.out, fun k hk => .inl hk⟩
  · rw [decide_eq_false hlt] at q1
    have hle := fdN_le (L.map Nx.nd) x.nd
    rw [hlen] at hle
    have HE : Hid (addN (L.map Nx.nd) x.nd = (L ++ [x]).map Nx.nd ∧ fdN (L.map Nx.nd) x.nd = L.length) := ⟨by rw [addN, if_neg (by rw [hlen]; exact hlt)]; simp, by omega⟩
    have HD' : Hid (NumsIs (D.put (kS (txtB x.nd)) (iE (L.length : Nat))) (((L ++ [x]).map Nx.nd).map txtB)) := by
      have := HD.snoc (txtB x.nd) (by rw [HI.out.1, HI.out.2]; exact hlt)
      rw [HI.out.2] at this
      show NumsIs _ _
      simpa using this
    have hwf : (Lit.int .i64 (L.length : Nat)).wf = true := WalkArith.wf_i64 (by omega)
    have c0 : w1.cell? ⟨g, 0, none⟩ = some (.slice ao L.length cap) := HT1.out.cells.cell 0
    clear HD q2 hlt hle HI
    generalize txtB x.nd = T at *
    go_wp2_with (first | (at_lookup; refine wpList_lookup_own_ok_int _ rfl _ _ 54 rfl 9 3 .i64 lawS6 Tryd.underlying54 Tryd.underlying3 (zeroI6 _) gm L.length D rfl hmap _ _ rfl hkey ?_; intro c hat hwc; clear hat) | (at_mapUpdate; refine wpList_mapUpdate_own _ rfl _ _ _ 54 rfl 9 3 lawS6 Tryd.underlying54 _ gm L.length D rfl hmap (by unfold maxLen; omega) _ _ _ rfl rfl hkey _ [] (plainElem_int Tryd.underlying3 hwf) ?_))
    intro w4 m4 hgrow4
    have hgw : g < w.heap.size ∧ gm < w.heap.size := ⟨HT.out.cells.lt, HT.out.lt gm (.inr (.inl rfl))⟩
    have A4 := HT1.out.cells.kept hgrow4 (by simp; exact fun e => HT.out.gm_ne e.symm)
    have N4 := HN1.out.kept hgrow4 (by simp; omega)
    have O4 : w4.ownsRow B 42 4 (.slice ao L.length cap) L.length (nxV L) := own_fr HT1.out.own (Fr.of_grown (S := fun k => k = gm) hgrow4 (fun k hk => by cases hk; rfl)) (fun r hr e => HT.out.row_m (by rw [hr, e]))
    have F4 : Fr (TrS g gm (.slice ao L.length cap)) w w4 := (Fr.of_below HB1.out).trans (Fr.of_grown (S := fun k => k = gm) hgrow4 (fun k hk => by cases hk; rfl)) (fun i hi _ => .inr (.inl hi))
    have HF4 : Hid _ := F4
    have HM4 : Hid _ := m4
    have HA4 : Hid _ := A4
    have d0 : w4.cell? ⟨g, 0, none⟩ = some (.slice ao L.length cap) := A4.cell 0
    have u0 : w4.cell? ⟨w.heap.size, 0, none⟩ = some (.int .i64 x.nd.kind) := N4.cell 0
    have u1 : w4.cell? ⟨w.heap.size, 1, none⟩ = some (.slice x.a1 x.nd.ints.length x.c1) := N4.cell 1
    have u2 : w4.cell? ⟨w.heap.size, 2, none⟩ = some (.slice x.a2 x.nd.texts.length x.c2) := N4.cell 2
    have u3 : w4.cell? ⟨w.heap.size, 3, none⟩ = some (.slice x.a3 x.nd.kids.length x.c3) := N4.cell 3
    have hs4 := F4.size
    have hbx4 := N4.lt
    have hBg := HT.out.baseG
    have hg4 : g < w4.heap.size := by omega
    clear A4 N4 F4 m4 hmap c0 c1 hgrow4 HN1
    go_wp2_with fail
    go_region_law (refine step_append_lies _ rfl (.tmp 36) (.tmp 38) 22 rfl B 42 i0 (.agg #[.int .i64 0, .slice none 0 0, .slice none 0 0, .slice none 0 0]) 4 80 Tryd.underlying22 hi hz0 hz1 hz2 rfl (by decide) _ L.length (nxV L) rfl (O4.alloc _).drew ⟨w4.heap.size, 0, none⟩ 1 1 [.int .i64 x.nd.kind, .slice x.a1 x.nd.ints.length x.c1, .slice x.a2 x.nd.texts.length x.c2, .slice x.a3 x.nd.kids.length x.c3] rfl rfl (World.news_of_block (heap_alloc_new w4 _)) (by intro u hu; simp at hu; rcases hu with rfl | rfl | rfl | rfl <;> rfl) (by decide) (by unfold maxLen; omega) (by omega) (by simp; omega) _ rfl ?_; intro g2 cap2 w6 hown6 hgrow6 hlie6 hlt6; have A6 : AtN 56 w6 g #[.slice ao L.length cap, .map (some gm)] := AtN.kept (w := (w4.alloc _).drew) (AtN.alloc HA4.out _) hgrow6 (fun e => HT.out.row_g e.symm); have d6 : w6.cell? ⟨g, 0, none⟩ = some (.slice ao L.length cap) := A6.cell 0; have f6 : w6.frozen? ⟨g, 0, none⟩ = false := A6.fz 0)
    all_goals
      have HA6 : Hid _ := A6
      have HO6 : Hid _ := hown6
      have HG6 : Hid _ := hgrow6
      have HL6 : Hid _ := hlie6
      clear A6 hown6 hgrow6 hlie6 d6 f6 d0 u0 u1 u2 u3
      go_wp2_with fail
      go_ret
      refine ⟨by rw [HE.out.2]; rfl, ?_⟩
      rw [HE.out.1]
      exact num_fin HT.out HX.out HF4.out HM4.out HD'.out HA6.out HO6.out HG6.out HL6.out

end Go.Proofs.YtcdpjaaiojpelaaDoor
namespace Go.Proofs.YtcdpjaaiojpelaaDoor
open Go.RowKit Go.Maps Go.WideMaps Go.Sort

section
variable {S : Nat → Prop} {w : World} {B g gm : Nat} {v : Value} {L : List Nx}
theorem Tr.row_off (h : Tr S w B g gm v L) {B' n sz : Nat} {e : TypeId} {u : Value} {xs : List Value} (hr : w.ownsRow B' e sz u n xs) (h1 : e ≠ 56) (h2 : e ≠ 42) : ∀ r, u.ownBlock = some r → ¬ TrS g gm v r := by
  intro r hu q
  rcases q with rfl | rfl | q
  · exact own_ne_at hr h.cells h1 _ hu rfl
  · obtain ⟨D, ⟨es, clock, m1, _⟩, _⟩ := h.map
    rcases hr.2 with ⟨rfl, _⟩ | ⟨g1, _, cur, rfl, _, r2, _⟩
    · cases hu
    · simp only [Value.ownBlock, Option.some.injEq] at hu
      subst hu
      rw [m1] at r2
      cases r2
  · exact own_apart9 hr h.own h2 hu q
theorem Tr.at_off (h : Tr S w B g gm v L) {T : TypeId} {k : Nat} {cs : Array Value} (ha : AtN T w k cs) (h1 : T ≠ 56) (h2 : v.ownBlock ≠ some k) : ¬ TrS g gm v k := by
  intro q
  have ha' : w.heap[k]? = _ := ha
  rcases q with rfl | rfl | q
  · have : w.heap[k]? = _ := h.cells
    rw [this] at ha'
    injection ha' with ha'
    injection ha' with _ ha'
    exact h1 ha'.symm
  · obtain ⟨D, ⟨es, clock, m1, _⟩, _⟩ := h.map
    rw [m1] at ha'
    cases ha'
  · exact h2 q
theorem Tr.v_ne (h : Tr S w B g gm v L) {T : TypeId} {k : Nat} {cs : Array Value} (ha : AtN T w k cs) (h1 : T ≠ 42) : v.ownBlock ≠ some k := fun q => own_ne_at h.own ha (fun e => h1 e.symm) k q rfl
end

/-- What is still to be written. -/
def AdS (S0 : Nat → Prop) (gq : Nat) (Y : List Nx) (i b : Nat) : Prop := S0 b ∨ b = gq ∨ ∃ j, i ≤ j ∧ j < Y.length ∧ kidB (Y.getD j noNx) = some b
/-- What stays the same. -/
structure AddC (S0 : Nat → Prop) (w : World) (gn gc gq : Nat) (Y : List Nx) : Prop where
  s0 : ∀ b, S0 b → b < w.heap.size
  ge_n : w.heap.size ≤ gn
  ge_c : w.heap.size ≤ gc
  ge_q : w.heap.size ≤ gq
  ap : Aprt Y
  klt : ∀ j, j < Y.length → ∀ q, kidB (Y.getD j noNx) = some q → q < gq ∧ w.heap.size ≤ q
theorem Aprt.ne2 {Y : List Nx} (h : Aprt Y) {i j : Nat} (hi : i < Y.length) (hj : j < Y.length) (hne : i ≠ j) {q : Nat} (h1 : kidB (Y.getD i noNx) = some q) : kidB (Y.getD j noNx) ≠ some q := by
  rcases Nat.lt_or_gt_of_ne hne with e | e
  · exact h i j e hj q h1
  · exact fun h2 => h j i e hi q h2 h1
def nsV (ns : List Nat) (n : Nat) : Array Value := (nV (ns ++ List.replicate (n - ns.length) 0)).toArray
theorem nsV_at {ns : List Nat} {n k : Nat} (h : k < ns.length) : (nsV ns n)[k]? = some (.int .i64 ((ns.getD k 0 : Nat) : Int)) := by
  unfold nsV
  rw [List.getElem?_toArray]
  unfold nV
  rw [List.getElem?_map, List.getElem?_append_left h, List.getElem?_eq_getElem h, List.getD_eq_getElem?_getD, List.getElem?_eq_getElem h]
  rfl
theorem nsV_some {ns : List Nat} {n k : Nat} (h : k < n) : ∃ z : Nat, (nsV ns n)[k]? = some (.int .i64 (z : Int)) := by
  unfold nsV
  rw [List.getElem?_toArray]
  unfold nV
  rw [List.getElem?_map]
  have hl : k < (ns ++ List.replicate (n - ns.length) 0).length := by rw [List.length_append, List.length_replicate]; omega
  rw [List.getElem?_eq_getElem hl]
  exact ⟨_, rfl⟩
theorem nsV_set {ns : List Nat} {n : Nat} (h : ns.length < n) (k : Nat) : (nsV ns n).setIfInBounds ns.length (.int .i64 ((k : Nat) : Int)) = nsV (ns ++ [k]) n := by
  unfold nsV
  rw [List.setIfInBounds_toArray]
  congr 1
  unfold nV
  rw [show (Value.int .i64 ((k : Nat) : Int)) = (fun (k : Nat) => Value.int .i64 (k : Int)) k from rfl, ← List.map_set]
  congr 1
  rw [List.set_append_right _ _ (Nat.le_refl _), Nat.sub_self, List.append_assoc]
  congr 1
  have : n - ns.length = (n - (ns ++ [k]).length) + 1 := by simp; omega
  rw [this, List.replicate_succ]
  rfl

/-- While the nodes are met: those from o on are as Canon made them. -/
structure AddI (S0 : Nat → Prop) (w wr : World) (B g gm : Nat) (v0 v : Value) (L : List Nx) (A0 C : List Nd) (Y : List Nx) (gn gc gq i o : Nat) : Prop where
  tr : Tr (AdS S0 gq Y i) wr B g gm v L
  tab : L.map Nx.nd = (addA A0 (C.take i)).1
  num : AtN 3 wr gq (nsV (addA A0 (C.take i)).2 Y.length)
  nodes : AtN 42 wr gn (nxV Y).toArray
  own : ∀ j, o ≤ j → j < Y.length → OwnNx wr w.heap.size (Y.getD j noNx)
  c : AtN 24 wr gc #[.slice (some ⟨gn, 0, none⟩) Y.length Y.length, .int .i64 ((Y.length : Int) - 1)]
  fr : Fr (TrS g gm v0) w wr
  back : ∀ k, TrS g gm v k → TrS g gm v0 k ∨ w.heap.size ≤ k
  vn : v.ownBlock ≠ some gn
section
variable {S0 : Nat → Prop} {w wr wr' : World} {B g gm : Nat} {v0 v : Value} {L : List Nx} {A0 C : List Nd} {Y : List Nx} {gn gc gq i o : Nat}
theorem AddI.below (h : AddI S0 w wr B g gm v0 v L A0 C Y gn gc gq i o) (hb : Below wr.heap.size wr wr') : AddI S0 w wr' B g gm v0 v L A0 C Y gn gc gq i o :=
  ⟨h.tr.below hb, h.tab, h.num.belowAll hb, h.nodes.belowAll hb, fun j h1 h2 => OwnNd.belowB (h.own j h1 h2) hb, h.c.belowAll hb, h.fr.trans (Fr.of_below (S := fun _ => False) hb) (fun _ q _ => q.elim), h.back, h.vn⟩
theorem AddI.tail (h : AddI S0 w wr B g gm v0 v L A0 C Y gn gc gq i i) : AddI S0 w wr B g gm v0 v L A0 C Y gn gc gq i (i + 1) := ⟨h.tr, h.tab, h.num, h.nodes, fun j h1 h2 => h.own j (by omega) h2, h.c, h.fr, h.back, h.vn⟩
/-- A kid is turned. -/
theorem AddI.store (h : AddI S0 w wr B g gm v0 v L A0 C Y gn gc gq i (i + 1)) (hc : AddC S0 w gn gc gq Y) (hi : i < Y.length) {gx k : Nat} {f : Int → Int} (hT : Tgf wr w.heap.size gx (Y.getD i noNx).nd f k (Y.getD i noNx).a1 (Y.getD i noNx).a2 (Y.getD i noNx).a3 (Y.getD i noNx).c1 (Y.getD i noNx).c2 (Y.getD i noNx).c3) {q : Nat} (hq : (Y.getD i noNx).a3 = some ⟨q, 0, none⟩) (m : Nat) (x : Value) : AddI S0 w (wr.setCell ⟨q, m, none⟩ x) B g gm v0 v L A0 C Y gn gc gq i (i + 1) := by
  have hk : kidB (Y.getD i noNx) = some q := by unfold kidB; rw [hq]; rfl
  have hkr : (Value.slice (Y.getD i noNx).a3 (Y.getD i noNx).nd.kids.length (Y.getD i noNx).c3).ownBlock = some q := hk
  have hqg := hc.klt i hi q hk
  have hoff := h.tr.row_off hT.k (by decide) (by decide) q hkr
  have F : Fr (fun b => b = q) wr (wr.setCell ⟨q, m, none⟩ x) := (Fr.refl (fun b => b = q) wr).set ⟨q, m, none⟩ rfl x
  refine ⟨h.tr.fr F (fun i hi e => by subst e; exact hoff hi) (fun b _ hS _ e => hS (.inr (.inr ⟨i, Nat.le_refl _, hi, by rw [hk, e]⟩))), h.tab, h.num.fr F (by omega), h.nodes.fr F (fun e => own_ne_at hT.k h.nodes (by decide) q hkr e.symm), fun j h1 h2 => ?_, h.c.fr F (fun e => own_ne_at hT.k h.c (by decide) q hkr e.symm), h.fr.trans F (fun b e hb => by omega), h.back, h.vn⟩
  have hO := h.own j h1 h2
  refine ⟨own_fr hO.i F (fun r hr e => own_apart9 hT.k hO.i (by decide) hkr (by rw [hr, e])), own_fr hO.t F (fun r hr e => own_apart9 hT.k hO.t (by decide) hkr (by rw [hr, e])), own_fr hO.k F (fun r hr e => ?_)⟩
  exact hc.ap.ne2 hi h2 (by omega) hk (by rw [← e]; exact hr)
theorem AddI.drew (h : AddI S0 w wr B g gm v0 v L A0 C Y gn gc gq i o) : AddI S0 w wr.drew B g gm v0 v L A0 C Y gn gc gq i o := h.below ⟨rfl, rfl, rfl, Nat.le_refl _, fun _ _ => rfl⟩
/-- All kids of the node are turned. -/
theorem AddI.turned (h : AddI S0 w wr B g gm v0 v L A0 C Y gn gc gq i (i + 1)) (hc : AddC S0 w gn gc gq Y) (hi : i < Y.length) {gx : Nat} {f : Int → Int} (hT : Tgf wr w.heap.size gx (Y.getD i noNx).nd f (Y.getD i noNx).nd.kids.length (Y.getD i noNx).a1 (Y.getD i noNx).a2 (Y.getD i noNx).a3 (Y.getD i noNx).c1 (Y.getD i noNx).c2 (Y.getD i noNx).c3) :
    AddI S0 w wr B g gm v0 v L A0 C Y gn gc gq i (i + 1) ∧ Tr (AdS S0 gq Y (i + 1)) wr B g gm v L ∧ NdQ (TrQ (AdS S0 gq Y (i + 1)) g gm v) wr (renNx f (Y.getD i noNx).nd (Y.getD i noNx).a1 (Y.getD i noNx).a2 (Y.getD i noNx).a3 (Y.getD i noNx).c1 (Y.getD i noNx).c2 (Y.getD i noNx).c3) := by
  refine ⟨h, h.tr.avoid (fun b _ hS _ q => hS ?_), ?_⟩
  · rcases q with q | q | ⟨j, h1, h2, h3⟩
    · exact .inl q
    · exact .inr (.inl q)
    · exact .inr (.inr ⟨j, by omega, h2, h3⟩)
  · have hO := hT.own
    have hno : ∀ {e : TypeId} {u : Value} {n : Nat} {xs : List Value}, wr.ownsRow w.heap.size e 1 u n xs → e ≠ 3 → ∀ b, u.ownBlock = some b → ¬ AdS S0 gq Y (i + 1) b := fun hr he b hb q => by
      rcases q with q | q | ⟨j, h1, h2, h3⟩
      · have := hc.s0 b q
        have := (hr.lt b hb).1
        omega
      · exact own_ne_at hr h.num he b hb q
      · exact own_apart9 hr (h.own j h1 h2).k he hb h3
    refine ⟨(LsQ.of_own hT.i).mono (fun b q _ => ⟨h.tr.row_off hT.i (by decide) (by decide) b q, hno hT.i (by decide) b q⟩), (LsQ.of_own hT.t).mono (fun b q _ => ⟨h.tr.row_off hT.t (by decide) (by decide) b q, hno hT.t (by decide) b q⟩), ?_⟩
    have hk3 := hT.k
    rw [tkf_all] at hk3
    have : LsQ (fun b => (Value.slice (Y.getD i noNx).a3 (Y.getD i noNx).nd.kids.length (Y.getD i noNx).c3).ownBlock = some b) wr (Y.getD i noNx).a3 (iV ((Y.getD i noNx).nd.kids.map f)) := LsQ.of_own hk3
    refine LsQ.mono this (fun b q _ => ⟨h.tr.row_off hk3 (by decide) (by decide) b q, fun e => ?_⟩)
    rcases e with e | e | ⟨j, h1, h2, h3⟩
    · have := hc.s0 b e
      have := hc.klt i hi b q
      omega
    · have := hc.klt i hi b q
      omega
    · exact hc.ap.ne2 hi h2 (by omega) q h3
/-- The node has its number, and it is noted. -/
theorem AddI.next {L' : List Nx} {v' : Value} {w2 : World} (h : AddI S0 w wr B g gm v0 v L A0 C Y gn gc gq i (i + 1)) (hc : AddC S0 w gn gc gq Y) (hi : i < Y.length) (hC : C.length = Y.length) (hb : (addA A0 (C.take i)).2.length = i)
    (h1 : L'.map Nx.nd = addN (L.map Nx.nd) (rnN (addA A0 (C.take i)).2 (atN C i))) (h2 : Tr (AdS S0 gq Y (i + 1)) w2 B g gm v' L') (h3 : Fr (TrS g gm v) wr w2) (h4 : ∀ k, TrS g gm v' k → TrS g gm v k ∨ wr.heap.size ≤ k) :
    AddI S0 w (w2.setCell ⟨gq, i, none⟩ (.int .i64 (fdN (L.map Nx.nd) (rnN (addA A0 (C.take i)).2 (atN C i)) : Nat))) B g gm v0 v' L' A0 C Y gn gc gq (i + 1) (i + 1) := by
  have hs := h.fr.size
  have off_q : ¬ TrS g gm v gq := h.tr.at_off h.num (by decide) (h.tr.v_ne h.num (by decide))
  have off_n : ¬ TrS g gm v gn := h.tr.at_off h.nodes (by decide) h.vn
  have off_c : ¬ TrS g gm v gc := h.tr.at_off h.c (by decide) (h.tr.v_ne h.c (by decide))
  have n2 := h.num.fr h3 off_q
  have F : Fr (fun b => b = gq) w2 (w2.setCell ⟨gq, i, none⟩ (.int .i64 (fdN (L.map Nx.nd) (rnN (addA A0 (C.take i)).2 (atN C i)) : Nat))) := (Fr.refl (fun b => b = gq) w2).set ⟨gq, i, none⟩ rfl _
  have hq2 : ¬ TrS g gm v' gq := fun q => by
    rcases h4 gq q with q | q
    · exact off_q q
    · have := h.num.lt; omega
  have hA : addA A0 (C.take (i + 1)) = addS (addA A0 (C.take i)) (atN C i) := addA_take (by omega)
  refine ⟨h2.fr F (fun k hk e => by subst e; exact hq2 hk) (fun b _ hS _ e => hS (.inr (.inl e))), ?_, ?_, ?_, fun j g1 g2 => ?_, ?_, ?_, fun k hk => ?_, fun e => ?_⟩
  · rw [hA, h1, h.tab]; rfl
  · have := n2.set i (.int .i64 (fdN (L.map Nx.nd) (rnN (addA A0 (C.take i)).2 (atN C i)) : Nat))
    rw [hA]
    simp only [addS]
    rw [← nsV_set (by omega), hb, ← h.tab]
    exact this
  · exact (h.nodes.fr h3 off_n).fr F (fun e => by
      have n1 : wr.heap[gn]? = _ := h.nodes
      have n2 : wr.heap[gq]? = _ := h.num
      rw [e, n2] at n1
      injection n1 with n1
      injection n1 with _ n1
      exact absurd n1 (by decide))
  · have hO := h.own j g1 g2
    have h3' : OwnNx w2 w.heap.size (Y.getD j noNx) := ⟨own_fr hO.i h3 (h.tr.row_off hO.i (by decide) (by decide)), own_fr hO.t h3 (h.tr.row_off hO.t (by decide) (by decide)), own_fr hO.k h3 (h.tr.row_off hO.k (by decide) (by decide))⟩
    exact ⟨own_fr h3'.i F (fun r hr e => own_ne_at hO.i h.num (by decide) r hr e), own_fr h3'.t F (fun r hr e => own_ne_at hO.t h.num (by decide) r hr e), own_fr h3'.k F (fun r hr e => by have := hc.klt j g2 r hr; omega)⟩
  · exact (h.c.fr h3 off_c).fr F (fun e => by
      have n1 : wr.heap[gc]? = _ := h.c
      have n2 : wr.heap[gq]? = _ := h.num
      rw [e, n2] at n1
      injection n1 with n1
      injection n1 with _ n1
      exact absurd n1 (by decide))
  · have hge := hc.ge_q
    refine (h.fr.trans h3 (fun b q hb => ?_)).trans F (fun b e hb => by omega)
    rcases h.back b q with q | q
    · exact q
    · omega
  · rcases h4 k hk with q | q
    · exact h.back k q
    · exact .inr (by omega)
  · rcases h4 gn (.inr (.inr e)) with q | q
    · exact off_n q
    · have := h.nodes.lt; omega
end

end Go.Proofs.YtcdpjaaiojpelaaDoor
namespace Go.Proofs.YtcdpjaaiojpelaaDoor
open Go.RowKit Go.Maps Go.WideMaps Go.Sort

/-- What add leaves. -/
def AddOut (S0 : Nat → Prop) (X : List Nx) (r : Int) (B g gm : Nat) (v : Value) (A0 : List Nd) (w w' : World) (e : Ending) : Prop :=
  (RightIs X r → ∃ v' L', e = .returned (.tuple #[.int .i64 ((addA A0 (cX X r)).2.getD (X.length - 1) 0 : Nat), .int .i64 0]) ∧ List.map Nx.nd L' = (addA A0 (cX X r)).1 ∧ Tr S0 w' B g gm v' L' ∧ ∀ k, TrS g gm v' k → TrS g gm v k ∨ w.heap.size ≤ k) ∧
  (¬ RightIs X r → ∃ n z, e = .returned (.tuple #[.int .i64 0, .int .i64 n]) ∧ CheckIs X r n z ∧ n ≠ 0) ∧ Fr (TrS g gm v) w w'
/-- Numbers of the machine's, of a scene. -/
def RgX (X : List Nx) : Prop := ∀ i, i < X.length → RgN (X.getD i noNx).nd
theorem RgX.ren {X Y : List Nx} {p : Nat → Nat} (h : RgX X) (hr : Ren X Y p) (hok : ∀ i, i < X.length → okAt X i) (hX : X.length ≤ 61) : RgX Y := by
  intro j hj
  rw [hr.len] at hj
  obtain ⟨i, hi, rfl⟩ := hr.per.onto j hj
  rw [hr.nd i hi]
  have := h i hi
  refine ⟨this.kind, this.ints, fun k hk => ?_⟩
  simp only [renNd] at hk
  obtain ⟨z, hz, rfl⟩ := List.mem_map.1 hk
  have h1 := kid_place hok hi hz
  have h2 := hr.per.lt _ h1.2
  exact inR_nat (by omega)
theorem rnN_rg {N : Nd} (h : RgN N) (ns : List Nat) (hn : ∀ k, ns.getD k 0 < 1000) : RgN (rnN ns N) := by
  refine ⟨h.kind, h.ints, fun k hk => ?_⟩
  simp only [rnN, renNd] at hk
  obtain ⟨z, hz, rfl⟩ := List.mem_map.1 hk
  have := hn z.toNat
  exact inR_nat (by omega)
theorem nsV_new (n : Nat) : madeCells (Value.int .i64 0).cells (n * 1) = nsV [] n := by
  rw [fillL_new 0 n]
  simp [nsV, fillL, nV]

set_option maxRecDepth 100000 in
set_option maxHeartbeats 4000000 in
theorem add_any {S0 : Nat → Prop} {B g gm : Nat} {v : Value} {L : List Nx} (X : List Nx) (a : Option Addr) (c : Nat) (r : Int) (w : World) (h : ScAt w a X) (hX : Small X) (hrg : RgX X) (ht : Tr S0 w B g gm v L) (hnd : (L.map Nx.nd).Nodup) (hdn : Dn (L.map Nx.nd)) (hB : B ≤ w.heap.size) (hT : TabB B w) (hL : L.length ≤ 100) (hS0 : ∀ b, S0 b → b < w.heap.size) :
    Calls Tryd.prog 26 #[.pointer (some ⟨g, 0, none⟩), .agg #[.slice a X.length c, .int .i64 r]] w fun e w' => AddOut S0 X r B g gm v (L.map Nx.nd) w w' e := by
  obtain ⟨i0, hi0, hz0, hz1, hz2⟩ := info_parts Tryd.infoI7
  have hn := hX.1
  have HS : Hid (ScAt w a X ∧ Small X ∧ RgX X ∧ (L.map Nx.nd).Nodup ∧ Dn (L.map Nx.nd) ∧ TabB B w) := ⟨h, hX, hrg, hnd, hdn, hT⟩
  have HT : Hid (Tr S0 w B g gm v L) := ht
  have HC : Hid (∀ o, o = .cells #[.slice a X.length c, .int .i64 r] 24 → Below w.heap.size w (w.alloc o) ∧ Calls Tryd.prog 22 #[.agg #[.slice a X.length c, .int .i64 r]] (w.alloc o) fun e w' => CanonOut2 X r (w.alloc o) w' e) := by
    rintro _ rfl
    exact ⟨(Below.refl w.heap.size w).alloc (Nat.le_refl _) _, canon2_any X a c r _ (h.alloc _) hX⟩
  have HS0 : Hid (∀ b, S0 b → b < w.heap.size) := hS0
  clear h hX hrg ht hnd hdn hT hS0
  go_enter Tryd.func26, Tryd.ntmps26
  go_wp2_with fail
  obtain ⟨hb0, hc0⟩ := HC.out _ rfl
  refine Calls.mono hc0 ?_
  rintro e w1 hC
  have HB1 : Hid (Below w.heap.size w w1) := hb0.trans (hC.2.2.mono hb0.size)
  have hsz0 : (w.alloc (.cells #[.slice a X.length c, .int .i64 r] 24)).heap.size = w.heap.size + 1 := by simp
  have hs1 : w.heap.size + 1 ≤ w1.heap.size := by have := hC.2.2.size; rw [hsz0] at this; exact this
  by_cases hR : RightIs X r
  · obtain ⟨Y, gn, rfl, hY, hO⟩ := hC.1 hR
    have hYl : Y.length = X.length := (can_ren hR hY).len
    rw [hsz0] at hO
    have HO : Hid (OwnSc w1 (w.heap.size + 1) gn Y) := hO
    have HY : Hid (RightIs X r ∧ Y.map Nx.nd = cX X r ∧ Y.length = X.length) := ⟨hR, hY, hYl⟩
    rw [← hYl] at hn
    have hX1 : ((X.length : Int) - 1) = ((Y.length : Int) - 1) := by omega
    rw [hX1]
    clear hC hO hc0 hb0 HC hX1 hY hR hYl
    have hmk : (Instr.makeSlice 38 (.int .i64 (Y.length : Int)) (.int .i64 (Y.length : Int))).run Tryd.prog (w1.alloc (.cells #[.slice (some ⟨gn, 0, none⟩) Y.length Y.length, .int .i64 ((Y.length : Int) - 1)] 24)) = .ok (.slice (some ⟨w1.heap.size + 1, 0, none⟩) Y.length Y.length) ((w1.alloc (.cells #[.slice (some ⟨gn, 0, none⟩) Y.length Y.length, .int .i64 ((Y.length : Int) - 1)] 24)).alloc (.cells (nsV [] Y.length) 3)) := by
      have := run_make (P := Tryd.prog) (w1.alloc (.cells #[.slice (some ⟨gn, 0, none⟩) Y.length Y.length, .int .i64 ((Y.length : Int) - 1)] 24)) 38 3 i0 (.int .i64 0) Tryd.underlying38 hi0 hz0 .i64 .i64 Y.length Y.length (by omega) (by omega) (by rw [hz2]; omega) (by omega)
      rw [hz1, Int.toNat_natCast, nsV_new] at this
      simpa using this
    have HK : Hid (AddC S0 w gn w1.heap.size (w1.heap.size + 1) Y) := ⟨HS0.out, by have := HO.out.ge; omega, by omega, by omega, HO.out.ap, fun j hj q hq => by have := (HO.out.own j hj).k.lt q hq; omega⟩
    have HI0 : Hid (∀ W, W = (w1.alloc (.cells #[.slice (some ⟨gn, 0, none⟩) Y.length Y.length, .int .i64 ((Y.length : Int) - 1)] 24)).alloc (.cells (nsV [] Y.length) 3) → AddI S0 w W B g gm v v L (L.map Nx.nd) (cX X r) Y gn w1.heap.size (w1.heap.size + 1) 0 0) := by
      rintro _ rfl
      have hb : Below w1.heap.size w1 ((w1.alloc (.cells #[.slice (some ⟨gn, 0, none⟩) Y.length Y.length, .int .i64 ((Y.length : Int) - 1)] 24)).alloc (.cells (nsV [] Y.length) 3)) := ((Below.refl w1.heap.size w1).alloc (Nat.le_refl _) _).alloc (by simp) _
      have hbw := HB1.out.trans (hb.mono HB1.out.size)
      have htr : Tr (AdS S0 (w1.heap.size + 1) Y 0) w B g gm v L := HT.out.avoid (fun b hb hno _ q => by
        rcases q with q | q | ⟨j, _, hj, hq⟩
        · exact hno q
        · omega
        · have := HK.out.klt j hj b hq; omega)
      refine ⟨htr.below hbw, rfl, mk_at (AtN.new (w1.alloc _) 3 _) (show _ = w1.heap.size + 1 by simp), HO.out.nodes.belowAll hb, fun j _ hj => ((OwnNd.belowB (HO.out.own j hj) hb)).mono (by omega), (AtN.new w1 24 _).alloc _, Fr.of_below hbw, fun k hk => .inl hk, fun e => ?_⟩
      have := HT.out.lt gn (.inr (.inr e))
      have := HO.out.ge
      omega
    clear HO hs1
    go_wp2_with fail
    clear hmk
    go_loopw [28] (fun iv wr => ∃ (i : Nat) (v' : Value) (L' : List Nx), iv = .int .i64 i ∧ i ≤ Y.length ∧ Hid (AddI S0 w wr B g gm v v' L' (L.map Nx.nd) (cX X r) Y gn w1.heap.size (w1.heap.size + 1) i i)) (fun iv _ => Y.length - (intOf iv).toNat)
    case atStart => exact ⟨0, v, L, rfl, by omega, HI0.out _ rfl⟩
    case round =>
      clear HI0
      obtain ⟨i, v', L', rfl, hi, HI⟩ := hrel
      have HP : Hid (Dn (cX X r) ∧ (cX X r).length = Y.length ∧ TbI (L.map Nx.nd) (addA (L.map Nx.nd) ((cX X r).take i)).1 (addA (L.map Nx.nd) ((cX X r).take i)).2 (cX X r) i) := by
        have hl : (cX X r).length = Y.length := by rw [cX_len HY.out.1, HY.out.2.2]
        have hd := (cX_cn HY.out.1).dn
        exact ⟨hd, hl, addA_is HS.out.2.2.2.1 HS.out.2.2.2.2.1 hd i (by omega)⟩
      by_cases hlt : i < Y.length
      · have hlt' : (i : Int) < Y.length := by omega
        have d0 : wr.cell? ⟨gn, i * 4, none⟩ = some (.int .i64 (Y.getD i noNx).nd.kind) := (HI.out.nodes.cell _).trans (nxV_at' Y i 0 hlt (by omega))
        have d1 : wr.cell? ⟨gn, i * 4 + 1, none⟩ = some (.slice (Y.getD i noNx).a1 (Y.getD i noNx).nd.ints.length (Y.getD i noNx).c1) := (HI.out.nodes.cell _).trans (nxV_at' Y i 1 hlt (by omega))
        have d2 : wr.cell? ⟨gn, i * 4 + 2, none⟩ = some (.slice (Y.getD i noNx).a2 (Y.getD i noNx).nd.texts.length (Y.getD i noNx).c2) := (HI.out.nodes.cell _).trans (nxV_at' Y i 2 hlt (by omega))
        have d3 : wr.cell? ⟨gn, i * 4 + 3, none⟩ = some (.slice (Y.getD i noNx).a3 (Y.getD i noNx).nd.kids.length (Y.getD i noNx).c3) := (HI.out.nodes.cell _).trans (nxV_at' Y i 3 hlt (by omega))
        obtain ⟨u, hu⟩ : ∃ u, u = wr := ⟨_, rfl⟩
        subst hu
        obtain ⟨ns, hns⟩ : ∃ ns, ns = (addA (L.map Nx.nd) ((cX X r).take i)).2 := ⟨_, rfl⟩
        have HNS : Hid (ns = (addA (L.map Nx.nd) ((cX X r).take i)).2 ∧ ns.length = i) := ⟨hns, by rw [hns]; exact HP.out.2.2.len⟩
        clear hns
        have HT0 : Hid (∀ W, W = u.alloc (.cells #[.int .i64 (Y.getD i noNx).nd.kind, .slice (Y.getD i noNx).a1 (Y.getD i noNx).nd.ints.length (Y.getD i noNx).c1, .slice (Y.getD i noNx).a2 (Y.getD i noNx).nd.texts.length (Y.getD i noNx).c2, .slice (Y.getD i noNx).a3 (Y.getD i noNx).nd.kids.length (Y.getD i noNx).c3] 42) → Tgf W w.heap.size u.heap.size (Y.getD i noNx).nd (fun z => ((ns.getD z.toNat 0 : Nat) : Int)) 0 (Y.getD i noNx).a1 (Y.getD i noNx).a2 (Y.getD i noNx).a3 (Y.getD i noNx).c1 (Y.getD i noNx).c2 (Y.getD i noNx).c3 ∧ AddI S0 w W B g gm v v' L' (L.map Nx.nd) (cX X r) Y gn w1.heap.size (w1.heap.size + 1) i (i + 1)) := by
          rintro _ rfl
          have hb : Below u.heap.size u (u.alloc (.cells #[.int .i64 (Y.getD i noNx).nd.kind, .slice (Y.getD i noNx).a1 (Y.getD i noNx).nd.ints.length (Y.getD i noNx).c1, .slice (Y.getD i noNx).a2 (Y.getD i noNx).nd.texts.length (Y.getD i noNx).c2, .slice (Y.getD i noNx).a3 (Y.getD i noNx).nd.kids.length (Y.getD i noNx).c3] 42)) := (Below.refl u.heap.size u).alloc (Nat.le_refl _) _
          have hO := HI.out.own i (Nat.le_refl _) hlt
          exact ⟨⟨AtN.new u 42 _, hO.i.alloc _, hO.t.alloc _, by rw [tkf_zero]; exact hO.k.alloc _⟩, (HI.out.below hb).tail⟩
        have HSt : Hid (∀ w2 k q m x, Tgf w2 w.heap.size u.heap.size (Y.getD i noNx).nd (fun z => ((ns.getD z.toNat 0 : Nat) : Int)) k (Y.getD i noNx).a1 (Y.getD i noNx).a2 (Y.getD i noNx).a3 (Y.getD i noNx).c1 (Y.getD i noNx).c2 (Y.getD i noNx).c3 → (Y.getD i noNx).a3 = some ⟨q, 0, none⟩ → AddI S0 w w2 B g gm v v' L' (L.map Nx.nd) (cX X r) Y gn w1.heap.size (w1.heap.size + 1) i (i + 1) → AddI S0 w (w2.setCell ⟨q, m, none⟩ x).drew B g gm v v' L' (L.map Nx.nd) (cX X r) Y gn w1.heap.size (w1.heap.size + 1) i (i + 1)) := fun w2 k q m x h1 h2 h3 => (h3.store HK.out hlt h1 h2 m x).drew
        have HKd : Hid (∀ k, k < (Y.getD i noNx).nd.kids.length → ∃ m : Nat, (Y.getD i noNx).nd.kids.getD k 0 = (m : Int) ∧ m < i) := fun k hk => by
          have e : (Y.getD i noNx).nd = atN (cX X r) i := by rw [← nds_atN, HY.out.2.1]
          rw [e] at hk ⊢
          have := HP.out.1.kid (i := i) (by rw [HP.out.2.1]; exact hlt) hk
          exact ⟨_, this.2.symm, this.1⟩
        have HE : Hid (∀ w2, Tgf w2 w.heap.size u.heap.size (Y.getD i noNx).nd (fun z => ((ns.getD z.toNat 0 : Nat) : Int)) (Y.getD i noNx).nd.kids.length (Y.getD i noNx).a1 (Y.getD i noNx).a2 (Y.getD i noNx).a3 (Y.getD i noNx).c1 (Y.getD i noNx).c2 (Y.getD i noNx).c3 → AddI S0 w w2 B g gm v v' L' (L.map Nx.nd) (cX X r) Y gn w1.heap.size (w1.heap.size + 1) i (i + 1) →
            Calls Tryd.prog 39 #[.pointer (some ⟨g, 0, none⟩), .agg #[.int .i64 (Y.getD i noNx).nd.kind, .slice (Y.getD i noNx).a1 (Y.getD i noNx).nd.ints.length (Y.getD i noNx).c1, .slice (Y.getD i noNx).a2 (Y.getD i noNx).nd.texts.length (Y.getD i noNx).c2, .slice (Y.getD i noNx).a3 (Y.getD i noNx).nd.kids.length (Y.getD i noNx).c3]] w2 fun e w' => ∃ m z : Nat, e = .returned (.int .i64 (m : Int)) ∧ w'.cell? ⟨w1.heap.size + 1, i, none⟩ = some (.int .i64 (z : Int)) ∧ w'.frozen? ⟨w1.heap.size + 1, i, none⟩ = false ∧ w1.heap.size + 1 < w'.heap.size ∧ ∃ v2 L2, AddI S0 w (w'.setCell ⟨w1.heap.size + 1, i, none⟩ (.int .i64 (m : Int))) B g gm v v2 L2 (L.map Nx.nd) (cX X r) Y gn w1.heap.size (w1.heap.size + 1) (i + 1) (i + 1)) := fun w2 h1 h2 => by
          obtain ⟨h3, h4, h5⟩ := h2.turned HK.out hlt h1
          have hnd : (renNx (fun z => ((ns.getD z.toNat 0 : Nat) : Int)) (Y.getD i noNx).nd (Y.getD i noNx).a1 (Y.getD i noNx).a2 (Y.getD i noNx).a3 (Y.getD i noNx).c1 (Y.getD i noNx).c2 (Y.getD i noNx).c3).nd = rnN (addA (L.map Nx.nd) ((cX X r).take i)).2 (atN (cX X r) i) := by
            rw [← HNS.out.1, ← HY.out.2.1, nds_atN]
            rfl
          have hren := can_ren HY.out.1 HY.out.2.1
          have hsm := hren.small HS.out.2.1
          have hrg := HS.out.2.2.1.ren hren HY.out.1.2.1 HS.out.2.1.1
          have hll : L'.length ≤ 200 := by
            have h6 := congrArg List.length h2.tab
            rw [List.length_map] at h6
            have := HP.out.2.2.few
            rw [List.length_map] at this
            omega
          have hlt2 : ∀ k, ns.getD k 0 < 1000 := fun k => by
            by_cases hk : k < i
            · have h7 := HP.out.2.2.lt k hk
              rw [← HNS.out.1] at h7
              have := HP.out.2.2.few
              rw [List.length_map] at this
              omega
            · have : ns.getD k 0 = 0 := by
                have h8 := HNS.out.2
                rw [List.getD_eq_getElem?_getD, List.getElem?_eq_none (by omega)]
                rfl
              omega
          have hkl : (renNx (fun z => ((ns.getD z.toNat 0 : Nat) : Int)) (Y.getD i noNx).nd (Y.getD i noNx).a1 (Y.getD i noNx).a2 (Y.getD i noNx).a3 (Y.getD i noNx).c1 (Y.getD i noNx).c2 (Y.getD i noNx).c3).nd.kids.length = (Y.getD i noNx).nd.kids.length := by simp [renNx, renNd]
          have hbB : Below B w w2 := Fr.below (Below.refl B w) h2.fr HT.out.ge hB
          have hcall := number_any h4 (renNx (fun z => ((ns.getD z.toNat 0 : Nat) : Int)) (Y.getD i noNx).nd (Y.getD i noNx).a1 (Y.getD i noNx).a2 (Y.getD i noNx).a3 (Y.getD i noNx).c1 (Y.getD i noNx).c2 (Y.getD i noNx).c3) h5 (by show great (renNd _ _) = false; rw [renNd_great]; exact hsm.2 i hlt) (rnN_rg (hrg i hlt) ns hlt2) hll (HS.out.2.2.2.2.2.on hbB).tab
          rw [hkl] at hcall
          refine Calls.mono hcall ?_
          rintro e w' ⟨rfl, v2, L2, q1, q2, q3, q4⟩
          rw [hnd] at q1
          rw [hnd]
          have off_q : ¬ TrS g gm v' (w1.heap.size + 1) := h2.tr.at_off h2.num (by decide) (h2.tr.v_ne h2.num (by decide))
          have n2 := h2.num.fr q3 off_q
          obtain ⟨z, hz⟩ := nsV_some (ns := (addA (L.map Nx.nd) ((cX X r).take i)).2) hlt
          exact ⟨_, z, rfl, (n2.cell i).trans hz, n2.fz i, n2.lt, v2, L2, h2.next HK.out hlt HP.out.2.1 HP.out.2.2.len q1 q2 q3 q4⟩
        have HQ : Hid (∀ w2 m, m < i → AddI S0 w w2 B g gm v v' L' (L.map Nx.nd) (cX X r) Y gn w1.heap.size (w1.heap.size + 1) i (i + 1) → w2.cell? ⟨w1.heap.size + 1, m, none⟩ = some (.int .i64 ((ns.getD m 0 : Nat) : Int))) := fun w2 m hm h => by
          rw [(h.num.cell m), ← HNS.out.1]
          exact nsV_at (by rw [HNS.out.2]; exact hm)
        have hk3 : (Y.getD i noNx).nd.kids.length ≤ 300 := ((can_ren HY.out.1 HY.out.2.1).small HS.out.2.1).kids hlt
        clear HI HP HNS HT HY HS HK
        generalize Y.getD i noNx = N at *
        obtain ⟨N, a1, c1, a2, c2, a3, c3⟩ := N
        have hk4 : N.kids.length ≤ 300 := hk3
        clear hk3
        go_wp2_with fail
        go_loopw [36] (fun kv w2 => ∃ k : Nat, kv = .int .i64 k ∧ k ≤ N.kids.length ∧ Hid (Tgf w2 w.heap.size u.heap.size N (fun z => ((ns.getD z.toNat 0 : Nat) : Int)) k a1 a2 a3 c1 c2 c3) ∧ Hid (AddI S0 w w2 B g gm v v' L' (L.map Nx.nd) (cX X r) Y gn w1.heap.size (w1.heap.size + 1) i (i + 1))) (fun kv _ => N.kids.length - (intOf kv).toNat)
        case atStart =>
          obtain ⟨t1, t2⟩ := HT0.out _ rfl
          exact ⟨0, rfl, by omega, t1, t2⟩
        case round =>
          clear HT0 d0 d1 d2 d3
          obtain ⟨k, rfl, hk, HT, HI⟩ := hrel
          by_cases hkl : k < N.kids.length
          · have hkl' : (k : Int) < N.kids.length := by omega
            have y3 : wr.cell? ⟨u.heap.size, 3, none⟩ = some (.slice a3 N.kids.length c3) := HT.out.nd.cell 3
            obtain ⟨q, rfl, e1, e2, e3, e4, hT2⟩ := HT.out.next hkl
            obtain ⟨m, hm, hmi⟩ := HKd.out k hkl
            have hmn' : (m : Int) < Y.length := by omega
            have hmn : m < Y.length := by omega
            have p0 := HQ.out wr m hmi HI.out
            have hm' : N.kids.getD k 0 = (m : Int) := hm
            rw [hm'] at e1 hT2
            rw [Int.toNat_natCast] at hT2
            have hgl := HI.out.num.lt
            have HT2 : Hid (Tgf ((wr.setCell ⟨q, k, none⟩ (.int .i64 ((ns.getD m 0 : Nat) : Int))).drew) w.heap.size u.heap.size N (fun z => ((ns.getD z.toNat 0 : Nat) : Int)) (k + 1) a1 a2 (some ⟨q, 0, none⟩) c1 c2 c3 ∧ AddI S0 w (wr.setCell ⟨q, k, none⟩ (.int .i64 ((ns.getD m 0 : Nat) : Int))).drew B g gm v v' L' (L.map Nx.nd) (cX X r) Y gn w1.heap.size (w1.heap.size + 1) i (i + 1)) := ⟨hT2.drew, HSt.out wr k q k _ HT.out rfl HI.out⟩
            generalize ((ns.getD m 0 : Nat) : Int) = pm at *
            clear HT HI hT2 hm hm' HSt HE HQ HKd
            go_wp2_with fail
            go_region
            go_wp2_with fail
            go_roundw
            case rel => exact ⟨k + 1, by go_num, by omega, HT2.out.1, HT2.out.2⟩
            case measure => simp [intOf]; omega
          · have hkl' : ¬ (k : Int) < N.kids.length := by omega
            obtain rfl : k = N.kids.length := by omega
            have y0 : wr.cell? ⟨u.heap.size, 0, none⟩ = some (.int .i64 N.kind) := HT.out.nd.cell 0
            have y1 : wr.cell? ⟨u.heap.size, 1, none⟩ = some (.slice a1 N.ints.length c1) := HT.out.nd.cell 1
            have y2 : wr.cell? ⟨u.heap.size, 2, none⟩ = some (.slice a2 N.texts.length c2) := HT.out.nd.cell 2
            have y3 : wr.cell? ⟨u.heap.size, 3, none⟩ = some (.slice a3 N.kids.length c3) := HT.out.nd.cell 3
            have HC : Hid _ := HE.out wr HT.out HI.out
            clear HT HI HSt HE HQ HKd
            go_wp2_with (go_at_call 39; refine Calls.mono HC.out ?_; rintro e w' ⟨m, z, rfl, z1, z2, z3, HN⟩; refine Hid.out ?_)
            refine Lib.hid ?_
            have HN' : Hid _ := HN
            clear HN HC y0 y1 y2 y3
            go_wp2_with fail
            go_roundw
            case rel =>
              obtain ⟨v2, L2, h2⟩ := HN'.out
              exact ⟨i + 1, v2, L2, by go_num, by omega, h2⟩
            case measure => simp [intOf]; omega
      · have hlt' : ¬ (i : Int) < Y.length := by omega
        obtain rfl : i = Y.length := by omega
        have hpos : 0 < Y.length := by
          have := (cX_cn HY.out.1).pos
          rw [HP.out.2.1] at this
          exact this
        obtain ⟨m, hm⟩ : ∃ m : Nat, (Y.length : Int) - 1 = (m : Int) ∧ m < Y.length ∧ m = X.length - 1 := ⟨Y.length - 1, by omega, by omega, by have := HY.out.2.2; omega⟩
        have c1 : wr.cell? ⟨w1.heap.size, 1, none⟩ = some (.int .i64 (m : Int)) := by rw [← hm.1]; exact HI.out.c.cell 1
        have hm2 : (m : Int) < Y.length := by omega
        have n0 : wr.cell? ⟨w1.heap.size + 1, m, none⟩ = some (.int .i64 (((addA (L.map Nx.nd) (cX X r)).2.getD m 0 : Nat) : Int)) := by
          have h1 := HI.out.num.cell m
          have h2 := HP.out.2.2.len
          rw [show (cX X r).take Y.length = cX X r by rw [← HP.out.2.1, List.take_length]] at h1 h2
          rw [h1]
          exact nsV_at (by omega)
        have hgl := HI.out.num.lt
        have HR : Hid (AddOut S0 X r B g gm v (L.map Nx.nd) w wr (.returned (.tuple #[.int .i64 (((addA (L.map Nx.nd) (cX X r)).2.getD m 0 : Nat) : Int), .int .i64 0]))) := by
          refine ⟨fun _ => ⟨v', L', by rw [hm.2.2], ?_, HI.out.tr.avoid (fun _ _ hno _ q => hno (.inl q)), HI.out.back⟩, fun q => absurd HY.out.1 q, HI.out.fr⟩
          have := HI.out.tab
          rw [show (cX X r).take Y.length = cX X r by rw [← HP.out.2.1, List.take_length]] at this
          exact this
        have hm3 := hm.2.1
        clear HI HP HT HY HS HK hm
        generalize (((addA (L.map Nx.nd) (cX X r)).2.getD m 0 : Nat) : Int) = num at *
        go_wp2_with fail
        go_ret2
        exact HR.out
  · obtain ⟨n, z, rfl, hck, hn0⟩ := hC.2.1 hR
    have HR : Hid (AddOut S0 X r B g gm v (L.map Nx.nd) w (w1.alloc (.cells #[.slice none 0 0, .int .i64 0] 24)) (.returned (.tuple #[.int .i64 0, .int .i64 n]))) := ⟨fun q => absurd q hR, fun _ => ⟨n, z, rfl, hck, hn0⟩, (Fr.of_below HB1.out).alloc _⟩
    clear hC hc0 hb0 HC HB1 HS HT hck
    go_wp2_with fail
    go_ret2
    exact HR.out

end Go.Proofs.YtcdpjaaiojpelaaDoor
