/- The contract of ref's Copy of a node: the region that makes the three lists draws its order; by facts. -/
import Derived.Test.YtcdpjaaiojpelaaDoorGNd
namespace Go.Proofs.YtcdpjaaiojpelaaDoor
open Go.RowKit

/-- The facts of ref's Copy: b the argument's block, r the answer's. -/
def rcF (N : Nd) (a1 a2 a3 : Option Addr) (c1 c2 c3 b : Nat) : Nat → Value → World → Prop
  | 0, v, _ => v = .pointer (some ⟨b, 0, none⟩)
  | 1, v, _ => v = .int .i64 N.kind
  | 2, v, W => W.ownsRow (b + 1 + 1) 2 1 v 0 [] ∧ ∃ g, v = .slice (some ⟨g, 0, none⟩) 0 0
  | 3, v, _ => v = .pointer (some ⟨b, 1, none⟩)
  | 4, v, _ => v = .slice a1 N.ints.length c1
  | 5, v, W => W.ownsRow (b + 1 + 1) 2 1 v N.ints.length (iV N.ints)
  | 6, v, W => W.ownsRow (b + 1 + 1) 9 1 v 0 [] ∧ ∃ g, v = .slice (some ⟨g, 0, none⟩) 0 0
  | 7, v, _ => v = .pointer (some ⟨b, 2, none⟩)
  | 8, v, _ => v = .slice a2 N.texts.length c2
  | 9, v, W => W.ownsRow (b + 1 + 1) 9 1 v N.texts.length (tV N.texts)
  | 10, v, W => W.ownsRow (b + 1 + 1) 3 1 v 0 [] ∧ ∃ g, v = .slice (some ⟨g, 0, none⟩) 0 0
  | 11, v, _ => v = .pointer (some ⟨b, 3, none⟩)
  | 12, v, _ => v = .slice a3 N.kids.length c3
  | 13, v, W => W.ownsRow (b + 1 + 1) 3 1 v N.kids.length (iV N.kids)
  | 14, v, W => ∃ v1 v2 v3, v = .agg #[.int .i64 N.kind, v1, v2, v3] ∧ OwnNd W (b + 1 + 1) N v1 v2 v3
  | 15, _, W => ∃ v1 v2 v3, AtN 42 W (b + 1) #[.int .i64 N.kind, v1, v2, v3] ∧ OwnNd W (b + 1 + 1) N v1 v2 v3
  | _, _, _ => True

theorem own_kept8 {w w' : World} {B : Nat} {e : TypeId} {n : Nat} {v : Value} {xs : List Value} {row : Option Nat} (ho : w.ownsRow B e 1 v n xs) (hg : w.grownBy w' row) (hr : ∀ k, row = some k → k < B) : w'.ownsRow B e 1 v n xs := by
  refine ho.kept hg ?_
  cases hv : v.ownBlock with
  | none => exact .inl rfl
  | some q => exact .inr (fun e => by have := (ho.lt q hv).1; have := hr q e.symm; omega)

theorem rcF_stab (N : Nd) (a1 a2 a3 : Option Addr) (c1 c2 c3 b : Nat) : ∀ i j v w w', i ≠ j → World.grownBy w w' (if i = 15 then some (b + 1) else none) → rcF N a1 a2 a3 c1 c2 c3 b j v w → rcF N a1 a2 a3 c1 c2 c3 b j v w' := by
  intro i j v w w' hne hg h
  have hr : ∀ k, (if i = 15 then some (b + 1) else none) = some k → k < b + 1 + 1 := fun k hk => by
    by_cases h15 : i = 15
    · rw [if_pos h15] at hk; cases hk; omega
    · rw [if_neg h15] at hk; cases hk
  match j, h with
  | 0, h | 1, h | 3, h | 4, h | 7, h | 8, h | 11, h | 12, h => exact h
  | 2, h | 6, h | 10, h => exact ⟨own_kept8 h.1 hg hr, h.2⟩
  | 5, h | 9, h | 13, h => exact own_kept8 h hg hr
  | 14, h =>
    obtain ⟨v1, v2, v3, h1, h2⟩ := h
    exact ⟨v1, v2, v3, h1, h2.kept hg hr⟩
  | 15, h =>
    obtain ⟨v1, v2, v3, h1, h2⟩ := h
    rw [if_neg hne] at hg
    exact ⟨v1, v2, v3, h1.kept hg (by simp), h2.kept hg (by simp)⟩
  | n + 16, _ => trivial

set_option maxRecDepth 10000 in
set_option maxHeartbeats 400000 in
theorem rcopy_any (N : Nd) (a1 a2 a3 : Option Addr) (c1 c2 c3 : Nat) (w : World) (h : NdAt w N a1 a2 a3) (h1 : N.ints.length ≤ 100) (h2 : N.texts.length ≤ 100) (h3 : N.kids.length ≤ 300) :
    Calls Tryd.prog 27 #[.agg #[.int .i64 N.kind, .slice a1 N.ints.length c1, .slice a2 N.texts.length c2, .slice a3 N.kids.length c3]] w fun e w' => NdOut w w' e N := by
  obtain ⟨i1, hi1, hz10, hz11, hz12⟩ := info_parts Tryd.infoN8
  obtain ⟨i2, hi2, hz20, hz21, hz22⟩ := info_parts Tryd.infoS8
  obtain ⟨i3, hi3, hz30, hz31, hz32⟩ := info_parts Tryd.infoI7
  go_enter Tryd.func27, Tryd.ntmps27
  go_wp2_with fail
  refine facts_region (some (w.heap.size + 1)) 15 (rcF N a1 a2 a3 c1 c2 c3 w.heap.size) (by kernel_rfl) (by kernel_rfl) (rcF_stab N a1 a2 a3 c1 c2 c3 w.heap.size) ?step ?fin
  case step =>
    intro i o ho a W hg hstill hoff hdep K hK
    have t1 : a.tmps[1]?.getD undef = .pointer (some ⟨w.heap.size, 0, none⟩) := hoff 1 (by kernel_rfl)
    have t2 : a.tmps[2]?.getD undef = .pointer (some ⟨w.heap.size + 1, 0, none⟩) := hoff 2 (by kernel_rfl)
    have B0 : Below w.heap.size w W := (((Below.refl w.heap.size w).alloc (Nat.le_refl _) _).alloc (by simp) _).grown hg (by simp; omega) (fun k hk => by cases hk; omega)
    have A0 : AtN 42 W w.heap.size #[.int .i64 N.kind, .slice a1 N.ints.length c1, .slice a2 N.texts.length c2, .slice a3 N.kids.length c3] := ((AtN.new w 42 _).alloc _).kept hg (by simp)
    have A1 : i = 15 → AtN 42 W (w.heap.size + 1) #[.int .i64 0, .slice none 0 0, .slice none 0 0, .slice none 0 0] := fun e => mk_at ((AtN.new (w.alloc _) 42 _).kept (hstill e) (by simp)) (by simp)
    have hsz : w.heap.size + 1 + 1 ≤ W.heap.size := by have := hg.size; simpa using this
    have d0 : W.cell? ⟨w.heap.size, 0, none⟩ = some (.int .i64 N.kind) := A0.cell 0
    have d1 : W.cell? ⟨w.heap.size, 1, none⟩ = some (.slice a1 N.ints.length c1) := A0.cell 1
    have d2 : W.cell? ⟨w.heap.size, 2, none⟩ = some (.slice a2 N.texts.length c2) := A0.cell 2
    have d3 : W.cell? ⟨w.heap.size, 3, none⟩ = some (.slice a3 N.kids.length c3) := A0.cell 3
    have HN : Hid _ := h.belowB B0
    clear A0 B0 hg hoff h hstill
    rcases i with _|_|_|_|_|_|_|_|_|_|_|_|_|_|_|_|i
    · obtain rfl := Option.some.inj ho
      clear hdep
      go_simp
      exact hK _ _ ⟨rfl, rfl, rfl, Nat.le_refl _, fun _ _ _ => rfl⟩ rfl
    · obtain rfl := Option.some.inj ho
      have e0 : a.tmps[3]?.getD undef = .pointer (some ⟨w.heap.size, 0, none⟩) := hdep 0 _ (by kernel_rfl) rfl
      clear hdep
      go_simp
      exact hK _ _ ⟨rfl, rfl, rfl, Nat.le_refl _, fun _ _ _ => rfl⟩ rfl
    · obtain rfl := Option.some.inj ho
      clear hdep
      go_simp
      exact hK _ _ (World.grownBy_alloc _ _ _) ⟨World.ownsRow_lit W #[] 0 hsz (by decide) (by simp), _, rfl⟩
    · obtain rfl := Option.some.inj ho
      clear hdep
      go_simp
      exact hK _ _ ⟨rfl, rfl, rfl, Nat.le_refl _, fun _ _ _ => rfl⟩ rfl
    · obtain rfl := Option.some.inj ho
      have e0 : a.tmps[6]?.getD undef = .pointer (some ⟨w.heap.size, 1, none⟩) := hdep 3 _ (by kernel_rfl) rfl
      clear hdep
      go_simp
      exact hK _ _ ⟨rfl, rfl, rfl, Nat.le_refl _, fun _ _ _ => rfl⟩ rfl
    · obtain rfl := Option.some.inj ho
      have e0 : W.ownsRow (w.heap.size + 1 + 1) 2 1 (a.tmps[5]?.getD undef) 0 [] ∧ ∃ g, (a.tmps[5]?.getD undef) = .slice (some ⟨g, 0, none⟩) 0 0 := hdep 2 _ (by kernel_rfl) rfl
      have e1 : a.tmps[7]?.getD undef = .slice a1 N.ints.length c1 := hdep 4 _ (by kernel_rfl) rfl
      clear hdep
      obtain ⟨e0, g, e2⟩ := e0
      rw [e2] at e0
      have HL := HN.out.i
      by_cases hm : 0 < N.ints.length
      · obtain ⟨y, rfl⟩ : ∃ y, a1 = some y := by
          obtain ⟨b, o, hb, _⟩ := HL
          exact ⟨_, hb (by rw [iV_length]; exact hm)⟩
        refine step_append_grows rfl (.tmp 5) (.tmp 7) 39 rfl 2 i1 (.int .i64 0) 1 8 Tryd.underlying39 hi1 hz10 hz11 hz12 rfl (by decide) (some ⟨g, 0, none⟩) 0 0 [] (by simpa [Act.eval] using e2) (by simp) rfl (by simp) y N.ints.length c1 (iV N.ints) (by simpa [Act.eval] using e1) (iV_one _) HL.news (iV_cell _) (by omega) (by unfold maxLen; omega) (by omega) ?_
        intro v' w' ho' hg'
        have ho2 : w'.ownsRow (w.heap.size + 1 + 1) 2 1 v' N.ints.length (iV N.ints) := by simpa using own_mono ho' hsz
        exact hK _ _ hg' ho2
      · have hz : N.ints.length = 0 := by omega
        rw [hz] at e1
        have ho2 : W.ownsRow (w.heap.size + 1 + 1) 2 1 (.slice (some ⟨g, 0, none⟩) 0 0) N.ints.length (iV N.ints) := by
          have : iV N.ints = [] := List.length_eq_zero_iff.1 (by rw [iV_length]; exact hz)
          rw [this, hz]; exact e0
        rcases a1 with _ | y <;> (go_simp; exact hK _ _ ⟨rfl, rfl, rfl, Nat.le_refl _, fun _ _ _ => rfl⟩ ho2)
    · obtain rfl := Option.some.inj ho
      clear hdep
      go_simp
      exact hK _ _ (World.grownBy_alloc _ _ _) ⟨World.ownsRow_lit W #[] 0 hsz (by decide) (by simp), _, rfl⟩
    · obtain rfl := Option.some.inj ho
      clear hdep
      go_simp
      exact hK _ _ ⟨rfl, rfl, rfl, Nat.le_refl _, fun _ _ _ => rfl⟩ rfl
    · obtain rfl := Option.some.inj ho
      have e0 : a.tmps[10]?.getD undef = .pointer (some ⟨w.heap.size, 2, none⟩) := hdep 7 _ (by kernel_rfl) rfl
      clear hdep
      go_simp
      exact hK _ _ ⟨rfl, rfl, rfl, Nat.le_refl _, fun _ _ _ => rfl⟩ rfl
    · obtain rfl := Option.some.inj ho
      have e0 : W.ownsRow (w.heap.size + 1 + 1) 9 1 (a.tmps[9]?.getD undef) 0 [] ∧ ∃ g, (a.tmps[9]?.getD undef) = .slice (some ⟨g, 0, none⟩) 0 0 := hdep 6 _ (by kernel_rfl) rfl
      have e1 : a.tmps[11]?.getD undef = .slice a2 N.texts.length c2 := hdep 8 _ (by kernel_rfl) rfl
      clear hdep
      obtain ⟨e0, g, e2⟩ := e0
      rw [e2] at e0
      have HL := HN.out.t
      by_cases hm : 0 < N.texts.length
      · obtain ⟨y, rfl⟩ : ∃ y, a2 = some y := by
          obtain ⟨b, o, hb, _⟩ := HL
          exact ⟨_, hb (by rw [tV_length]; exact hm)⟩
        refine step_append_grows rfl (.tmp 9) (.tmp 11) 40 rfl 9 i2 (.string ⟨#[]⟩) 1 16 Tryd.underlying40 hi2 hz20 hz21 hz22 rfl (by decide) (some ⟨g, 0, none⟩) 0 0 [] (by simpa [Act.eval] using e2) (by simp) rfl (by simp) y N.texts.length c2 (tV N.texts) (by simpa [Act.eval] using e1) (tV_one _) HL.news (tV_cell _) (by omega) (by unfold maxLen; omega) (by omega) ?_
        intro v' w' ho' hg'
        have ho2 : w'.ownsRow (w.heap.size + 1 + 1) 9 1 v' N.texts.length (tV N.texts) := by simpa using own_mono ho' hsz
        exact hK _ _ hg' ho2
      · have hz : N.texts.length = 0 := by omega
        rw [hz] at e1
        have ho2 : W.ownsRow (w.heap.size + 1 + 1) 9 1 (.slice (some ⟨g, 0, none⟩) 0 0) N.texts.length (tV N.texts) := by
          have : tV N.texts = [] := List.length_eq_zero_iff.1 (by rw [tV_length]; exact hz)
          rw [this, hz]; exact e0
        rcases a2 with _ | y <;> (go_simp; exact hK _ _ ⟨rfl, rfl, rfl, Nat.le_refl _, fun _ _ _ => rfl⟩ ho2)
    · obtain rfl := Option.some.inj ho
      clear hdep
      go_simp
      exact hK _ _ (World.grownBy_alloc _ _ _) ⟨World.ownsRow_lit W #[] 0 hsz (by decide) (by simp), _, rfl⟩
    · obtain rfl := Option.some.inj ho
      clear hdep
      go_simp
      exact hK _ _ ⟨rfl, rfl, rfl, Nat.le_refl _, fun _ _ _ => rfl⟩ rfl
    · obtain rfl := Option.some.inj ho
      have e0 : a.tmps[14]?.getD undef = .pointer (some ⟨w.heap.size, 3, none⟩) := hdep 11 _ (by kernel_rfl) rfl
      clear hdep
      go_simp
      exact hK _ _ ⟨rfl, rfl, rfl, Nat.le_refl _, fun _ _ _ => rfl⟩ rfl
    · obtain rfl := Option.some.inj ho
      have e0 : W.ownsRow (w.heap.size + 1 + 1) 3 1 (a.tmps[13]?.getD undef) 0 [] ∧ ∃ g, (a.tmps[13]?.getD undef) = .slice (some ⟨g, 0, none⟩) 0 0 := hdep 10 _ (by kernel_rfl) rfl
      have e1 : a.tmps[15]?.getD undef = .slice a3 N.kids.length c3 := hdep 12 _ (by kernel_rfl) rfl
      clear hdep
      obtain ⟨e0, g, e2⟩ := e0
      rw [e2] at e0
      have HL := HN.out.k
      by_cases hm : 0 < N.kids.length
      · obtain ⟨y, rfl⟩ : ∃ y, a3 = some y := by
          obtain ⟨b, o, hb, _⟩ := HL
          exact ⟨_, hb (by rw [iV_length]; exact hm)⟩
        refine step_append_grows rfl (.tmp 13) (.tmp 15) 38 rfl 3 i3 (.int .i64 0) 1 8 Tryd.underlying38 hi3 hz30 hz31 hz32 rfl (by decide) (some ⟨g, 0, none⟩) 0 0 [] (by simpa [Act.eval] using e2) (by simp) rfl (by simp) y N.kids.length c3 (iV N.kids) (by simpa [Act.eval] using e1) (iV_one _) HL.news (iV_cell _) (by omega) (by unfold maxLen; omega) (by omega) ?_
        intro v' w' ho' hg'
        have ho2 : w'.ownsRow (w.heap.size + 1 + 1) 3 1 v' N.kids.length (iV N.kids) := by simpa using own_mono ho' hsz
        exact hK _ _ hg' ho2
      · have hz : N.kids.length = 0 := by omega
        rw [hz] at e1
        have ho2 : W.ownsRow (w.heap.size + 1 + 1) 3 1 (.slice (some ⟨g, 0, none⟩) 0 0) N.kids.length (iV N.kids) := by
          have : iV N.kids = [] := List.length_eq_zero_iff.1 (by rw [iV_length]; exact hz)
          rw [this, hz]; exact e0
        rcases a3 with _ | y <;> (go_simp; exact hK _ _ ⟨rfl, rfl, rfl, Nat.le_refl _, fun _ _ _ => rfl⟩ ho2)
    · obtain rfl := Option.some.inj ho
      have e0 : a.tmps[4]?.getD undef = .int .i64 N.kind := hdep 1 _ (by kernel_rfl) rfl
      have e1 : W.ownsRow (w.heap.size + 1 + 1) 2 1 (a.tmps[8]?.getD undef) N.ints.length (iV N.ints) := hdep 5 _ (by kernel_rfl) rfl
      have e2 : W.ownsRow (w.heap.size + 1 + 1) 9 1 (a.tmps[12]?.getD undef) N.texts.length (tV N.texts) := hdep 9 _ (by kernel_rfl) rfl
      have e3 : W.ownsRow (w.heap.size + 1 + 1) 3 1 (a.tmps[16]?.getD undef) N.kids.length (iV N.kids) := hdep 13 _ (by kernel_rfl) rfl
      clear hdep
      obtain ⟨b1, k1, s1⟩ := own_shape7 e1
      obtain ⟨b2, k2, s2⟩ := own_shape7 e2
      obtain ⟨b3, k3, s3⟩ := own_shape7 e3
      rw [s1] at e1
      rw [s2] at e2
      rw [s3] at e3
      have HO : Hid (OwnNd W (w.heap.size + 1 + 1) N (.slice b1 N.ints.length k1) (.slice b2 N.texts.length k2) (.slice b3 N.kids.length k3)) := ⟨e1, e2, e3⟩
      clear e1 e2 e3
      go_simp
      exact hK _ _ ⟨rfl, rfl, rfl, Nat.le_refl _, fun _ _ _ => rfl⟩ ⟨_, _, _, rfl, HO.out⟩
    · obtain rfl := Option.some.inj ho
      have e0 : ∃ v1 v2 v3, a.tmps[17]?.getD undef = .agg #[.int .i64 N.kind, v1, v2, v3] ∧ OwnNd W (w.heap.size + 1 + 1) N v1 v2 v3 := hdep 14 _ (by kernel_rfl) rfl
      clear hdep
      obtain ⟨v1, v2, v3, e0, O⟩ := e0
      obtain ⟨b1, k1, rfl⟩ := own_shape7 O.i
      obtain ⟨b2, k2, rfl⟩ := own_shape7 O.t
      obtain ⟨b3, k3, rfl⟩ := own_shape7 O.k
      have A := A1 rfl
      have x0 : W.cell? ⟨w.heap.size + 1, 0, none⟩ = some (.int .i64 0) := A.cell 0
      have x1 : W.cell? ⟨w.heap.size + 1, 1, none⟩ = some (.slice none 0 0) := A.cell 1
      have x2 : W.cell? ⟨w.heap.size + 1, 2, none⟩ = some (.slice none 0 0) := A.cell 2
      have x3 : W.cell? ⟨w.heap.size + 1, 3, none⟩ = some (.slice none 0 0) := A.cell 3
      have f0 := A.fz 0
      have f1 := A.fz 1
      have f2 := A.fz 2
      have f3 := A.fz 3
      have HO : Hid _ := O
      have HA : Hid _ := A
      clear O A A1
      go_simp
      exact hK undef _ (grown_set (grown_set (grown_set (grown_set (grown_refl W _) 0 _) 1 _) 2 _) 3 _) ⟨_, _, _, at_set4 HA.out _ _ _ _, (((HO.out.set ⟨w.heap.size + 1, 0, none⟩ (by simp) _).set ⟨w.heap.size + 1, 1, none⟩ (by simp) _).set ⟨w.heap.size + 1, 2, none⟩ (by simp) _).set ⟨w.heap.size + 1, 3, none⟩ (by simp) _⟩
    · exact absurd ho (by simp)
  case fin =>
    intro V W hg hF
    have f15 : ∃ v1 v2 v3, AtN 42 W (w.heap.size + 1) #[.int .i64 N.kind, v1, v2, v3] ∧ OwnNd W (w.heap.size + 1 + 1) N v1 v2 v3 := hF 15 _ rfl
    have B0 : Below w.heap.size w W := (((Below.refl w.heap.size w).alloc (Nat.le_refl _) _).alloc (by simp) _).grown hg (by simp; omega) (fun k hk => by cases hk; omega)
    clear hF hg h
    obtain ⟨v1, v2, v3, A, O⟩ := f15
    obtain ⟨b1, k1, rfl⟩ := own_shape7 O.i
    obtain ⟨b2, k2, rfl⟩ := own_shape7 O.t
    obtain ⟨b3, k3, rfl⟩ := own_shape7 O.k
    have O' := O.mono (show w.heap.size ≤ w.heap.size + 1 + 1 by omega)
    have HO : Hid _ := O'
    have c0 : W.cell? ⟨w.heap.size + 1, 0, none⟩ = some (.int .i64 N.kind) := A.cell 0
    have c1 : W.cell? ⟨w.heap.size + 1, 1, none⟩ = some (.slice b1 N.ints.length k1) := A.cell 1
    have c2 : W.cell? ⟨w.heap.size + 1, 2, none⟩ = some (.slice b2 N.texts.length k2) := A.cell 2
    have c3 : W.cell? ⟨w.heap.size + 1, 3, none⟩ = some (.slice b3 N.kids.length k3) := A.cell 3
    clear O O' A
    simp only [fillA, Act.put, List.setIfInBounds_toArray, List.set_cons_zero, List.set_cons_succ]
    go_wp2_with fail
    exact bodyPost_ret (v := .agg #[.int .i64 N.kind, .slice b1 N.ints.length k1, .slice b2 N.texts.length k2, .slice b3 N.kids.length k3]) (by simp [results, Tryd.results27, go_sem, *]) rfl ⟨_, _, _, _, _, _, rfl, HO.out, B0⟩

end Go.Proofs.YtcdpjaaiojpelaaDoor
