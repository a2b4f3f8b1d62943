/- The contract of field's Copy. -/
import Derived.Test.YtkcaeajhbeenbaaDoorGD
import Derived.Test.YtkcaeajhbeenbaaDoorCA
import Derived.Test.YtkcaeajhbeenbaaDoorGB
namespace Go.Proofs.YtkcaeajhbeenbaaDoor
open Go.RowKit

/-- The facts of field's Copy. -/
def fcF (N : Nd) (a1 a2 a3 : Option Addr) (c1 c2 c3 b : Nat) : Nat → Value → World → Prop
  | 0, v, _ => v = .pointer (some ⟨b, 0, none⟩)
  | 1, v, _ => v = .int .i64 N.kind
  | 2, v, _ => v = .pointer (some ⟨b, 1, none⟩)
  | 3, v, _ => v = .slice a1 N.ints.length c1
  | 4, v, W => W.ownsRow (b + 1 + 1) 2 1 v N.ints.length (iV N.ints)
  | 5, v, _ => v = .pointer (some ⟨b, 2, none⟩)
  | 6, v, _ => v = .slice a2 N.texts.length c2
  | 7, v, W => W.ownsRow (b + 1 + 1) 9 1 v N.texts.length (tV N.texts)
  | 8, v, _ => v = .pointer (some ⟨b, 3, none⟩)
  | 9, v, _ => v = .slice a3 N.kids.length c3
  | 10, v, W => W.ownsRow (b + 1 + 1) 3 1 v N.kids.length (iV N.kids)
  | 11, v, W => ∃ v1 v2 v3, v = .agg #[.int .i64 N.kind, v1, v2, v3] ∧ OwnNd W (b + 1 + 1) N v1 v2 v3
  | 12, _, W => ∃ v1 v2 v3, AtN 48 W (b + 1) #[.int .i64 N.kind, v1, v2, v3] ∧ OwnNd W (b + 1 + 1) N v1 v2 v3
  | _, _, _ => True

theorem fcF_stab (N : Nd) (a1 a2 a3 : Option Addr) (c1 c2 c3 b : Nat) : ∀ i j v w w', i ≠ j → World.grownBy w w' (if i = 12 then some (b + 1) else none) → fcF N a1 a2 a3 c1 c2 c3 b j v w → fcF N a1 a2 a3 c1 c2 c3 b j v w' := by
  intro i j v w w' hne hg h
  have hr : ∀ k, (if i = 12 then some (b + 1) else none) = some k → k < b + 1 + 1 := fun k hk => by
    by_cases h15 : i = 12
    · rw [if_pos h15] at hk; cases hk; omega
    · rw [if_neg h15] at hk; cases hk
  match j, h with
  | 0, h | 1, h | 2, h | 3, h | 5, h | 6, h | 8, h | 9, h => exact h
  | 4, h | 7, h | 10, h => exact own_kept8 h hg hr
  | 11, h =>
    obtain ⟨v1, v2, v3, h1, h2⟩ := h
    exact ⟨v1, v2, v3, h1, h2.kept hg hr⟩
  | 12, h =>
    obtain ⟨v1, v2, v3, h1, h2⟩ := h
    rw [if_neg hne] at hg
    exact ⟨v1, v2, v3, h1.kept hg (by simp), h2.kept hg (by simp)⟩
  | n + 13, _ => trivial

set_option maxRecDepth 10000 in
set_option maxHeartbeats 400000 in
theorem copy_any (N : Nd) (a1 a2 a3 : Option Addr) (c1 c2 c3 : Nat) (w : World) (h : NdAt w N a1 a2 a3) (h1 : N.ints.length ≤ 100) (h2 : N.texts.length ≤ 100) (h3 : N.kids.length ≤ 3000) :
    Calls Tryd.prog 71 #[.agg #[.int .i64 N.kind, .slice a1 N.ints.length c1, .slice a2 N.texts.length c2, .slice a3 N.kids.length c3]] w fun e w' => NdOut w w' e N := by
  obtain ⟨i1, hi1, hz10, hz11, hz12⟩ := info_parts Tryd.infoN8
  obtain ⟨i2, hi2, hz20, hz21, hz22⟩ := info_parts Tryd.infoS8
  obtain ⟨i3, hi3, hz30, hz31, hz32⟩ := info_parts Tryd.infoI7
  go_enter Tryd.func71, Tryd.ntmps71
  go_wp2_with fail
  refine facts_region (some (w.heap.size + 1)) 12 (fcF N a1 a2 a3 c1 c2 c3 w.heap.size) (by kernel_rfl) (by kernel_rfl) (fcF_stab N a1 a2 a3 c1 c2 c3 w.heap.size) ?step ?fin
  case step =>
    intro i o ho a W hg hstill hoff hdep K hK
    have t1 : a.tmps[1]?.getD undef = .pointer (some ⟨w.heap.size, 0, none⟩) := hoff 1 (by kernel_rfl)
    have t2 : a.tmps[2]?.getD undef = .pointer (some ⟨w.heap.size + 1, 0, none⟩) := hoff 2 (by kernel_rfl)
    have B0 : Below w.heap.size w W := (((Below.refl w.heap.size w).alloc (Nat.le_refl _) _).alloc (by simp) _).grown hg (by simp; omega) (fun k hk => by cases hk; omega)
    have A0 : AtN 48 W w.heap.size #[.int .i64 N.kind, .slice a1 N.ints.length c1, .slice a2 N.texts.length c2, .slice a3 N.kids.length c3] := ((AtN.new w 48 _).alloc _).kept hg (by simp)
    have A1 : i = 12 → AtN 48 W (w.heap.size + 1) #[.int .i64 0, .slice none 0 0, .slice none 0 0, .slice none 0 0] := fun e => mk_at ((AtN.new (w.alloc _) 48 _).kept (hstill e) (by simp)) (by simp)
    have hsz : w.heap.size + 1 + 1 ≤ W.heap.size := by have := hg.size; simpa using this
    have d0 : W.cell? ⟨w.heap.size, 0, none⟩ = some (.int .i64 N.kind) := A0.cell 0
    have d1 : W.cell? ⟨w.heap.size, 1, none⟩ = some (.slice a1 N.ints.length c1) := A0.cell 1
    have d2 : W.cell? ⟨w.heap.size, 2, none⟩ = some (.slice a2 N.texts.length c2) := A0.cell 2
    have d3 : W.cell? ⟨w.heap.size, 3, none⟩ = some (.slice a3 N.kids.length c3) := A0.cell 3
    have HN : Hid _ := h.belowB B0
    clear A0 B0 hg hoff h hstill
    rcases i with _|_|_|_|_|_|_|_|_|_|_|_|_|i
    · obtain rfl := Option.some.inj ho
      clear hdep
      go_simp
      exact hK _ _ ⟨rfl, rfl, rfl, Nat.le_refl _, fun _ _ _ => rfl⟩ rfl
    · obtain rfl := Option.some.inj ho
      have e0 : a.tmps[3]?.getD undef = .pointer (some ⟨w.heap.size, 0, none⟩) := hdep 0 _ (by kernel_rfl) rfl
      clear hdep
      go_simp
      exact hK _ _ ⟨rfl, rfl, rfl, Nat.le_refl _, fun _ _ _ => rfl⟩ rfl
    · obtain rfl := Option.some.inj ho
      clear hdep
      go_simp
      exact hK _ _ ⟨rfl, rfl, rfl, Nat.le_refl _, fun _ _ _ => rfl⟩ rfl
    · obtain rfl := Option.some.inj ho
      have e0 : a.tmps[5]?.getD undef = .pointer (some ⟨w.heap.size, 1, none⟩) := hdep 2 _ (by kernel_rfl) rfl
      clear hdep
      go_simp
      exact hK _ _ ⟨rfl, rfl, rfl, Nat.le_refl _, fun _ _ _ => rfl⟩ rfl
    · obtain rfl := Option.some.inj ho
      have e1 : a.tmps[6]?.getD undef = .slice a1 N.ints.length c1 := hdep 3 _ (by kernel_rfl) rfl
      clear hdep
      have HL := HN.out.i
      by_cases hm : 0 < N.ints.length
      · obtain ⟨y, rfl⟩ : ∃ y, a1 = some y := by
          obtain ⟨b, o, hb, _⟩ := HL
          exact ⟨_, hb (by rw [iV_length]; exact hm)⟩
        refine step_append_grows rfl (.const (.slice none 0 0)) (.tmp 6) 44 rfl 2 i1 (.int .i64 0) 1 8 Tryd.underlying44 hi1 hz10 hz11 hz12 rfl (by decide) none 0 0 [] rfl (by simp) rfl (by simp) y N.ints.length c1 (iV N.ints) (by simpa [Act.eval] using e1) (iV_one _) HL.news (iV_cell _) (by omega) (by unfold maxLen; omega) (by omega) ?_
        intro v' w' ho' hg'
        have ho2 : w'.ownsRow (w.heap.size + 1 + 1) 2 1 v' N.ints.length (iV N.ints) := by simpa using own_mono ho' hsz
        exact hK _ _ hg' ho2
      · have hz : N.ints.length = 0 := by omega
        rw [hz] at e1
        have ho2 : W.ownsRow (w.heap.size + 1 + 1) 2 1 (.slice none 0 0) N.ints.length (iV N.ints) := by
          have : iV N.ints = [] := List.length_eq_zero_iff.1 (by rw [iV_length]; exact hz)
          rw [this, hz]; exact World.ownsRow_nil _ _ _ _
        rcases a1 with _ | y <;> (go_simp; exact hK _ _ ⟨rfl, rfl, rfl, Nat.le_refl _, fun _ _ _ => rfl⟩ ho2)
    · obtain rfl := Option.some.inj ho
      clear hdep
      go_simp
      exact hK _ _ ⟨rfl, rfl, rfl, Nat.le_refl _, fun _ _ _ => rfl⟩ rfl
    · obtain rfl := Option.some.inj ho
      have e0 : a.tmps[8]?.getD undef = .pointer (some ⟨w.heap.size, 2, none⟩) := hdep 5 _ (by kernel_rfl) rfl
      clear hdep
      go_simp
      exact hK _ _ ⟨rfl, rfl, rfl, Nat.le_refl _, fun _ _ _ => rfl⟩ rfl
    · obtain rfl := Option.some.inj ho
      have e1 : a.tmps[9]?.getD undef = .slice a2 N.texts.length c2 := hdep 6 _ (by kernel_rfl) rfl
      clear hdep
      have HL := HN.out.t
      by_cases hm : 0 < N.texts.length
      · obtain ⟨y, rfl⟩ : ∃ y, a2 = some y := by
          obtain ⟨b, o, hb, _⟩ := HL
          exact ⟨_, hb (by rw [tV_length]; exact hm)⟩
        refine step_append_grows rfl (.const (.slice none 0 0)) (.tmp 9) 45 rfl 9 i2 (.string ⟨#[]⟩) 1 16 Tryd.underlying45 hi2 hz20 hz21 hz22 rfl (by decide) none 0 0 [] rfl (by simp) rfl (by simp) y N.texts.length c2 (tV N.texts) (by simpa [Act.eval] using e1) (tV_one _) HL.news (tV_cell _) (by omega) (by unfold maxLen; omega) (by omega) ?_
        intro v' w' ho' hg'
        have ho2 : w'.ownsRow (w.heap.size + 1 + 1) 9 1 v' N.texts.length (tV N.texts) := by simpa using own_mono ho' hsz
        exact hK _ _ hg' ho2
      · have hz : N.texts.length = 0 := by omega
        rw [hz] at e1
        have ho2 : W.ownsRow (w.heap.size + 1 + 1) 9 1 (.slice none 0 0) N.texts.length (tV N.texts) := by
          have : tV N.texts = [] := List.length_eq_zero_iff.1 (by rw [tV_length]; exact hz)
          rw [this, hz]; exact World.ownsRow_nil _ _ _ _
        rcases a2 with _ | y <;> (go_simp; exact hK _ _ ⟨rfl, rfl, rfl, Nat.le_refl _, fun _ _ _ => rfl⟩ ho2)
    · obtain rfl := Option.some.inj ho
      clear hdep
      go_simp
      exact hK _ _ ⟨rfl, rfl, rfl, Nat.le_refl _, fun _ _ _ => rfl⟩ rfl
    · obtain rfl := Option.some.inj ho
      have e0 : a.tmps[11]?.getD undef = .pointer (some ⟨w.heap.size, 3, none⟩) := hdep 8 _ (by kernel_rfl) rfl
      clear hdep
      go_simp
      exact hK _ _ ⟨rfl, rfl, rfl, Nat.le_refl _, fun _ _ _ => rfl⟩ rfl
    · obtain rfl := Option.some.inj ho
      have e1 : a.tmps[12]?.getD undef = .slice a3 N.kids.length c3 := hdep 9 _ (by kernel_rfl) rfl
      clear hdep
      have HL := HN.out.k
      by_cases hm : 0 < N.kids.length
      · obtain ⟨y, rfl⟩ : ∃ y, a3 = some y := by
          obtain ⟨b, o, hb, _⟩ := HL
          exact ⟨_, hb (by rw [iV_length]; exact hm)⟩
        refine step_append_grows rfl (.const (.slice none 0 0)) (.tmp 12) 46 rfl 3 i3 (.int .i64 0) 1 8 Tryd.underlying46 hi3 hz30 hz31 hz32 rfl (by decide) none 0 0 [] rfl (by simp) rfl (by simp) y N.kids.length c3 (iV N.kids) (by simpa [Act.eval] using e1) (iV_one _) HL.news (iV_cell _) (by omega) (by unfold maxLen; omega) (by omega) ?_
        intro v' w' ho' hg'
        have ho2 : w'.ownsRow (w.heap.size + 1 + 1) 3 1 v' N.kids.length (iV N.kids) := by simpa using own_mono ho' hsz
        exact hK _ _ hg' ho2
      · have hz : N.kids.length = 0 := by omega
        rw [hz] at e1
        have ho2 : W.ownsRow (w.heap.size + 1 + 1) 3 1 (.slice none 0 0) N.kids.length (iV N.kids) := by
          have : iV N.kids = [] := List.length_eq_zero_iff.1 (by rw [iV_length]; exact hz)
          rw [this, hz]; exact World.ownsRow_nil _ _ _ _
        rcases a3 with _ | y <;> (go_simp; exact hK _ _ ⟨rfl, rfl, rfl, Nat.le_refl _, fun _ _ _ => rfl⟩ ho2)
    · obtain rfl := Option.some.inj ho
      have e0 : a.tmps[4]?.getD undef = .int .i64 N.kind := hdep 1 _ (by kernel_rfl) rfl
      have e1 : W.ownsRow (w.heap.size + 1 + 1) 2 1 (a.tmps[7]?.getD undef) N.ints.length (iV N.ints) := hdep 4 _ (by kernel_rfl) rfl
      have e2 : W.ownsRow (w.heap.size + 1 + 1) 9 1 (a.tmps[10]?.getD undef) N.texts.length (tV N.texts) := hdep 7 _ (by kernel_rfl) rfl
      have e3 : W.ownsRow (w.heap.size + 1 + 1) 3 1 (a.tmps[13]?.getD undef) N.kids.length (iV N.kids) := hdep 10 _ (by kernel_rfl) rfl
      clear hdep
      obtain ⟨b1, k1, s1⟩ := own_shape7 e1
      obtain ⟨b2, k2, s2⟩ := own_shape7 e2
      obtain ⟨b3, k3, s3⟩ := own_shape7 e3
      rw [s1] at e1
      rw [s2] at e2
      rw [s3] at e3
      have HO : Hid (OwnNd W (w.heap.size + 1 + 1) N (.slice b1 N.ints.length k1) (.slice b2 N.texts.length k2) (.slice b3 N.kids.length k3)) := ⟨e1, e2, e3⟩
      clear e1 e2 e3
      go_simp
      exact hK _ _ ⟨rfl, rfl, rfl, Nat.le_refl _, fun _ _ _ => rfl⟩ ⟨_, _, _, rfl, HO.out⟩
    · obtain rfl := Option.some.inj ho
      have e0 : ∃ v1 v2 v3, a.tmps[14]?.getD undef = .agg #[.int .i64 N.kind, v1, v2, v3] ∧ OwnNd W (w.heap.size + 1 + 1) N v1 v2 v3 := hdep 11 _ (by kernel_rfl) rfl
      clear hdep
      obtain ⟨v1, v2, v3, e0, O⟩ := e0
      obtain ⟨b1, k1, rfl⟩ := own_shape7 O.i
      obtain ⟨b2, k2, rfl⟩ := own_shape7 O.t
      obtain ⟨b3, k3, rfl⟩ := own_shape7 O.k
      have A := A1 rfl
      have x0 : W.cell? ⟨w.heap.size + 1, 0, none⟩ = some (.int .i64 0) := A.cell 0
      have x1 : W.cell? ⟨w.heap.size + 1, 1, none⟩ = some (.slice none 0 0) := A.cell 1
      have x2 : W.cell? ⟨w.heap.size + 1, 2, none⟩ = some (.slice none 0 0) := A.cell 2
      have x3 : W.cell? ⟨w.heap.size + 1, 3, none⟩ = some (.slice none 0 0) := A.cell 3
      have f0 := A.fz 0
      have f1 := A.fz 1
      have f2 := A.fz 2
      have f3 := A.fz 3
      have HO : Hid _ := O
      have HA : Hid _ := A
      clear O A A1
      go_simp
      exact hK undef _ (grown_set (grown_set (grown_set (grown_set (grown_refl W _) 0 _) 1 _) 2 _) 3 _) ⟨_, _, _, at_set4 HA.out _ _ _ _, (((HO.out.set ⟨w.heap.size + 1, 0, none⟩ (by simp) _).set ⟨w.heap.size + 1, 1, none⟩ (by simp) _).set ⟨w.heap.size + 1, 2, none⟩ (by simp) _).set ⟨w.heap.size + 1, 3, none⟩ (by simp) _⟩
    · exact absurd ho (by simp)
  case fin =>
    intro V W hg hF
    have f15 : ∃ v1 v2 v3, AtN 48 W (w.heap.size + 1) #[.int .i64 N.kind, v1, v2, v3] ∧ OwnNd W (w.heap.size + 1 + 1) N v1 v2 v3 := hF 12 _ rfl
    have B0 : Below w.heap.size w W := (((Below.refl w.heap.size w).alloc (Nat.le_refl _) _).alloc (by simp) _).grown hg (by simp; omega) (fun k hk => by cases hk; omega)
    clear hF hg h
    obtain ⟨v1, v2, v3, A, O⟩ := f15
    obtain ⟨b1, k1, rfl⟩ := own_shape7 O.i
    obtain ⟨b2, k2, rfl⟩ := own_shape7 O.t
    obtain ⟨b3, k3, rfl⟩ := own_shape7 O.k
    have O' := O.mono (show w.heap.size ≤ w.heap.size + 1 + 1 by omega)
    have HO : Hid _ := O'
    have c0 : W.cell? ⟨w.heap.size + 1, 0, none⟩ = some (.int .i64 N.kind) := A.cell 0
    have c1 : W.cell? ⟨w.heap.size + 1, 1, none⟩ = some (.slice b1 N.ints.length k1) := A.cell 1
    have c2 : W.cell? ⟨w.heap.size + 1, 2, none⟩ = some (.slice b2 N.texts.length k2) := A.cell 2
    have c3 : W.cell? ⟨w.heap.size + 1, 3, none⟩ = some (.slice b3 N.kids.length k3) := A.cell 3
    clear O O' A
    simp only [fillA, Act.put, List.setIfInBounds_toArray, List.set_cons_zero, List.set_cons_succ]
    go_wp2_with fail
    exact bodyPost_ret (v := .agg #[.int .i64 N.kind, .slice b1 N.ints.length k1, .slice b2 N.texts.length k2, .slice b3 N.kids.length k3]) (by simp [results, Tryd.results71, go_sem, *]) rfl ⟨_, _, _, _, _, _, rfl, HO.out, B0⟩

end Go.Proofs.YtkcaeajhbeenbaaDoor
/- A node of the call's own whose kids are being renumbered; the contract of the program's renumbered. -/
namespace Go.Proofs.YtkcaeajhbeenbaaDoor
open Go.RowKit Go.Maps Go.WideMaps Go.Sort

/-- A node with its kids by other numbers. -/
def renNd (f : Int → Int) (N : Nd) : Nd := ⟨N.kind, N.ints, N.texts, N.kids.map f⟩
theorem renNd_big (f : Int → Int) (N : Nd) : big (renNd f N) = big N := by
  unfold big renNd
  simp only [List.length_map]
theorem own_store9 {w : World} {B n : Nat} {e : TypeId} {a : Option Addr} {cap : Nat} {xs : List Value} (h : w.ownsRow B e 1 (.slice a n cap) n xs) (j : Nat) (hj : j < n) : ∃ g, a = some ⟨g, 0, none⟩ ∧ w.cell? ⟨g, j, none⟩ = xs[j]? ∧ w.frozen? ⟨g, j, none⟩ = false ∧ B ≤ g ∧ g < w.heap.size ∧
    ∀ v, (w.setCell ⟨g, j, none⟩ v).ownsRow B e 1 (.slice (some ⟨g, 0, none⟩) n cap) n (xs.set j v) := by
  rcases h.2 with ⟨_, h2⟩ | ⟨g, cap', cur, he, h1, h2, h3⟩
  · omega
  · simp only [Value.slice.injEq] at he
    obtain ⟨rfl, _, rfl⟩ := he
    exact ⟨g, rfl, h.cellAt j (by have := h.1; omega), h.frozenAt j, h1, (h.lt g rfl).2, fun v => (h.stored j v).1⟩
/-- Rows of two types lie apart. -/
theorem own_apart9 {w : World} {B B' n n' s s' : Nat} {e e' : TypeId} {v v' : Value} {xs xs' : List Value} (h : w.ownsRow B e s v n xs) (h' : w.ownsRow B' e' s' v' n' xs') (he : e ≠ e') {g : Nat} (hv : v.ownBlock = some g) : v'.ownBlock ≠ some g := by
  intro hr
  rcases h.2 with ⟨rfl, _⟩ | ⟨g1, _, cur, rfl, _, h2, _⟩
  · cases hv
  · simp only [Value.ownBlock, Option.some.injEq] at hv
    subst hv
    rcases h'.2 with ⟨rfl, _⟩ | ⟨g2, _, cur', rfl, _, h3, _⟩
    · cases hr
    · simp only [Value.ownBlock, Option.some.injEq] at hr
      subst hr
      rw [h3] at h2
      cases h2
      exact he rfl
/-- Kids that are being turned. -/
def tkf (f : Int → Int) (l : List Int) (k : Nat) : List Int := (l.take k).map (f) ++ l.drop k
theorem tkf_zero (f : Int → Int) (l : List Int) : tkf f l 0 = l := by simp [tkf]
theorem tkf_all (f : Int → Int) (l : List Int) : tkf f l l.length = l.map (f) := by simp [tkf]
theorem tkf_at (f : Int → Int) (l : List Int) (k : Nat) (h : k < l.length) : (iV (tkf f l k))[k]? = some (.int .i64 (l.getD k 0)) := by
  have h1 : (tkf f l k)[k]? = some (l.getD k 0) := by
    unfold tkf
    rw [List.getElem?_append_right (by simp; omega)]
    simp [h, Nat.min_eq_left (Nat.le_of_lt h)]
  unfold iV
  rw [List.getElem?_map, h1]
  rfl
theorem tkf_set (f : Int → Int) (l : List Int) (k : Nat) (h : k < l.length) : (iV (tkf f l k)).set k (.int .i64 (f (l.getD k 0))) = iV (tkf f l (k + 1)) := by
  have h1 : (tkf f l k).set k (f (l.getD k 0)) = tkf f l (k + 1) := by
    unfold tkf
    have hm : ((l.take k).map (f)).length = k := by simp; omega
    rw [List.set_append_right _ _ (by omega), hm, Nat.sub_self, List.take_add_one, List.getD_eq_getElem?_getD, List.getElem?_eq_getElem h, show l.drop k = l[k] :: l.drop (k + 1) from List.drop_eq_getElem_cons h, List.map_append, List.append_assoc]
    rfl
  rw [← h1]
  unfold iV
  rw [List.map_set]

/-- A node of the call's own whose kids are being turned. -/
structure Tgf (w : World) (B g : Nat) (N : Nd) (f : Int → Int) (k : Nat) (a1 a2 a3 : Option Addr) (c1 c2 c3 : Nat) : Prop where
  nd : AtN 48 w g #[.int .i64 N.kind, .slice a1 N.ints.length c1, .slice a2 N.texts.length c2, .slice a3 N.kids.length c3]
  i : w.ownsRow B 2 1 (.slice a1 N.ints.length c1) N.ints.length (iV N.ints)
  t : w.ownsRow B 9 1 (.slice a2 N.texts.length c2) N.texts.length (tV N.texts)
  k : w.ownsRow B 3 1 (.slice a3 N.kids.length c3) N.kids.length (iV (tkf f N.kids k))
theorem Tgf.drew {w : World} {B g : Nat} {N : Nd} {f : Int → Int} {k : Nat} {a1 a2 a3 : Option Addr} {c1 c2 c3 : Nat} (h : Tgf w B g N f k a1 a2 a3 c1 c2 c3) : Tgf w.drew B g N f k a1 a2 a3 c1 c2 c3 := ⟨h.nd, h.i, h.t, h.k⟩
theorem Tgf.next {w : World} {B g : Nat} {N : Nd} {f : Int → Int} {k : Nat} {a1 a2 a3 : Option Addr} {c1 c2 c3 : Nat} (h : Tgf w B g N f k a1 a2 a3 c1 c2 c3) (hk : k < N.kids.length) : ∃ q, a3 = some ⟨q, 0, none⟩ ∧ w.cell? ⟨q, k, none⟩ = some (.int .i64 (N.kids.getD k 0)) ∧ w.frozen? ⟨q, k, none⟩ = false ∧ B ≤ q ∧ q < w.heap.size ∧
    Tgf (w.setCell ⟨q, k, none⟩ (.int .i64 (f (N.kids.getD k 0)))) B g N f (k + 1) a1 a2 a3 c1 c2 c3 := by
  obtain ⟨q, rfl, h1, h2, h3, h4, h5⟩ := own_store9 h.k k hk
  have hq : (Value.slice (some ⟨q, 0, none⟩) N.kids.length c3).ownBlock = some q := rfl
  refine ⟨q, rfl, by rw [h1, tkf_at f N.kids k hk], h2, h3, h4, ?_, ?_, ?_, ?_⟩
  · exact h.nd.setOther _ (fun e => own_ne_at h.k h.nd (by decide) q hq e) _
  · exact own_set h.i _ (fun r hr e => own_apart9 h.k h.i (by decide) hq (by rw [hr]; exact congrArg some e)) _
  · exact own_set h.t _ (fun r hr e => own_apart9 h.k h.t (by decide) hq (by rw [hr]; exact congrArg some e)) _
  · have := h5 (.int .i64 (f (N.kids.getD k 0)))
    rwa [tkf_set f N.kids k hk] at this
/-- The node when all its kids are turned. -/
def renNx (f : Int → Int) (N : Nd) (a1 a2 a3 : Option Addr) (c1 c2 c3 : Nat) : Nx := ⟨renNd f N, a1, c1, a2, c2, a3, c3⟩
theorem Tgf.own {w : World} {B g : Nat} {N : Nd} {f : Int → Int} {a1 a2 a3 : Option Addr} {c1 c2 c3 : Nat} (h : Tgf w B g N f N.kids.length a1 a2 a3 c1 c2 c3) : OwnNx w B (renNx f N a1 a2 a3 c1 c2 c3) := by
  refine ⟨h.i, h.t, ?_⟩
  have := h.k
  rw [tkf_all] at this
  simpa [renNx, renNd] using this
theorem renNx_cells (f : Int → Int) (N : Nd) (a1 a2 a3 : Option Addr) (c1 c2 c3 : Nat) : nxC (renNx f N a1 a2 a3 c1 c2 c3) = [.int .i64 N.kind, .slice a1 N.ints.length c1, .slice a2 N.texts.length c2, .slice a3 N.kids.length c3] := by simp [nxC, renNx, renNd]


set_option maxRecDepth 10000 in
set_option maxHeartbeats 1000000 in
theorem renum_any (N : Nd) (a1 a2 a3 : Option Addr) (c1 c2 c3 gp n cp : Nat) (p : Nat → Int) (w : World) (h : NdAt w N a1 a2 a3) (hg : big N = false) (hp : AtN 3 w gp (zV n p)) (hk : ∀ j, j < N.kids.length → isPb n (N.kids.getD j 0) = true) :
    Calls Tryd.prog 49 #[.agg #[.int .i64 N.kind, .slice a1 N.ints.length c1, .slice a2 N.texts.length c2, .slice a3 N.kids.length c3], .slice (some ⟨gp, 0, none⟩) n cp] w fun e w' => NdOut w w' e (renNd (fun z => p z.toNat) N) := by
  have hgr := big_no hg
  have HA : Hid (∀ (o1 o2 : Obj), o1 = .cells #[.int .i64 N.kind, .slice a1 N.ints.length c1, .slice a2 N.texts.length c2, .slice a3 N.kids.length c3] 48 → o2 = .cells #[.int .i64 0, .slice none 0 0, .slice none 0 0, .slice none 0 0] 48 → AtN 48 ((w.alloc o1).alloc o2) (w.heap.size + 1) #[.int .i64 0, .slice none 0 0, .slice none 0 0, .slice none 0 0] ∧ NdAt ((w.alloc o1).alloc o2) N a1 a2 a3 ∧ Below w.heap.size w ((w.alloc o1).alloc o2) ∧ ((w.alloc o1).alloc o2).heap.size = w.heap.size + 2) := by
    rintro _ _ rfl rfl
    exact ⟨mk_at (AtN.new (w.alloc _) 48 _) (show _ = w.heap.size + 1 by simp), (h.alloc _).alloc _, ((Below.refl w.heap.size w).alloc (Nat.le_refl _) _).alloc (by simp) _, by simp⟩
  have HP : Hid (AtN 3 w gp (zV n p) ∧ ∀ j, j < N.kids.length → isPb n (N.kids.getD j 0) = true) := ⟨hp, hk⟩
  have hgp := hp.lt
  have hk3 := hgr.2.2.1
  clear h hp hk
  go_enter Tryd.func49, Tryd.ntmps49
  go_wp2_with fail
  obtain ⟨h1, h2, h3, h4⟩ := HA.out _ _ rfl rfl
  refine (copy_any N a1 a2 a3 c1 c2 c3 _ h2 hgr.1 hgr.2.1 hgr.2.2.1).mono ?_
  rintro e wq ⟨b1, d1, b2, d2, b3, d3, rfl, hO, hb⟩
  rw [h4] at hO
  have hsq : w.heap.size + 2 ≤ wq.heap.size := by have := hb.size; rw [h4] at this; exact this
  have HT0 : Hid (Tgf (wq.alloc (.cells #[.int .i64 N.kind, .slice b1 N.ints.length d1, .slice b2 N.texts.length d2, .slice b3 N.kids.length d3] 48)) (w.heap.size + 2) wq.heap.size N (fun z => p z.toNat) 0 b1 b2 b3 d1 d2 d3) := ⟨AtN.new wq 48 _, hO.i.alloc _, hO.t.alloc _, by rw [tkf_zero]; exact hO.k.alloc _⟩
  have HB0 : Hid (Below w.heap.size w (wq.alloc (.cells #[.int .i64 N.kind, .slice b1 N.ints.length d1, .slice b2 N.texts.length d2, .slice b3 N.kids.length d3] 48))) := (h3.trans (hb.mono (by rw [h4]; omega))).alloc (by omega) _
  have HR0 : Hid (AtN 48 (wq.alloc (.cells #[.int .i64 N.kind, .slice b1 N.ints.length d1, .slice b2 N.texts.length d2, .slice b3 N.kids.length d3] 48)) (w.heap.size + 1) #[.int .i64 0, .slice none 0 0, .slice none 0 0, .slice none 0 0]) := (h1.belowAll hb).alloc _
  clear hO hb HA h1 h2 h3 h4
  go_wp2_with fail
  go_loopw [13] (fun kv w2 => ∃ k : Nat, kv = .int .i64 k ∧ k ≤ N.kids.length ∧ Hid (Tgf w2 (w.heap.size + 2) wq.heap.size N (fun z => p z.toNat) k b1 b2 b3 d1 d2 d3) ∧ Hid (Below w.heap.size w w2) ∧ Hid (AtN 48 w2 (w.heap.size + 1) #[.int .i64 0, .slice none 0 0, .slice none 0 0, .slice none 0 0])) (fun kv _ => N.kids.length - (intOf kv).toNat)
  case atStart => exact ⟨0, rfl, by omega, HT0, HB0, HR0⟩
  case round =>
    clear HT0 HB0 HR0
    obtain ⟨k, rfl, hk, HT, HB2, HR⟩ := hrel
    have y3 : wr.cell? ⟨wq.heap.size, 3, none⟩ = some (.slice b3 N.kids.length d3) := HT.out.nd.cell 3
    by_cases hkl : k < N.kids.length
    · have hkl' : (k : Int) < N.kids.length := by omega
      obtain ⟨q, rfl, e1, e2, e3, e4, hT2⟩ := HT.out.next hkl
      have hpl := HP.out.2 k hkl
      obtain ⟨m, hm, hmn⟩ : ∃ m : Nat, N.kids.getD k 0 = (m : Int) ∧ m < n := by
        have := isPb_iff.1 hpl
        exact ⟨(N.kids.getD k 0).toNat, by omega, by omega⟩
      have hmn' : (m : Int) < n := by omega
      have p0 : wr.cell? ⟨gp, m, none⟩ = some (.int .i64 (p m)) := by rw [(AtN.below HP.out.1 HB2.out hgp).cell m, zV_at _ _ _ hmn]
      rw [hm] at e1 hT2
      rw [Int.toNat_natCast] at hT2
      have HT2 : Hid (Tgf ((wr.setCell ⟨q, k, none⟩ (.int .i64 (p m))).drew) (w.heap.size + 2) wq.heap.size N (fun z => p z.toNat) (k + 1) b1 b2 (some ⟨q, 0, none⟩) d1 d2 d3 ∧ Below w.heap.size w ((wr.setCell ⟨q, k, none⟩ (.int .i64 (p m))).drew) ∧ AtN 48 ((wr.setCell ⟨q, k, none⟩ (.int .i64 (p m))).drew) (w.heap.size + 1) #[.int .i64 0, .slice none 0 0, .slice none 0 0, .slice none 0 0]) := ⟨hT2.drew, (HB2.out.setCell (p := ⟨q, k, none⟩) (by show w.heap.size ≤ q; omega) _).drew, (HR.out.setOther ⟨q, k, none⟩ (by show q ≠ w.heap.size + 1; omega) _).drew⟩
      generalize p m = pm at *
      clear HT HB2 hT2 HR hm hpl
      go_wp2_with fail
      go_region
      go_wp2_with fail
      go_roundw
      case rel => exact ⟨k + 1, by go_num, by omega, HT2.out.1, HT2.out.2.1, HT2.out.2.2⟩
      case measure => simp [intOf]; omega
    · have hkl' : ¬ (k : Int) < N.kids.length := by omega
      obtain rfl : k = N.kids.length := by omega
      have y0 : wr.cell? ⟨wq.heap.size, 0, none⟩ = some (.int .i64 N.kind) := HT.out.nd.cell 0
      have y1 : wr.cell? ⟨wq.heap.size, 1, none⟩ = some (.slice b1 N.ints.length d1) := HT.out.nd.cell 1
      have y2 : wr.cell? ⟨wq.heap.size, 2, none⟩ = some (.slice b2 N.texts.length d2) := HT.out.nd.cell 2
      have f0 := HR.out.fz 0
      have f1 := HR.out.fz 1
      have f2 := HR.out.fz 2
      have f3 := HR.out.fz 3
      have z0 : wr.cell? ⟨w.heap.size + 1, 0, none⟩ = some (.int .i64 0) := HR.out.cell 0
      have z1 : wr.cell? ⟨w.heap.size + 1, 1, none⟩ = some (.slice none 0 0) := HR.out.cell 1
      have z2 : wr.cell? ⟨w.heap.size + 1, 2, none⟩ = some (.slice none 0 0) := HR.out.cell 2
      have z3 : wr.cell? ⟨w.heap.size + 1, 3, none⟩ = some (.slice none 0 0) := HR.out.cell 3
      have hl1 := HR.out.lt
      have HO : Hid (OwnNx wr (w.heap.size + 2) (renNx (fun z => p z.toNat) N b1 b2 b3 d1 d2 d3)) := HT.out.own
      have HO4 : Hid (∀ v0 v1 v2 v3, OwnNd ((((wr.setCell ⟨w.heap.size + 1, 0, none⟩ v0).setCell ⟨w.heap.size + 1, 1, none⟩ v1).setCell ⟨w.heap.size + 1, 2, none⟩ v2).setCell ⟨w.heap.size + 1, 3, none⟩ v3) w.heap.size (renNd (fun z => p z.toNat) N) (.slice b1 N.ints.length d1) (.slice b2 N.texts.length d2) (.slice b3 (renNd (fun z => p z.toNat) N).kids.length d3)) := fun v0 v1 v2 v3 => by
        have h0 : OwnNd wr (w.heap.size + 2) (renNd (fun z => p z.toNat) N) (.slice b1 N.ints.length d1) (.slice b2 N.texts.length d2) (.slice b3 (renNd (fun z => p z.toNat) N).kids.length d3) := HO.out
        exact ((((h0.set ⟨w.heap.size + 1, 0, none⟩ (by simp) v0).set ⟨w.heap.size + 1, 1, none⟩ (by simp) v1).set ⟨w.heap.size + 1, 2, none⟩ (by simp) v2).set ⟨w.heap.size + 1, 3, none⟩ (by simp) v3).mono (by omega)
      have HB4 : Hid (∀ v0 v1 v2 v3, Below w.heap.size w ((((wr.setCell ⟨w.heap.size + 1, 0, none⟩ v0).setCell ⟨w.heap.size + 1, 1, none⟩ v1).setCell ⟨w.heap.size + 1, 2, none⟩ v2).setCell ⟨w.heap.size + 1, 3, none⟩ v3)) := fun v0 v1 v2 v3 => (((HB2.out.setCell (p := ⟨w.heap.size + 1, 0, none⟩) (by show w.heap.size ≤ w.heap.size + 1; omega) v0).setCell (p := ⟨w.heap.size + 1, 1, none⟩) (by show w.heap.size ≤ w.heap.size + 1; omega) v1).setCell (p := ⟨w.heap.size + 1, 2, none⟩) (by show w.heap.size ≤ w.heap.size + 1; omega) v2).setCell (p := ⟨w.heap.size + 1, 3, none⟩) (by show w.heap.size ≤ w.heap.size + 1; omega) v3
      have HA4 : Hid (∀ v0 v1 v2 v3, AtN 48 ((((wr.setCell ⟨w.heap.size + 1, 0, none⟩ v0).setCell ⟨w.heap.size + 1, 1, none⟩ v1).setCell ⟨w.heap.size + 1, 2, none⟩ v2).setCell ⟨w.heap.size + 1, 3, none⟩ v3) (w.heap.size + 1) #[v0, v1, v2, v3]) := fun v0 v1 v2 v3 => at_set4 HR.out v0 v1 v2 v3
      clear HT HB2 HR HO
      go_wp2_with fail
      have A := HA4.out (.int .i64 N.kind) (.slice b1 N.ints.length d1) (.slice b2 N.texts.length d2) (.slice b3 N.kids.length d3)
      have O := HO4.out (.int .i64 N.kind) (.slice b1 N.ints.length d1) (.slice b2 N.texts.length d2) (.slice b3 N.kids.length d3)
      have Bq := HB4.out (.int .i64 N.kind) (.slice b1 N.ints.length d1) (.slice b2 N.texts.length d2) (.slice b3 N.kids.length d3)
      have k0 := A.cell 0
      have k1 := A.cell 1
      have k2 := A.cell 2
      have k3 := A.cell 3
      have hkk : (renNd (fun z => p z.toNat) N).kids.length = N.kids.length := by simp [renNd]
      rw [hkk] at O
      exact bodyPost_ret (v := .agg #[.int .i64 N.kind, .slice b1 N.ints.length d1, .slice b2 N.texts.length d2, .slice b3 N.kids.length d3]) (by simp [results, Tryd.results49, go_sem, k0, k1, k2, k3]) rfl ⟨b1, d1, b2, d2, b3, d3, by rw [hkk]; rfl, by rw [hkk]; exact O, Bq⟩

end Go.Proofs.YtkcaeajhbeenbaaDoor

namespace Go.Proofs.YtkcaeajhbeenbaaDoor
open Go.RowKit Go.Maps Go.WideMaps Go.Sort

/-- What Numbers tells. -/
def NumOut (X : List Nx) (r : Int) (w w' : World) (e : Ending) : Prop := (RightIs X r → ∃ g, e = .returned (.slice (some ⟨g, 0, none⟩) X.length X.length) ∧ AtN 3 w' g (zV X.length (fun i => ((oX X r).idxOf i : Int)))) ∧ (¬ RightIs X r → e = .returned (.slice none 0 0)) ∧ Below w.heap.size w w'

/-- Is a scene canonical? -/
def IsCan (X : List Nx) (r : Int) : Prop := RightIs X r ∧ ∀ i, i < X.length → (oX X r).idxOf i = i
def IsOut (X : List Nx) (r : Int) (w w' : World) (e : Ending) : Prop := ∃ b, e = .returned (.bool b) ∧ (b = true ↔ IsCan X r) ∧ Below w.heap.size w w'

end Go.Proofs.YtkcaeajhbeenbaaDoor
/- The contract of the program's Canon. -/
namespace Go.Proofs.YtkcaeajhbeenbaaDoor
open Go.RowKit Go.Maps Go.WideMaps Go.Sort

/-- A node's place, as a kid's number. -/
def pX (X : List Nx) (r : Int) (z : Int) : Int := ((oX X r).idxOf z.toNat : Int)
/-- The canonical scene's nodes. -/
def cX (X : List Nx) (r : Int) : List Nd := (oX X r).map fun i => renNd (pX X r) (X.getD i noNx).nd

theorem nxV_at' (X : List Nx) (i j : Nat) (h : i < X.length) (hj : j < 4) : (nxV X).toArray[i * 4 + j]? = (nxC (X.getD i noNx))[j]? := by simpa using nxV_at X i j h hj
theorem nxV_set (y : Nx) : ∀ (Z : List Nx) (j : Nat), j < Z.length → ((((nxV Z).set (j * 4) (.int .i64 y.nd.kind)).set (j * 4 + 1) (.slice y.a1 y.nd.ints.length y.c1)).set (j * 4 + 2) (.slice y.a2 y.nd.texts.length y.c2)).set (j * 4 + 3) (.slice y.a3 y.nd.kids.length y.c3) = nxV (Z.set j y)
  | x :: r, 0, _ => by simp [nxV, nxC]
  | x :: r, j + 1, h => by
    have ih := nxV_set y r j (by simpa using h)
    have e : nxV (x :: r) = nxC x ++ nxV r := by simp [nxV]
    have hl : (nxC x).length = 4 := rfl
    rw [e, List.set_append_right _ _ (by omega), List.set_append_right _ _ (by omega), List.set_append_right _ _ (by omega), List.set_append_right _ _ (by omega), hl,
      show (j + 1) * 4 - 4 = j * 4 by omega, show (j + 1) * 4 + 1 - 4 = j * 4 + 1 by omega, show (j + 1) * 4 + 2 - 4 = j * 4 + 2 by omega, show (j + 1) * 4 + 3 - 4 = j * 4 + 3 by omega, ih]
    simp [nxV]
theorem at_setNx {T : TypeId} {W : World} {g : Nat} {Z : List Nx} (h : AtN T W g (nxV Z).toArray) (j : Nat) (hj : j < Z.length) (y : Nx) : AtN T ((((W.setCell ⟨g, j * 4, none⟩ (.int .i64 y.nd.kind)).setCell ⟨g, j * 4 + 1, none⟩ (.slice y.a1 y.nd.ints.length y.c1)).setCell ⟨g, j * 4 + 2, none⟩ (.slice y.a2 y.nd.texts.length y.c2)).setCell ⟨g, j * 4 + 3, none⟩ (.slice y.a3 y.nd.kids.length y.c3)) g (nxV (Z.set j y)).toArray := by
  have := (((h.set (j * 4) (.int .i64 y.nd.kind)).set (j * 4 + 1) (.slice y.a1 y.nd.ints.length y.c1)).set (j * 4 + 2) (.slice y.a2 y.nd.texts.length y.c2)).set (j * 4 + 3) (.slice y.a3 y.nd.kids.length y.c3)
  rw [← nxV_set y Z j hj]
  simpa using this
theorem nxV_none : ∀ n : Nat, nxV (List.replicate n noNx) = (List.replicate n [Value.int .i64 0, .slice none 0 0, .slice none 0 0, .slice none 0 0]).flatten
  | 0 => rfl
  | n + 1 => by
    have := nxV_none n
    simp only [nxV, List.replicate_succ, List.flatMap_cons, List.flatten_cons] at this ⊢
    rw [this]
    rfl
theorem nxV_new (n : Nat) : madeCells (Value.agg #[.int .i64 0, .slice none 0 0, .slice none 0 0, .slice none 0 0]).cells (n * 4) = (nxV (List.replicate n noNx)).toArray := by
  apply Array.ext
  · simp [size_madeCells, nxV_length]
  · intro i h1 h2
    have hi : i < n * 4 := by simpa [size_madeCells] using h1
    have h3 := nxV_at (List.replicate n noNx) (i / 4) (i % 4) (by simp; omega) (by omega)
    rw [show i / 4 * 4 + i % 4 = i by omega] at h3
    have h4 : (List.replicate n noNx).getD (i / 4) noNx = noNx := by simp [show i / 4 < n by omega]
    rw [h4] at h3
    have h5 : (nxV (List.replicate n noNx))[i]? = some (nxV (List.replicate n noNx)).toArray[i] := by
      rw [List.getElem?_eq_getElem (by simpa using h2)]
      simp
    rw [h5] at h3
    rcases (by omega : i % 4 = 0 ∨ i % 4 = 1 ∨ i % 4 = 2 ∨ i % 4 = 3) with q | q | q | q <;> rw [q] at h3 <;> rw [Option.some.inj (h3.trans (show _ = some _ from rfl))] <;> simp [madeCells, Value.cells, q, noNx]

/-- The facts of a round of Canon. -/
def cnF (gn gp n i j : Nat) (p : Int → Int) (N : Nx) (Z : List Nx) (B : Nat) : Nat → Value → World → Prop
  | 0, v, _ => v = .slice (some ⟨gn, 0, none⟩) n n
  | 1, v, _ | 6, v, _ => v = .slice (some ⟨gp, 0, none⟩) n n
  | 2, v, _ => v = .int .i64 (i : Int)
  | 3, v, _ => v = .pointer (some ⟨gp, i, none⟩)
  | 4, v, _ => v = .int .i64 (j : Int)
  | 5, v, _ => v = .agg #[.int .i64 N.nd.kind, .slice N.a1 N.nd.ints.length N.c1, .slice N.a2 N.nd.texts.length N.c2, .slice N.a3 N.nd.kids.length N.c3]
  | 7, v, W => ∃ y : Nx, y.nd = renNd p N.nd ∧ v = .agg (nxC y).toArray ∧ OwnNx W B y
  | 8, v, _ => v = .pointer (some ⟨gn, j * 4, none⟩)
  | 9, _, W => ∃ y : Nx, y.nd = renNd p N.nd ∧ AtN 48 W gn (nxV (Z.set j y)).toArray ∧ OwnNx W B y
  | _, _, _ => True
def cnG (gn j : Nat) (Z : List Nx) (W0 W : World) : Prop := (∃ Z', (Z' = Z ∨ ∃ y, Z' = Z.set j y) ∧ AtN 48 W gn (nxV Z').toArray) ∧ Fr (fun b => b = gn) W0 W
section
variable {gn gp n i j B : Nat} {p : Int → Int} {N : Nx} {Z : List Nx} {W0 W W' : World}
theorem cnG.below (h : cnG gn j Z W0 W) (hb : Below W.heap.size W W') : cnG gn j Z W0 W' := by
  obtain ⟨⟨Z', h1, h2⟩, h3⟩ := h
  exact ⟨⟨Z', h1, h2.belowAll hb⟩, h3.trans (Fr.of_below (S := fun _ => False) hb) (fun _ q _ => q.elim)⟩
theorem cnF_below (hb : Below W.heap.size W W') : ∀ k u, 7 ≠ k → cnF gn gp n i j p N Z B k u W → cnF gn gp n i j p N Z B k u W' := by
  intro k u hk h
  match k, h with
  | 0, h | 1, h | 2, h | 3, h | 4, h | 5, h | 6, h | 8, h => exact h
  | 7, _ => exact absurd rfl hk
  | 9, h =>
    obtain ⟨y, h1, h2, h3⟩ := h
    exact ⟨y, h1, h2.belowAll hb, h3.fr (Fr.of_below (S := fun _ => False) hb) (fun _ q => q.elim)⟩
  | q + 10, _ => trivial
theorem cnF_set (hf : Fr (fun b => b = gn) W W') (ha : Alien W (fun b => b = gn)) : ∀ k u, 9 ≠ k → cnF gn gp n i j p N Z B k u W → cnF gn gp n i j p N Z B k u W' := by
  intro k u hk h
  match k, h with
  | 0, h | 1, h | 2, h | 3, h | 4, h | 5, h | 6, h | 8, h => exact h
  | 7, h =>
    obtain ⟨y, h1, h2, h3⟩ := h
    exact ⟨y, h1, h2, h3.fr hf ha⟩
  | 9, _ => exact absurd rfl hk
  | q + 10, _ => trivial
end

/-- The block of a node's list of kids. -/
def kidB (y : Nx) : Option Nat := (Value.slice y.a3 y.nd.kids.length y.c3).ownBlock
/-- No two nodes share their kids' list. -/
def Aprt (Y : List Nx) : Prop := ∀ i j, i < j → j < Y.length → ∀ g, kidB (Y.getD i noNx) = some g → kidB (Y.getD j noNx) ≠ some g

/-- While the nodes are put to their places. -/
structure CnI (w wr : World) (X : List Nx) (a : Option Addr) (c : Nat) (r : Int) (gn gp i : Nat) (Z : List Nx) : Prop where
  len : Z.length = X.length
  nd : ∀ k, k < i → (Z.getD ((oX X r).idxOf k) noNx).nd = renNd (pX X r) (X.getD k noNx).nd
  own : ∀ k, k < i → OwnNx wr w.heap.size (Z.getD ((oX X r).idxOf k) noNx)
  nodes : AtN 48 wr gn (nxV Z).toArray
  places : AtN 3 wr gp (zV X.length (fun i => ((oX X r).idxOf i : Int)))
  arg : AtN 24 wr w.heap.size #[.slice a X.length c, .int .i64 r]
  res : AtN 24 wr (w.heap.size + 1) #[.slice none 0 0, .int .i64 0]
  bel : Below w.heap.size w wr
  big : w.heap.size + 2 ≤ gn
  ap : ∀ k k', k < i → k' < i → k ≠ k' → ∀ q, kidB (Z.getD ((oX X r).idxOf k) noNx) = some q → kidB (Z.getD ((oX X r).idxOf k') noNx) ≠ some q
/-- A round. -/
theorem CnI.next {w wr W0 W : World} {X : List Nx} {a : Option Addr} {c : Nat} {r : Int} {gn gp i : Nat} {Z : List Nx} {y : Nx} (h : CnI w wr X a c r gn gp i Z) (hR : RightIs X r) (hi : i < X.length) (hb : Below wr.heap.size wr W0) (hf : Fr (fun b => b = gn) W0 W) (hy : y.nd = renNd (pX X r) (X.getD i noNx).nd) (hA : AtN 48 W gn (nxV (Z.set ((oX X r).idxOf i) y)).toArray) (hO : OwnNx W W0.heap.size y) : CnI w W X a c r gn gp (i + 1) (Z.set ((oX X r).idxOf i) y) := by
  have hord := hR.ord
  have hgl := h.nodes.lt
  have hne : gp ≠ gn := fun e => by
    have h1 : wr.heap[gp]? = _ := h.places
    have h2 : wr.heap[gn]? = _ := h.nodes
    rw [e, h2] at h1
    injection h1 with h1
    injection h1 with _ h1
    exact absurd h1 (by decide)
  have hf2 : Fr (fun b => b = gn) wr W := (Fr.of_below (S := fun b => b = gn) hb).trans hf (fun _ e _ => e)
  have hal : Alien wr (fun b => b = gn) := fun b hb _ => by
    subst hb
    exact ⟨_, _, _, h.nodes, by decide, by decide, by decide⟩
  have hget : ∀ k, k < i + 1 → (Z.set ((oX X r).idxOf i) y).getD ((oX X r).idxOf k) noNx = if k = i then y else Z.getD ((oX X r).idxOf k) noNx := fun k hk => by
    have hil := hord.idx (x := i) (by rw [kX_length]; exact hi)
    rw [kX_length] at hil
    by_cases e : k = i
    · subst e
      rw [if_pos rfl, List.getD_eq_getElem?_getD, List.getElem?_set, if_pos rfl, if_pos (by rw [h.len]; exact hil)]
      rfl
    · rw [if_neg e, List.getD_eq_getElem?_getD, List.getElem?_set, if_neg (fun q => e (idx_inj (hord.all k (by rw [kX_length]; omega)) (hord.all i (by rw [kX_length]; omega)) q.symm)), ← List.getD_eq_getElem?_getD]
  refine ⟨by rw [List.length_set]; exact h.len, fun k hk => ?_, fun k hk => ?_, hA, h.places.fr hf2 hne, h.arg.fr hf2 (by have := h.big; omega), h.res.fr hf2 (by have := h.big; omega), Fr.below h.bel hf2 (fun b e => by have := h.big; omega) h.bel.size, h.big, fun k k' hk hk' hne q hq hq' => ?_⟩
  · rw [hget k hk]
    by_cases e : k = i
    · rw [if_pos e, hy, e]
    · rw [if_neg e]; exact h.nd k (by omega)
  · rw [hget k hk]
    by_cases e : k = i
    · rw [if_pos e]
      exact hO.mono (Nat.le_trans h.bel.size hb.size)
    · rw [if_neg e]; exact (h.own k (by omega)).fr hf2 hal
  · rw [hget k hk] at hq
    rw [hget k' hk'] at hq'
    have hold : ∀ m, m < i → kidB (Z.getD ((oX X r).idxOf m) noNx) = some q → q < wr.heap.size := fun m hm e => ((h.own m hm).k.lt q e).2
    have hnew : kidB y = some q → wr.heap.size ≤ q := fun e => Nat.le_trans hb.size (hO.k.lt q e).1
    by_cases e : k = i
    · rw [if_pos e] at hq
      rw [if_neg (by omega)] at hq'
      have := hold k' (by omega) hq'
      have := hnew hq
      omega
    · rw [if_neg e] at hq
      by_cases e' : k' = i
      · rw [if_pos e'] at hq'
        have := hold k (by omega) hq
        have := hnew hq'
        omega
      · rw [if_neg e'] at hq'
        exact h.ap k k' (by omega) (by omega) hne q hq hq'
/-- All are at their places. -/
theorem CnI.fin {w wr : World} {X : List Nx} {a : Option Addr} {c : Nat} {r : Int} {gn gp : Nat} {Z : List Nx} (h : CnI w wr X a c r gn gp X.length Z) (hR : RightIs X r) : Z.map Nx.nd = cX X r ∧ ScAt wr (some ⟨gn, 0, none⟩) Z := by
  have hord := hR.ord
  have hol : (oX X r).length = X.length := by have := hord.len; rwa [kX_length] at this
  have hat : ∀ j, (hj : j < X.length) → ∃ k, k < X.length ∧ (oX X r).idxOf k = j ∧ (oX X r)[j]? = some k := fun j hj => by
    have hj' : j < (oX X r).length := by omega
    refine ⟨(oX X r)[j], ?_, hord.good.nd.idxOf_getElem j hj', List.getElem?_eq_getElem hj'⟩
    have := hord.good.lt _ (List.getElem_mem hj')
    rwa [kX_length] at this
  constructor
  · refine List.ext_getElem? (fun j => ?_)
    by_cases hj : j < X.length
    · obtain ⟨k, hk, h1, h2⟩ := hat j hj
      unfold cX
      rw [List.getElem?_map, List.getElem?_map, h2, List.getElem?_eq_getElem (by rw [h.len]; exact hj)]
      have := h.nd k hk
      rw [h1, List.getD_eq_getElem?_getD, List.getElem?_eq_getElem (by rw [h.len]; exact hj)] at this
      simpa using this
    · rw [List.getElem?_eq_none (by rw [List.length_map, h.len]; omega), List.getElem?_eq_none (by unfold cX; rw [List.length_map]; omega)]
  · refine ⟨h.nodes.lsQ.toAt, fun j hj => ?_⟩
    rw [h.len] at hj
    obtain ⟨k, hk, h1, _⟩ := hat j hj
    have := h.own k hk
    rw [h1] at this
    exact this.ndAt

/-- What Canon tells. -/
def CanonOut (X : List Nx) (r : Int) (w w' : World) (e : Ending) : Prop := (RightIs X r → ∃ Y a' c', e = .returned (.tuple #[.agg #[.slice a' (List.length Y) c', .int .i64 ((X.length : Int) - 1)], .int .i64 0]) ∧ Y.map Nx.nd = cX X r ∧ ScAt w' a' Y) ∧ (¬ RightIs X r → ∃ n z, e = .returned (.tuple #[.agg #[.slice none 0 0, .int .i64 0], .int .i64 n]) ∧ CheckIs X r n z ∧ n ≠ 0) ∧ Below w.heap.size w w'

/-- A scene all of which is new. -/
structure OwnSc (w : World) (B gn : Nat) (Y : List Nx) : Prop where
  nodes : AtN 48 w gn (nxV Y).toArray
  own : ∀ j, j < Y.length → OwnNx w B (Y.getD j noNx)
  ap : Aprt Y
  ge : B ≤ gn
theorem OwnSc.scAt {w : World} {B gn : Nat} {Y : List Nx} (h : OwnSc w B gn Y) : ScAt w (some ⟨gn, 0, none⟩) Y := ⟨h.nodes.lsQ.toAt, fun j hj => (h.own j hj).ndAt⟩
/-- What Canon tells, and that it is new. -/
def CanonOut2 (X : List Nx) (r : Int) (w w' : World) (e : Ending) : Prop := (RightIs X r → ∃ (Y : List Nx) (gn : Nat), e = .returned (.tuple #[.agg #[.slice (some ⟨gn, 0, none⟩) Y.length Y.length, .int .i64 ((X.length : Int) - 1)], .int .i64 0]) ∧ Y.map Nx.nd = cX X r ∧ OwnSc w' w.heap.size gn Y) ∧ (¬ RightIs X r → ∃ n z, e = .returned (.tuple #[.agg #[.slice none 0 0, .int .i64 0], .int .i64 n]) ∧ CheckIs X r n z ∧ n ≠ 0) ∧ Below w.heap.size w w'

set_option maxRecDepth 10000 in
set_option maxHeartbeats 2000000 in
theorem canon2_any (X : List Nx) (a : Option Addr) (c : Nat) (r : Int) (w : World) (h : ScAt w a X) (hX : Small X) :
    Calls Tryd.prog 22 #[.agg #[.slice a X.length c, .int .i64 r]] w fun e w' => CanonOut2 X r w w' e := by
  obtain ⟨i0, hi0, hz0, hz1, hz2⟩ := info_parts Tryd.infoD9
  have hn := hX.1
  have HS : Hid (ScAt w a X ∧ Small X) := ⟨h, hX⟩
  clear h hX
  have HA : Hid (∀ (o1 o2 : Obj), o1 = .cells #[.slice a X.length c, .int .i64 r] 24 → o2 = .cells #[.slice none 0 0, .int .i64 0] 24 → AtN 24 ((w.alloc o1).alloc o2) w.heap.size #[.slice a X.length c, .int .i64 r] ∧ AtN 24 ((w.alloc o1).alloc o2) (w.heap.size + 1) #[.slice none 0 0, .int .i64 0] ∧ Below w.heap.size w ((w.alloc o1).alloc o2) ∧ ((w.alloc o1).alloc o2).heap.size = w.heap.size + 2) := by
    rintro _ _ rfl rfl
    exact ⟨(AtN.new w 24 _).alloc _, mk_at (AtN.new (w.alloc _) 24 _) (show _ = w.heap.size + 1 by simp), ((Below.refl w.heap.size w).alloc (Nat.le_refl _) _).alloc (by simp) _, by simp⟩
  go_enter Tryd.func22, Tryd.ntmps22
  go_wp2_with fail
  obtain ⟨h1, h2, h3, h4⟩ := HA.out _ _ rfl rfl
  refine (check_any X a c r _ (HS.out.1.belowB h3) HS.out.2).mono ?_
  rintro e w1 ⟨n, z, rfl, hc, hb1⟩
  have HA1 : Hid (AtN 24 w1 w.heap.size #[.slice a X.length c, .int .i64 r]) := h1.belowAll hb1
  have HR1 : Hid (AtN 24 w1 (w.heap.size + 1) #[.slice none 0 0, .int .i64 0]) := h2.belowAll hb1
  have HB1 : Hid (Below w.heap.size w w1) := h3.trans (hb1.mono h3.size)
  have hs1 : w.heap.size + 2 ≤ w1.heap.size := by have := hb1.size; omega
  have x0 : w1.cell? ⟨w.heap.size, 0, none⟩ = some (.slice a X.length c) := HA1.out.cell 0
  have x1 : w1.cell? ⟨w.heap.size, 1, none⟩ = some (.int .i64 r) := HA1.out.cell 1
  have HC : Hid (CheckIs X r n z) := hc
  clear HA h1 h2 h3 h4 hb1 hc
  by_cases hn0 : n = 0
  · subst hn0
    have hR : RightIs X r := HC.out.right.1 rfl
    have HN : Hid (Calls Tryd.prog 48 #[.agg #[.slice a X.length c, .int .i64 r]] w1 fun e w' => CanonicalOut X r w1 w' e) := canonical_any X a c r w1 (HS.out.1.belowB HB1.out) HS.out.2 hR
    have HR : Hid (RightIs X r) := hR
    clear hR HC
    go_wp2_with fail
    refine Calls.mono HN.out ?_
    rintro e w2 ⟨gp, rfl, hg, hgl, hb2⟩
    have HA2 : Hid (AtN 24 w2 w.heap.size #[.slice a X.length c, .int .i64 r]) := HA1.out.belowAll hb2
    have y0 : w2.cell? ⟨w.heap.size, 0, none⟩ = some (.slice a X.length c) := HA2.out.cell 0
    have hs2 : w1.heap.size ≤ w2.heap.size := hb2.size
    have hmk : (Instr.makeSlice 22 (.int .i64 (X.length : Int)) (.int .i64 (X.length : Int))).run Tryd.prog w2 = .ok (.slice (some ⟨w2.heap.size, 0, none⟩) X.length X.length) (w2.alloc (.cells (nxV (List.replicate X.length noNx)).toArray 48)) := by
      have := run_make (P := Tryd.prog) w2 22 48 i0 (.agg #[.int .i64 0, .slice none 0 0, .slice none 0 0, .slice none 0 0]) Tryd.underlying22 hi0 hz0 .i64 .i64 X.length X.length (by omega) (by omega) (by rw [hz2]; omega) (by omega)
      rw [hz1, Int.toNat_natCast, nxV_new] at this
      simpa using this
    have HI0 : Hid (CnI w (w2.alloc (.cells (nxV (List.replicate X.length noNx)).toArray 48)) X a c r w2.heap.size gp 0 (List.replicate X.length noNx)) :=
      ⟨by simp, fun k hk => by omega, fun k hk => by omega, AtN.new w2 48 _, hg.alloc _, HA2.out.alloc _, (HR1.out.belowAll hb2).alloc _, (HB1.out.trans (hb2.mono HB1.out.size)).alloc (by omega) _, by omega, fun k k' hk => by omega⟩
    have y0' : (w2.alloc (.cells (nxV (List.replicate X.length noNx)).toArray 48)).cell? ⟨w.heap.size, 0, none⟩ = some (.slice a X.length c) := HI0.out.arg.cell 0
    clear HN hg hgl hb2 HA1 HR1 HB1 HA2 x0 x1
    go_wp2_with fail
    clear hmk y0 y0'
    go_loopw [28] (fun iv wr => ∃ (i : Nat) (Z : List Nx), iv = .int .i64 i ∧ i ≤ X.length ∧ Hid (CnI w wr X a c r w2.heap.size gp i Z)) (fun iv _ => X.length - (intOf iv).toNat)
    case atStart => exact ⟨0, _, rfl, by omega, HI0⟩
    case round =>
      clear HI0
      obtain ⟨i, Z, rfl, hi, HI⟩ := hrel
      by_cases hlt : i < X.length
      · have hlt' : (i : Int) < X.length := by omega
        have hsc := ScAt.belowB HS.out.1 HI.out.bel
        obtain ⟨b, o, rfl, hbl, d0, d1, d2, d3⟩ := hsc.node hlt
        have hZl := HI.out.len
        have hjl : (oX X r).idxOf i < X.length := by have := HR.out.ord.idx (x := i) (by rw [kX_length]; exact hlt); rwa [kX_length] at this
        have g0' : wr.cell? ⟨gp, i, none⟩ = some (.int .i64 ((oX X r).idxOf i : Int)) := by rw [HI.out.places.cell i, zV_at _ _ _ hlt]
        have hgpl := HI.out.places.lt
        have hgnl := HI.out.nodes.lt
        have hne : gp ≠ w2.heap.size := fun e => by
          have h1 : wr.heap[gp]? = _ := HI.out.places
          have h2 : wr.heap[w2.heap.size]? = _ := HI.out.nodes
          rw [e, h2] at h1
          injection h1 with h1
          injection h1 with _ h1
          exact absurd h1 (by decide)
        have HW : Hid (∀ W0, W0 = wr.alloc (.cells #[.int .i64 (X.getD i noNx).nd.kind, .slice (X.getD i noNx).a1 (X.getD i noNx).nd.ints.length (X.getD i noNx).c1, .slice (X.getD i noNx).a2 (X.getD i noNx).nd.texts.length (X.getD i noNx).c2, .slice (X.getD i noNx).a3 (X.getD i noNx).nd.kids.length (X.getD i noNx).c3] 48) →
            ((∀ W, Fr (fun b => b = w2.heap.size) W0 W → Calls Tryd.prog 49 #[.agg #[.int .i64 (X.getD i noNx).nd.kind, .slice (X.getD i noNx).a1 (X.getD i noNx).nd.ints.length (X.getD i noNx).c1, .slice (X.getD i noNx).a2 (X.getD i noNx).nd.texts.length (X.getD i noNx).c2, .slice (X.getD i noNx).a3 (X.getD i noNx).nd.kids.length (X.getD i noNx).c3], .slice (some ⟨gp, 0, none⟩) X.length X.length] W fun e w' => NdOut W w' e (renNd (pX X r) (X.getD i noNx).nd)) ∧
            ∀ W (y : Nx), y.nd = renNd (pX X r) (X.getD i noNx).nd → AtN 48 W w2.heap.size (nxV (Z.set ((oX X r).idxOf i) y)).toArray → OwnNx W W0.heap.size y → Fr (fun b => b = w2.heap.size) W0 W → ∃ (i' : Nat) (Z' : List Nx), Value.int .i64 ((i : Int) + 1) = .int .i64 i' ∧ i' ≤ X.length ∧ Hid (CnI w W X (some ⟨b, o, none⟩) c r w2.heap.size gp i' Z')) ∧
            W0.cell? ⟨gp, i, none⟩ = some (.int .i64 ((oX X r).idxOf i : Int)) ∧ AtN 48 W0 wr.heap.size #[.int .i64 (X.getD i noNx).nd.kind, .slice (X.getD i noNx).a1 (X.getD i noNx).nd.ints.length (X.getD i noNx).c1, .slice (X.getD i noNx).a2 (X.getD i noNx).nd.texts.length (X.getD i noNx).c2, .slice (X.getD i noNx).a3 (X.getD i noNx).nd.kids.length (X.getD i noNx).c3] ∧ AtN 48 W0 w2.heap.size (nxV Z).toArray ∧ W0.heap.size = wr.heap.size + 1) := by
          rintro _ rfl
          refine ⟨⟨fun W hf => ?_, fun W y hy hA hO hf => ?_⟩, ((HI.out.places.alloc _).cell i).trans (zV_at _ _ _ hlt), AtN.new wr 48 _, HI.out.nodes.alloc _, by simp⟩
          · have hbW : Below w.heap.size w W := Fr.below (HI.out.bel.alloc HI.out.bel.size _) hf (fun b e => by have := HI.out.big; omega) (by have := HI.out.bel.size; simp; omega)
            exact renum_any (X.getD i noNx).nd (X.getD i noNx).a1 (X.getD i noNx).a2 (X.getD i noNx).a3 (X.getD i noNx).c1 (X.getD i noNx).c2 (X.getD i noNx).c3 gp X.length X.length (fun k => ((oX X r).idxOf k : Int)) W ((ScAt.belowB HS.out.1 hbW).each i hlt) (HS.out.2.2 i hlt) ((HI.out.places.alloc _).fr hf hne) (fun j hj => HR.out.2.1 i hlt j hj)
          · exact ⟨i + 1, _, by simp, hlt, HI.out.next HR.out hlt ((Below.refl wr.heap.size wr).alloc (Nat.le_refl _) _) hf hy hA hO⟩
        clear HI hsc HS HR g0'
        generalize (oX X r).idxOf i = j at *
        generalize X.getD i noNx = N at *
        generalize hp : pX X r = p at *
        clear hp
        go_wp2_with fail
        obtain ⟨h0, g0, hx, HZ0', hsz⟩ := HW.out _ rfl
        have HZ0 : Hid _ := HZ0'
        generalize wr.alloc (.cells #[.int .i64 N.nd.kind, .slice N.a1 N.nd.ints.length N.c1, .slice N.a2 N.nd.texts.length N.c2, .slice N.a3 N.nd.kids.length N.c3] 48) = W0 at *
        have H0 : Hid _ := h0
        have u0 : W0.cell? ⟨wr.heap.size, 0, none⟩ = some (.int .i64 N.nd.kind) := hx.cell 0
        have u1 : W0.cell? ⟨wr.heap.size, 1, none⟩ = some (.slice N.a1 N.nd.ints.length N.c1) := hx.cell 1
        have u2 : W0.cell? ⟨wr.heap.size, 2, none⟩ = some (.slice N.a2 N.nd.texts.length N.c2) := hx.cell 2
        have u3 : W0.cell? ⟨wr.heap.size, 3, none⟩ = some (.slice N.a3 N.nd.kids.length N.c3) := hx.cell 3
        have hgp0 : gp < W0.heap.size := by omega
        have hgx0 : wr.heap.size < W0.heap.size := by omega
        have hgxn : wr.heap.size ≠ w2.heap.size := by omega
        have hjl' : (j : Int) < X.length := by omega
        clear HW h0 hx HZ0' d0 d1 d2 d3
        refine facts_region6 (cnG w2.heap.size j Z W0) (cnF w2.heap.size gp X.length i j p N Z W0.heap.size) (by kernel_rfl) (by kernel_rfl) ⟨⟨Z, .inl rfl, HZ0.out⟩, (Fr.refl _ _).drew⟩ ?step ?fin
        case step =>
          intro i' o' ho a W hG hoff hdep K hQ hK
          have m0 : W.cell? ⟨gp, i, none⟩ = some (.int .i64 (j : Int)) := (World.cell?_of_block (hG.2.block gp hgp0 (by omega))).trans g0
          have n0 : W.cell? ⟨wr.heap.size, 0, none⟩ = some (.int .i64 N.nd.kind) := (World.cell?_of_block (hG.2.block wr.heap.size hgx0 (by omega))).trans u0
          have n1 : W.cell? ⟨wr.heap.size, 1, none⟩ = some (.slice N.a1 N.nd.ints.length N.c1) := (World.cell?_of_block (hG.2.block wr.heap.size hgx0 (by omega))).trans u1
          have n2 : W.cell? ⟨wr.heap.size, 2, none⟩ = some (.slice N.a2 N.nd.texts.length N.c2) := (World.cell?_of_block (hG.2.block wr.heap.size hgx0 (by omega))).trans u2
          have n3 : W.cell? ⟨wr.heap.size, 3, none⟩ = some (.slice N.a3 N.nd.kids.length N.c3) := (World.cell?_of_block (hG.2.block wr.heap.size hgx0 (by omega))).trans u3
          rcases i' with _|_|_|_|_|_|_|_|_|_|i'
          · obtain rfl := Option.some.inj ho
            have t7 : a.tmps[7]?.getD undef = .slice (some ⟨w2.heap.size, 0, none⟩) X.length X.length := hoff 7 (by kernel_rfl)
            clear hdep hoff
            go_simp
            exact hQ _ (rfl)
          · obtain rfl := Option.some.inj ho
            have t6 : a.tmps[6]?.getD undef = .slice (some ⟨gp, 0, none⟩) X.length X.length := hoff 6 (by kernel_rfl)
            clear hdep hoff
            go_simp
            exact hQ _ (rfl)
          · obtain rfl := Option.some.inj ho
            have t8 : a.tmps[8]?.getD undef = .int .i64 (i : Int) := hoff 8 (by kernel_rfl)
            clear hdep hoff
            go_simp
            exact hQ _ (rfl)
          · obtain rfl := Option.some.inj ho
            have e1 : a.tmps[34]?.getD undef = .slice (some ⟨gp, 0, none⟩) X.length X.length := hdep 1 _ (by kernel_rfl) rfl
            have e2 : a.tmps[35]?.getD undef = .int .i64 (i : Int) := hdep 2 _ (by kernel_rfl) rfl
            clear hdep hoff m0 n0 n1 n2 n3
            go_simp
            exact hQ _ (rfl)
          · obtain rfl := Option.some.inj ho
            have e3 : a.tmps[36]?.getD undef = .pointer (some ⟨gp, i, none⟩) := hdep 3 _ (by kernel_rfl) rfl
            clear hdep hoff n0 n1 n2 n3
            go_simp
            exact hQ _ (rfl)
          · obtain rfl := Option.some.inj ho
            have t9 : a.tmps[9]?.getD undef = .pointer (some ⟨wr.heap.size, 0, none⟩) := hoff 9 (by kernel_rfl)
            clear hdep hoff m0
            go_simp
            exact hQ _ (rfl)
          · obtain rfl := Option.some.inj ho
            have t6 : a.tmps[6]?.getD undef = .slice (some ⟨gp, 0, none⟩) X.length X.length := hoff 6 (by kernel_rfl)
            clear hdep hoff
            go_simp
            exact hQ _ (rfl)
          · obtain rfl := Option.some.inj ho
            have e5 : a.tmps[38]?.getD undef = .agg #[.int .i64 N.nd.kind, .slice N.a1 N.nd.ints.length N.c1, .slice N.a2 N.nd.texts.length N.c2, .slice N.a3 N.nd.kids.length N.c3] := hdep 5 _ (by kernel_rfl) rfl
            have e6 : a.tmps[39]?.getD undef = .slice (some ⟨gp, 0, none⟩) X.length X.length := hdep 6 _ (by kernel_rfl) rfl
            clear hdep hoff
            have HC : Hid (Calls Tryd.prog 49 #[.agg #[.int .i64 N.nd.kind, .slice N.a1 N.nd.ints.length N.c1, .slice N.a2 N.nd.texts.length N.c2, .slice N.a3 N.nd.kids.length N.c3], .slice (some ⟨gp, 0, none⟩) X.length X.length] W fun e w' => NdOut W w' e (renNd p N.nd)) := H0.out.1 W hG.2
            have HG : Hid (cnG w2.heap.size j Z W0 W) := hG
            clear hG m0 n0 n1 n2 n3
            go_simp
            refine Calls.mono HC.out ?_
            rintro e w' ⟨a1, c1, a2, c2, a3, c3, rfl, hO, hb⟩
            refine hK _ _ (HG.out.below hb) (cnF_below hb) ⟨⟨renNd p N.nd, a1, c1, a2, c2, a3, c3⟩, rfl, rfl, OwnNd.mono hO HG.out.2.size⟩
          · obtain rfl := Option.some.inj ho
            have e0 : a.tmps[33]?.getD undef = .slice (some ⟨w2.heap.size, 0, none⟩) X.length X.length := hdep 0 _ (by kernel_rfl) rfl
            have e4 : a.tmps[37]?.getD undef = .int .i64 (j : Int) := hdep 4 _ (by kernel_rfl) rfl
            clear hdep hoff m0 n0 n1 n2 n3
            go_simp
            exact hQ _ (rfl)
          · obtain rfl := Option.some.inj ho
            have e7 : ∃ y : Nx, y.nd = renNd p N.nd ∧ a.tmps[40]?.getD undef = .agg (nxC y).toArray ∧ OwnNx W W0.heap.size y := hdep 7 _ (by kernel_rfl) rfl
            have e8 : a.tmps[41]?.getD undef = .pointer (some ⟨w2.heap.size, j * 4, none⟩) := hdep 8 _ (by kernel_rfl) rfl
            clear hdep hoff
            obtain ⟨y, hy, ey, hO⟩ := e7
            have e40 : a.tmps[40]?.getD undef = .agg #[.int .i64 y.nd.kind, .slice y.a1 y.nd.ints.length y.c1, .slice y.a2 y.nd.texts.length y.c2, .slice y.a3 y.nd.kids.length y.c3] := ey
            obtain ⟨Z', hZ', hA⟩ := hG.1
            have hl' : Z'.length = X.length := by rcases hZ' with rfl | ⟨_, rfl⟩ <;> simp [hZl]
            have q0 : W.cell? ⟨w2.heap.size, j * 4, none⟩ = some (.int .i64 (Z'.getD j noNx).nd.kind) := (hA.cell _).trans (nxV_at' Z' j 0 (by omega) (by omega))
            have q1 : W.cell? ⟨w2.heap.size, j * 4 + 1, none⟩ = some (.slice (Z'.getD j noNx).a1 (Z'.getD j noNx).nd.ints.length (Z'.getD j noNx).c1) := (hA.cell _).trans (nxV_at' Z' j 1 (by omega) (by omega))
            have q2 : W.cell? ⟨w2.heap.size, j * 4 + 2, none⟩ = some (.slice (Z'.getD j noNx).a2 (Z'.getD j noNx).nd.texts.length (Z'.getD j noNx).c2) := (hA.cell _).trans (nxV_at' Z' j 2 (by omega) (by omega))
            have q3 : W.cell? ⟨w2.heap.size, j * 4 + 3, none⟩ = some (.slice (Z'.getD j noNx).a3 (Z'.getD j noNx).nd.kids.length (Z'.getD j noNx).c3) := (hA.cell _).trans (nxV_at' Z' j 3 (by omega) (by omega))
            have f0 := hA.fz (j * 4)
            have f1 := hA.fz (j * 4 + 1)
            have f2 := hA.fz (j * 4 + 2)
            have f3 := hA.fz (j * 4 + 3)
            have hgl := hA.lt
            have HS4 : Hid (AtN 48 ((((W.setCell ⟨w2.heap.size, j * 4, none⟩ (.int .i64 y.nd.kind)).setCell ⟨w2.heap.size, j * 4 + 1, none⟩ (.slice y.a1 y.nd.ints.length y.c1)).setCell ⟨w2.heap.size, j * 4 + 2, none⟩ (.slice y.a2 y.nd.texts.length y.c2)).setCell ⟨w2.heap.size, j * 4 + 3, none⟩ (.slice y.a3 y.nd.kids.length y.c3)) w2.heap.size (nxV (Z.set j y)).toArray) := by
              have := at_setNx hA j (by omega) y
              rwa [show Z'.set j y = Z.set j y by rcases hZ' with rfl | ⟨_, rfl⟩ <;> simp] at this
            have HF4 : Hid (∀ v0 v1 v2 v3, Fr (fun b => b = w2.heap.size) W ((((W.setCell ⟨w2.heap.size, j * 4, none⟩ v0).setCell ⟨w2.heap.size, j * 4 + 1, none⟩ v1).setCell ⟨w2.heap.size, j * 4 + 2, none⟩ v2).setCell ⟨w2.heap.size, j * 4 + 3, none⟩ v3)) := fun v0 v1 v2 v3 => ((((Fr.refl (fun b => b = w2.heap.size) W).set ⟨w2.heap.size, j * 4, none⟩ rfl v0).set ⟨w2.heap.size, j * 4 + 1, none⟩ rfl v1).set ⟨w2.heap.size, j * 4 + 2, none⟩ rfl v2).set ⟨w2.heap.size, j * 4 + 3, none⟩ rfl v3
            have HAl : Hid (Alien W (fun b => b = w2.heap.size)) := fun b hb _ => by
              subst hb
              exact ⟨_, _, _, hA, by decide, by decide, by decide⟩
            have HG : Hid (Fr (fun b => b = w2.heap.size) W0 W) := hG.2
            have HY : Hid (y.nd = renNd p N.nd ∧ OwnNx W W0.heap.size y) := ⟨hy, hO⟩
            clear hy ey hO hA hG m0 n0 n1 n2 n3 hZ' hl'
            generalize Z'.getD j noNx = M at *
            go_simp
            exact hK undef _ ⟨⟨_, .inr ⟨y, rfl⟩, HS4.out⟩, HG.out.trans (HF4.out _ _ _ _) (fun _ e _ => e)⟩ (cnF_set (HF4.out _ _ _ _) HAl.out) ⟨y, HY.out.1, HS4.out, HY.out.2.fr (HF4.out _ _ _ _) HAl.out⟩
          · exact absurd ho (by simp)
        case fin =>
          intro V W hG hF
          have y9 : ∃ y : Nx, y.nd = renNd p N.nd ∧ AtN 48 W w2.heap.size (nxV (Z.set j y)).toArray ∧ OwnNx W W0.heap.size y := hF 9 _ rfl
          obtain ⟨y, hy, hA, hO⟩ := y9
          have H9 := H0.out.2 W y hy hA hO hG.2
          have HN : Hid _ := H9
          clear hF hG H0 hA hO hy H9
          simp only [fillA, Act.put, List.setIfInBounds_toArray, List.set_cons_zero, List.set_cons_succ]
          generalize V (some 33) = z33
          generalize V (some 34) = z34
          generalize V (some 35) = z35
          generalize V (some 36) = z36
          generalize V (some 37) = z37
          generalize V (some 38) = z38
          generalize V (some 39) = z39
          generalize V (some 40) = z40
          generalize V (some 41) = z41
          go_wp2_with fail
          go_roundw
          case rel => exact HN.out
          case measure => simp [intOf]; omega
      · have hlt' : ¬ (i : Int) < X.length := by omega
        obtain rfl : i = X.length := by omega
        obtain ⟨hY, hYs⟩ := HI.out.fin HR.out
        have z0 : wr.cell? ⟨w.heap.size + 1, 0, none⟩ = some (.slice none 0 0) := HI.out.res.cell 0
        have z1 : wr.cell? ⟨w.heap.size + 1, 1, none⟩ = some (.int .i64 0) := HI.out.res.cell 1
        have f0 := HI.out.res.fz 0
        have f1 := HI.out.res.fz 1
        have hl1 := HI.out.res.lt
        have HW : Hid (∀ v0 v1, AtN 24 ((wr.setCell ⟨w.heap.size + 1, 0, none⟩ v0).setCell ⟨w.heap.size + 1, 1, none⟩ v1) (w.heap.size + 1) #[v0, v1] ∧ Fr (fun q => q = w.heap.size + 1) wr ((wr.setCell ⟨w.heap.size + 1, 0, none⟩ v0).setCell ⟨w.heap.size + 1, 1, none⟩ v1)) := fun v0 v1 => by
          refine ⟨?_, ((Fr.refl (fun q => q = w.heap.size + 1) wr).set ⟨w.heap.size + 1, 0, none⟩ rfl v0).set ⟨w.heap.size + 1, 1, none⟩ rfl v1⟩
          simpa using (HI.out.res.set 0 v0).set 1 v1
        have HF : Hid (∀ W, Fr (fun q => q = w.heap.size + 1) wr W → OwnSc W w.heap.size w2.heap.size Z ∧ Below w.heap.size w W) := fun W hf => by
          have hord' := HR.out.ord
          have hol' : (oX X r).length = X.length := by have := hord'.len; rwa [kX_length] at this
          have hwh : ∀ j, (hj : j < Z.length) → ∃ k, k < X.length ∧ (oX X r).idxOf k = j := fun j hj => by
            have hj' : j < (oX X r).length := by rw [hol', ← HI.out.len]; exact hj
            exact ⟨(oX X r)[j], by have := hord'.good.lt _ (List.getElem_mem hj'); rwa [kX_length] at this, hord'.good.nd.idxOf_getElem j hj'⟩
          refine ⟨⟨HI.out.nodes.fr hf (by have := HI.out.big; omega), fun j hj => ?_, fun j j' hjj hj' q h1 h2 => ?_, by have := HI.out.big; omega⟩, Fr.below HI.out.bel hf (fun b e => by omega) HI.out.bel.size⟩
          rotate_left
          · obtain ⟨k, hk, rfl⟩ := hwh j (by omega)
            obtain ⟨k', hk', rfl⟩ := hwh j' hj'
            exact HI.out.ap k k' hk hk' (fun e => by rw [e] at hjj; omega) q h1 h2
          · have hal : Alien wr (fun q => q = w.heap.size + 1) := fun b hb _ => by
              subst hb
              exact ⟨_, _, _, HI.out.res, by decide, by decide, by decide⟩
            have hord := HR.out.ord
            have hol : (oX X r).length = X.length := by have := hord.len; rwa [kX_length] at this
            have hj' : j < (oX X r).length := by rw [hol, ← HI.out.len]; exact hj
            have hk : (oX X r)[j] < X.length := by have := hord.good.lt _ (List.getElem_mem hj'); rwa [kX_length] at this
            have := (HI.out.own _ hk).fr hf hal
            rw [show (oX X r).idxOf (oX X r)[j] = j from hord.good.nd.idxOf_getElem j hj'] at this
            exact this
        have Hl : Hid (Z.length = X.length) := HI.out.len
        have HY : Hid (Z.map Nx.nd = cX X r) := hY
        clear HI hYs hY
        go_wp2_with fail
        obtain ⟨A, F⟩ := HW.out (.slice (some ⟨w2.heap.size, 0, none⟩) X.length X.length) (.int .i64 ((X.length : Int) - 1))
        obtain ⟨S1, B1⟩ := HF.out _ F
        have k0 := A.cell 0
        have k1 := A.cell 1
        exact bodyPost_ret (v := .tuple #[.agg #[.slice (some ⟨w2.heap.size, 0, none⟩) X.length X.length, .int .i64 ((X.length : Int) - 1)], .int .i64 0]) (by simp [results, Tryd.results22, go_sem, k0, k1]) rfl ⟨fun _ => ⟨Z, _, by rw [Hl.out], HY.out, S1⟩, fun q => absurd HR.out q, B1⟩
  · have HC2 : Hid (¬ RightIs X r) := fun q => hn0 (HC.out.right.2 q)
    have z0 : w1.cell? ⟨w.heap.size + 1, 0, none⟩ = some (.slice none 0 0) := HR1.out.cell 0
    have z1 : w1.cell? ⟨w.heap.size + 1, 1, none⟩ = some (.int .i64 0) := HR1.out.cell 1
    have f0 := HR1.out.fz 0
    have f1 := HR1.out.fz 1
    have hl1 := HR1.out.lt
    have HW : Hid (∀ v0 v1, AtN 24 ((w1.setCell ⟨w.heap.size + 1, 0, none⟩ v0).setCell ⟨w.heap.size + 1, 1, none⟩ v1) (w.heap.size + 1) #[v0, v1] ∧ Below w.heap.size w ((w1.setCell ⟨w.heap.size + 1, 0, none⟩ v0).setCell ⟨w.heap.size + 1, 1, none⟩ v1)) := fun v0 v1 => by
      refine ⟨?_, (HB1.out.setCell (p := ⟨w.heap.size + 1, 0, none⟩) (by show w.heap.size ≤ w.heap.size + 1; omega) v0).setCell (p := ⟨w.heap.size + 1, 1, none⟩) (by show w.heap.size ≤ w.heap.size + 1; omega) v1⟩
      simpa using (HR1.out.set 0 v0).set 1 v1
    clear HA1 HR1 HB1
    go_wp2_with fail
    obtain ⟨A, B1⟩ := HW.out (.slice none 0 0) (.int .i64 0)
    have k0 := A.cell 0
    have k1 := A.cell 1
    exact bodyPost_ret (v := .tuple #[.agg #[.slice none 0 0, .int .i64 0], .int .i64 n]) (by simp [results, Tryd.results22, go_sem, k0, k1]) rfl ⟨fun q => absurd q HC2.out, fun _ => ⟨n, z, rfl, HC.out, hn0⟩, B1⟩

theorem canon_any (X : List Nx) (a : Option Addr) (c : Nat) (r : Int) (w : World) (h : ScAt w a X) (hX : Small X) :
    Calls Tryd.prog 22 #[.agg #[.slice a X.length c, .int .i64 r]] w fun e w' => CanonOut X r w w' e := by
  refine Calls.mono (canon2_any X a c r w h hX) ?_
  rintro e w' ⟨h1, h2, h3⟩
  refine ⟨fun hR => ?_, h2, h3⟩
  obtain ⟨Y, gn, h4, h5, h6⟩ := h1 hR
  exact ⟨Y, _, _, h4, h5, h6.scAt⟩

/-- Its numbers are numbers of the machine's. -/
structure RgN (N : Nd) : Prop where
  kind : inR N.kind
  ints : ∀ k ∈ N.ints, inR k
  kids : ∀ k ∈ N.kids, inR k

end Go.Proofs.YtkcaeajhbeenbaaDoor
