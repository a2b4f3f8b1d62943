/- The order of a scene's nodes, kids first: plain mathematics. -/
import Derived.Test.YtcdpjaaiojpelaaDoorGMath2
namespace Go.Proofs.YtcdpjaaiojpelaaDoor

/-- Kids first, behind those that were met; so deep at most. -/
def meetF (K : List (List Nat)) : Nat → List Nat → Nat → List Nat
  | 0, M, _ => M
  | f + 1, M, a => if a ∈ M then M else (K.getD a []).foldl (meetF K f) M ++ [a]
/-- The canonical order. -/
def meetO (K : List (List Nat)) (M : List Nat) (a : Nat) : List Nat := meetF K K.length M a
def ordO (K : List (List Nat)) (r : Nat) : List Nat := meetO K [] r

/-- All kids are places, and no place leads to itself. -/
def Dag (K : List (List Nat)) : Prop := Ok9 K ∧ ∀ x, ¬ Lead (Ed K) x x

theorem filter_le10 (l : List Nat) (p q : Nat → Bool) (h : ∀ x ∈ l, p x = true → q x = true) : (l.filter p).length ≤ (l.filter q).length := by
  induction l with
  | nil => simp
  | cons x r ih =>
    have ih' := ih (fun y hy => h y (by simp [hy]))
    have hx := h x (by simp)
    cases hp : p x <;> cases hq : q x <;> simp [hp, hq] <;> first | omega | simp_all
theorem filter_lt10 (l : List Nat) (p q : Nat → Bool) (h : ∀ x ∈ l, p x = true → q x = true) (z : Nat) (hz : z ∈ l) (hq : q z = true) (hp : p z = false) : (l.filter p).length < (l.filter q).length := by
  induction l with
  | nil => simp at hz
  | cons x r ih =>
    have hx := h x (by simp)
    rcases List.mem_cons.1 hz with rfl | hz
    · have := filter_le10 r p q (fun y hy => h y (by simp [hy]))
      simp [hp, hq]
      omega
    · have ih' := ih (fun y hy => h y (by simp [hy])) hz
      cases hpx : p x <;> cases hqx : q x <;> simp [hpx, hqx] <;> first | omega | simp_all

/-- A height: each place's is more than its kids'. -/
def Rank (K : List (List Nat)) (rk : Nat → Nat) : Prop := (∀ a b, Ed K a b → rk b < rk a) ∧ ∀ a, a < K.length → 1 ≤ rk a ∧ rk a ≤ K.length
theorem Dag.rank {K : List (List Nat)} (h : Dag K) : ∃ rk, Rank K rk := by
  classical
  refine ⟨fun a => ((List.range K.length).filter fun b => decide (Rt (Ed K) a b)).length, fun a b e => ?_, fun a ha => ⟨?_, ?_⟩⟩
  · refine filter_lt10 _ _ _ (fun x _ hx => ?_) a (List.mem_range.2 e.lt) (decide_eq_true (Rt.refl _ _)) (decide_eq_false fun q => h.2 a ⟨b, e, q⟩)
    exact decide_eq_true (Rt.head e (of_decide_eq_true hx))
  · have : a ∈ (List.range K.length).filter fun b => decide (Rt (Ed K) a b) := List.mem_filter.2 ⟨List.mem_range.2 ha, decide_eq_true (Rt.refl _ _)⟩
    exact List.length_pos_of_mem this
  · refine Nat.le_trans (List.length_filter_le _ _) ?_
    simp

theorem foldl_mem {α : Type} (f g : List Nat → α → List Nat) (l : List α) (M : List Nat) (h : ∀ x ∈ l, ∀ M, f M x = g M x) : l.foldl f M = l.foldl g M := by
  induction l generalizing M with
  | nil => rfl
  | cons x r ih =>
    rw [List.foldl_cons, List.foldl_cons, h x (by simp)]
    exact ih _ (fun y hy => h y (by simp [hy]))

section
variable {K : List (List Nat)} {rk : Nat → Nat}
theorem meetF_more (hR : Rank K rk) (hK : Ok9 K) : ∀ (f g a : Nat) (M : List Nat), a < K.length → rk a ≤ f → rk a ≤ g → meetF K f M a = meetF K g M a
  | 0, g, a, M, ha, h1, _ => by have := (hR.2 a ha).1; omega
  | f + 1, 0, a, M, ha, _, h2 => by have := (hR.2 a ha).1; omega
  | f + 1, g + 1, a, M, ha, h1, h2 => by
    unfold meetF
    split
    · rfl
    · rw [foldl_mem (meetF K f) (meetF K g) (K.getD a []) M (fun k hk M => by
        have := hR.1 a k hk
        exact meetF_more hR hK f g k M (hK a k hk) (by omega) (by omega))]
theorem meetO_is (hD : Dag K) (M : List Nat) (a : Nat) (ha : a < K.length) : meetO K M a = if a ∈ M then M else (K.getD a []).foldl (meetO K) M ++ [a] := by
  obtain ⟨rk, hR⟩ := hD.rank
  have hp := hR.2 a ha
  show meetF K K.length M a = _
  obtain ⟨f, hf⟩ : ∃ f, K.length = f + 1 := ⟨K.length - 1, by omega⟩
  have : meetF K K.length M a = meetF K (f + 1) M a := by rw [hf]
  rw [this]
  unfold meetF
  split
  · rfl
  · rw [foldl_mem (meetF K f) (meetO K) (K.getD a []) M (fun k hk M => by
      have := hR.1 a k hk
      exact meetF_more hR hD.1 f K.length k M (hD.1 a k hk) (by omega) (by omega))]

/-- An order with kids ahead of who leads to them. -/
structure Good (K : List (List Nat)) (M : List Nat) : Prop where
  nd : M.Nodup
  lt : ∀ x ∈ M, x < K.length
  kids : ∀ x ∈ M, ∀ y, Ed K x y → y ∈ M ∧ M.idxOf y < M.idxOf x
theorem Good.nil : Good K [] := ⟨by simp, by simp, by simp⟩
theorem idx_app {M T : List Nat} {x : Nat} (h : x ∈ M) : (M ++ T).idxOf x = M.idxOf x := by rw [List.idxOf_append, if_pos h]
theorem idx_snoc {M : List Nat} {x : Nat} (h : x ∉ M) : (M ++ [x]).idxOf x = M.length := by rw [List.idxOf_append, if_neg h]; simp
theorem Good.snoc {M : List Nat} {a : Nat} (h : Good K M) (ha : a < K.length) (hn : a ∉ M) (hk : ∀ y, Ed K a y → y ∈ M) : Good K (M ++ [a]) := by
  refine ⟨?_, ?_, ?_⟩
  · rw [List.nodup_append]
    refine ⟨h.nd, by simp, fun x hx y hy e => ?_⟩
    simp only [List.mem_singleton] at hy
    subst e hy
    exact hn hx
  · intro x hx
    rcases List.mem_append.1 hx with hx | hx
    · exact h.lt x hx
    · simp only [List.mem_singleton] at hx; subst hx; exact ha
  · intro x hx y e
    rcases List.mem_append.1 hx with hx | hx
    · obtain ⟨h1, h2⟩ := h.kids x hx y e
      exact ⟨List.mem_append_left _ h1, by rw [idx_app h1, idx_app hx]; exact h2⟩
    · simp only [List.mem_singleton] at hx
      subst hx
      have h1 := hk y e
      refine ⟨List.mem_append_left _ h1, ?_⟩
      rw [idx_app h1, idx_snoc hn]
      exact List.idxOf_lt_length_of_mem h1
/-- What meeting a place does to an order. -/
structure MetO (K : List (List Nat)) (M : List Nat) (P : Nat → Prop) (L : List Nat) : Prop where
  good : Good K L
  pre : ∃ t, L = M ++ t
  new : ∀ x ∈ L, x ∈ M ∨ ∃ a, P a ∧ Rt (Ed K) a x
  has : ∀ a, P a → a ∈ L
theorem meetO_good (hD : Dag K) (hR : Rank K rk) : ∀ (m a : Nat) (M : List Nat), rk a ≤ m → a < K.length → Good K M → MetO K M (fun x => x = a) (meetO K M a)
  | 0, a, M, hm, ha, _ => by have := (hR.2 a ha).1; omega
  | m + 1, a, M, hm, ha, hM => by
    rw [meetO_is hD M a ha]
    split
    · rename_i hin
      exact ⟨hM, ⟨[], by simp⟩, fun x hx => .inl hx, fun x hx => by subst hx; exact hin⟩
    · rename_i hin
      have key : ∀ (l : List Nat) (M : List Nat), (∀ k ∈ l, Ed K a k) → Good K M → MetO K M (fun x => x ∈ l) (l.foldl (meetO K) M) := by
        intro l
        induction l with
        | nil => intro M _ hM; exact ⟨hM, ⟨[], by simp⟩, fun x hx => .inl hx, fun x hx => by simp at hx⟩
        | cons k t ih =>
          intro M hl hM
          have e := hl k (by simp)
          have h1 := meetO_good hD hR m k M (by have := hR.1 a k e; omega) (hD.1 a k e) hM
          have h2 := ih (meetO K M k) (fun q hq => hl q (by simp [hq])) h1.good
          obtain ⟨t1, e1⟩ := h1.pre
          obtain ⟨t2, e2⟩ := h2.pre
          refine ⟨h2.good, ⟨t1 ++ t2, by rw [List.foldl_cons, e2, e1]; simp⟩, fun x hx => ?_, fun x hx => ?_⟩
          · rcases h2.new x hx with q | ⟨b, hb, q⟩
            · rcases h1.new x q with q' | ⟨b, hb, q'⟩
              · exact .inl q'
              · exact .inr ⟨b, by simp [hb], q'⟩
            · exact .inr ⟨b, by simp [hb], q⟩
          · rcases List.mem_cons.1 hx with rfl | hx
            · rw [List.foldl_cons, e2]
              exact List.mem_append_left _ (h1.has x rfl)
            · exact h2.has x hx
      have h := key (K.getD a []) M (fun k hk => hk) hM
      have hno : a ∉ (K.getD a []).foldl (meetO K) M := fun q => by
        rcases h.new a q with q | ⟨k, hk, q⟩
        · exact hin q
        · exact hD.2 a ⟨k, hk, q⟩
      obtain ⟨t, et⟩ := h.pre
      refine ⟨h.good.snoc ha hno (fun y e => h.has y e), ⟨t ++ [a], by rw [et]; simp⟩, fun x hx => ?_, fun x hx => by subst hx; simp⟩
      rcases List.mem_append.1 hx with hx | hx
      · rcases h.new x hx with q | ⟨k, hk, q⟩
        · exact .inl q
        · exact .inr ⟨a, rfl, Rt.head hk q⟩
      · simp only [List.mem_singleton] at hx
        exact .inr ⟨a, rfl, by rw [hx]; exact Rt.refl _ _⟩
end

/-- All that the root leads to. -/
structure Ord (K : List (List Nat)) (r : Nat) (O : List Nat) : Prop where
  good : Good K O
  all : ∀ x, x < K.length → x ∈ O
  len : O.length = K.length
  root : ∃ t, O = t ++ [r]
theorem nodup_ge {n : Nat} {L : List Nat} (h : ∀ x, x < n → x ∈ L) : n ≤ L.length := by
  have := nodup_le L.length ((List.range n).map L.idxOf) (by
    refine List.pairwise_map.2 ?_
    refine List.Pairwise.imp_of_mem (R := fun a b => a ≠ b) (fun {a b} ha hb hne q => hne (idx_inj (h a (List.mem_range.1 ha)) (h b (List.mem_range.1 hb)) q)) ?_
    exact List.nodup_range) (fun x hx => by
      obtain ⟨y, hy, rfl⟩ := List.mem_map.1 hx
      exact List.idxOf_lt_length_of_mem (h y (List.mem_range.1 hy)))
  simpa using this
theorem ordO_is {K : List (List Nat)} {r : Nat} (hD : Dag K) (hr : r < K.length) (ha : ∀ x, x < K.length → Rt (Ed K) r x) : Ord K r (ordO K r) := by
  obtain ⟨rk, hR⟩ := hD.rank
  have h := meetO_good hD hR (rk r) r [] (Nat.le_refl _) hr Good.nil
  have hall : ∀ x, x < K.length → x ∈ ordO K r := fun x hx => (ha x hx) (fun y => y ∈ ordO K r) (h.has r rfl) (fun y z q e => (h.good.kids y q z e).1)
  refine ⟨h.good, hall, Nat.le_antisymm (nodup_le _ _ h.good.nd h.good.lt) (nodup_ge hall), ?_⟩
  have := meetO_is hD [] r hr
  rw [if_neg (by simp)] at this
  exact ⟨_, this⟩
theorem Ord.last {K : List (List Nat)} {r : Nat} {O : List Nat} (h : Ord K r O) : O.idxOf r + 1 = K.length := by
  obtain ⟨t, e⟩ := h.root
  have hn := h.good.nd
  rw [← h.len, e]
  rw [e, List.nodup_append] at hn
  have : r ∉ t := fun q => hn.2.2 r q r (by simp) rfl
  rw [idx_snoc this]
  simp
theorem Ord.idx {K : List (List Nat)} {r : Nat} {O : List Nat} (h : Ord K r O) {x : Nat} (hx : x < K.length) : O.idxOf x < K.length := by
  rw [← h.len]
  exact List.idxOf_lt_length_of_mem (h.all x hx)

/-! ### other names for places -/

/-- Places by other names. -/
structure Per (n : Nat) (p : Nat → Nat) : Prop where
  lt : ∀ i, i < n → p i < n
  inj : ∀ i j, i < n → j < n → p i = p j → i = j
theorem Per.onto {n : Nat} {p : Nat → Nat} (h : Per n p) (y : Nat) (hy : y < n) : ∃ x, x < n ∧ p x = y := by
  have := nodup_all n ((List.range n).map p) (by
    refine List.pairwise_map.2 ?_
    refine List.Pairwise.imp_of_mem (R := fun a b => a ≠ b) (fun {a b} ha hb hne q => hne (h.inj a b (List.mem_range.1 ha) (List.mem_range.1 hb) q)) ?_
    exact List.nodup_range) (fun x hx => by
      obtain ⟨z, hz, rfl⟩ := List.mem_map.1 hx
      exact h.lt z (List.mem_range.1 hz)) (by simp) y hy
  obtain ⟨x, hx, e⟩ := List.mem_map.1 this
  exact ⟨x, List.mem_range.1 hx, e⟩
theorem Per.back {n : Nat} {p : Nat → Nat} (h : Per n p) : ∃ q, Per n q ∧ (∀ i, i < n → q (p i) = i) ∧ ∀ i, i < n → p (q i) = i := by
  classical
  have hc : ∀ y, ∃ x, y < n → x < n ∧ p x = y := fun y => by
    by_cases hy : y < n
    · obtain ⟨x, h1, h2⟩ := h.onto y hy
      exact ⟨x, fun _ => ⟨h1, h2⟩⟩
    · exact ⟨0, fun q => absurd q hy⟩
  obtain ⟨q, hq⟩ := Classical.skolem.1 hc
  refine ⟨q, ⟨fun i hi => (hq i hi).1, fun i j hi hj e => ?_⟩, fun i hi => h.inj _ _ (hq _ (h.lt i hi)).1 hi (hq _ (h.lt i hi)).2, fun i hi => (hq i hi).2⟩
  rw [← (hq i hi).2, ← (hq j hj).2, e]

/-- The same graph, by other names. -/
structure RenK (K K' : List (List Nat)) (p : Nat → Nat) : Prop where
  per : Per K.length p
  len : K'.length = K.length
  kids : ∀ i, i < K.length → K'.getD (p i) [] = (K.getD i []).map p
section
variable {K K' : List (List Nat)} {p : Nat → Nat}
theorem mem_ren (hp : Per K.length p) {M : List Nat} (hM : ∀ x ∈ M, x < K.length) {a : Nat} (ha : a < K.length) : p a ∈ M.map p ↔ a ∈ M := by
  constructor
  · intro h
    obtain ⟨b, hb, e⟩ := List.mem_map.1 h
    rw [← hp.inj b a (hM b hb) ha e]
    exact hb
  · exact fun h => List.mem_map_of_mem h
theorem idx_ren (hp : Per K.length p) : ∀ {M : List Nat}, (∀ x ∈ M, x < K.length) → ∀ {a : Nat}, a < K.length → (M.map p).idxOf (p a) = M.idxOf a
  | [], _, a, _ => rfl
  | x :: r, hM, a, ha => by
    have ih := idx_ren hp (M := r) (fun y hy => hM y (by simp [hy])) ha
    rw [List.map_cons, List.idxOf_cons, List.idxOf_cons, ih]
    by_cases e : x = a
    · subst e; simp
    · have : p x ≠ p a := fun q => e (hp.inj x a (hM x (by simp)) ha q)
      rw [beq_eq_false_iff_ne.2 e, beq_eq_false_iff_ne.2 this]
theorem meetF_ren (h : RenK K K' p) (hK : Ok9 K) : ∀ (f a : Nat) (M : List Nat), a < K.length → (∀ x ∈ M, x < K.length) → meetF K' f (M.map p) (p a) = (meetF K f M a).map p ∧ ∀ x ∈ meetF K f M a, x < K.length
  | 0, a, M, _, hM => ⟨rfl, hM⟩
  | f + 1, a, M, ha, hM => by
    unfold meetF
    have hm := mem_ren h.per hM ha
    by_cases hin : a ∈ M
    · rw [if_pos hin, if_pos (hm.2 hin)]
      exact ⟨rfl, hM⟩
    · rw [if_neg hin, if_neg (fun q => hin (hm.1 q)), h.kids a ha]
      have key : ∀ (l M : List Nat), (∀ k ∈ l, k < K.length) → (∀ x ∈ M, x < K.length) → (l.map p).foldl (meetF K' f) (M.map p) = (l.foldl (meetF K f) M).map p ∧ ∀ x ∈ l.foldl (meetF K f) M, x < K.length := by
        intro l
        induction l with
        | nil => intro M _ hM; exact ⟨rfl, hM⟩
        | cons k t ih =>
          intro M hl hM
          obtain ⟨h1, h2⟩ := meetF_ren h hK f k M (hl k (by simp)) hM
          rw [List.map_cons, List.foldl_cons, List.foldl_cons, h1]
          exact ih _ (fun q hq => hl q (by simp [hq])) h2
      obtain ⟨h1, h2⟩ := key (K.getD a []) M (fun k hk => hK a k hk) hM
      refine ⟨by rw [h1]; simp, fun x hx => ?_⟩
      rcases List.mem_append.1 hx with hx | hx
      · exact h2 x hx
      · simp only [List.mem_singleton] at hx; subst hx; exact ha
theorem ordO_ren (h : RenK K K' p) (hK : Ok9 K) {r : Nat} (hr : r < K.length) : ordO K' (p r) = (ordO K r).map p := by
  have := (meetF_ren h hK K.length r [] hr (by simp)).1
  unfold ordO meetO
  rw [h.len]
  exact this
theorem RenK.ed (h : RenK K K' p) {a b : Nat} (e : Ed K a b) : Ed K' (p a) (p b) := by
  unfold Ed
  rw [h.kids a e.lt]
  exact List.mem_map_of_mem e
theorem RenK.rt (h : RenK K K' p) {a b : Nat} (q : Rt (Ed K) a b) : Rt (Ed K') (p a) (p b) := q (fun x => Rt (Ed K') (p a) (p x)) (Rt.refl _ _) (fun _ _ r e => r.tail (h.ed e))
theorem RenK.back (h : RenK K K' p) (hK : Ok9 K) : ∃ q, RenK K' K q ∧ (∀ i, i < K.length → q (p i) = i) ∧ ∀ i, i < K.length → p (q i) = i := by
  obtain ⟨q, h1, h2, h3⟩ := h.per.back
  refine ⟨q, ⟨by rw [h.len]; exact h1, h.len.symm, fun i hi => ?_⟩, h2, h3⟩
  rw [h.len] at hi
  have := h.kids (q i) (h1.lt i hi)
  rw [h3 i hi] at this
  rw [this, List.map_map]
  have e : ∀ l : List Nat, (∀ k ∈ l, k < K.length) → l = l.map (q ∘ p) := fun l => by
    induction l with
    | nil => exact fun _ => rfl
    | cons a t ih =>
      intro hl
      rw [List.map_cons, ← ih (fun k hk => hl k (List.mem_cons_of_mem _ hk))]
      simp only [Function.comp]
      rw [h2 a (hl a (by simp))]
  exact e _ (fun k hk => hK (q i) k hk)
theorem RenK.ok (h : RenK K K' p) (hK : Ok9 K) : Ok9 K' := by
  intro a b e
  obtain ⟨x, hx, rfl⟩ := h.per.onto a (by rw [← h.len]; exact e.lt)
  unfold Ed at e
  rw [h.kids x hx] at e
  obtain ⟨y, hy, rfl⟩ := List.mem_map.1 e
  rw [h.len]
  exact h.per.lt y (hK x y hy)
theorem RenK.dag (h : RenK K K' p) (hD : Dag K) : Dag K' := by
  refine ⟨h.ok hD.1, ?_⟩
  obtain ⟨q, h1, _⟩ := h.back hD.1
  rintro x ⟨c, e, r⟩
  exact hD.2 (q x) ⟨q c, h1.ed e, h1.rt r⟩
end

end Go.Proofs.YtcdpjaaiojpelaaDoor

namespace Go.Proofs.YtcdpjaaiojpelaaDoor

/-- What is still to come makes of an order: who is open is placed; who isn't is met. The top is the first. -/
def contF (K : List (List Nat)) : List (Nat × Bool) → List Nat → List Nat
  | [], o => o
  | (x, true) :: t, o => contF K t (o ++ [x])
  | (x, false) :: t, o => contF K t (meetO K o x)
theorem contF_kids (K : List (List Nat)) (T : List (Nat × Bool)) : ∀ (l o : List Nat), contF K (l.map (fun k => (k, false)) ++ T) o = contF K T (l.foldl (meetO K) o)
  | [], o => rfl
  | k :: l, o => by
    rw [List.map_cons, List.cons_append, List.foldl_cons]
    exact contF_kids K T l (meetO K o k)

structure SInv (K : List (List Nat)) (rk : Nat → Nat) (r : Nat) (T : List (Nat × Bool)) (order met : List Nat) : Prop where
  fin : contF K T order = ordO K r
  mt : ∀ x, x ∈ met ↔ x ∈ order ∨ (x, true) ∈ T
  nd : met.Nodup
  ml : ∀ x ∈ met, x < K.length
  tl : ∀ p ∈ T, p.1 < K.length
  op : T.Pairwise fun p q => q.2 = true → rk p.1 < rk q.1
  no : ∀ x, (x, true) ∈ T → x ∉ order
  on : order.Nodup
  len : T.length ≤ 1 + met.length * 300
section
variable {K : List (List Nat)} {rk : Nat → Nat} {r : Nat} {T : List (Nat × Bool)} {order met : List Nat}
theorem SInv.start (hr : r < K.length) : SInv K rk r [(r, false)] [] [] :=
  ⟨rfl, by simp, by simp, by simp, by simpa using hr, by simp, by simp, by simp, by simp⟩
theorem SInv.metl (h : SInv K rk r T order met) : met.length ≤ K.length := nodup_le _ _ h.nd h.ml
theorem SInv.ordl (h : SInv K rk r T order met) : order.length ≤ met.length := by
  have : ∀ x ∈ order, x ∈ met := fun x hx => (h.mt x).2 (.inl hx)
  have h1 := nodup_le met.length (order.map met.idxOf) (by
    refine List.pairwise_map.2 ?_
    refine List.Pairwise.imp_of_mem (R := fun a b => a ≠ b) (fun {a b} ha hb hne q => hne (idx_inj (this a ha) (this b hb) q)) ?_
    exact h.on) (fun x hx => by
      obtain ⟨y, hy, rfl⟩ := List.mem_map.1 hx
      exact List.idxOf_lt_length_of_mem (this y hy))
  simpa using h1
/-- It wasn't met. -/
theorem SInv.open_ (hD : Dag K) (hR : Rank K rk) {x : Nat} {b : Bool} (h : SInv K rk r ((x, b) :: T) order met) (hx : x ∉ met) (hk : (K.getD x []).length ≤ 300) : SInv K rk r ((K.getD x []).map (fun k => (k, false)) ++ (x, true) :: T) order (met ++ [x]) ∧ met.length < K.length := by
  have hb : b = false := by
    cases b with
    | false => rfl
    | true => exact absurd ((h.mt x).2 (.inr (by simp))) hx
  subst hb
  have hxl : x < K.length := h.tl (x, false) (by simp)
  have hno : x ∉ order := fun q => hx ((h.mt x).2 (.inl q))
  have hnd : (met ++ [x]).Nodup := by
    rw [List.nodup_append]
    refine ⟨h.nd, by simp, fun a ha c hc e => ?_⟩
    simp only [List.mem_singleton] at hc
    subst e hc
    exact hx ha
  have hml : ∀ y ∈ met ++ [x], y < K.length := fun y hy => by
    rcases List.mem_append.1 hy with hy | hy
    · exact h.ml y hy
    · simp only [List.mem_singleton] at hy; subst hy; exact hxl
  have hop := List.pairwise_cons.1 h.op
  refine ⟨⟨?_, ?_, hnd, hml, ?_, ?_, ?_, h.on, ?_⟩, ?_⟩
  · rw [contF_kids]
    have := h.fin
    simp only [contF] at this ⊢
    rw [meetO_is hD order x hxl, if_neg hno] at this
    exact this
  · intro y
    have := h.mt y
    simp only [List.mem_append, List.mem_cons, Prod.mk.injEq, Bool.true_eq_false, Bool.false_eq_true, and_false, false_or, List.mem_map, exists_false, and_true, List.not_mem_nil, or_false] at this ⊢
    rw [this]
    constructor
    · rintro ((q | q) | q)
      · exact .inl q
      · exact .inr (.inr q)
      · exact .inr (.inl q)
    · rintro (q | (q | q))
      · exact .inl (.inl q)
      · exact .inr q
      · exact .inl (.inr q)
  · intro p hp
    rcases List.mem_append.1 hp with hp | hp
    · obtain ⟨k, hk, rfl⟩ := List.mem_map.1 hp
      exact hD.1 x k hk
    · rcases List.mem_cons.1 hp with rfl | hp
      · exact hxl
      · exact h.tl p (by simp [hp])
  · rw [List.pairwise_append]
    refine ⟨?_, List.pairwise_cons.2 ⟨fun q hq hq2 => hop.1 q hq hq2, hop.2⟩, ?_⟩
    · refine List.pairwise_map.2 ?_
      generalize K.getD x [] = l
      induction l with
      | nil => exact List.Pairwise.nil
      | cons a t ih => exact List.pairwise_cons.2 ⟨fun _ _ q => (by cases q), ih⟩
    · intro p hp q hq hq2
      obtain ⟨k, hk, rfl⟩ := List.mem_map.1 hp
      have h1 := hR.1 x k hk
      rcases List.mem_cons.1 hq with rfl | hq
      · exact h1
      · exact Nat.lt_trans h1 (hop.1 q hq hq2)
  · intro y hy
    rcases List.mem_append.1 hy with hy | hy
    · obtain ⟨k, _, q⟩ := List.mem_map.1 hy
      simp at q
    · rcases List.mem_cons.1 hy with q | hy
      · simp only [Prod.mk.injEq, and_true] at q
        rw [q]; exact hno
      · exact h.no y (by simp [hy])
  · have := h.len
    simp only [List.length_append, List.length_map, List.length_cons, List.length_nil] at this ⊢
    omega
  · have := nodup_le _ _ hnd hml
    simp at this
    omega
/-- It was met, and has no place yet. -/
theorem SInv.place {x : Nat} {b : Bool} (h : SInv K rk r ((x, b) :: T) order met) (hx : x ∈ met) (hn : x ∉ order) : SInv K rk r T (order ++ [x]) met := by
  have hop := List.pairwise_cons.1 h.op
  have hb : b = true := by
    cases b with
    | true => rfl
    | false =>
      rcases (h.mt x).1 hx with q | q
      · exact absurd q hn
      · rcases List.mem_cons.1 q with q | q
        · simp at q
        · exact absurd (hop.1 (x, true) q rfl) (by show ¬ rk x < rk x; omega)
  subst hb
  refine ⟨h.fin, ?_, h.nd, h.ml, fun p hp => h.tl p (by simp [hp]), hop.2, ?_, ?_, ?_⟩
  · intro y
    have := h.mt y
    simp only [List.mem_append, List.mem_cons, Prod.mk.injEq, and_true, List.not_mem_nil, or_false] at this ⊢
    rw [this]
    constructor
    · rintro (q | (q | q))
      · exact .inl (.inl q)
      · exact .inl (.inr q)
      · exact .inr q
    · rintro ((q | q) | q)
      · exact .inl q
      · exact .inr (.inl q)
      · exact .inr (.inr q)
  · intro y hy q
    rcases List.mem_append.1 q with q | q
    · exact h.no y (by simp [hy]) q
    · simp only [List.mem_singleton] at q
      subst q
      exact absurd (hop.1 (y, true) hy rfl) (by show ¬ rk y < rk y; omega)
  · rw [List.nodup_append]
    refine ⟨h.on, by simp, fun a ha c hc e => ?_⟩
    simp only [List.mem_singleton] at hc
    subst e hc
    exact hn ha
  · have := h.len
    simp only [List.length_cons] at this
    omega
/-- It has its place by another way down. -/
theorem SInv.pop (hD : Dag K) {x : Nat} {b : Bool} (h : SInv K rk r ((x, b) :: T) order met) (hx : x ∈ order) : SInv K rk r T order met := by
  have hop := List.pairwise_cons.1 h.op
  have hb : b = false := by
    cases b with
    | false => rfl
    | true => exact absurd hx (h.no x (by simp))
  subst hb
  refine ⟨?_, ?_, h.nd, h.ml, fun p hp => h.tl p (by simp [hp]), hop.2, fun y hy => h.no y (by simp [hy]), h.on, ?_⟩
  · have := h.fin
    simp only [contF] at this
    rw [meetO_is hD order x (h.tl (x, false) (by simp)), if_pos hx] at this
    exact this
  · intro y
    have := h.mt y
    simp only [List.mem_cons, Prod.mk.injEq, Bool.true_eq_false, and_false, false_or] at this
    exact this
  · have := h.len
    simp only [List.length_cons] at this
    omega
end

/-- The stack as the cells hold it: the top is the last. -/
def stk (T : List (Nat × Bool)) : List Nat := (T.map Prod.fst).reverse
theorem stk_length (T : List (Nat × Bool)) : (stk T).length = T.length := by simp [stk]
theorem stk_cons (p : Nat × Bool) (T : List (Nat × Bool)) : stk (p :: T) = stk T ++ [p.1] := by simp [stk]
theorem stk_push (x : Nat) (l : List Nat) (T : List (Nat × Bool)) : stk (l.map (fun k => (k, false)) ++ (x, true) :: T) = stk T ++ [x] ++ l.reverse := by
  have : l.map (Prod.fst ∘ fun k => (k, false)) = l := by
    induction l with
    | nil => rfl
    | cons a t ih => rw [List.map_cons, ih]; rfl
  simp [stk, this]

/-- A place; none yet: less than none. -/
def plZ (P : List Nat) (i : Nat) : Int := if i ∈ P then (P.idxOf i : Int) else -1
theorem plZ_in {P : List Nat} {i : Nat} (h : i ∈ P) : plZ P i = (P.idxOf i : Int) := if_pos h
theorem plZ_out {P : List Nat} {i : Nat} (h : i ∉ P) : plZ P i = -1 := if_neg h
theorem plZ_snoc {P : List Nat} {x : Nat} (h : x ∉ P) (i : Nat) : plZ (P ++ [x]) i = if i = x then (P.length : Int) else plZ P i := by
  unfold plZ
  by_cases e : i = x
  · subst e
    rw [if_pos rfl, if_pos (by simp), idx_snoc h]
  · rw [if_neg e]
    by_cases hi : i ∈ P
    · rw [if_pos hi, if_pos (by simp [hi]), idx_app hi]
    · rw [if_neg hi, if_neg (by simp [hi, e])]

end Go.Proofs.YtcdpjaaiojpelaaDoor
