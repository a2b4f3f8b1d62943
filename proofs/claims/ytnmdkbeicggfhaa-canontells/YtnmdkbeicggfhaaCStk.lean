/- What is to be met lies on a stack: it makes the same order; plain mathematics. -/
import Derived.Test.YtnmdkbeicggfhaaCMath
namespace Go.Proofs.Ytnmdkbeicggfhaa

/-- What is still to come makes of an order: who is open is placed; who isn't is met. The top is the first. -/
def contF (K : List (List Nat)) : List (Nat × Bool) → List Nat → List Nat
  | [], o => o
  | (x, true) :: t, o => contF K t (o ++ [x])
  | (x, false) :: t, o => contF K t (meetO K o x)
theorem contF_kids (K : List (List Nat)) (T : List (Nat × Bool)) : ∀ (l o : List Nat), contF K (l.map (fun k => (k, false)) ++ T) o = contF K T (l.foldl (meetO K) o)
  | [], o => rfl
  | k :: l, o => by
    rw [List.map_cons, List.cons_append, List.foldl_cons]
    exact contF_kids K T l (meetO K o k)

structure SInv (K : List (List Nat)) (rk : Nat → Nat) (r : Nat) (T : List (Nat × Bool)) (order met : List Nat) : Prop where
  fin : contF K T order = ordO K r
  mt : ∀ x, x ∈ met ↔ x ∈ order ∨ (x, true) ∈ T
  nd : met.Nodup
  ml : ∀ x ∈ met, x < K.length
  tl : ∀ p ∈ T, p.1 < K.length
  op : T.Pairwise fun p q => q.2 = true → rk p.1 < rk q.1
  no : ∀ x, (x, true) ∈ T → x ∉ order
  on : order.Nodup
  len : T.length ≤ 1 + met.length * 300
section
variable {K : List (List Nat)} {rk : Nat → Nat} {r : Nat} {T : List (Nat × Bool)} {order met : List Nat}
theorem SInv.start (hr : r < K.length) : SInv K rk r [(r, false)] [] [] :=
  ⟨rfl, by simp, by simp, by simp, by simpa using hr, by simp, by simp, by simp, by simp⟩
theorem SInv.metl (h : SInv K rk r T order met) : met.length ≤ K.length := nodup_le _ _ h.nd h.ml
theorem SInv.ordl (h : SInv K rk r T order met) : order.length ≤ met.length := by
  have : ∀ x ∈ order, x ∈ met := fun x hx => (h.mt x).2 (.inl hx)
  have h1 := nodup_le met.length (order.map met.idxOf) (by
    refine List.pairwise_map.2 ?_
    refine List.Pairwise.imp_of_mem (R := fun a b => a ≠ b) (fun {a b} ha hb hne q => hne (idx_inj (this a ha) (this b hb) q)) ?_
    exact h.on) (fun x hx => by
      obtain ⟨y, hy, rfl⟩ := List.mem_map.1 hx
      exact List.idxOf_lt_length_of_mem (this y hy))
  simpa using h1
/-- It wasn't met. -/
theorem SInv.open_ (hD : Dag K) (hR : Rank K rk) {x : Nat} {b : Bool} (h : SInv K rk r ((x, b) :: T) order met) (hx : x ∉ met) (hk : (K.getD x []).length ≤ 300) : SInv K rk r ((K.getD x []).map (fun k => (k, false)) ++ (x, true) :: T) order (met ++ [x]) ∧ met.length < K.length := by
  have hb : b = false := by
    cases b with
    | false => rfl
    | true => exact absurd ((h.mt x).2 (.inr (by simp))) hx
  subst hb
  have hxl : x < K.length := h.tl (x, false) (by simp)
  have hno : x ∉ order := fun q => hx ((h.mt x).2 (.inl q))
  have hnd : (met ++ [x]).Nodup := by
    rw [List.nodup_append]
    refine ⟨h.nd, by simp, fun a ha c hc e => ?_⟩
    simp only [List.mem_singleton] at hc
    subst e hc
    exact hx ha
  have hml : ∀ y ∈ met ++ [x], y < K.length := fun y hy => by
    rcases List.mem_append.1 hy with hy | hy
    · exact h.ml y hy
    · simp only [List.mem_singleton] at hy; subst hy; exact hxl
  have hop := List.pairwise_cons.1 h.op
  refine ⟨⟨?_, ?_, hnd, hml, ?_, ?_, ?_, h.on, ?_⟩, ?_⟩
  · rw [contF_kids]
    have := h.fin
    simp only [contF] at this ⊢
    rw [meetO_is hD order x hxl, if_neg hno] at this
    exact this
  · intro y
    have := h.mt y
    simp only [List.mem_append, List.mem_cons, Prod.mk.injEq, Bool.true_eq_false, Bool.false_eq_true, and_false, false_or, List.mem_map, exists_false, and_true, List.not_mem_nil, or_false] at this ⊢
    rw [this]
    constructor
    · rintro ((q | q) | q)
      · exact .inl q
      · exact .inr (.inr q)
      · exact .inr (.inl q)
    · rintro (q | (q | q))
      · exact .inl (.inl q)
      · exact .inr q
      · exact .inl (.inr q)
  · intro p hp
    rcases List.mem_append.1 hp with hp | hp
    · obtain ⟨k, hk, rfl⟩ := List.mem_map.1 hp
      exact hD.1 x k hk
    · rcases List.mem_cons.1 hp with rfl | hp
      · exact hxl
      · exact h.tl p (by simp [hp])
  · rw [List.pairwise_append]
    refine ⟨?_, List.pairwise_cons.2 ⟨fun q hq hq2 => hop.1 q hq hq2, hop.2⟩, ?_⟩
    · refine List.pairwise_map.2 ?_
      generalize K.getD x [] = l
      induction l with
      | nil => exact List.Pairwise.nil
      | cons a t ih => exact List.pairwise_cons.2 ⟨fun _ _ q => (by cases q), ih⟩
    · intro p hp q hq hq2
      obtain ⟨k, hk, rfl⟩ := List.mem_map.1 hp
      have h1 := hR.1 x k hk
      rcases List.mem_cons.1 hq with rfl | hq
      · exact h1
      · exact Nat.lt_trans h1 (hop.1 q hq hq2)
  · intro y hy
    rcases List.mem_append.1 hy with hy | hy
    · obtain ⟨k, _, q⟩ := List.mem_map.1 hy
      simp at q
    · rcases List.mem_cons.1 hy with q | hy
      · simp only [Prod.mk.injEq, and_true] at q
        rw [q]; exact hno
      · exact h.no y (by simp [hy])
  · have := h.len
    simp only [List.length_append, List.length_map, List.length_cons, List.length_nil] at this ⊢
    omega
  · have := nodup_le _ _ hnd hml
    simp at this
    omega
/-- It was met, and has no place yet. -/
theorem SInv.place {x : Nat} {b : Bool} (h : SInv K rk r ((x, b) :: T) order met) (hx : x ∈ met) (hn : x ∉ order) : SInv K rk r T (order ++ [x]) met := by
  have hop := List.pairwise_cons.1 h.op
  have hb : b = true := by
    cases b with
    | true => rfl
    | false =>
      rcases (h.mt x).1 hx with q | q
      · exact absurd q hn
      · rcases List.mem_cons.1 q with q | q
        · simp at q
        · exact absurd (hop.1 (x, true) q rfl) (by show ¬ rk x < rk x; omega)
  subst hb
  refine ⟨h.fin, ?_, h.nd, h.ml, fun p hp => h.tl p (by simp [hp]), hop.2, ?_, ?_, ?_⟩
  · intro y
    have := h.mt y
    simp only [List.mem_append, List.mem_cons, Prod.mk.injEq, and_true, List.not_mem_nil, or_false] at this ⊢
    rw [this]
    constructor
    · rintro (q | (q | q))
      · exact .inl (.inl q)
      · exact .inl (.inr q)
      · exact .inr q
    · rintro ((q | q) | q)
      · exact .inl q
      · exact .inr (.inl q)
      · exact .inr (.inr q)
  · intro y hy q
    rcases List.mem_append.1 q with q | q
    · exact h.no y (by simp [hy]) q
    · simp only [List.mem_singleton] at q
      subst q
      exact absurd (hop.1 (y, true) hy rfl) (by show ¬ rk y < rk y; omega)
  · rw [List.nodup_append]
    refine ⟨h.on, by simp, fun a ha c hc e => ?_⟩
    simp only [List.mem_singleton] at hc
    subst e hc
    exact hn ha
  · have := h.len
    simp only [List.length_cons] at this
    omega
/-- It has its place by another way down. -/
theorem SInv.pop (hD : Dag K) {x : Nat} {b : Bool} (h : SInv K rk r ((x, b) :: T) order met) (hx : x ∈ order) : SInv K rk r T order met := by
  have hop := List.pairwise_cons.1 h.op
  have hb : b = false := by
    cases b with
    | false => rfl
    | true => exact absurd hx (h.no x (by simp))
  subst hb
  refine ⟨?_, ?_, h.nd, h.ml, fun p hp => h.tl p (by simp [hp]), hop.2, fun y hy => h.no y (by simp [hy]), h.on, ?_⟩
  · have := h.fin
    simp only [contF] at this
    rw [meetO_is hD order x (h.tl (x, false) (by simp)), if_pos hx] at this
    exact this
  · intro y
    have := h.mt y
    simp only [List.mem_cons, Prod.mk.injEq, Bool.true_eq_false, and_false, false_or] at this
    exact this
  · have := h.len
    simp only [List.length_cons] at this
    omega
end

/-- The stack as the cells hold it: the top is the last. -/
def stk (T : List (Nat × Bool)) : List Nat := (T.map Prod.fst).reverse
theorem stk_length (T : List (Nat × Bool)) : (stk T).length = T.length := by simp [stk]
theorem stk_cons (p : Nat × Bool) (T : List (Nat × Bool)) : stk (p :: T) = stk T ++ [p.1] := by simp [stk]
theorem stk_push (x : Nat) (l : List Nat) (T : List (Nat × Bool)) : stk (l.map (fun k => (k, false)) ++ (x, true) :: T) = stk T ++ [x] ++ l.reverse := by
  have : l.map (Prod.fst ∘ fun k => (k, false)) = l := by
    induction l with
    | nil => rfl
    | cons a t ih => rw [List.map_cons, ih]; rfl
  simp [stk, this]

/-- A place; none yet: less than none. -/
def plZ (P : List Nat) (i : Nat) : Int := if i ∈ P then (P.idxOf i : Int) else -1
theorem plZ_in {P : List Nat} {i : Nat} (h : i ∈ P) : plZ P i = (P.idxOf i : Int) := if_pos h
theorem plZ_out {P : List Nat} {i : Nat} (h : i ∉ P) : plZ P i = -1 := if_neg h
theorem plZ_snoc {P : List Nat} {x : Nat} (h : x ∉ P) (i : Nat) : plZ (P ++ [x]) i = if i = x then (P.length : Int) else plZ P i := by
  unfold plZ
  by_cases e : i = x
  · subst e
    rw [if_pos rfl, if_pos (by simp), idx_snoc h]
  · rw [if_neg e]
    by_cases hi : i ∈ P
    · rw [if_pos hi, if_pos (by simp [hi]), idx_app hi]
    · rw [if_neg hi, if_neg (by simp [hi, e])]

end Go.Proofs.Ytnmdkbeicggfhaa
