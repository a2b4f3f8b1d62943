/- Who leads to whom: ways in a graph whose places have lists of places; plain mathematics. -/
import Derived.WalkKit
namespace Go.Proofs.YtcdpjaaiojpelaaDoor

/-- From the one to the other one by steps, or by none. -/
def Rt (E : Nat → Nat → Prop) (a b : Nat) : Prop := ∀ S : Nat → Prop, S a → (∀ x y, S x → E x y → S y) → S b
section
variable {E E' : Nat → Nat → Prop} {a b c : Nat}
theorem Rt.refl (E : Nat → Nat → Prop) (a : Nat) : Rt E a a := fun _ h _ => h
theorem Rt.tail (h : Rt E a b) (e : E b c) : Rt E a c := fun S ha hs => hs _ _ (h S ha hs) e
theorem Rt.one (e : E a b) : Rt E a b := (Rt.refl E a).tail e
theorem Rt.trans (h : Rt E a b) (k : Rt E b c) : Rt E a c := fun S ha hs => k S (h S ha hs) hs
theorem Rt.head (e : E a b) (k : Rt E b c) : Rt E a c := (Rt.one e).trans k
theorem Rt.mono (h : Rt E a b) (k : ∀ x y, E x y → E' x y) : Rt E' a b := fun S ha hs => h S ha (fun x y p q => hs x y p (k x y q))
/-- From the end on. -/
theorem Rt.back {P : Nat → Prop} (h : Rt E a b) (hb : P b) (hs : ∀ x y, E x y → P y → P x) : P a := h (fun x => P x → P a) id (fun x y f e p => f (hs x y e p)) hb
theorem Rt.turn (h : Rt E a b) : Rt (fun x y => E y x) b a := h.back (P := fun x => Rt (fun x y => E y x) b x) (Rt.refl _ _) (fun _ _ e p => p.tail e)
/-- By one step or more. -/
def Lead (E : Nat → Nat → Prop) (a b : Nat) : Prop := ∃ c, E a c ∧ Rt E c b
theorem Lead.rt (h : Lead E a b) : Rt E a b := by obtain ⟨c, e, k⟩ := h; exact Rt.head e k
theorem Lead.trans (h : Lead E a b) (k : Rt E b c) : Lead E a c := by obtain ⟨d, e, m⟩ := h; exact ⟨d, e, m.trans k⟩
theorem Rt.lead (h : Rt E a b) (k : Lead E b c) : Lead E a c := h.back (P := fun x => Lead E x c) k (fun _ y e p => ⟨y, e, p.rt⟩)
theorem Rt.cases (h : Rt E a b) : a = b ∨ Lead E a b := h (fun x => a = x ∨ Lead E a x) (.inl rfl) (fun x y p e => .inr (by
  rcases p with rfl | p
  · exact ⟨y, e, Rt.refl _ _⟩
  · exact p.trans (Rt.one e)))
theorem Rt.stop (h : Rt E a b) (hn : ∀ y, ¬ E a y) : b = a := h (fun x => x = a) rfl (fun x y p e => by subst p; exact absurd e (hn y))
theorem Lead.tail (h : Rt E a b) (e : E b c) : Lead E a c := h.lead ⟨c, e, Rt.refl _ _⟩
end

/-- Numbers below a bound, each once, are at most so many. -/
theorem nodup_le : ∀ (n : Nat) (L : List Nat), L.Nodup → (∀ x ∈ L, x < n) → L.length ≤ n
  | 0, L, _, h => by
    cases L with
    | nil => simp
    | cons x r => exact absurd (h x (by simp)) (by omega)
  | n + 1, L, hn, h => by
    have h1 := nodup_le n (L.erase n) (hn.erase n) (fun x hx => by
      have := (hn.mem_erase_iff (a := x) (b := n)).1 hx
      have := h x this.2
      omega)
    rw [List.length_erase] at h1
    split at h1 <;> omega
/-- All of them, if they are so many. -/
theorem nodup_all (n : Nat) (L : List Nat) (hn : L.Nodup) (h : ∀ x ∈ L, x < n) (hl : n ≤ L.length) (x : Nat) (hx : x < n) : x ∈ L := by
  refine Classical.byContradiction fun q => ?_
  have := nodup_le n (x :: L) (List.nodup_cons.2 ⟨q, hn⟩) (fun y hy => by
    rcases List.mem_cons.1 hy with rfl | hy
    · exact hx
    · exact h y hy)
  simp at this
  omega

/-- A kid of it. -/
def Ed (K : List (List Nat)) (a b : Nat) : Prop := b ∈ K.getD a []
/-- All kids are places. -/
def Ok9 (K : List (List Nat)) : Prop := ∀ a b, Ed K a b → b < K.length
theorem Ed.lt {K : List (List Nat)} {a b : Nat} (h : Ed K a b) : a < K.length := by
  refine Classical.byContradiction fun q => ?_
  unfold Ed at h
  simp [List.getD_eq_getElem?_getD, List.getElem?_eq_none (Nat.le_of_not_lt q)] at h
theorem Ok9.rt {K : List (List Nat)} (h : Ok9 K) {a b : Nat} (ha : a < K.length) (k : Rt (Ed K) a b) : b < K.length := k (fun x => x < K.length) ha (fun x y _ e => h x y e)

/-! ### what is found from a place, but for what was met -/

/-- A step that doesn't come to what was met. -/
def EdM (K : List (List Nat)) (M : List Nat) (a b : Nat) : Prop := Ed K a b ∧ b ∉ M
structure WInv (K : List (List Nat)) (M : List Nat) (from_ : Nat) (found : List Nat) (i j : Nat) : Prop where
  nd : found.Nodup
  first : from_ ∈ found
  out : ∀ x ∈ found, x ∉ M
  rt : ∀ x ∈ found, Rt (EdM K M) from_ x
  lt : ∀ x ∈ found, x < K.length
  le : i ≤ found.length
  done : ∀ q, q < i → ∀ y, Ed K (found.getD q 0) y → y ∈ M ∨ y ∈ found
  part : ∀ y ∈ (K.getD (found.getD i 0) []).take j, y ∈ M ∨ y ∈ found
section
variable {K : List (List Nat)} {M : List Nat} {f : Nat} {found : List Nat} {i j : Nat}
theorem WInv.start (hf : f ∉ M) (hl : f < K.length) : WInv K M f [f] 0 0 :=
  ⟨by simp, by simp, by simpa using hf, by simpa using Rt.refl _ _, by simpa using hl, by simp, fun q h => by omega, by simp⟩
theorem WInv.len (h : WInv K M f found i j) : found.length ≤ K.length := nodup_le _ _ h.nd h.lt
theorem take_at {L : List Nat} {j : Nat} (hj : j < L.length) : L.take (j + 1) = L.take j ++ [L.getD j 0] := by
  rw [List.take_add_one, List.getElem?_eq_getElem hj, List.getD_eq_getElem?_getD, List.getElem?_eq_getElem hj]
  rfl
theorem getD_mem {L : List Nat} {j : Nat} (hj : j < L.length) : L.getD j 0 ∈ L := by
  rw [List.getD_eq_getElem?_getD, List.getElem?_eq_getElem hj]
  simp
theorem getD_app {L R : List Nat} {j : Nat} (hj : j < L.length) : (L ++ R).getD j 0 = L.getD j 0 := by
  rw [List.getD_eq_getElem?_getD, List.getElem?_append_left hj, ← List.getD_eq_getElem?_getD]
theorem WInv.skip (h : WInv K M f found i j) (hj : j < (K.getD (found.getD i 0) []).length) (hm : (K.getD (found.getD i 0) []).getD j 0 ∈ M ∨ (K.getD (found.getD i 0) []).getD j 0 ∈ found) : WInv K M f found i (j + 1) := by
  refine ⟨h.nd, h.first, h.out, h.rt, h.lt, h.le, h.done, fun y hy => ?_⟩
  rw [take_at hj, List.mem_append] at hy
  rcases hy with hy | hy
  · exact h.part y hy
  · simp only [List.mem_singleton] at hy
    rw [hy]; exact hm
theorem WInv.add (h : WInv K M f found i j) (hk : Ok9 K) (hi : i < found.length) (hj : j < (K.getD (found.getD i 0) []).length) (h1 : (K.getD (found.getD i 0) []).getD j 0 ∉ M) (h2 : (K.getD (found.getD i 0) []).getD j 0 ∉ found) : WInv K M f (found ++ [(K.getD (found.getD i 0) []).getD j 0]) i (j + 1) := by
  have he : Ed K (found.getD i 0) ((K.getD (found.getD i 0) []).getD j 0) := getD_mem hj
  generalize hx : (K.getD (found.getD i 0) []).getD j 0 = x at *
  refine ⟨?_, ?_, ?_, ?_, ?_, ?_, ?_, ?_⟩
  · rw [List.nodup_append]
    refine ⟨h.nd, by simp, fun a ha b hb e => ?_⟩
    simp only [List.mem_singleton] at hb
    subst e hb
    exact h2 ha
  · exact List.mem_append_left _ h.first
  · intro y hy
    rcases List.mem_append.1 hy with hy | hy
    · exact h.out y hy
    · simp only [List.mem_singleton] at hy; subst hy; exact h1
  · intro y hy
    rcases List.mem_append.1 hy with hy | hy
    · exact h.rt y hy
    · simp only [List.mem_singleton] at hy; subst hy; exact (h.rt _ (getD_mem hi)).tail ⟨he, h1⟩
  · intro y hy
    rcases List.mem_append.1 hy with hy | hy
    · exact h.lt y hy
    · simp only [List.mem_singleton] at hy; subst hy; exact hk _ _ he
  · have := h.le; simp; omega
  · intro q hq y e
    rw [getD_app (by omega)] at e
    exact (h.done q hq y e).imp id (List.mem_append_left _)
  · intro y hy
    rw [getD_app hi, take_at hj, List.mem_append] at hy
    rcases hy with hy | hy
    · exact (h.part y hy).imp id (List.mem_append_left _)
    · rw [hx] at hy; exact .inr (List.mem_append_right _ hy)
theorem WInv.next (h : WInv K M f found i j) (hi : i < found.length) (hj : (K.getD (found.getD i 0) []).length ≤ j) : WInv K M f found (i + 1) 0 := by
  refine ⟨h.nd, h.first, h.out, h.rt, h.lt, by omega, fun q hq y e => ?_, by simp⟩
  by_cases hq' : q < i
  · exact h.done q hq' y e
  · obtain rfl : q = i := by omega
    refine h.part y ?_
    rw [List.take_of_length_le hj]
    exact e
/-- All that it leads to but by what was met. -/
def WOut (K : List (List Nat)) (M : List Nat) (f : Nat) (found : List Nat) : Prop := found.Nodup ∧ ∀ x, x ∈ found ↔ f ∉ M ∧ Rt (EdM K M) f x
theorem WInv.fin (h : WInv K M f found i j) (hi : found.length ≤ i) : WOut K M f found := by
  refine ⟨h.nd, fun x => ⟨fun hx => ⟨h.out _ h.first, h.rt x hx⟩, fun ⟨_, hr⟩ => ?_⟩⟩
  refine hr (fun x => x ∈ found) h.first (fun x y hx e => ?_)
  obtain ⟨q, hq, rfl⟩ := List.getElem_of_mem hx
  have := h.done q (by omega) y (by
    have := e.1
    rwa [show found.getD q 0 = found[q] by rw [List.getD_eq_getElem?_getD, List.getElem?_eq_getElem hq]; rfl])
  exact this.resolve_left e.2
theorem WOut.none (h : f ∈ M) : WOut K M f [] := ⟨by simp, fun x => ⟨fun q => by simp at q, fun q => absurd h q.1⟩⟩
end

/-! ### an order from below -/

def EdF (K : List (List Nat)) (F : List Nat) (a b : Nat) : Prop := Ed K a b ∧ a ∈ F
/-- The order of what is done: who is done, with all that lead to it and it to them, has all below it done. -/
def KO (K : List (List Nat)) (order : List Nat) : Prop := ∀ pre t post, order = pre ++ t :: post → (∀ x, Rt (Ed K) x t → Rt (Ed K) t x → x ∈ pre ++ [t]) → ∀ y, Rt (Ed K) t y → y ∈ pre ++ [t]
/-- The way down (its first first), what is done, what was met. -/
structure CInv (K : List (List Nat)) (order : List Nat) (way : List (Nat × Nat)) (met : List Nat) : Prop where
  mt : ∀ x, x ∈ met ↔ x ∈ order ∨ x ∈ way.map Prod.fst
  nd : (order ++ way.map Prod.fst).Nodup
  lt : ∀ x ∈ order ++ way.map Prod.fst, x < K.length
  chain : way.Pairwise fun p q => Rt (Ed K) p.1 q.1
  looked : ∀ p ∈ way, p.2 ≤ (K.getD p.1 []).length ∧ ∀ y ∈ (K.getD p.1 []).take p.2, y ∈ met
  j3 : ∀ a ∈ order, ∀ b, b ∉ order → Rt (EdF K order) a b → b ∈ way.map Prod.fst ∧ Rt (Ed K) b a
  ko : KO K order
section
variable {K : List (List Nat)} {order met : List Nat} {way : List (Nat × Nat)}
theorem CInv.none : CInv K [] [] [] := ⟨by simp, by simp, by simp, by simp, by simp, by simp, fun pre t post h => by simp at h⟩
theorem CInv.len (h : CInv K order way met) : order.length + way.length ≤ K.length := by
  have := nodup_le _ _ h.nd h.lt
  simpa using this
theorem CInv.from (h : CInv K order [] met) (f : Nat) (hf : f < K.length) (hm : f ∉ met) : CInv K order [(f, 0)] (f :: met) := by
  have hno : f ∉ order := fun q => hm ((h.mt f).2 (.inl q))
  refine ⟨fun x => ?_, ?_, ?_, by simp, by simp, fun a ha b hb r => ?_, h.ko⟩
  · have := h.mt x
    simp at this ⊢
    rw [this]
    exact or_comm
  · have := h.nd
    simp only [List.map_nil, List.append_nil] at this
    simp only [List.map_cons, List.map_nil, List.nodup_append]
    refine ⟨this, by simp, fun a ha b hb e => ?_⟩
    simp only [List.mem_singleton] at hb
    subst e hb
    exact hno ha
  · intro x hx
    simp only [List.map_cons, List.map_nil, List.mem_append, List.mem_singleton] at hx
    rcases hx with hx | rfl
    · exact h.lt x (by simpa using hx)
    · exact hf
  · have := (h.j3 a ha b hb r).1
    simp at this
theorem CInv.mem_top {p : Nat × Nat} (h : CInv K order (way ++ [p]) met) : p.1 < K.length ∧ p.1 ∈ met := by
  refine ⟨h.lt _ (by simp), (h.mt _).2 (.inr (by simp))⟩
theorem CInv.skip {a l : Nat} (h : CInv K order (way ++ [(a, l)]) met) (hl : l < (K.getD a []).length) (hm : (K.getD a []).getD l 0 ∈ met) : CInv K order (way ++ [(a, l + 1)]) met := by
  have hmap : (way ++ [(a, l + 1)]).map Prod.fst = (way ++ [(a, l)]).map Prod.fst := by simp
  refine ⟨?_, ?_, ?_, ?_, ?_, ?_, h.ko⟩
  · rw [hmap]; exact h.mt
  · rw [hmap]; exact h.nd
  · rw [hmap]; exact h.lt
  · have := h.chain
    rw [List.pairwise_append] at this ⊢
    refine ⟨this.1, by simp, fun p hp q hq => ?_⟩
    simp only [List.mem_singleton] at hq
    subst hq
    exact this.2.2 p hp (a, l) (by simp)
  · intro p hp
    rcases List.mem_append.1 hp with hp | hp
    · exact h.looked p (List.mem_append_left _ hp)
    · simp only [List.mem_singleton] at hp
      subst hp
      refine ⟨hl, fun y hy => ?_⟩
      rw [take_at hl, List.mem_append] at hy
      rcases hy with hy | hy
      · exact (h.looked (a, l) (by simp)).2 y hy
      · simp only [List.mem_singleton] at hy
        rw [hy]; exact hm
  · rw [hmap]; exact h.j3
theorem CInv.push {a l : Nat} (h : CInv K order (way ++ [(a, l)]) met) (hk : Ok9 K) (hl : l < (K.getD a []).length) (hm : (K.getD a []).getD l 0 ∉ met) :
    CInv K order (way ++ [(a, l + 1)] ++ [((K.getD a []).getD l 0, 0)]) ((K.getD a []).getD l 0 :: met) := by
  have he : Ed K a ((K.getD a []).getD l 0) := getD_mem hl
  generalize hx : (K.getD a []).getD l 0 = x at *
  have hmap : (way ++ [(a, l + 1)] ++ [(x, 0)]).map Prod.fst = (way ++ [(a, l)]).map Prod.fst ++ [x] := by simp
  have hno : x ∉ order ++ (way ++ [(a, l)]).map Prod.fst := fun q => hm ((h.mt x).2 (List.mem_append.1 q))
  refine ⟨?_, ?_, ?_, ?_, ?_, ?_, h.ko⟩
  · intro y
    rw [hmap, List.mem_cons, h.mt y]
    simp only [List.mem_append, List.mem_singleton]
    constructor
    · rintro (h | h | h)
      · exact .inr (.inr h)
      · exact .inl h
      · exact .inr (.inl h)
    · rintro (h | h | h)
      · exact .inr (.inl h)
      · exact .inr (.inr h)
      · exact .inl h
  · rw [hmap, ← List.append_assoc, List.nodup_append]
    refine ⟨h.nd, by simp, fun p hp q hq e => ?_⟩
    simp only [List.mem_singleton] at hq
    subst e hq
    exact hno hp
  · intro y hy
    rw [hmap, ← List.append_assoc] at hy
    rcases List.mem_append.1 hy with hy | hy
    · exact h.lt y hy
    · simp only [List.mem_singleton] at hy
      subst hy
      exact hk _ _ he
  · have hc := h.chain
    rw [List.pairwise_append] at hc
    rw [List.pairwise_append]
    refine ⟨?_, by simp, fun p hp q hq => ?_⟩
    · rw [List.pairwise_append]
      refine ⟨hc.1, by simp, fun p hp q hq => ?_⟩
      simp only [List.mem_singleton] at hq
      subst hq
      exact hc.2.2 p hp (a, l) (by simp)
    · simp only [List.mem_singleton] at hq
      subst hq
      rcases List.mem_append.1 hp with hp | hp
      · exact (hc.2.2 p hp (a, l) (by simp)).tail he
      · simp only [List.mem_singleton] at hp
        subst hp
        exact Rt.one he
  · intro p hp
    rcases List.mem_append.1 hp with hp | hp
    · rcases List.mem_append.1 hp with hp | hp
      · have := h.looked p (List.mem_append_left _ hp)
        exact ⟨this.1, fun y hy => List.mem_cons_of_mem _ (this.2 y hy)⟩
      · simp only [List.mem_singleton] at hp
        subst hp
        refine ⟨hl, fun y hy => ?_⟩
        rw [take_at hl, List.mem_append] at hy
        rcases hy with hy | hy
        · exact List.mem_cons_of_mem _ ((h.looked (a, l) (by simp)).2 y hy)
        · simp only [List.mem_singleton] at hy
          rw [hy, hx]; simp
    · simp only [List.mem_singleton] at hp
      subst hp
      simp
  · intro p hp b hb r
    rw [hmap]
    have := h.j3 p hp b hb r
    exact ⟨List.mem_append_left _ this.1, this.2⟩
/-- A way through what is done and one place more. -/
theorem edF_parts {F : List Nat} {t a b : Nat} (h : Rt (EdF K (F ++ [t])) a b) : Rt (EdF K F) a b ∨ (Rt (EdF K F) a t ∧ ∃ k, Ed K t k ∧ Rt (EdF K F) k b) := by
  refine h (fun x => Rt (EdF K F) a x ∨ (Rt (EdF K F) a t ∧ ∃ k, Ed K t k ∧ Rt (EdF K F) k x)) (.inl (Rt.refl _ _)) (fun x y p e => ?_)
  obtain ⟨e1, e2⟩ := e
  rcases List.mem_append.1 e2 with e2 | e2
  · rcases p with p | ⟨p, k, q, r⟩
    · exact .inl (p.tail ⟨e1, e2⟩)
    · exact .inr ⟨p, k, q, r.tail ⟨e1, e2⟩⟩
  · simp only [List.mem_singleton] at e2
    subst e2
    rcases p with p | ⟨p, _⟩
    · exact .inr ⟨p, y, e1, Rt.refl _ _⟩
    · exact .inr ⟨p, y, e1, Rt.refl _ _⟩
theorem edF_leave {F : List Nat} {a y : Nat} (h : Rt (Ed K) a y) (hy : y ∉ F) : ∃ b, b ∉ F ∧ Rt (EdF K F) a b := by
  have := h (fun x => Rt (EdF K F) a x ∨ ∃ b, b ∉ F ∧ Rt (EdF K F) a b) (.inl (Rt.refl _ _)) (fun x y p e => by
    rcases p with p | p
    · by_cases hx : x ∈ F
      · exact .inl (p.tail ⟨e, hx⟩)
      · exact .inr ⟨x, hx, p⟩
    · exact .inr p)
  rcases this with p | p
  · exact ⟨y, hy, p⟩
  · exact p
theorem edF_out {F : List Nat} {a b : Nat} (h : Rt (EdF K F) a b) (ha : a ∉ F) : b = a := h.stop (fun _ e => ha e.2)
theorem CInv.pop {a l : Nat} (h : CInv K order (way ++ [(a, l)]) met) (hl : (K.getD a []).length ≤ l) : CInv K (order ++ [a]) way met := by
  have hmap : (way ++ [(a, l)]).map Prod.fst = way.map Prod.fst ++ [a] := by simp
  have hnd := h.nd
  rw [hmap] at hnd
  have hao : a ∉ order := fun q => by
    rw [List.nodup_append] at hnd
    exact hnd.2.2 a q a (by simp) rfl
  have hch : ∀ b ∈ way.map Prod.fst, Rt (Ed K) b a := fun b hb => by
    obtain ⟨p, hp, rfl⟩ := List.mem_map.1 hb
    have hc := h.chain
    rw [List.pairwise_append] at hc
    exact hc.2.2 p hp (a, l) (by simp)
  have hkid : ∀ k, Ed K a k → k ∈ order ∨ k ∈ way.map Prod.fst ++ [a] := fun k hk => by
    have := (h.looked (a, l) (by simp)).2 k (by rw [List.take_of_length_le hl]; exact hk)
    have := (h.mt k).1 this
    rwa [hmap] at this
  have hj : ∀ p ∈ order ++ [a], ∀ b, b ∉ order ++ [a] → Rt (EdF K (order ++ [a])) p b → b ∈ way.map Prod.fst ∧ Rt (Ed K) b p := by
    intro p hp b hb r
    have hbo : b ∉ order := fun q => hb (List.mem_append_left _ q)
    have hba : b ≠ a := fun q => hb (by rw [q]; simp)
    have old : ∀ k, k ∈ order → Rt (EdF K order) k b → b ∈ way.map Prod.fst ∧ Rt (Ed K) b k := fun k hk r => by
      have := h.j3 k hk b hbo r
      rw [hmap, List.mem_append, List.mem_singleton] at this
      exact ⟨this.1.resolve_right hba, this.2⟩
    rcases edF_parts r with r0 | ⟨r1, k, e, r2⟩
    · rcases List.mem_append.1 hp with hp | hp
      · exact old p hp r0
      · simp only [List.mem_singleton] at hp
        subst hp
        exact absurd (edF_out r0 hao) hba
    · have hb' : b ∈ way.map Prod.fst := by
        by_cases hk : k ∈ order
        · exact (old k hk r2).1
        · obtain rfl := edF_out r2 hk
          rcases hkid b e with q | q
          · exact absurd q hbo
          · rcases List.mem_append.1 q with q | q
            · exact q
            · simp only [List.mem_singleton] at q
              exact absurd q hba
      refine ⟨hb', (hch b hb').trans ?_⟩
      rcases List.mem_append.1 hp with hp | hp
      · exact (h.j3 p hp a hao r1).2
      · simp only [List.mem_singleton] at hp
        subst hp
        exact Rt.refl _ _
  refine ⟨fun x => ?_, ?_, ?_, ?_, fun p hp => h.looked p (List.mem_append_left _ hp), hj, ?_⟩
  · rw [h.mt x, hmap]
    simp only [List.mem_append, List.mem_singleton]
    constructor
    · rintro (h | h | h)
      · exact .inl (.inl h)
      · exact .inr h
      · exact .inl (.inr h)
    · rintro ((h | h) | h)
      · exact .inl h
      · exact .inr (.inr h)
      · exact .inr (.inl h)
  · have : (order ++ (way.map Prod.fst ++ [a])).Perm (order ++ [a] ++ way.map Prod.fst) := by
      rw [List.append_assoc]
      exact List.Perm.append_left _ List.perm_append_comm
    exact this.nodup_iff.1 hnd
  · intro x hx
    refine h.lt x ?_
    rw [hmap]
    simp only [List.mem_append, List.mem_singleton] at hx ⊢
    rcases hx with (h | h) | h
    · exact .inl h
    · exact .inr (.inr h)
    · exact .inr (.inl h)
  · have hc := h.chain
    rw [List.pairwise_append] at hc
    exact hc.1
  · intro pre t post heq hs y hy
    rcases List.eq_nil_or_concat post with rfl | ⟨post', z, rfl⟩
    · have e1 : order = pre ∧ a = t := by
        have := List.append_inj' heq rfl
        simpa using this
      obtain ⟨rfl, rfl⟩ := e1
      refine Classical.byContradiction fun hn => ?_
      obtain ⟨b, hb, r⟩ := edF_leave hy hn
      have := hj a (by simp) b hb r
      exact hb (hs b this.2 (r.mono fun _ _ q => q.1))
    · have e1 : order = pre ++ t :: post' ∧ a = z := by
        have e2 : order ++ [a] = (pre ++ t :: post') ++ [z] := by rw [heq]; simp
        have := List.append_inj' e2 rfl
        simpa using this
      exact h.ko pre t post' e1.1 hs y hy
/-- How much is left to be done. -/
def cLeft (n B o : Nat) (way : List (Nat × Nat)) : Nat := (n - o - way.length) * (B + 2) + (way.map fun p => B + 1 - p.2).sum
end

/-- All places, from below. -/
def BOut (K : List (List Nat)) (order : List Nat) : Prop := order.Nodup ∧ (∀ x, x ∈ order ↔ x < K.length) ∧ KO K order
theorem all_le : ∀ (n : Nat) (L : List Nat), (∀ x, x < n → x ∈ L) → n ≤ L.length
  | 0, _, _ => Nat.zero_le _
  | n + 1, L, h => by
    have h1 := all_le n (L.erase n) (fun x hx => (List.mem_erase_of_ne (by omega)).2 (h x (by omega)))
    rw [List.length_erase, if_pos (by simpa using h n (by omega))] at h1
    have := List.length_pos_of_mem (h n (by omega))
    omega
theorem BOut.len {K : List (List Nat)} {order : List Nat} (h : BOut K order) : order.length = K.length :=
  Nat.le_antisymm (nodup_le _ _ h.1 (fun x hx => (h.2.1 x).1 hx)) (all_le _ _ (fun x hx => (h.2.1 x).2 hx))

end Go.Proofs.YtcdpjaaiojpelaaDoor
