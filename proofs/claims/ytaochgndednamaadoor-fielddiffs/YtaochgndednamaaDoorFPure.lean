/- What the fields that differ do: set, they make the one node's fields the other one's; without any of them something differs. No program. -/
import Derived.Test.YtaochgndednamaaDoorFSet
namespace Go.Proofs.YtaochgndednamaaDoor
open Go.RowKit

theorem putL_append (L M : List St) : ∀ N : Nd, putL N (L ++ M) = putL (putL N L) M := by
  induction L with
  | nil => intro N; rfl
  | cons x r ih => intro N; exact ih (put1 N x)

theorem take_same8 {α : Type} (a b : List α) (d : α) (k : Nat) (hl : a.length = b.length) (h : k < a.length) (e : a.getD k d = b.getD k d) : b.take (k + 1) ++ a.drop (k + 1) = b.take k ++ a.drop k := by
  have hb : k < b.length := by omega
  have e' : a[k] = b[k] := by simpa [h, hb] using e
  rw [List.take_add_one, List.getElem?_eq_getElem hb, show a.drop k = a[k] :: a.drop (k + 1) from List.drop_eq_getElem_cons h, e', List.append_assoc]
  rfl
theorem set_same8 {α : Type} (a b : List α) (d : α) (k : Nat) (hl : a.length = b.length) (h : k < a.length) : (b.take k ++ a.drop k).set k (b.getD k d) = b.take (k + 1) ++ a.drop (k + 1) := by
  have hb : k < b.length := by omega
  have ht : (b.take k).length = k := by simp; omega
  rw [show a.drop k = a[k] :: a.drop (k + 1) from List.drop_eq_getElem_cons h, List.set_append_right _ _ (by omega), ht, Nat.sub_self, List.set_cons_zero, List.take_add_one, List.getElem?_eq_getElem hb, List.append_assoc, show b.getD k d = b[k] by simp [hb]]
  rfl

theorem put_dI (N : Nd) (b : List Int) (hl : N.ints.length = b.length) : ∀ k, k ≤ N.ints.length → putL N (dI N.ints b k) = ⟨N.kind, b.take k ++ N.ints.drop k, N.texts, N.kids⟩ := by
  intro k
  induction k with
  | zero => intro _; simp [dI, putL]
  | succ k ih =>
    intro hk
    have ih := ih (by omega)
    by_cases he : N.ints.getD k 0 = b.getD k 0
    · simp only [dI, if_pos he, List.append_nil]
      rw [ih, take_same8 _ _ 0 _ hl (by omega) he]
    · simp only [dI, if_neg he]
      rw [putL_append, ih]
      simp only [putL, put1, Bool.false_eq_true, if_false, Int.toNat_natCast]
      rw [set_same8 _ _ _ _ hl (by omega)]
theorem put_dT (N : Nd) (b : List ByteArray) (hl : N.texts.length = b.length) : ∀ k, k ≤ N.texts.length → putL N (dT N.texts b k) = ⟨N.kind, N.ints, b.take k ++ N.texts.drop k, N.kids⟩ := by
  intro k
  induction k with
  | zero => intro _; simp [dT, putL]
  | succ k ih =>
    intro hk
    have ih := ih (by omega)
    by_cases he : N.texts.getD k noT = b.getD k noT
    · simp only [dT, if_pos he, List.append_nil]
      rw [ih, take_same8 _ _ noT _ hl (by omega) he]
    · simp only [dT, if_neg he]
      rw [putL_append, ih]
      simp only [putL, put1, if_true, Int.toNat_natCast]
      rw [set_same8 _ _ _ _ hl (by omega)]

theorem dI_mem (a b : List Int) : ∀ k x, x ∈ dI a b k → ∃ f, f < k ∧ x = ⟨false, (f : Int), b.getD f 0, noT⟩ ∧ ¬ a.getD f 0 = b.getD f 0 := by
  intro k
  induction k with
  | zero => intro x hx; simp [dI] at hx
  | succ k ih =>
    intro x hx
    simp only [dI, List.mem_append] at hx
    rcases hx with hx | hx
    · obtain ⟨f, h1, h2, h3⟩ := ih x hx
      exact ⟨f, by omega, h2, h3⟩
    · by_cases he : a.getD k 0 = b.getD k 0
      · rw [if_pos he] at hx; cases hx
      · rw [if_neg he] at hx
        simp only [List.mem_singleton] at hx
        exact ⟨k, by omega, hx, he⟩
theorem dT_mem (a b : List ByteArray) : ∀ k x, x ∈ dT a b k → ∃ f, f < k ∧ x = ⟨true, (f : Int), 0, b.getD f noT⟩ ∧ ¬ a.getD f noT = b.getD f noT := by
  intro k
  induction k with
  | zero => intro x hx; simp [dT] at hx
  | succ k ih =>
    intro x hx
    simp only [dT, List.mem_append] at hx
    rcases hx with hx | hx
    · obtain ⟨f, h1, h2, h3⟩ := ih x hx
      exact ⟨f, by omega, h2, h3⟩
    · by_cases he : a.getD k noT = b.getD k noT
      · rw [if_pos he] at hx; cases hx
      · rw [if_neg he] at hx
        simp only [List.mem_singleton] at hx
        exact ⟨k, by omega, hx, he⟩

theorem cmp_is {A B : Nd} (h : cmp A B = true) : A.kind = B.kind ∧ A.ints.length = B.ints.length ∧ A.texts.length = B.texts.length := by
  unfold cmp at h
  rwa [decide_eq_true_eq] at h
theorem dL_is {A B : Nd} (h : cmp A B = true) : dL A B = dI A.ints B.ints A.ints.length ++ dT A.texts B.texts A.texts.length := by
  unfold dL
  rw [if_pos h]
  rfl
theorem dL_fits {A B : Nd} (h : cmp A B = true) : ∀ x ∈ dL A B, fits A x = true := by
  intro x hx
  rw [dL_is h, List.mem_append] at hx
  rcases hx with hx | hx
  · obtain ⟨f, h1, rfl, _⟩ := dI_mem _ _ _ _ hx
    simp only [fits, Bool.false_eq_true, if_false, decide_eq_true_eq]
    exact ⟨by omega, by omega, by first | rfl | trivial⟩
  · obtain ⟨f, h1, rfl, _⟩ := dT_mem _ _ _ _ hx
    simp only [fits, if_true, decide_eq_true_eq]
    exact ⟨by omega, by omega, by first | rfl | trivial⟩

/-- Set, they make the one node's fields the other one's. -/
theorem set_dL {A B : Nd} (h : cmp A B = true) : setR A (dL A B) = (⟨A.kind, B.ints, B.texts, A.kids⟩, 0) := by
  obtain ⟨hk, hi, ht⟩ := cmp_is h
  unfold setR
  rw [if_pos (List.all_eq_true.2 (dL_fits h)), dL_is h, putL_append, put_dI A B.ints hi _ (Nat.le_refl _)]
  have := put_dT ⟨A.kind, B.ints.take A.ints.length ++ A.ints.drop A.ints.length, A.texts, A.kids⟩ B.texts ht A.texts.length (Nat.le_refl _)
  rw [this]
  simp [hi, ht]

theorem dL_len (A B : Nd) (h1 : A.ints.length ≤ 100) (h2 : A.texts.length ≤ 100) : (dL A B).length ≤ 200 := by
  unfold dL
  split
  · have := DL_le A B A.ints.length A.texts.length
    omega
  · simp

/-- Two of them never speak of one field. -/
theorem dL_apart {A B : Nd} (h : cmp A B = true) : (dL A B).Pairwise fun x y => ¬ (x.text = y.text ∧ x.field = y.field) := by
  have pI : ∀ (a b : List Int) k, (dI a b k).Pairwise fun x y => ¬ (x.text = y.text ∧ x.field = y.field) := by
    intro a b k
    induction k with
    | zero => simp [dI]
    | succ k ih =>
      simp only [dI, List.pairwise_append]
      refine ⟨ih, by split <;> simp, fun x hx y hy => ?_⟩
      obtain ⟨f, h1, rfl, _⟩ := dI_mem _ _ _ _ hx
      by_cases he : a.getD k 0 = b.getD k 0
      · rw [if_pos he] at hy; cases hy
      · rw [if_neg he] at hy
        simp only [List.mem_singleton] at hy
        subst hy
        rintro ⟨_, h2⟩
        simp only at h2
        omega
  have pT : ∀ (a b : List ByteArray) k, (dT a b k).Pairwise fun x y => ¬ (x.text = y.text ∧ x.field = y.field) := by
    intro a b k
    induction k with
    | zero => simp [dT]
    | succ k ih =>
      simp only [dT, List.pairwise_append]
      refine ⟨ih, by split <;> simp, fun x hx y hy => ?_⟩
      obtain ⟨f, h1, rfl, _⟩ := dT_mem _ _ _ _ hx
      by_cases he : a.getD k noT = b.getD k noT
      · rw [if_pos he] at hy; cases hy
      · rw [if_neg he] at hy
        simp only [List.mem_singleton] at hy
        subst hy
        rintro ⟨_, h2⟩
        simp only at h2
        omega
  rw [dL_is h, List.pairwise_append]
  refine ⟨pI _ _ _, pT _ _ _, fun x hx y hy => ?_⟩
  obtain ⟨f, _, rfl, _⟩ := dI_mem _ _ _ _ hx
  obtain ⟨g, _, rfl, _⟩ := dT_mem _ _ _ _ hy
  simp

/-- All but one. -/
def but (L : List St) (i : Nat) : List St := L.take i ++ L.drop (i + 1)
theorem but_mem (L : List St) (i : Nat) : ∀ y ∈ but L i, y ∈ L := by
  intro y hy
  simp only [but, List.mem_append] at hy
  rcases hy with hy | hy
  · exact List.mem_of_mem_take hy
  · exact List.mem_of_mem_drop hy
theorem but_apart {A B : Nd} (h : cmp A B = true) (i : Nat) (hi : i < (dL A B).length) : ∀ y ∈ but (dL A B) i, ¬ (y.text = (dL A B)[i].text ∧ y.field = (dL A B)[i].field) := by
  have hp := List.pairwise_iff_getElem.1 (dL_apart h)
  intro y hy
  simp only [but, List.mem_append] at hy
  rcases hy with hy | hy
  · obtain ⟨j, hj, rfl⟩ := List.getElem_of_mem hy
    simp only [List.length_take] at hj
    have := hp j i (by omega) hi (by omega)
    simpa using this
  · obtain ⟨j, hj, rfl⟩ := List.getElem_of_mem hy
    simp only [List.length_drop] at hj
    have := hp i (i + 1 + j) hi (by omega) (by omega)
    intro hh
    apply this
    simp only [List.getElem_drop] at hh
    exact ⟨hh.1.symm, hh.2.symm⟩

theorem keep_i (f : Nat) : ∀ (M : List St) (N : Nd), (∀ y ∈ M, 0 ≤ y.field ∧ ¬ (y.text = false ∧ y.field = (f : Int))) → (putL N M).ints.getD f 0 = N.ints.getD f 0 := by
  intro M
  induction M with
  | nil => intro N _; rfl
  | cons y r ih =>
    intro N h
    show (putL (put1 N y) r).ints.getD f 0 = _
    rw [ih _ (fun z hz => h z (by simp [hz]))]
    obtain ⟨h0, h1⟩ := h y (by simp)
    unfold put1
    by_cases ht : y.text = true
    · rw [if_pos ht]
    · rw [if_neg ht]
      have hf : y.field.toNat ≠ f := fun e => h1 ⟨by simpa using ht, by omega⟩
      simp only [List.getD_eq_getElem?_getD]
      rw [List.getElem?_set_ne hf]
theorem keep_t (f : Nat) : ∀ (M : List St) (N : Nd), (∀ y ∈ M, 0 ≤ y.field ∧ ¬ (y.text = true ∧ y.field = (f : Int))) → (putL N M).texts.getD f noT = N.texts.getD f noT := by
  intro M
  induction M with
  | nil => intro N _; rfl
  | cons y r ih =>
    intro N h
    show (putL (put1 N y) r).texts.getD f noT = _
    rw [ih _ (fun z hz => h z (by simp [hz]))]
    obtain ⟨h0, h1⟩ := h y (by simp)
    unfold put1
    by_cases ht : y.text = true
    · rw [if_pos ht]
      have hf : y.field.toNat ≠ f := fun e => h1 ⟨ht, by omega⟩
      simp only [List.getD_eq_getElem?_getD]
      rw [List.getElem?_set_ne hf]
    · rw [if_neg ht]

theorem dI_none (a b : List Int) : ∀ n, dI a b n = [] → ∀ k, k < n → a.getD k 0 = b.getD k 0 := by
  intro n
  induction n with
  | zero => intro _ k hk; omega
  | succ n ih =>
    intro h k hk
    simp only [dI, List.append_eq_nil_iff] at h
    by_cases hkn : k = n
    · subst hkn
      by_cases he : a.getD k 0 = b.getD k 0
      · exact he
      · rw [if_neg he] at h; simp at h
    · exact ih h.1 k (by omega)
theorem dT_none (a b : List ByteArray) : ∀ n, dT a b n = [] → ∀ k, k < n → a.getD k noT = b.getD k noT := by
  intro n
  induction n with
  | zero => intro _ k hk; omega
  | succ n ih =>
    intro h k hk
    simp only [dT, List.append_eq_nil_iff] at h
    by_cases hkn : k = n
    · subst hkn
      by_cases he : a.getD k noT = b.getD k noT
      · exact he
      · rw [if_neg he] at h; simp at h
    · exact ih h.1 k (by omega)

theorem fits_pos {N : Nd} {x : St} (h : fits N x = true) : 0 ≤ x.field := by
  unfold fits at h
  split at h
  · rw [decide_eq_true_eq] at h; exact h.1
  · rw [decide_eq_true_eq] at h; exact h.1

theorem set_but {A B : Nd} (h : cmp A B = true) (i : Nat) : setR A (but (dL A B) i) = (putL A (but (dL A B) i), 0) := by
  unfold setR
  rw [if_pos (List.all_eq_true.2 fun x hx => dL_fits h x (but_mem _ _ x hx))]

/-- Without any of them something differs. -/
theorem own_but {A B : Nd} (h : cmp A B = true) (i : Nat) (hi : i < (dL A B).length) : (cmp (putL A (but (dL A B) i)) B && decide ((dL (putL A (but (dL A B) i)) B).length = 0)) = false := by
  obtain ⟨hk, hii, ht⟩ := cmp_is h
  obtain ⟨p1, p2, p3, p4⟩ := putL_len (but (dL A B) i) A
  have hc : cmp (putL A (but (dL A B) i)) B = true := by
    unfold cmp
    rw [decide_eq_true_eq, p1, p3, p4]
    exact ⟨hk, hii, ht⟩
  rw [hc, Bool.true_and, decide_eq_false_iff_not]
  intro h0
  have h1 := List.length_eq_zero_iff.1 h0
  rw [dL_is hc, List.append_eq_nil_iff] at h1
  have hpos : ∀ y ∈ but (dL A B) i, 0 ≤ y.field := fun y hy => fits_pos (dL_fits h y (but_mem _ _ y hy))
  have hap := but_apart h i hi
  have hx := List.getElem_mem hi
  generalize (dL A B)[i] = x at *
  rw [dL_is h, List.mem_append] at hx
  rcases hx with hx | hx
  · obtain ⟨f, hf, rfl, hne⟩ := dI_mem _ _ _ _ hx
    have e1 := keep_i f (but (dL A B) i) A (fun y hy => ⟨hpos y hy, hap y hy⟩)
    have e2 := dI_none _ _ _ h1.1 f (by rw [p3]; exact hf)
    exact hne (e1.symm.trans e2)
  · obtain ⟨f, hf, rfl, hne⟩ := dT_mem _ _ _ _ hx
    have e1 := keep_t f (but (dL A B) i) A (fun y hy => ⟨hpos y hy, hap y hy⟩)
    have e2 := dT_none _ _ _ h1.2 f (by rw [p4]; exact hf)
    exact hne (e1.symm.trans e2)

end Go.Proofs.YtaochgndednamaaDoor
