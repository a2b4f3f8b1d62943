/- A region that draws its order, by facts: each operation leaves a fact on its own value and the world, which later steps keep; whatever order is picked, at the end all facts stand. Over any program. -/
import Derived.Test.YtcdpjaaiojpelaaDoorKit
import Derived.RegionTactic
import Derived.Maps.AppendAt
namespace Go.Proofs.YtcdpjaaiojpelaaDoor
open Go.RowKit

/-- What can be looked up in the region's text: its temporaries are there, and its edges lead back. -/
def okB (l : List Oper) (size : Nat) : Bool :=
  l.all (fun o => match o.dst with | some d => decide (d < size) | none => true) &&
  (List.range l.length).all (fun j => (List.range l.length).all fun k => j == k || (l[j]?.bind (·.dst)).isNone || ((l[j]?.bind (·.dst)) != (l[k]?.bind (·.dst)))) &&
  (List.range l.length).all (fun j => ((l[j]?).map fun o => o.after.all fun e => !Region.binds .any e || decide (e.on < j)).getD true)

def valOf (a : Act) (d : Option Tmp) : Value := match d with | some d => a.tmps[d]?.getD undef | none => undef
def own1 (d : Option Tmp) (v : Value) : Value := match d with | some _ => v | none => undef

theorem valOf_put_same (a : Act) (d : Option Tmp) (v : Value) (h : ∀ k, d = some k → k < a.tmps.size) : valOf (a.put d v) d = own1 d v := by
  cases d with
  | none => rfl
  | some k => simp [valOf, own1, Act.put, h k rfl]
theorem valOf_put_other (a : Act) (d d' : Option Tmp) (v : Value) (h : ∀ k, d = some k → d' ≠ some k) : valOf (a.put d v) d' = valOf a d' := by
  cases d with
  | none => rfl
  | some k =>
    cases d' with
    | none => rfl
    | some k' =>
      have : k ≠ k' := fun e => h k rfl (by rw [e])
      simp [valOf, Act.put, Array.getElem?_setIfInBounds_ne this]

theorem countP_lt {p q : Nat → Bool} {l : List Nat} (hsub : ∀ j, p j = true → q j = true) (i : Nat) (hi : i ∈ l) (hp : p i = false) (hq : q i = true) : l.countP p < l.countP q := by
  induction l with
  | nil => cases hi
  | cons x r ih =>
    have hle : r.countP p ≤ r.countP q := List.countP_mono_left (fun j _ h => hsub j h)
    rcases List.mem_cons.1 hi with rfl | h
    · simp only [List.countP_cons, hp, hq]
      simp
      omega
    · have := ih h
      simp only [List.countP_cons]
      by_cases hx : p x = true
      · simp [hx, hsub x hx]; omega
      · simp [hx]; split <;> omega

section
variable {P : Program} {Q : Exit → Act → World → Prop} {a0 : Act} {w0 : World} {l : List Oper} {row : Option Nat} {s : Nat} {F : Nat → Value → World → Prop}

structure FInv (l : List Oper) (a0 : Act) (w0 : World) (row : Option Nat) (s : Nat) (F : Nat → Value → World → Prop) (listed : Array Bool) (a : Act) (w : World) : Prop where
  grown : w0.grownBy w row
  still : listed.getD s false = false → w0.grownBy w none
  size : a.tmps.size = a0.tmps.size
  defers : a.defers = a0.defers
  off : ∀ d : Tmp, (∀ o ∈ l, o.dst ≠ some d) → a.tmps[d]?.getD undef = a0.tmps[d]?.getD undef
  facts : ∀ j o, l[j]? = some o → listed.getD j false = true → F j (valOf a o.dst) w

theorem okB_dst (hc : okB l a0.tmps.size = true) {j : Nat} {o : Oper} (h : l[j]? = some o) : ∀ k, o.dst = some k → k < a0.tmps.size := by
  intro k hk
  unfold okB at hc
  simp only [Bool.and_eq_true] at hc
  have := List.all_eq_true.1 hc.1.1 o (List.mem_of_getElem? h)
  rw [hk] at this
  simpa using this
theorem okB_ne (hc : okB l a0.tmps.size = true) {i j : Nat} {oi oj : Oper} (hi : l[i]? = some oi) (hj : l[j]? = some oj) (hne : i ≠ j) : ∀ k, oi.dst = some k → oj.dst ≠ some k := by
  intro k hk hk'
  unfold okB at hc
  simp only [Bool.and_eq_true] at hc
  have li : i < l.length := (List.getElem?_eq_some_iff.1 hi).1
  have lj : j < l.length := (List.getElem?_eq_some_iff.1 hj).1
  have := List.all_eq_true.1 (List.all_eq_true.1 hc.1.2 i (by simpa using li)) j (by simpa using lj)
  rw [hi, hj] at this
  simp [hk, hk', hne] at this
theorem okB_back (hc : okB l a0.tmps.size = true) {j : Nat} {o : Oper} (h : l[j]? = some o) : ∀ e ∈ o.after, Region.binds .any e = true → e.on < j := by
  intro e he hb
  unfold okB at hc
  simp only [Bool.and_eq_true] at hc
  have lj : j < l.length := (List.getElem?_eq_some_iff.1 h).1
  have := List.all_eq_true.1 hc.2 j (by simpa using lj)
  rw [h] at this
  simp only [Option.map_some, Option.getD_some] at this
  rw [Array.all_eq_true_iff_forall_mem] at this
  have := this e he
  simpa [hb] using this

/-- Nothing may come up: all have come up. -/
theorem all_listed (hc : okB l a0.tmps.size = true) {listed : Array Bool} (hs : listed.size = l.length) (hr : Region.ready .any l.toArray listed = []) : ∀ j, j < l.length → listed.getD j false = true := by
  intro j
  induction j using Nat.strongRecOn with
  | ind j ih =>
    intro hj
    cases hl : listed.getD j false with
    | true => rfl
    | false =>
      exfalso
      have hlt : j < listed.size := by omega
      have hf : listed.getD j true = false := by simp [hlt] at hl ⊢; exact hl
      have ho : l.toArray[j]? = some l[j] := by simp [hj]
      have : j ∈ Region.ready .any l.toArray listed := mem_ready.2 ⟨hf, l[j], ho, fun e he hbi => by
        have hb := okB_back hc (List.getElem?_eq_getElem hj) e he hbi
        exact ih e.on hb (by omega)⟩
      rw [hr] at this
      cases this

/-- All the operations' values, one behind the other. -/
def fillA (a0 : Act) (V : Option Tmp → Value) : List Oper → Act
  | [] => a0
  | o :: r => fillA (a0.put o.dst (V o.dst)) V r

theorem fillA_is (V : Option Tmp → Value) (a : Act) : ∀ (l : List Oper) (a0 : Act), a.tmps.size = a0.tmps.size → a.defers = a0.defers → (∀ o ∈ l, V o.dst = valOf a o.dst) → (∀ d : Tmp, (∀ o ∈ l, o.dst ≠ some d) → a.tmps[d]?.getD undef = a0.tmps[d]?.getD undef) → fillA a0 V l = a
  | [], a0, hs, hd, _, ho => by
    have : a.tmps = a0.tmps := by
      apply Array.ext hs
      intro i h1 h2
      have := ho i (by simp)
      simpa [h1, h2] using this
    obtain ⟨t, d⟩ := a
    obtain ⟨t0, d0⟩ := a0
    simp only at this hd
    subst this; subst hd; rfl
  | o :: r, a0, hs, hd, hv, ho => by
    unfold fillA
    refine fillA_is V a r _ ?_ ?_ (fun o' h' => hv o' (by simp [h'])) ?_
    · cases h : o.dst <;> simp [Act.put, hs]
    · cases h : o.dst <;> simp [Act.put, hd]
    · intro d hn
      have hvo := hv o (by simp)
      by_cases hod : o.dst = some d
      · rw [hod] at hvo ⊢
        simp only [valOf] at hvo
        rw [hvo]
        by_cases hlt : d < a0.tmps.size
        · simp [Act.put, hlt]
        · have h1 : a.tmps.size ≤ d := by rw [hs]; exact Nat.le_of_not_lt hlt
          have h2 : a.tmps[d]? = none := Array.getElem?_eq_none h1
          have h3 : (a0.tmps.setIfInBounds d undef)[d]? = none := Array.getElem?_eq_none (by simpa using Nat.le_of_not_lt hlt)
          simp only [Act.put]
          rw [h2]
          show undef = ((a0.tmps.setIfInBounds d undef)[d]?).getD undef
          rw [h3]
          rfl
      · rw [ho d (fun o' h' => by
          rcases List.mem_cons.1 h' with rfl | h'
          · exact hod
          · exact hn o' h')]
        cases h : o.dst with
        | none => rfl
        | some k =>
          have : k ≠ d := fun e => hod (by rw [h, e])
          simp [Act.put, Array.getElem?_setIfInBounds_ne this]

theorem facts_any (hc : okB l a0.tmps.size = true) (stab : ∀ i j v w w', i ≠ j → w.grownBy w' (if i = s then row else none) → F j v w → F j v w')
    (step : ∀ i o, l[i]? = some o → ∀ (a : Act) (w : World), w0.grownBy w row → (i = s → w0.grownBy w none) → (∀ d : Tmp, (l.all fun o' => o'.dst != some d) = true → a.tmps[d]?.getD undef = a0.tmps[d]?.getD undef) →
      (∀ k ok, (o.after.any fun e => Region.binds .any e && e.on == k) = true → l[k]? = some ok → F k (valOf a ok.dst) w) →
      ∀ K : Act → World → Prop, (∀ v w', w.grownBy w' (if i = s then row else none) → F i (own1 o.dst v) w' → K (a.put o.dst v) w') → if Region.wanted o (yielded l.toArray a.tmps) = true then Oper.wp P o a w K Q else K (a.put o.dst undef) w)
    (fin : ∀ (V : Option Tmp → Value) (w : World), w0.grownBy w row → (∀ j o, l[j]? = some o → F j (V o.dst) w) → Q .normal (fillA a0 V l) w) :
    ∀ (fuel : Nat) (listed : Array Bool) (a : Act) (w : World), listed.size = l.length → (List.range l.length).countP (fun j => !listed.getD j true) ≤ fuel → FInv l a0 w0 row s F listed a w → wpAny P .any l.toArray Q fuel listed a w := by
  have done : ∀ (listed : Array Bool) (a : Act) (w : World), listed.size = l.length → Region.ready .any l.toArray listed = [] → FInv l a0 w0 row s F listed a w → Q .normal a w := by
    intro listed a w hs hr I
    have hall := all_listed hc hs hr
    have := fin (valOf a) w I.grown (fun j o ho => I.facts j o ho (hall j (List.getElem?_eq_some_iff.1 ho).1))
    rw [fillA_is (valOf a) a l a0 I.size I.defers (fun _ _ => rfl) I.off] at this
    exact this
  intro fuel
  induction fuel with
  | zero =>
    intro listed a w hs hn I
    have hr : Region.ready .any l.toArray listed = [] := by
      cases h : Region.ready .any l.toArray listed with
      | nil => rfl
      | cons i r =>
        exfalso
        have hi : i ∈ Region.ready .any l.toArray listed := by rw [h]; simp
        obtain ⟨hu, o, ho, _⟩ := mem_ready.1 hi
        have hlt : i < l.length := by have := (Array.getElem?_eq_some_iff.1 ho).1; simpa using this
        have : 0 < (List.range l.length).countP (fun j => !listed.getD j true) := List.countP_pos_iff.2 ⟨i, by simpa using hlt, by simpa using hu⟩
        omega
    exact ⟨hr, done listed a w hs hr I⟩
  | succ fuel ih =>
    intro listed a w hs hn I
    refine ⟨fun hr => done listed a w hs hr I, fun i hi => ?_⟩
    obtain ⟨hu, o, ho, hall⟩ := mem_ready.1 hi
    have ho' : l[i]? = some o := by simpa using ho
    have hlt : i < l.length := (List.getElem?_eq_some_iff.1 ho').1
    have hfalse : listed.getD i false = false := by
      have hlt' : i < listed.size := by omega
      simp [hlt'] at hu ⊢
      exact hu
    refine wpOp_step ho (fun K' hK' => ?_)
    refine step i o ho' a w I.grown (fun his => I.still (his ▸ hfalse)) (fun d hd => I.off d (fun o' ho' => by have := List.all_eq_true.1 hd o' ho'; simpa using this)) (fun k ok hk hok => ?_) K' (fun v w' hg hF => hK' _ _ ?_)
    · rw [Array.any_eq_true] at hk
      obtain ⟨x, hx, hb⟩ := hk
      have he := Array.getElem_mem hx
      generalize o.after[x] = e at *
      simp only [Bool.and_eq_true, beq_iff_eq] at hb
      obtain ⟨hb, rfl⟩ := hb
      exact I.facts e.on ok hok (hall e he hb)
    have hg' : w.grownBy w' row := by
      by_cases his : i = s
      · rw [if_pos his] at hg; exact hg
      · rw [if_neg his] at hg; exact ⟨hg.os, hg.tape, hg.output, hg.size, fun k hk _ => hg.block k hk (by simp)⟩
    refine ih _ _ _ (by simpa using hs) ?_ ⟨I.grown.trans hg', ?_, ?_, ?_, ?_, ?_⟩
    · have hlt' : i < listed.size := by omega
      have key : (List.range l.length).countP (fun j => !(listed.setIfInBounds i true).getD j true) < (List.range l.length).countP (fun j => !listed.getD j true) := by
        have hnd := List.nodup_range (n := l.length)
        have hsub : ∀ j, (!(listed.setIfInBounds i true).getD j true) = true → (!listed.getD j true) = true := fun j hj => by
          by_cases hij : i = j
          · subst hij; simp [hlt'] at hj
          · rw [getD_set_ne true hij] at hj; exact hj
        exact countP_lt hsub i (by simpa using hlt) (by simp [hlt']) (by simpa using hu)
      omega
    · intro hl
      have his : i ≠ s := fun e => by
        subst e
        have hlt' : i < listed.size := by omega
        simp [hlt'] at hl
      rw [if_neg his] at hg
      rw [getD_set_ne false his] at hl
      exact (I.still hl).trans hg
    · cases h : o.dst <;> simp [Act.put, I.size]
    · cases h : o.dst <;> simp [Act.put, I.defers]
    · intro d hd
      have := hd o (List.mem_of_getElem? ho')
      rw [← I.off d hd]
      cases h : o.dst with
      | none => rfl
      | some k =>
        have : k ≠ d := fun e => this (by rw [h, e])
        simp [Act.put, Array.getElem?_setIfInBounds_ne this]
    · intro j oj hj hl
      by_cases hij : i = j
      · subst hij
        rw [ho'] at hj
        cases hj
        rw [valOf_put_same _ _ _ (fun k hk => by rw [I.size]; exact okB_dst hc ho' k hk)]
        exact hF
      · rw [valOf_put_other _ _ _ _ (okB_ne hc ho' hj hij)]
        rw [getD_set_ne false hij] at hl
        exact stab i j _ _ _ hij hg (I.facts j oj hj hl)

/-- The region. -/
theorem facts_region {id : Nat} (row : Option Nat) (s : Nat) (F : Nat → Value → World → Prop) (hm : P.follows .mixedOrders = true) (hc : okB l a0.tmps.size = true) (stab : ∀ i j v w w', i ≠ j → w.grownBy w' (if i = s then row else none) → F j v w → F j v w')
    (step : ∀ i o, l[i]? = some o → ∀ (a : Act) (w : World), w0.grownBy w row → (i = s → w0.grownBy w none) → (∀ d : Tmp, (l.all fun o' => o'.dst != some d) = true → a.tmps[d]?.getD undef = a0.tmps[d]?.getD undef) →
      (∀ k ok, (o.after.any fun e => Region.binds .any e && e.on == k) = true → l[k]? = some ok → F k (valOf a ok.dst) w) →
      ∀ K : Act → World → Prop, (∀ v w', w.grownBy w' (if i = s then row else none) → F i (own1 o.dst v) w' → K (a.put o.dst v) w') → if Region.wanted o (yielded l.toArray a.tmps) = true then Oper.wp P o a w K Q else K (a.put o.dst undef) w)
    (fin : ∀ (V : Option Tmp → Value) (w : World), w0.grownBy w row → (∀ j o, l[j]? = some o → F j (V o.dst) w) → Q .normal (fillA a0 V l) w) : (Code.region id l.toArray true).wp P Q a0 w0 := by
  refine wp_region_any hm ?_
  refine facts_any (F := F) (s := s) hc stab step fin _ _ a0 _ (by simp) ?_ ⟨⟨rfl, rfl, rfl, Nat.le_refl _, fun _ _ _ => rfl⟩, fun _ => ⟨rfl, rfl, rfl, Nat.le_refl _, fun _ _ _ => rfl⟩, rfl, rfl, fun _ _ => rfl, fun j o ho hl => ?_⟩
  · exact Nat.le_trans (List.countP_le_length) (by simp)
  · have hlt : j < l.length := (List.getElem?_eq_some_iff.1 ho).1
    simp [hlt] at hl
end
end Go.Proofs.YtcdpjaaiojpelaaDoor
