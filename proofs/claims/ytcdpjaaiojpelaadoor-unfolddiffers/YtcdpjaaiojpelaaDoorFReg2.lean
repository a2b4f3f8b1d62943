/- A region that draws its order, by facts: as FReg, but a fact may speak of the values of the operations that its own waited for, may be used up by one operation, and what a step may turn is the prover's to say. Over any program. -/
import Derived.Test.YtcdpjaaiojpelaaDoorFReg
namespace Go.Proofs.YtcdpjaaiojpelaaDoor
open Go.RowKit

section
variable {P : Program} {Q : Exit → Act → World → Prop} {a0 : Act} {w0 : World} {l : List Oper} {G : World → Prop} {R : Nat → World → World → Prop} {cons : Nat → Nat} {dead : Nat → Nat → Bool} {F : Nat → (Option Tmp → Value) → World → Prop}

/-- What an operation waits for. -/
def waits (o : Oper) (k : Nat) : Bool := o.after.any fun e => Region.binds .any e && e.on == k

structure FInv2 (l : List Oper) (a0 : Act) (G : World → Prop) (cons : Nat → Nat) (F : Nat → (Option Tmp → Value) → World → Prop) (listed : Array Bool) (a : Act) (w : World) : Prop where
  glob : G w
  size : a.tmps.size = a0.tmps.size
  defers : a.defers = a0.defers
  off : ∀ d : Tmp, (∀ o ∈ l, o.dst ≠ some d) → a.tmps[d]?.getD undef = a0.tmps[d]?.getD undef
  down : ∀ j o, l[j]? = some o → listed.getD j false = true → ∀ k, waits o k = true → listed.getD k false = true
  facts : ∀ j o, l[j]? = some o → listed.getD j false = true → listed.getD (cons j) false = false → F j (valOf a) w

theorem waits_of {o : Oper} {e : Edge} (he : e ∈ o.after) (hb : Region.binds .any e = true) : waits o e.on = true := by
  unfold waits
  rw [Array.any_eq_true]
  obtain ⟨i, hi, rfl⟩ := Array.getElem_of_mem he
  exact ⟨i, hi, by simp [hb]⟩
theorem of_waits {o : Oper} {k : Nat} (h : waits o k = true) : ∃ e ∈ o.after, Region.binds .any e = true ∧ e.on = k := by
  unfold waits at h
  rw [Array.any_eq_true] at h
  obtain ⟨x, hx, hb⟩ := h
  simp only [Bool.and_eq_true, beq_iff_eq] at hb
  exact ⟨o.after[x], Array.getElem_mem hx, hb.1, hb.2⟩

theorem facts_any2 (hc : okB l a0.tmps.size = true)
    (hdead : ∀ i j oi oj, l[i]? = some oi → l[j]? = some oj → dead i j = true → waits oi (cons j) = true ∨ waits oj i = true) (stab : ∀ i j V w w', i ≠ j → cons j ≠ i → dead i j = false → R i w w' → F j V w → F j V w') (gl : ∀ i w w', R i w w' → G w → G w')
    (loc : ∀ j o V V' w, l[j]? = some o → V o.dst = V' o.dst → (∀ k ok, waits o k = true → l[k]? = some ok → V ok.dst = V' ok.dst) → F j V w → F j V' w)
    (step : ∀ i o, l[i]? = some o → ∀ (a : Act) (w : World), G w → (∀ d : Tmp, (l.all fun o' => o'.dst != some d) = true → a.tmps[d]?.getD undef = a0.tmps[d]?.getD undef) →
      (∀ k, waits o k = true → (cons k = i ∨ l.length ≤ cons k) → F k (valOf a) w) →
      ∀ K : Act → World → Prop, (∀ v w', R i w w' → (∀ V' : Option Tmp → Value, V' o.dst = own1 o.dst v → (∀ k ok, waits o k = true → l[k]? = some ok → V' ok.dst = valOf a ok.dst) → F i V' w') → K (a.put o.dst v) w') → if Region.wanted o (yielded l.toArray a.tmps) = true then Oper.wp P o a w K Q else K (a.put o.dst undef) w)
    (fin : ∀ (V : Option Tmp → Value) (w : World), G w → (∀ j o, l[j]? = some o → l.length ≤ cons j → F j V w) → Q .normal (fillA a0 V l) w) :
    ∀ (fuel : Nat) (listed : Array Bool) (a : Act) (w : World), listed.size = l.length → (List.range l.length).countP (fun j => !listed.getD j true) ≤ fuel → FInv2 l a0 G cons F listed a w → wpAny P .any l.toArray Q fuel listed a w := by
  have done : ∀ (listed : Array Bool) (a : Act) (w : World), listed.size = l.length → Region.ready .any l.toArray listed = [] → FInv2 l a0 G cons F listed a w → Q .normal a w := by
    intro listed a w hs hr I
    have hall := all_listed hc hs hr
    have := fin (valOf a) w I.glob (fun j o ho hcj => I.facts j o ho (hall j (List.getElem?_eq_some_iff.1 ho).1) (by simp [Array.getElem?_eq_none (show listed.size ≤ cons j by omega)]))
    rw [fillA_is (valOf a) a l a0 I.size I.defers (fun _ _ => rfl) I.off] at this
    exact this
  intro fuel
  induction fuel with
  | zero =>
    intro listed a w hs hn I
    have hr : Region.ready .any l.toArray listed = [] := by
      cases h : Region.ready .any l.toArray listed with
      | nil => rfl
      | cons i r =>
        exfalso
        have hi : i ∈ Region.ready .any l.toArray listed := by rw [h]; simp
        obtain ⟨hu, o, ho, _⟩ := mem_ready.1 hi
        have hlt : i < l.length := by have := (Array.getElem?_eq_some_iff.1 ho).1; simpa using this
        have : 0 < (List.range l.length).countP (fun j => !listed.getD j true) := List.countP_pos_iff.2 ⟨i, by simpa using hlt, by simpa using hu⟩
        omega
    exact ⟨hr, done listed a w hs hr I⟩
  | succ fuel ih =>
    intro listed a w hs hn I
    refine ⟨fun hr => done listed a w hs hr I, fun i hi => ?_⟩
    obtain ⟨hu, o, ho, hall⟩ := mem_ready.1 hi
    have ho' : l[i]? = some o := by simpa using ho
    have hlt : i < l.length := (List.getElem?_eq_some_iff.1 ho').1
    have hlt' : i < listed.size := by omega
    have hfalse : listed.getD i false = false := by
      simp [hlt'] at hu ⊢
      exact hu
    have hwait : ∀ k, waits o k = true → listed.getD k false = true := fun k hk => by
      obtain ⟨e, he, hb, rfl⟩ := of_waits hk
      exact hall e he hb
    have hwlt : ∀ k, waits o k = true → k < l.length ∧ k ≠ i := fun k hk => by
      obtain ⟨e, he, hb, rfl⟩ := of_waits hk
      have := okB_back hc ho' e he hb
      omega
    refine wpOp_step ho (fun K' hK' => ?_)
    refine step i o ho' a w I.glob (fun d hd => I.off d (fun o' ho' => by have := List.all_eq_true.1 hd o' ho'; simpa using this)) (fun k hk hck => ?_) K' (fun v w' hR hF => hK' _ _ ?_)
    · refine I.facts k _ (List.getElem?_eq_getElem (hwlt k hk).1) (hwait k hk) ?_
      rcases hck with hck | hck
      · rw [hck]; exact hfalse
      · simp [Array.getElem?_eq_none (show listed.size ≤ cons k by omega)]
    have other : ∀ j oj, l[j]? = some oj → j ≠ i → valOf a oj.dst = valOf (a.put o.dst v) oj.dst := fun j oj hj hne => (valOf_put_other _ _ _ _ (okB_ne hc ho' hj (Ne.symm hne))).symm
    refine ih _ _ _ (by simpa using hs) ?_ ⟨gl i w w' hR I.glob, ?_, ?_, ?_, ?_, ?_⟩
    · have key : (List.range l.length).countP (fun j => !(listed.setIfInBounds i true).getD j true) < (List.range l.length).countP (fun j => !listed.getD j true) := by
        have hsub : ∀ j, (!(listed.setIfInBounds i true).getD j true) = true → (!listed.getD j true) = true := fun j hj => by
          by_cases hij : i = j
          · subst hij; simp [hlt'] at hj
          · rw [getD_set_ne true hij] at hj; exact hj
        exact countP_lt hsub i (by simpa using hlt) (by simp [hlt']) (by simpa using hu)
      omega
    · cases h : o.dst <;> simp [Act.put, I.size]
    · cases h : o.dst <;> simp [Act.put, I.defers]
    · intro d hd
      have := hd o (List.mem_of_getElem? ho')
      rw [← I.off d hd]
      cases h : o.dst with
      | none => rfl
      | some k =>
        have : k ≠ d := fun e => this (by rw [h, e])
        simp [Act.put, Array.getElem?_setIfInBounds_ne this]
    · intro j oj hj hl k hk
      by_cases hij : i = j
      · subst hij
        rw [ho'] at hj
        cases hj
        exact getD_set_true (hwait k hk)
      · rw [getD_set_ne false hij] at hl
        exact getD_set_true (I.down j oj hj hl k hk)
    · intro j oj hj hl hcl
      by_cases hij : i = j
      · subst hij
        rw [ho'] at hj
        cases hj
        refine hF _ (valOf_put_same _ _ _ (fun k hk => by rw [I.size]; exact okB_dst hc ho' k hk)) (fun k ok hk hok => (other k ok hok (hwlt k hk).2).symm)
      · rw [getD_set_ne false hij] at hl
        have hci : cons j ≠ i := fun e => by rw [e] at hcl; simp [hlt'] at hcl
        rw [getD_set_ne false (Ne.symm hci)] at hcl
        have hdd : dead i j = false := by
          cases hd : dead i j with
          | false => rfl
          | true =>
            exfalso
            rcases hdead i j o oj ho' hj hd with hw | hw
            · have := hwait _ hw
              rw [hcl] at this
              cases this
            · have := I.down j oj hj hl i hw
              rw [hfalse] at this
              cases this
        have h1 := stab i j _ _ _ hij hci hdd hR (I.facts j oj hj hl hcl)
        refine loc j oj _ _ _ hj (other j oj hj (Ne.symm hij)) (fun k ok hk hok => other k ok hok (fun e => ?_)) h1
        subst e
        have := I.down j oj hj hl k hk
        rw [hfalse] at this
        cases this

/-- The region. -/
theorem facts_region2 {id : Nat} (G : World → Prop) (R : Nat → World → World → Prop) (cons : Nat → Nat) (dead : Nat → Nat → Bool) (F : Nat → (Option Tmp → Value) → World → Prop) (hm : P.follows .mixedOrders = true) (hc : okB l a0.tmps.size = true) (h0 : G w0.drew)
    (hdead : ∀ i j oi oj, l[i]? = some oi → l[j]? = some oj → dead i j = true → waits oi (cons j) = true ∨ waits oj i = true) (stab : ∀ i j V w w', i ≠ j → cons j ≠ i → dead i j = false → R i w w' → F j V w → F j V w') (gl : ∀ i w w', R i w w' → G w → G w')
    (loc : ∀ j o V V' w, l[j]? = some o → V o.dst = V' o.dst → (∀ k ok, waits o k = true → l[k]? = some ok → V ok.dst = V' ok.dst) → F j V w → F j V' w)
    (step : ∀ i o, l[i]? = some o → ∀ (a : Act) (w : World), G w → (∀ d : Tmp, (l.all fun o' => o'.dst != some d) = true → a.tmps[d]?.getD undef = a0.tmps[d]?.getD undef) →
      (∀ k, waits o k = true → (cons k = i ∨ l.length ≤ cons k) → F k (valOf a) w) →
      ∀ K : Act → World → Prop, (∀ v w', R i w w' → (∀ V' : Option Tmp → Value, V' o.dst = own1 o.dst v → (∀ k ok, waits o k = true → l[k]? = some ok → V' ok.dst = valOf a ok.dst) → F i V' w') → K (a.put o.dst v) w') → if Region.wanted o (yielded l.toArray a.tmps) = true then Oper.wp P o a w K Q else K (a.put o.dst undef) w)
    (fin : ∀ (V : Option Tmp → Value) (w : World), G w → (∀ j o, l[j]? = some o → l.length ≤ cons j → F j V w) → Q .normal (fillA a0 V l) w) : (Code.region id l.toArray true).wp P Q a0 w0 := by
  refine wp_region_any hm ?_
  refine facts_any2 (F := F) (R := R) hc hdead stab gl loc step fin _ _ a0 _ (by simp) ?_ ⟨h0, rfl, rfl, fun _ _ => rfl, fun j o ho hl => ?_, fun j o ho hl => ?_⟩
  · exact Nat.le_trans (List.countP_le_length) (by simp)
  · have hlt : j < l.length := (List.getElem?_eq_some_iff.1 ho).1
    simp [hlt] at hl
  · have hlt : j < l.length := (List.getElem?_eq_some_iff.1 ho).1
    simp [hlt] at hl
end
end Go.Proofs.YtcdpjaaiojpelaaDoor
