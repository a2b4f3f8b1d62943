/- The program's reading of a node's lists: what is read so far, as plain mathematics and in memory. -/
import Derived.Test.YtknfecclijoefaaDoorRGt
import Derived.Test.YtknfecclijoefaaDoorVB
namespace Go.Proofs.YtknfecclijoefaaDoor
open Go.RowKit

theorem fl_had {e : Int} (d : Int) (h : e ≠ 0) : fl e d = e := if_neg h
theorem pInt_had (b : ByteArray) (k : Nat) {e : Int} (h : e ≠ 0) : pInt b k e = (0, k, e) := by unfold pInt; rw [if_pos h]
theorem pUint_had (b : ByteArray) (k : Nat) {e : Int} (m : Int) (h : e ≠ 0) : pUint b k e m = (0, k, e) := by unfold pUint; rw [if_pos h]

/-- The numbers so far: i of them. -/
def InvI (b : ByteArray) (C : List Int) (k0 : Nat) (e0 : Int) (i : Nat) (l : List Int) (k : Nat) (e : Int) : Prop :=
  (e = 0 → gIs b C k0 e0 = (l ++ (gIs b (C.drop i) k 0).1, (gIs b (C.drop i) k 0).2)) ∧ (e ≠ 0 → (gIs b C k0 e0).2 = (k, e))
theorem InvI.start (b : ByteArray) (C : List Int) (k : Nat) (e : Int) : InvI b C k e 0 [] k e :=
  ⟨fun h => by subst h; rfl, fun h => by rw [gIs_stop b C k h]⟩
theorem InvI.next {b : ByteArray} {C : List Int} {k0 : Nat} {e0 : Int} {i : Nat} {l : List Int} {k : Nat} {e q : Int} {k3 : Nat} {e3 : Int} (h : InvI b C k0 e0 i l k e) (hi : i < C.length) (hq : pInt b k e = (q, k3, e3)) : InvI b C k0 e0 (i + 1) (l ++ [q]) k3 (if in7 (C.getD i 0) q = true then e3 else fl e3 10) := by
  by_cases he : e = 0
  · subst he
    have h1 := h.1 rfl
    rw [gIs_next b C i k hi hq] at h1
    generalize (if in7 (C.getD i 0) q = true then e3 else fl e3 10) = e4 at h1 ⊢
    refine ⟨fun h4 => ?_, fun h4 => ?_⟩
    · subst h4; rw [h1, List.append_assoc]; rfl
    · rw [h1, gIs_stop b _ k3 h4]
  · rw [pInt_had b k he] at hq
    cases hq
    have h2 := h.2 he
    rw [fl_had 10 he, ite_self]
    exact ⟨fun q => absurd q he, fun _ => h2⟩
theorem InvI.fin {b : ByteArray} {C : List Int} {k0 : Nat} {e0 : Int} {i : Nat} {l : List Int} {k : Nat} {e : Int} (h : InvI b C k0 e0 i l k e) (hi : C.length ≤ i) : k = (gIs b C k0 e0).2.1 ∧ e = (gIs b C k0 e0).2.2 ∧ ((gIs b C k0 e0).2.2 = 0 → l = (gIs b C k0 e0).1) := by
  by_cases he : e = 0
  · subst he
    have h1 := h.1 rfl
    rw [gIs_end b C i k 0 (.inl hi)] at h1
    rw [h1]
    exact ⟨rfl, rfl, fun _ => by simp⟩
  · have h2 := h.2 he
    rw [h2]
    exact ⟨rfl, rfl, fun q => absurd q he⟩

/-- The texts so far. -/
def InvT (b : ByteArray) (L : List ByteArray) (n k0 : Nat) (e0 : Int) (i : Nat) (l : List ByteArray) (k : Nat) (e : Int) : Prop :=
  (e = 0 → gTs b L n k0 e0 = (l ++ (gTs b L (n - i) k 0).1, (gTs b L (n - i) k 0).2)) ∧ (e ≠ 0 → (gTs b L n k0 e0).2 = (k, e))
theorem InvT.start (b : ByteArray) (L : List ByteArray) (n k : Nat) (e : Int) : InvT b L n k e 0 [] k e :=
  ⟨fun h => by subst h; rfl, fun h => by rw [gTs_stop b L n k h]⟩
theorem InvT.next {b : ByteArray} {L : List ByteArray} {n k0 : Nat} {e0 : Int} {i : Nat} {l : List ByteArray} {k : Nat} {e q : Int} {k3 : Nat} {e3 : Int} (h : InvT b L n k0 e0 i l k e) (hi : i < n) (hq : pUint b k e 16777216 = (q, k3, e3)) :
    InvT b L n k0 e0 (i + 1) (l ++ [if (L.length : Int) ≤ q then noT else L.getD q.toNat noT]) k3 (if (L.length : Int) ≤ q then fl e3 13 else e3) := by
  by_cases he : e = 0
  · subst he
    have h1 := h.1 rfl
    rw [show n - i = (n - (i + 1)) + 1 by omega, gTs_next b L _ k hq] at h1
    by_cases h3 : e3 = 0
    · subst h3
      rw [if_neg (by decide)] at h1
      by_cases hx : (L.length : Int) ≤ q
      · rw [if_pos hx] at h1
        rw [if_pos hx, if_pos hx]
        exact ⟨fun h4 => absurd h4 (by decide), fun _ => by rw [h1]; rfl⟩
      · rw [if_neg hx] at h1
        rw [if_neg hx, if_neg hx]
        exact ⟨fun _ => by rw [h1, List.append_assoc]; rfl, fun q => absurd rfl q⟩
    · rw [if_pos h3] at h1
      rw [fl_had 13 h3, ite_self]
      exact ⟨fun q => absurd q h3, fun _ => by rw [h1]⟩
  · rw [pUint_had b k _ he] at hq
    cases hq
    have h2 := h.2 he
    rw [fl_had 13 he, ite_self]
    exact ⟨fun q => absurd q he, fun _ => h2⟩
theorem InvT.fin {b : ByteArray} {L : List ByteArray} {n k0 : Nat} {e0 : Int} {i : Nat} {l : List ByteArray} {k : Nat} {e : Int} (h : InvT b L n k0 e0 i l k e) (hi : n ≤ i) : k = (gTs b L n k0 e0).2.1 ∧ e = (gTs b L n k0 e0).2.2 ∧ ((gTs b L n k0 e0).2.2 = 0 → l = (gTs b L n k0 e0).1) := by
  by_cases he : e = 0
  · subst he
    have h1 := h.1 rfl
    rw [gTs_end b L (n - i) k 0 (.inl (by omega))] at h1
    rw [h1]
    exact ⟨rfl, rfl, fun _ => by simp⟩
  · have h2 := h.2 he
    rw [h2]
    exact ⟨rfl, rfl, fun q => absurd q he⟩

/-- The kids so far. -/
def InvK (b : ByteArray) (p : Int) (n k0 : Nat) (e0 : Int) (i : Nat) (l : List Int) (k : Nat) (e : Int) : Prop :=
  (e = 0 → gKs b p n k0 e0 = (l ++ (gKs b p (n - i) k 0).1, (gKs b p (n - i) k 0).2)) ∧ (e ≠ 0 → (gKs b p n k0 e0).2 = (k, e))
theorem InvK.start (b : ByteArray) (p : Int) (n k : Nat) (e : Int) : InvK b p n k e 0 [] k e :=
  ⟨fun h => by subst h; rfl, fun h => by rw [gKs_stop b p n k h]⟩
theorem InvK.next {b : ByteArray} {p : Int} {n k0 : Nat} {e0 : Int} {i : Nat} {l : List Int} {k : Nat} {e q : Int} {k3 : Nat} {e3 : Int} (h : InvK b p n k0 e0 i l k e) (hi : i < n) (hq : pUint b k e 16777216 = (q, k3, e3)) :
    InvK b p n k0 e0 (i + 1) (l ++ [wrap64 (p - q)]) k3 (if decide (q < 1 ∨ p < q) = true then fl e3 13 else e3) := by
  by_cases he : e = 0
  · subst he
    have h1 := h.1 rfl
    rw [show n - i = (n - (i + 1)) + 1 by omega, gKs_next b p _ k hq] at h1
    generalize (if decide (q < 1 ∨ p < q) = true then fl e3 13 else e3) = e4 at h1 ⊢
    refine ⟨fun h4 => ?_, fun h4 => ?_⟩
    · subst h4; rw [h1, List.append_assoc]; rfl
    · rw [h1, gKs_stop b p _ k3 h4]
  · rw [pUint_had b k _ he] at hq
    cases hq
    have h2 := h.2 he
    rw [fl_had 13 he, ite_self]
    exact ⟨fun q => absurd q he, fun _ => h2⟩
theorem InvK.fin {b : ByteArray} {p : Int} {n k0 : Nat} {e0 : Int} {i : Nat} {l : List Int} {k : Nat} {e : Int} (h : InvK b p n k0 e0 i l k e) (hi : n ≤ i) : k = (gKs b p n k0 e0).2.1 ∧ e = (gKs b p n k0 e0).2.2 ∧ ((gKs b p n k0 e0).2.2 = 0 → l = (gKs b p n k0 e0).1) := by
  by_cases he : e = 0
  · subst he
    have h1 := h.1 rfl
    rw [gKs_end b p (n - i) k 0 (.inl (by omega))] at h1
    rw [h1]
    exact ⟨rfl, rfl, fun _ => by simp⟩
  · have h2 := h.2 he
    rw [h2]
    exact ⟨rfl, rfl, fun q => absurd q he⟩
theorem InvK.bad {b : ByteArray} {p : Int} {n k0 : Nat} {e0 : Int} {i : Nat} {l : List Int} {k : Nat} {e : Int} (h : InvK b p n k0 e0 i l k e) (he : e ≠ 0) : k = (gKs b p n k0 e0).2.1 ∧ e = (gKs b p n k0 e0).2.2 := by
  have h2 := h.2 he
  rw [h2]
  exact ⟨rfl, rfl⟩

/-- A list that is read: the cursor in gc, the list's row of the call's own. -/
structure Bl (w wr : World) (gc : Nat) (bs : ByteArray) (k : Nat) (e : Int) (T : TypeId) (v : Value) (n : Nat) (xs : List Value) : Prop where
  cur : Cu wr gc bs k e
  own : wr.ownsRow w.heap.size T 1 v n xs
  fr : w.grownBy wr (some gc)
  hg : gc < w.heap.size
  kb : k ≤ bs.size
section
variable {w wr w' : World} {gc : Nat} {bs : ByteArray} {k k' : Nat} {e e' : Int} {T : TypeId} {v v' : Value} {n n' : Nat} {xs xs' : List Value}
theorem Bl.start (h : Cu w gc bs k e) (hk : k ≤ bs.size) : Bl w w gc bs k e T (.slice none 0 0) 0 [] := ⟨h, own_nil _ _ _, grown_refl _ _, h.lt, hk⟩
theorem Bl.read (h : Bl w wr gc bs k e T v n xs) (hw : wr.grownBy w' (some gc)) (hc : Cu w' gc bs k' e') (hk : k' ≤ bs.size) : Bl w w' gc bs k' e' T v n xs :=
  ⟨hc, row_kept h.own hw (row_low h.own (fun q hq => by cases hq; exact h.hg)), gtrans h.fr hw, h.hg, hk⟩
theorem Bl.more (h : Bl w wr gc bs k e T v n xs) (hb : Below wr.heap.size wr w') : Bl w w' gc bs k e T v n xs :=
  ⟨At3.belowAll h.cur hb, own_below h.own hb (Nat.le_refl _), gtrans h.fr (gbelow hb), h.hg, h.kb⟩
theorem Bl.app (h : Bl w wr gc bs k e T v n xs) (hw : wr.grownBy w' v.ownBlock) (ho : w'.ownsRow w.heap.size T 1 v' n' xs') : Bl w w' gc bs k e T v' n' xs' := by
  have hg := h.hg
  have hlt : ∀ q, v.ownBlock = some q → w.heap.size ≤ q := fun q hq => (h.own.lt q hq).1
  refine ⟨At3.kept h.cur hw (fun e => by have := hlt gc e.symm; omega), ho, ?_, hg, h.kb⟩
  have hf := h.fr
  exact ⟨hw.os.trans hf.os, hw.tape.trans hf.tape, hw.output.trans hf.output, Nat.le_trans hf.size hw.size, fun i hi hn => (hw.block i (Nat.lt_of_lt_of_le hi hf.size) (fun e => by have := hlt i e.symm; omega)).trans (hf.block i hi hn)⟩
end

end Go.Proofs.YtknfecclijoefaaDoor
