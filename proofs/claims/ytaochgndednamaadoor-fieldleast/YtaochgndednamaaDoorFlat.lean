/- A package-level table of numbers and texts, in arrays and structs: where it reads as a datum, its cells hold the datum's own numbers and texts, one behind the other. Holds over any program. -/
import Derived.OpenShut
import Derived.ChangeArms
import Derived.LaidLaws
import Derived.LaidMore
import Derived.MakeChecks
import Derived.Below
namespace Go.Proofs.YtaochgndednamaaDoor
open Go Go.RowKit

/-- Pieces that lie one behind the other, from o up to e. -/
def contig : Nat → List (Nat × Nat) → Nat → Bool
  | o, [], e => o == e
  | o, (p, n) :: r, e => p == o && contig (o + n) r e

/-- A type of numbers and texts, in arrays and structs, without gaps. -/
def plainT (P : Program) : Nat → TypeId → Bool
  | 0, _ => false
  | n + 1, t =>
    match P.underlying t with
    | some (.int _) => true
    | some .string => true
    | some (.array k e) => contig 0 ((List.range k).map fun i => (i * P.cellsOf e, P.cellsOf e)) (P.cellsOf t) && plainT P n e
    | some (.struct fs) => contig 0 (fs.toList.map fun f => (f.offset, P.cellsOf f.type)) (P.cellsOf t) && fs.toList.all fun f => plainT P n f.type
    | _ => false

/-- A datum's cells. -/
def flat {H : Type} : Nat → DataW H → List Value
  | 0, _ => []
  | _ + 1, .lit (.int k z) => [.int k z]
  | _ + 1, .lit (.string b) => [.string ⟨b.toArray⟩]
  | n + 1, .agg ds => ds.flatMap (flat n)
  | _ + 1, _ => []

theorem glue {α : Type} (f : α → List Value) (cs : List Value) : ∀ (offs : List (Nat × Nat)) (xs : List α) (o : Nat), xs.length = offs.length → contig o offs cs.length = true →
    (∀ (i : Nat) (p n : Nat) (x : α), offs[i]? = some (p, n) → xs[i]? = some x → (cs.drop p).take n = f x) → cs.drop o = xs.flatMap f
  | [], [], o, _, hc, _ => by
    have : o = cs.length := by simpa [contig] using hc
    subst this
    simp
  | (p, n) :: r, x :: xs, o, hl, hc, h => by
    simp only [contig, Bool.and_eq_true, beq_iff_eq] at hc
    obtain ⟨rfl, hc⟩ := hc
    have h0 := h 0 p n x rfl rfl
    have ih := glue f cs r xs (p + n) (by simpa using hl) hc (fun i q m y h1 h2 => h (i + 1) q m y (by simpa using h1) (by simpa using h2))
    rw [List.flatMap_cons, ← ih, ← h0, ← List.drop_drop, List.take_append_drop]

theorem flat_of {H : Type} {enc : TypeId × Value → H} {P : Program} {w : World} {base : Nat} {sp : Nat → Bool} {held : Bool} : ∀ (n : Nat) (t : TypeId) (cs : List Value) (fuel : Nat) (d : DataW H) (p : List MemPlace),
    plainT P n t = true → DataW.trod enc P w base sp held fuel t cs = some (d, p) → cs = flat n d
  | 0, _, _, _, _, _, ht, _ => by simp [plainT] at ht
  | n + 1, t, cs, fuel, d, p, ht, h => by
    unfold plainT at ht
    split at ht
    · rename_i k hu
      obtain ⟨z, rfl, hx, _⟩ := DataW.trod_int hu h
      cases hx
      rfl
    · rename_i hu
      obtain ⟨s, rfl, hx, _⟩ := DataW.trod_string hu h
      cases hx
      simp [flat]
    · rename_i k e hu
      simp only [Bool.and_eq_true] at ht
      obtain ⟨xs, m, _, hx, hl, hxl, hel⟩ := DataW.trod_array hu h
      cases hx
      have := glue (fun y : DataW H × List MemPlace => flat n y.1) cs ((List.range k).map fun i => (i * P.cellsOf e, P.cellsOf e)) xs 0 (by simp [hxl]) (by rw [hl]; exact ht.1) (by
        intro i q r x h1 h2
        by_cases hi : i < k
        · simp [hi] at h1
          obtain ⟨rfl, rfl⟩ := h1
          have := hel i hi
          rw [h2] at this
          exact flat_of n e _ m x.1 x.2 ht.2 this
        · simp [hi] at h1)
      simp only [List.drop_zero] at this
      rw [this]
      simp [flat, List.flatMap_map]
    · rename_i fs hu
      simp only [Bool.and_eq_true] at ht
      obtain ⟨xs, m, _, hx, hl, hxl, hel⟩ := DataW.trod_struct hu h
      cases hx
      have := glue (fun y : DataW H × List MemPlace => flat n y.1) cs (fs.toList.map fun f => (f.offset, P.cellsOf f.type)) xs 0 (by simp [hxl]) (by rw [hl]; exact ht.1) (by
        intro i q r x h1 h2
        simp only [List.getElem?_map, Option.map_eq_some_iff, Prod.mk.injEq] at h1
        obtain ⟨f, hf, rfl, rfl⟩ := h1
        have := hel i f (by simpa using hf)
        rw [h2] at this
        exact flat_of n f.type _ m x.1 x.2 (List.all_eq_true.1 ht.2 f (List.mem_of_getElem? hf)) this)
      simp only [List.drop_zero] at this
      rw [this]
      simp [flat, List.flatMap_map]
    · cases ht

/-- The variable NAME, in block g, holds just these cells. -/
def TabAt (w : World) (g : Nat) (l : List Value) : Prop := g < w.heap.size ∧ ∀ i, w.cell? ⟨g, i, none⟩ = l[i]?

/-- From one variable's reading to its cells. -/
theorem tab_of {P : Program} {W : World} {name : String} {g g' : Nat} {t t' : TypeId} {cs : Array Value} {fuel n : Nat} {d : DataW Unit} {p : List MemPlace} {enc : TypeId × Value → Unit} {base : Nat} {sp : Nat → Bool} {held : Bool}
    (hg : P.globalNamed name = some g) (hty : (P.globals[g]?).map (·.type) = some t) (hp : plainT P n t = true)
    (hg' : P.globalNamed name = some g') (ht' : (P.globals[g']?).map (·.type) = some t') (hv : W.var? P name = some cs) (hd : DataW.trod enc P W base sp held fuel t' cs.toList = some (d, p)) : TabAt W g (flat n d) := by
  obtain rfl := Option.some.inj (hg.symm.trans hg')
  obtain rfl := Option.some.inj (hty.symm.trans ht')
  have hc := flat_of n t _ _ _ _ hp hd
  refine ⟨?_, fun i => ?_⟩
  · simp only [World.var?, hg, Option.bind_some] at hv
    split at hv
    · rename_i hb; exact (Array.getElem?_eq_some_iff.1 hb).1
    · cases hv
  · rw [World.var?_cell hg hv i, ← hc]
    simp

theorem TabAt.alloc {w : World} {g : Nat} {l : List Value} (h : TabAt w g l) (o : Obj) (i : Nat) : (w.alloc o).cell? ⟨g, i, none⟩ = l[i]? :=
  (((Below.refl w.heap.size w).alloc (Nat.le_refl _) o).cell (p := ⟨g, i, none⟩) h.1).trans (h.2 i)
theorem TabAt.below {w w' : World} {g : Nat} {l : List Value} (h : TabAt w g l) (hb : Below w.heap.size w w') : TabAt w' g l :=
  ⟨Nat.lt_of_lt_of_le h.1 hb.size, fun i => (hb.cell (p := ⟨g, i, none⟩) h.1).trans (h.2 i)⟩

end Go.Proofs.YtaochgndednamaaDoor
