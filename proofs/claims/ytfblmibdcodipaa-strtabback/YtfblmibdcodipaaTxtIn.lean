/- A slice of texts that came in: where its texts lie. -/
import Derived.Test.YtfblmibdcodipaaTRef
import Derived.WalkKit
import Derived.ProofKit
import Derived.OpenShut
import Derived.Below
import Derived.Deep.Strs
namespace Go.Proofs.Ytfblmibdcodipaa
open Go.ChangeShapes Go.WideShapes Go.ChangeAt Go.RowKit

/-- Its texts, where they lie. -/
def IsTexts (w : World) (a : Option Addr) (len cap : Nat) (L : List ByteArray) : Prop :=
  L.length = len ∧ len ≤ cap ∧ cap ≤ maxLen ∧ (a = none → len = 0 ∧ cap = 0) ∧ ∃ b o, (0 < len → a = some ⟨b, o, none⟩) ∧ TextAt w b o L

theorem open_texts {H : Type} {enc : TypeId × Value → H} {P : Program} {w : World} {t e : TypeId} {a : Option Addr} {len cap : Nat} {x : DataW H × List MemPlace} (ht : P.underlying t = some (.slice e)) (he : P.underlying e = some .string) (ce : P.cellsOf e = 1)
    (h : ∃ fuel, DataW.trod enc P w 0 (fun _ => true) true fuel t (Value.slice a len cap).cells.toList = some x) : ∃ L, IsTexts w a len cap L := by
  obtain ⟨fuel, hf⟩ := h
  rcases Go.Deep.open_strs ht he ce hf with ⟨hcs, _⟩ | ⟨y, l, c, m, S, hcs, _, hl, hm, hmm, _, hx⟩
  · simp [Value.cells] at hcs
    obtain ⟨rfl, rfl, rfl⟩ := hcs
    exact ⟨[], rfl, Nat.le_refl _, Nat.zero_le _, fun _ => ⟨rfl, rfl⟩, 0, 0, by omega, fun i hi => by simp at hi⟩
  · simp [Value.cells] at hcs
    obtain ⟨rfl, rfl, rfl⟩ := hcs
    simp at hmm
    subst hmm
    refine ⟨(List.range len).map S, by simp, hl, hm, fun h => by simp at h, y.block, y.off, ?_, ?_⟩
    · intro h0
      have hs := World.cell?_spot (hx 0 (by omega)).1
      have : y.spot = none := by simpa [Addr.add] using hs
      cases y
      simp at this
      subst this
      rfl
    · intro i hi
      simp at hi
      have hs := World.cell?_spot (hx 0 (by omega)).1
      have hsp : y.spot = none := by simpa [Addr.add] using hs
      obtain ⟨h1, h2⟩ := hx i (by omega)
      cases y
      simp at hsp
      subst hsp
      rw [show ∀ (bb oo j : Nat), (⟨bb, oo, none⟩ : Addr).add j = ⟨bb, oo + j, none⟩ from fun bb oo j => by unfold Addr.add; split <;> simp_all] at h1
      have hlt := block_lt_of_cell h1
      exact ⟨hlt, by simpa using h1⟩

end Go.Proofs.Ytfblmibdcodipaa
