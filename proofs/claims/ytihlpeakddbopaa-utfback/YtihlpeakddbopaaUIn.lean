/- A slice of int32 that came in: where its numbers lie; and all of it behind an empty slice. -/
import Derived.Test.YtihlpeakddbopaaURef3
import Derived.WalkKit
import Derived.ProofKit
import Derived.OpenShut
import Derived.Laws.OwnMore
namespace Go.Proofs.Ytihlpeakddbopaa
open Go.ChangeShapes Go.WideShapes Go.ChangeAt Go.RowKit

/-- Its numbers, where they lie. -/
def IsRunes (w : World) (a : Option Addr) (len cap : Nat) (L : List Int) : Prop :=
  L.length = len ∧ len ≤ cap ∧ cap ≤ maxLen ∧ (a = none → len = 0 ∧ cap = 0) ∧ ∃ b o, (0 < len → a = some ⟨b, o, none⟩) ∧ RuneAt w b o L

theorem runes_in {w : World} {a : Option Addr} {len cap : Nat} {zs : List Int}
    (h : (a = none ∧ len = 0 ∧ cap = 0 ∧ zs = []) ∨ ∃ x, a = some x ∧ len ≤ cap ∧ cap ≤ maxLen ∧ zs.length = cap ∧ (∀ i, i < zs.length → w.cell? (x.add i) = some (.int .i32 (zs.getD i 0))) ∧ ∀ n ∈ zs, (Lit.int .i32 n).wf = true) :
    IsRunes w a len cap (zs.take len) := by
  rcases h with ⟨rfl, rfl, rfl, rfl⟩ | ⟨y, rfl, hl, hm, hz, hc, _⟩
  · exact ⟨rfl, Nat.le_refl _, Nat.zero_le _, fun _ => ⟨rfl, rfl⟩, 0, 0, by omega, fun i hi => by simp at hi⟩
  · have hlen : (zs.take len).length = len := by rw [List.length_take]; omega
    refine ⟨hlen, hl, hm, fun h => by simp at h, y.block, y.off, ?_, ?_⟩
    · intro h0
      have hs := World.cell?_spot (hc 0 (by omega))
      have : y.spot = none := by simpa [Addr.add] using hs
      cases y
      simp at this
      subst this
      rfl
    · intro i hi
      have hi' : i < len := by omega
      have hs := World.cell?_spot (hc 0 (by omega))
      have hsp : y.spot = none := by simpa [Addr.add] using hs
      have h1 := hc i (by omega)
      cases y
      simp at hsp
      subst hsp
      rw [show ∀ (bb oo j : Nat), (⟨bb, oo, none⟩ : Addr).add j = ⟨bb, oo + j, none⟩ from fun bb oo j => by unfold Addr.add; split <;> simp_all] at h1
      have hlt := block_lt_of_cell h1
      refine ⟨hlt, ?_⟩
      rw [h1, List.getElem_take]
      rw [List.getD_eq_getElem?_getD, List.getElem?_eq_getElem (by omega)]
      rfl

theorem own_empty5 (w : World) : (w.alloc (.cells #[] 21)).ownsRow w.heap.size 21 1 (.slice (some ⟨w.heap.size, 0, none⟩) 0 0) 0 [] := World.ownsRow_lit w #[] 0 (Nat.le_refl _) (by decide) (by simp)

theorem own_shape5 {w : World} {B : Nat} {e : TypeId} {size : Nat} {v : Value} {n : Nat} {xs : List Value} (h : w.ownsRow B e size v n xs) : ∃ ao cap, v = .slice ao n cap := by
  rcases h.2 with ⟨rfl, rfl⟩ | ⟨g', cap, cur, rfl, _⟩
  · exact ⟨none, 0, rfl⟩
  · exact ⟨_, cap, rfl⟩

theorem rV_length (L : List Int) : (rV L).length = L.length := by simp [rV]
theorem rV_len1 (L : List Int) : (rV L).length = L.length * 1 := by simp [rV]
theorem rV_oneCell (L : List Int) : ∀ u ∈ rV L, u.oneCell' = true := by
  intro u hu
  simp only [rV, List.mem_map] at hu
  obtain ⟨_, _, rfl⟩ := hu
  rfl

theorem news_runes {w : World} {y : Addr} {b o : Nat} {L : List Int} (h : RuneAt w b o L) (ha : 0 < L.length → some y = some (⟨b, o, none⟩ : Addr)) : ∀ j u, (rV L)[j]? = some u → w.cell? (y.add j) = some u := by
  intro j u hu
  have hj : j < L.length := by rw [← rV_length]; exact (List.getElem?_eq_some_iff.1 hu).1
  have hy := ha (by omega)
  simp only [Option.some.injEq] at hy
  subst hy
  obtain ⟨_, c0⟩ := h j hj
  rw [show (⟨b, o, none⟩ : Addr).add j = ⟨b, o + j, none⟩ by unfold Addr.add; split <;> simp_all, c0, ← hu]
  simp [rV, hj]

end Go.Proofs.Ytihlpeakddbopaa
