/- A slice of sections that came in: what its cells hold; and all of it behind an empty slice. -/
import Derived.Test.YtipljconbnaffaaFGet3
import Derived.WalkKit
import Derived.ProofKit
import Derived.OpenShut
import Derived.Below
import Derived.Deep.SlicePairs
import Derived.Laws.OwnMore
namespace Go.Proofs.Ytipljconbnaffaa
open Go.ChangeShapes Go.WideShapes Go.ChangeAt Go.RowKit

/-- Its sections, where they lie. -/
def IsSecs (w : World) (a : Option Addr) (len cap : Nat) (L : List Sec) : Prop :=
  L.length = len ∧ len ≤ cap ∧ cap ≤ maxLen ∧ (a = none → len = 0 ∧ cap = 0) ∧ ∃ b o, (0 < len → a = some ⟨b, o, none⟩) ∧ SecAt w b o L

theorem open_secs {H : Type} {enc : TypeId × Value → H} {P : Program} {w : World} {t e : TypeId} {f0 f1 : Field} {a : Option Addr} {len cap : Nat} {x : DataW H × List MemPlace} (ht : P.underlying t = some (.slice e)) (he : P.underlying e = some (.struct #[f0, f1]))
    (ce : P.cellsOf e = 2) (o0 : f0.offset = 0) (o1 : f1.offset = 1) (c0 : P.cellsOf f0.type = 1) (c1 : P.cellsOf f1.type = 1) (i0 : P.underlying f0.type = some (.int .i64)) (i1 : P.underlying f1.type = some .string)
    (h : ∃ fuel, DataW.trod enc P w 0 (fun _ => true) true fuel t (Value.slice a len cap).cells.toList = some x) : ∃ L, IsSecs w a len cap L := by
  obtain ⟨fuel, hf⟩ := h
  rcases Go.Deep.open_slice_pairs ht he ce o0 o1 c0 c1 hf with ⟨hcs, _⟩ | ⟨y, l, c, m, n, V0, V1, D0, D1, P0, P1, hcs, _, hl, hm, hmm, _, hx⟩
  · simp [Value.cells] at hcs
    obtain ⟨rfl, rfl, rfl⟩ := hcs
    exact ⟨[], rfl, Nat.le_refl _, Nat.zero_le _, fun _ => ⟨rfl, rfl⟩, 0, 0, by omega, fun i hi => by simp at hi⟩
  · simp [Value.cells] at hcs
    obtain ⟨rfl, rfl, rfl⟩ := hcs
    simp at hmm
    subst hmm
    have each : ∀ i, i < m → ∃ q : Int × ByteArray, w.cell? (y.add (i * 2)) = some (.int .i64 q.1) ∧ w.cell? (y.add (i * 2 + 1)) = some (.string q.2) := by
      intro i hi
      obtain ⟨h1, h2, h3, h4⟩ := hx i hi
      obtain ⟨p, e1, _, g1⟩ := DataW.trod_int i0 h3
      obtain ⟨q, e2, _, g2⟩ := DataW.trod_string i1 h4
      simp at e1 e2
      rw [e1] at h1
      rw [e2] at h2
      exact ⟨(p, q), h1, h2⟩
    obtain ⟨z, hz⟩ := Go.Deep.choose_lt each
    refine ⟨(List.range len).map z, by simp, hl, hm, fun h => by simp at h, y.block, y.off, ?_, ?_⟩
    · intro h0
      have hs := World.cell?_spot (hz 0 (by omega)).1
      have : y.spot = none := by simpa [Addr.add] using hs
      cases y
      simp at this
      subst this
      rfl
    · intro i hi
      simp at hi
      have hs := World.cell?_spot (hz 0 (by omega)).1
      have hsp : y.spot = none := by simpa [Addr.add] using hs
      obtain ⟨h1, h2⟩ := hz i (by omega)
      cases y
      simp at hsp
      subst hsp
      rw [show ∀ (bb oo j : Nat), (⟨bb, oo, none⟩ : Addr).add j = ⟨bb, oo + j, none⟩ from fun bb oo j => by unfold Addr.add; split <;> simp_all] at h1 h2
      have hlt := block_lt_of_cell h1
      exact ⟨hlt, by simpa using h1, by simpa [Nat.add_assoc] using h2⟩

theorem sV_length (L : List Sec) : (sV L).length = L.length * 2 := by
  induction L with
  | nil => rfl
  | cons s r ih => simp only [sV, List.length_cons, ih]; omega
theorem sV_oneCell (L : List Sec) : ∀ u ∈ sV L, u.oneCell' = true := by
  induction L with
  | nil => intro u hu; simp [sV] at hu
  | cons s r ih =>
    intro u hu
    simp only [sV, List.mem_cons] at hu
    rcases hu with rfl | rfl | hu
    · rfl
    · rfl
    · exact ih u hu
theorem SecAt.news {w : World} {b o : Nat} {L : List Sec} (h : SecAt w b o L) : ∀ j u, (sV L)[j]? = some u → w.cell? ((⟨b, o, none⟩ : Addr).add j) = some u := by
  intro j u hu
  have hj : j < L.length * 2 := by rw [← sV_length]; exact (List.getElem?_eq_some_iff.1 hu).1
  obtain ⟨s0, s1⟩ := sV_at L (j / 2) (by omega)
  obtain ⟨_, c0, c1⟩ := h (j / 2) (by omega)
  rw [show (⟨b, o, none⟩ : Addr).add j = ⟨b, o + j, none⟩ by unfold Addr.add; split <;> simp_all]
  by_cases hp : j % 2 = 0
  · rw [show j / 2 * 2 = j by omega] at s0 c0
    rw [c0, ← s0, hu]
  · rw [show j / 2 * 2 + 1 = j by omega] at s1
    rw [show o + j / 2 * 2 + 1 = o + j by omega] at c1
    rw [c1, ← s1, hu]

theorem own_shape {w : World} {B : Nat} {e : TypeId} {size : Nat} {v : Value} {n : Nat} {xs : List Value} (h : w.ownsRow B e size v n xs) : ∃ ao cap, v = .slice ao n cap := by
  rcases h.2 with ⟨rfl, rfl⟩ | ⟨g', cap, cur, rfl, _⟩
  · exact ⟨none, 0, rfl⟩
  · exact ⟨_, cap, rfl⟩

/-- The empty slice of the call's own. -/
theorem own_empty (w : World) : (w.alloc (.cells #[] 41)).ownsRow w.heap.size 41 2 (.slice (some ⟨w.heap.size, 0, none⟩) 0 0) 0 [] := World.ownsRow_lit w #[] 0 (Nat.le_refl _) (by decide) (by simp)

theorem news_in {w : World} {y : Addr} {b o : Nat} {L : List Sec} (h : SecAt w b o L) (ha : 0 < L.length → some y = some (⟨b, o, none⟩ : Addr)) : ∀ j u, (sV L)[j]? = some u → w.cell? (y.add j) = some u := by
  intro j u hu
  by_cases h0 : 0 < L.length
  · have hy := ha h0
    simp only [Option.some.injEq] at hy
    subst hy
    exact h.news j u hu
  · have : L = [] := List.length_eq_zero_iff.1 (by omega)
    subst this
    simp [sV] at hu

end Go.Proofs.Ytipljconbnaffaa
