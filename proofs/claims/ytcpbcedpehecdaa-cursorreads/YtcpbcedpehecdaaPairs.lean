/- A slice of structs of two ints that came in: what its cells hold. Over any program. -/
import Derived.WalkKit
import Derived.ProofKit
import Derived.OpenShut
import Derived.Below
import Derived.Deep.SlicePairs
namespace Go.Proofs.Ytcpbcedpehecdaa
open Go.ChangeShapes Go.WideShapes Go.ChangeAt Go.RowKit

/-- It is nil, or its elements lie there, two cells each. -/
def IsPairs (w : World) (a : Option Addr) (len cap : Nat) (z : Nat → Int × Int) : Prop :=
  (a = none ∧ len = 0 ∧ cap = 0) ∨
  ∃ x, a = some x ∧ len ≤ cap ∧ cap ≤ maxLen ∧ ∀ i, i < len → w.cell? (x.add (i * 2)) = some (.int .i64 (z i).1) ∧ w.cell? (x.add (i * 2 + 1)) = some (.int .i64 (z i).2) ∧ (Lit.int .i64 (z i).1).wf = true ∧ (Lit.int .i64 (z i).2).wf = true

theorem open_pairs {H : Type} {enc : TypeId × Value → H} {P : Program} {w : World} {t e : TypeId} {f0 f1 : Field} {a : Option Addr} {len cap : Nat} {x : DataW H × List MemPlace} (ht : P.underlying t = some (.slice e)) (he : P.underlying e = some (.struct #[f0, f1]))
    (ce : P.cellsOf e = 2) (o0 : f0.offset = 0) (o1 : f1.offset = 1) (c0 : P.cellsOf f0.type = 1) (c1 : P.cellsOf f1.type = 1) (i0 : P.underlying f0.type = some (.int .i64)) (i1 : P.underlying f1.type = some (.int .i64))
    (h : ∃ fuel, DataW.trod enc P w 0 (fun _ => true) true fuel t (Value.slice a len cap).cells.toList = some x) : ∃ z, IsPairs w a len cap z := by
  obtain ⟨fuel, hf⟩ := h
  rcases Go.Deep.open_slice_pairs ht he ce o0 o1 c0 c1 hf with ⟨hcs, _⟩ | ⟨y, l, c, m, n, V0, V1, D0, D1, P0, P1, hcs, _, hl, hm, hmm, _, hx⟩
  · simp [Value.cells] at hcs
    obtain ⟨rfl, rfl, rfl⟩ := hcs
    exact ⟨fun _ => (0, 0), .inl ⟨rfl, rfl, rfl⟩⟩
  · simp [Value.cells] at hcs
    obtain ⟨rfl, rfl, rfl⟩ := hcs
    simp at hmm
    subst hmm
    have each : ∀ i, i < m → ∃ q : Int × Int, w.cell? (y.add (i * 2)) = some (.int .i64 q.1) ∧ w.cell? (y.add (i * 2 + 1)) = some (.int .i64 q.2) ∧ (Lit.int .i64 q.1).wf = true ∧ (Lit.int .i64 q.2).wf = true := by
      intro i hi
      obtain ⟨h1, h2, h3, h4⟩ := hx i hi
      obtain ⟨p, e1, _, g1⟩ := DataW.trod_int i0 h3
      obtain ⟨q, e2, _, g2⟩ := DataW.trod_int i1 h4
      simp at e1 e2
      rw [e1] at h1
      rw [e2] at h2
      exact ⟨(p, q), h1, h2, g1, g2⟩
    obtain ⟨z, hz⟩ := Go.Deep.choose_lt each
    exact ⟨z, .inr ⟨_, rfl, hl, hm, fun i hi => hz i (by omega)⟩⟩

theorem add_off (b o j : Nat) : (⟨b, o, none⟩ : Addr).add j = ⟨b, o + j, none⟩ := by unfold Addr.add; split <;> simp_all

/-- The elements' cells, by block and place. -/
theorem IsPairs.cells {w : World} {a : Option Addr} {len cap : Nat} {z : Nat → Int × Int} (h : IsPairs w a len cap z) : ∃ b o : Nat, (0 < len → a = some ⟨b, o, none⟩) ∧ ∀ i, i < len → b < w.heap.size ∧
    w.cell? ⟨b, o + i * 2, none⟩ = some (.int .i64 (z i).1) ∧ w.cell? ⟨b, o + i * 2 + 1, none⟩ = some (.int .i64 (z i).2) ∧ (-9223372036854775808 ≤ (z i).1 ∧ (z i).1 ≤ 9223372036854775807) ∧ (-9223372036854775808 ≤ (z i).2 ∧ (z i).2 ≤ 9223372036854775807) := by
  rcases h with ⟨_, rfl, _⟩ | ⟨⟨b, o, s⟩, rfl, _, _, hx⟩
  · exact ⟨0, 0, by omega, by omega⟩
  · by_cases hl : 0 < len
    · have hs : s = none := by
        have h0 := World.cell?_spot (hx 0 hl).1
        simpa [Addr.add] using h0
      subst hs
      refine ⟨b, o, fun _ => rfl, fun i hi => ?_⟩
      obtain ⟨h1, h2, h3, h4⟩ := hx i hi
      rw [add_off] at h1 h2
      exact ⟨block_lt_of_cell h1, h1, h2, bounds_i64 h3, bounds_i64 h4⟩
    · exact ⟨0, 0, by omega, by omega⟩

end Go.Proofs.Ytcpbcedpehecdaa
