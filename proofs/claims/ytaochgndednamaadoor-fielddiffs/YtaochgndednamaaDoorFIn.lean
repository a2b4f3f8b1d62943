/- Nodes, Specs and lists of sets that came in: where what they hold lies. -/
import Derived.Test.YtaochgndednamaaDoorFChk
import Derived.WalkKit
import Derived.ProofKit
import Derived.OpenShut
import Derived.Below
import Derived.Deep.Strs
import Derived.Lib.SmallJoins
namespace Go.Proofs.YtaochgndednamaaDoor
open Go.ChangeShapes Go.WideShapes Go.ChangeAt Go.RowKit Go.Joins Go.Deep

section
variable {H : Type} {enc : TypeId × Value → H} {P : Program} {w : World}

theorem wf_i64 {n : Int} (h : (Lit.int .i64 n).wf = true) : -9223372036854775808 ≤ n ∧ n ≤ 9223372036854775807 := by
  simp only [Lit.wf, Bool.and_eq_true, decide_eq_true_eq] at h
  exact h

theorem choose8 {α : Type} (d : α) {p : Nat → α → Prop} {m : Nat} (h : ∀ i, i < m → ∃ a, p i a) : ∃ f : Nat → α, ∀ i, i < m → p i (f i) := by
  classical
  refine ⟨fun i => if hi : i < m then Classical.choose (h i hi) else d, fun i hi => ?_⟩
  simp only [hi, dif_pos]
  exact Classical.choose_spec (h i hi)

/-- A list of one-cell elements. -/
theorem cells_in {y : Addr} {m : Nat} {V : Nat → Value} (h : ∀ i, i < m → w.cell? (y.add i) = some (V i)) (len : Nat) (hl : len ≤ m) : LsAt w (some y) ((List.range len).map V) := by
  by_cases h0 : len = 0
  · subst h0; exact LsAt.nil _ _
  have hs := World.cell?_spot (h 0 (by omega))
  have hsp : y.spot = none := by simpa [Addr.add] using hs
  obtain ⟨b, o, sp⟩ := y
  simp at hsp
  subst hsp
  refine ⟨b, o, fun _ => rfl, fun i hi => ?_⟩
  simp at hi
  have hc := h i (by omega)
  rw [add_plain] at hc
  exact ⟨block_lt_of_cell hc, by rw [hc]; simp [hi]⟩

theorem open_ints8 {t e : TypeId} {v : Value} {n : Nat} {x : DataW H × List MemPlace} (ht : P.underlying t = some (.slice e)) (he : P.underlying e = some (.int .i64)) (ce : P.cellsOf e = 1) (h : DataW.trod enc P w 0 (fun _ => true) true n t [v] = some x) :
    ∃ L a c, v = .slice a (List.length L) c ∧ LsAt w a (iV L) ∧ fine L := by
  rcases Go.Deep.open_slice1 ht ce h with ⟨hcs, _⟩ | ⟨y, len, cap, m, k, V, D, Pl, hcs, _, hl, hm, hmm, _, hx⟩
  · simp at hcs
    subst hcs
    exact ⟨[], none, 0, rfl, LsAt.nil _ _, fun i hi => by simp at hi⟩
  · simp at hcs hmm
    subst hcs hmm
    have each : ∀ i, i < m → ∃ z : Int, V i = .int .i64 z ∧ (-9223372036854775808 ≤ z ∧ z ≤ 9223372036854775807) := fun i hi => by
      obtain ⟨z, h1, _, h3⟩ := DataW.trod_int he (hx i hi).2
      exact ⟨z, by simpa using h1, wf_i64 h3⟩
    obtain ⟨Z, hZ⟩ := Go.Deep.choose_lt each
    refine ⟨(List.range len).map Z, some y, m, by simp, ?_, ?_⟩
    · have := cells_in (fun i hi => (hx i hi).1) len hl
      rw [show iV ((List.range len).map Z) = (List.range len).map V by
        unfold iV
        rw [List.map_map]
        refine List.map_congr_left fun i hi => ?_
        have := (hZ i (by have := List.mem_range.1 hi; omega)).1
        simp [this]]
      exact this
    · intro i hi
      simp at hi
      have := (hZ i (by omega)).2
      simpa [hi] using this

theorem open_texts8 {t e : TypeId} {v : Value} {n : Nat} {x : DataW H × List MemPlace} (ht : P.underlying t = some (.slice e)) (he : P.underlying e = some .string) (ce : P.cellsOf e = 1) (h : DataW.trod enc P w 0 (fun _ => true) true n t [v] = some x) :
    ∃ L a c, v = .slice a (List.length L) c ∧ LsAt w a (tV L) := by
  rcases Go.Deep.open_slice1 ht ce h with ⟨hcs, _⟩ | ⟨y, len, cap, m, k, V, D, Pl, hcs, _, hl, hm, hmm, _, hx⟩
  · simp at hcs
    subst hcs
    exact ⟨[], none, 0, rfl, LsAt.nil _ _⟩
  · simp at hcs hmm
    subst hcs hmm
    have each : ∀ i, i < m → ∃ z : ByteArray, V i = .string z := fun i hi => by
      obtain ⟨z, h1, _, h3⟩ := DataW.trod_string he (hx i hi).2
      exact ⟨z, by simpa using h1⟩
    obtain ⟨Z, hZ⟩ := Go.Deep.choose_lt each
    refine ⟨(List.range len).map Z, some y, m, by simp, ?_⟩
    have := cells_in (fun i hi => (hx i hi).1) len hl
    rw [show tV ((List.range len).map Z) = (List.range len).map V by
      unfold tV
      rw [List.map_map]
      refine List.map_congr_left fun i hi => ?_
      have := hZ i (by have := List.mem_range.1 hi; omega)
      simp [this]]
    exact this

/-- A node that came in. -/
def IsNd (w : World) (N : Nd) (a1 a2 a3 : Option Addr) : Prop := NdAt w N a1 a2 a3 ∧ fine N.ints
theorem open_node {r : Reach} {b0 : Nat} {t : TypeId} {f0 f1 f2 f3 : Field} {e1 e2 e3 : TypeId} {v : Value} {d : DataW H} {p : List MemPlace} (hs : P.underlying t = some (.struct #[f0, f1, f2, f3])) (hone : oneCellFields P #[f0, f1, f2, f3] = true) (hC : P.cellsOf t = 4)
    (u0 : P.underlying f0.type = some (.int .i64)) (u1 : P.underlying f1.type = some (.slice e1)) (u2 : P.underlying f2.type = some (.slice e2)) (u3 : P.underlying f3.type = some (.slice e3)) (q1 : P.underlying e1 = some (.int .i64)) (q2 : P.underlying e2 = some .string) (q3 : P.underlying e3 = some (.int .i64))
    (k1 : P.cellsOf e1 = 1) (k2 : P.cellsOf e2 = 1) (k3 : P.cellsOf e3 = 1) (hv : Value.okWide P w r b0 t v) (h : DataW.Trod enc P w 0 (fun _ => true) true t v d p) :
    ∃ N a1 a2 a3 c1 c2 c3, v = .agg #[.int .i64 (Nd.kind N), .slice a1 N.ints.length c1, .slice a2 N.texts.length c2, .slice a3 N.kids.length c3] ∧ IsNd w N a1 a2 a3 := by
  obtain ⟨v0, v1, v2, v3, y0, y1, y2, y3, n, rfl, _, _, t0, t1, t2, t3⟩ := open_agg4 hs hone hC hv h
  obtain ⟨z, e0, _, _⟩ := DataW.trod_int u0 t0
  simp at e0
  subst e0
  obtain ⟨I, a1, c1, rfl, l1, l1f⟩ := open_ints8 u1 q1 k1 t1
  obtain ⟨T, a2, c2, rfl, l2⟩ := open_texts8 u2 q2 k2 t2
  obtain ⟨K, a3, c3, rfl, l3, _⟩ := open_ints8 u3 q3 k3 t3
  exact ⟨⟨z, I, T, K⟩, a1, a2, a3, c1, c2, c3, rfl, ⟨l1, l2, l3⟩, l1f⟩

/-- A Spec that came in. -/
theorem open_spec {r : Reach} {b0 : Nat} {t : TypeId} {f0 f1 f2 f3 : Field} {e0 : TypeId} {v : Value} {d : DataW H} {p : List MemPlace} (hs : P.underlying t = some (.struct #[f0, f1, f2, f3])) (hone : oneCellFields P #[f0, f1, f2, f3] = true) (hC : P.cellsOf t = 4)
    (u0 : P.underlying f0.type = some (.slice e0)) (u1 : P.underlying f1.type = some (.int .i64)) (u2 : P.underlying f2.type = some (.int .i64)) (u3 : P.underlying f3.type = some (.int .i64)) (q0 : P.underlying e0 = some (.int .i64)) (k0 : P.cellsOf e0 = 1)
    (hv : Value.okWide P w r b0 t v) (h : DataW.Trod enc P w 0 (fun _ => true) true t v d p) :
    ∃ C a c x y z, v = .agg #[.slice a (List.length C) c, .int .i64 x, .int .i64 y, .int .i64 z] ∧ LsAt w a (iV C) := by
  obtain ⟨v0, v1, v2, v3, y0, y1, y2, y3, n, rfl, _, _, t0, t1, t2, t3⟩ := open_agg4 hs hone hC hv h
  obtain ⟨I, a1, c1, rfl, l1, _⟩ := open_ints8 u0 q0 k0 t0
  obtain ⟨x, g1, _, _⟩ := DataW.trod_int u1 t1
  obtain ⟨y, g2, _, _⟩ := DataW.trod_int u2 t2
  obtain ⟨z, g3, _, _⟩ := DataW.trod_int u3 t3
  simp at g1 g2 g3
  subst g1 g2 g3
  exact ⟨I, a1, c1, x, y, z, rfl, l1⟩

/-- A list of sets that came in. -/
theorem open_sets {t e : TypeId} {f0 f1 f2 f3 : Field} {a : Option Addr} {len cap : Nat} {x : DataW H × List MemPlace} (ht : P.underlying t = some (.slice e)) (he : P.underlying e = some (.struct #[f0, f1, f2, f3])) (ce : P.cellsOf e = 4)
    (o0 : f0.offset = 0) (o1 : f1.offset = 1) (o2 : f2.offset = 2) (o3 : f3.offset = 3) (c0 : P.cellsOf f0.type = 1) (c1 : P.cellsOf f1.type = 1) (c2 : P.cellsOf f2.type = 1) (c3 : P.cellsOf f3.type = 1)
    (u0 : P.underlying f0.type = some .bool) (u1 : P.underlying f1.type = some (.int .i64)) (u2 : P.underlying f2.type = some (.int .i64)) (u3 : P.underlying f3.type = some .string)
    (h : ∃ fuel, DataW.trod enc P w 0 (fun _ => true) true fuel t (Value.slice a len cap).cells.toList = some x) : ∃ L, List.length L = len ∧ LsAt w a (stV L) := by
  obtain ⟨fuel, hf⟩ := h
  rcases Go.Deep.open_slice ht hf with ⟨hcs, _⟩ | ⟨y, l, c, m, n, D, Pl, hcs, _, hl, hm, hmm, _, hx⟩
  · simp [Value.cells] at hcs
    obtain ⟨rfl, rfl, rfl⟩ := hcs
    exact ⟨[], rfl, LsAt.nil _ _⟩
  · simp [Value.cells] at hcs
    obtain ⟨rfl, rfl, rfl⟩ := hcs
    simp at hmm
    subst hmm
    rw [ce] at hx
    have each : ∀ i, i < m → ∃ q : St, ∀ j, j < 4 → w.cell? (y.add (i * 4 + j)) = (stC q)[j]? := by
      intro i hi
      obtain ⟨cs, h1, h2⟩ := hx i hi
      obtain ⟨_, hlen, hcell⟩ := World.cells?_some h1
      match cs, hlen with
      | [g0, g1, g2, g3], _ =>
        obtain ⟨y0, y1, y2, y3, k, _, _, t0, t1, t2, t3⟩ := trod_struct4 he h2
        rw [o0, c0] at t0
        rw [o1, c1] at t1
        rw [o2, c2] at t2
        rw [o3, c3] at t3
        obtain ⟨b, e0, _⟩ := DataW.trod_bool u0 t0
        obtain ⟨f, e1, _, _⟩ := DataW.trod_int u1 t1
        obtain ⟨z, e2, _, _⟩ := DataW.trod_int u2 t2
        obtain ⟨s, e3, _, _⟩ := DataW.trod_string u3 t3
        simp at e0 e1 e2 e3
        subst e0 e1 e2 e3
        refine ⟨⟨b, f, z, s⟩, fun j hj => ?_⟩
        have := hcell j (by omega)
        rw [Addr.add_add] at this
        rw [this]
        rfl
    obtain ⟨z, hz⟩ := choose8 (⟨false, 0, 0, noT⟩ : St) each
    refine ⟨(List.range len).map z, by simp, ?_⟩
    by_cases h0 : len = 0
    · subst h0; exact LsAt.nil _ _
    have hs := World.cell?_spot ((hz 0 (by omega) 0 (by omega)).trans (show _ = some (Value.bool (z 0).text) from rfl))
    have hsp : y.spot = none := by simpa [Addr.add] using hs
    obtain ⟨b, o, sp⟩ := y
    simp at hsp
    subst hsp
    have hL : ((List.range len).map z).length = len := by simp
    refine ⟨b, o, fun _ => rfl, fun i hi => ?_⟩
    rw [stV_length, hL] at hi
    have hc := hz (i / 4) (by omega) (i % 4) (by omega)
    rw [show i / 4 * 4 + i % 4 = i by omega, add_plain] at hc
    have hv : (stV ((List.range len).map z))[i]? = (stC (z (i / 4)))[i % 4]? := by
      obtain ⟨s0, s1, s2, s3⟩ := stV_at ((List.range len).map z) (i / 4) (by simp; omega)
      have hg : ((List.range len).map z)[i / 4]'(by simp; omega) = z (i / 4) := by simp
      rw [hg] at s0 s1 s2 s3
      rcases (by omega : i % 4 = 0 ∨ i % 4 = 1 ∨ i % 4 = 2 ∨ i % 4 = 3) with q | q | q | q
      · rw [q, show i = i / 4 * 4 by omega, s0, show i / 4 * 4 / 4 = i / 4 by omega]; rfl
      · rw [q, show i = i / 4 * 4 + 1 by omega, s1, show (i / 4 * 4 + 1) / 4 = i / 4 by omega]; rfl
      · rw [q, show i = i / 4 * 4 + 2 by omega, s2, show (i / 4 * 4 + 2) / 4 = i / 4 by omega]; rfl
      · rw [q, show i = i / 4 * 4 + 3 by omega, s3, show (i / 4 * 4 + 3) / 4 = i / 4 by omega]; rfl
    rw [hv, ← hc]
    refine ⟨?_, rfl⟩
    have : ∃ v, (stC (z (i / 4)))[i % 4]? = some v := by
      rcases (by omega : i % 4 = 0 ∨ i % 4 = 1 ∨ i % 4 = 2 ∨ i % 4 = 3) with q | q | q | q <;> rw [q] <;> exact ⟨_, rfl⟩
    obtain ⟨v, hv'⟩ := this
    rw [hv'] at hc
    exact block_lt_of_cell hc
end

end Go.Proofs.YtaochgndednamaaDoor
