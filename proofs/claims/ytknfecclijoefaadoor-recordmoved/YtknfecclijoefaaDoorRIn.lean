/- What comes in for layer 13's laws: nodes, lists of nodes, lists of texts, pairs of numbers; and the two tables of the package schema. -/
import Derived.Test.YtknfecclijoefaaDoorLTg
import Derived.Test.YtknfecclijoefaaDoorLTy0
import Derived.WalkKit
import Derived.ProofKit
import Derived.OpenShut
import Derived.Below
import Derived.Deep.Strs
import Derived.Lib.SmallJoins
import Derived.Stop.Joined
namespace Go.Proofs.YtknfecclijoefaaDoor
open Go.ChangeShapes Go.WideShapes Go.ChangeAt Go.RowKit Go.Joins Go.Deep

/-- A number that there is. -/
def inI (k : Int) : Prop := -9223372036854775808 ≤ k ∧ k ≤ 9223372036854775807

section
variable {H : Type} {enc : TypeId × Value → H} {P : Program} {w : World}

theorem wf_i64 {n : Int} (h : (Lit.int .i64 n).wf = true) : inI n := by
  simp only [Lit.wf, Bool.and_eq_true, decide_eq_true_eq] at h
  exact h

theorem choose9 {α : Type} (d : α) {p : Nat → α → Prop} {m : Nat} (h : ∀ i, i < m → ∃ a, p i a) : ∃ f : Nat → α, ∀ i, i < m → p i (f i) := by
  classical
  refine ⟨fun i => if hi : i < m then Classical.choose (h i hi) else d, fun i hi => ?_⟩
  simp only [hi, dif_pos]
  exact Classical.choose_spec (h i hi)

/-- A list of one-cell elements. -/
theorem cells_in {y : Addr} {m : Nat} {V : Nat → Value} (h : ∀ i, i < m → w.cell? (y.add i) = some (V i)) (len : Nat) (hl : len ≤ m) : LsAt w (some y) ((List.range len).map V) := by
  by_cases h0 : len = 0
  · subst h0; exact LsAt.nil _ _
  have hs := World.cell?_spot (h 0 (by omega))
  have hsp : y.spot = none := by simpa [Addr.add] using hs
  obtain ⟨b, o, sp⟩ := y
  simp at hsp
  subst hsp
  refine ⟨b, o, fun _ => rfl, fun i hi => ?_⟩
  simp at hi
  have hc := h i (by omega)
  rw [add_plain] at hc
  exact ⟨block_lt_of_cell hc, by rw [hc]; simp [hi]⟩

theorem open_ints9 {t e : TypeId} {v : Value} {n : Nat} {x : DataW H × List MemPlace} (ht : P.underlying t = some (.slice e)) (he : P.underlying e = some (.int .i64)) (ce : P.cellsOf e = 1) (h : DataW.trod enc P w 0 (fun _ => true) true n t [v] = some x) :
    ∃ L a c, v = .slice a (List.length L) c ∧ LsAt w a (iV L) ∧ ∀ k ∈ L, inI k := by
  rcases Go.Deep.open_slice1 ht ce h with ⟨hcs, _⟩ | ⟨y, len, cap, m, k, V, D, Pl, hcs, _, hl, hm, hmm, _, hx⟩
  · simp at hcs
    subst hcs
    exact ⟨[], none, 0, rfl, LsAt.nil _ _, fun k hk => by simp at hk⟩
  · simp at hcs hmm
    subst hcs hmm
    have each : ∀ i, i < m → ∃ z : Int, V i = .int .i64 z ∧ inI z := fun i hi => by
      obtain ⟨z, h1, _, h3⟩ := DataW.trod_int he (hx i hi).2
      exact ⟨z, by simpa using h1, wf_i64 h3⟩
    obtain ⟨Z, hZ⟩ := Go.Deep.choose_lt each
    refine ⟨(List.range len).map Z, some y, m, by simp, ?_, ?_⟩
    · have := cells_in (fun i hi => (hx i hi).1) len hl
      rw [show iV ((List.range len).map Z) = (List.range len).map V by
        unfold iV
        rw [List.map_map]
        refine List.map_congr_left fun i hi => ?_
        have := (hZ i (by have := List.mem_range.1 hi; omega)).1
        simp [this]]
      exact this
    · intro k hk
      obtain ⟨i, hi, rfl⟩ := List.mem_map.1 hk
      exact (hZ i (by have := List.mem_range.1 hi; omega)).2

theorem open_texts9 {t e : TypeId} {v : Value} {n : Nat} {x : DataW H × List MemPlace} (ht : P.underlying t = some (.slice e)) (he : P.underlying e = some .string) (ce : P.cellsOf e = 1) (h : DataW.trod enc P w 0 (fun _ => true) true n t [v] = some x) :
    ∃ L a c, v = .slice a (List.length L) c ∧ LsAt w a (tV L) := by
  rcases Go.Deep.open_slice1 ht ce h with ⟨hcs, _⟩ | ⟨y, len, cap, m, k, V, D, Pl, hcs, _, hl, hm, hmm, _, hx⟩
  · simp at hcs
    subst hcs
    exact ⟨[], none, 0, rfl, LsAt.nil _ _⟩
  · simp at hcs hmm
    subst hcs hmm
    have each : ∀ i, i < m → ∃ z : ByteArray, V i = .string z := fun i hi => by
      obtain ⟨z, h1, _, h3⟩ := DataW.trod_string he (hx i hi).2
      exact ⟨z, by simpa using h1⟩
    obtain ⟨Z, hZ⟩ := Go.Deep.choose_lt each
    refine ⟨(List.range len).map Z, some y, m, by simp, ?_⟩
    have := cells_in (fun i hi => (hx i hi).1) len hl
    rw [show tV ((List.range len).map Z) = (List.range len).map V by
      unfold tV
      rw [List.map_map]
      refine List.map_congr_left fun i hi => ?_
      have := hZ i (by have := List.mem_range.1 hi; omega)
      simp [this]]
    exact this

/-- A node that came in. -/
structure IsNd (w : World) (N : Nd) (a1 a2 a3 : Option Addr) : Prop where
  at_ : NdAt w N a1 a2 a3
  i : ∀ k ∈ N.ints, inI k
  k : ∀ k ∈ N.kids, inI k
theorem fine_of {L : List Int} (h : ∀ k ∈ L, inI k) : fine L := fun i hi => by
  rw [List.getD_eq_getElem?_getD, List.getElem?_eq_getElem hi]
  exact h _ (List.getElem_mem hi)
/-- A list of nodes that came in. -/
structure IsNds (w : World) (a : Option Addr) (X : List Nx) : Prop where
  sc : ScAt w a X
  rg : ∀ i, i < X.length → (∀ k ∈ (X.getD i noNx).nd.ints, inI k) ∧ ∀ k ∈ (X.getD i noNx).nd.kids, inI k

theorem open_node {r : Reach} {b0 : Nat} {t : TypeId} {f0 f1 f2 f3 : Field} {e1 e2 e3 : TypeId} {v : Value} {d : DataW H} {p : List MemPlace} (hs : P.underlying t = some (.struct #[f0, f1, f2, f3])) (hone : oneCellFields P #[f0, f1, f2, f3] = true) (hC : P.cellsOf t = 4)
    (u0 : P.underlying f0.type = some (.int .i64)) (u1 : P.underlying f1.type = some (.slice e1)) (u2 : P.underlying f2.type = some (.slice e2)) (u3 : P.underlying f3.type = some (.slice e3)) (q1 : P.underlying e1 = some (.int .i64)) (q2 : P.underlying e2 = some .string) (q3 : P.underlying e3 = some (.int .i64))
    (k1 : P.cellsOf e1 = 1) (k2 : P.cellsOf e2 = 1) (k3 : P.cellsOf e3 = 1) (hv : Value.okWide P w r b0 t v) (h : DataW.Trod enc P w 0 (fun _ => true) true t v d p) :
    ∃ N a1 a2 a3 c1 c2 c3, v = .agg #[.int .i64 (Nd.kind N), .slice a1 N.ints.length c1, .slice a2 N.texts.length c2, .slice a3 N.kids.length c3] ∧ IsNd w N a1 a2 a3 := by
  obtain ⟨v0, v1, v2, v3, y0, y1, y2, y3, n, rfl, _, _, t0, t1, t2, t3⟩ := open_agg4 hs hone hC hv h
  obtain ⟨z, e0, _, _⟩ := DataW.trod_int u0 t0
  simp at e0
  subst e0
  obtain ⟨I, a1, c1, rfl, l1, l1f⟩ := open_ints9 u1 q1 k1 t1
  obtain ⟨T, a2, c2, rfl, l2⟩ := open_texts9 u2 q2 k2 t2
  obtain ⟨K, a3, c3, rfl, l3, l3f⟩ := open_ints9 u3 q3 k3 t3
  exact ⟨⟨z, I, T, K⟩, a1, a2, a3, c1, c2, c3, rfl, ⟨l1, l2, l3⟩, l1f, l3f⟩

/-- A list of nodes that came in. -/
theorem open_nodes {t e : TypeId} {f0 f1 f2 f3 : Field} {e1 e2 e3 : TypeId} {v : Value} {n : Nat} {x : DataW H × List MemPlace} (ht : P.underlying t = some (.slice e)) (he : P.underlying e = some (.struct #[f0, f1, f2, f3])) (ce : P.cellsOf e = 4)
    (o0 : f0.offset = 0) (o1 : f1.offset = 1) (o2 : f2.offset = 2) (o3 : f3.offset = 3) (c0 : P.cellsOf f0.type = 1) (c1 : P.cellsOf f1.type = 1) (c2 : P.cellsOf f2.type = 1) (c3 : P.cellsOf f3.type = 1)
    (u0 : P.underlying f0.type = some (.int .i64)) (u1 : P.underlying f1.type = some (.slice e1)) (u2 : P.underlying f2.type = some (.slice e2)) (u3 : P.underlying f3.type = some (.slice e3)) (q1 : P.underlying e1 = some (.int .i64)) (q2 : P.underlying e2 = some .string) (q3 : P.underlying e3 = some (.int .i64))
    (k1 : P.cellsOf e1 = 1) (k2 : P.cellsOf e2 = 1) (k3 : P.cellsOf e3 = 1) (h : DataW.trod enc P w 0 (fun _ => true) true n t [v] = some x) :
    ∃ X a c, v = .slice a (List.length X) c ∧ IsNds w a X := by
  rcases Go.Deep.open_slice ht h with ⟨hcs, _⟩ | ⟨y, len, cap, m, n', D, Pl, hcs, _, hl, hm, hmm, _, hx⟩
  · simp at hcs
    subst hcs
    exact ⟨[], none, 0, rfl, ⟨LsAt.nil _ _, fun i hi => by simp at hi⟩, fun i hi => by simp at hi⟩
  · simp at hcs hmm
    subst hcs hmm
    rw [ce] at hx
    have each : ∀ i, i < m → ∃ q : Nx, (∀ j, j < 4 → w.cell? (y.add (i * 4 + j)) = (nxC q)[j]?) ∧ NdAt w q.nd q.a1 q.a2 q.a3 ∧ ((∀ k ∈ q.nd.ints, inI k) ∧ ∀ k ∈ q.nd.kids, inI k) := by
      intro i hi
      obtain ⟨cs, h1, h2⟩ := hx i hi
      obtain ⟨_, hlen, hcell⟩ := World.cells?_some h1
      match cs, hlen with
      | [g0, g1, g2, g3], _ =>
        obtain ⟨y0, y1, y2, y3, k, _, _, t0, t1, t2, t3⟩ := trod_struct4 he h2
        rw [o0, c0] at t0
        rw [o1, c1] at t1
        rw [o2, c2] at t2
        rw [o3, c3] at t3
        obtain ⟨z, e0, _, _⟩ := DataW.trod_int u0 t0
        obtain ⟨I, a1, d1, r1, l1, hI⟩ := open_ints9 (v := g1) u1 q1 k1 t1
        obtain ⟨T, a2, d2, r2, l2⟩ := open_texts9 (v := g2) u2 q2 k2 t2
        obtain ⟨K, a3, d3, r3, l3, hK⟩ := open_ints9 (v := g3) u3 q3 k3 t3
        simp at e0
        subst e0 r1 r2 r3
        refine ⟨⟨⟨z, I, T, K⟩, a1, d1, a2, d2, a3, d3⟩, fun j hj => ?_, ⟨l1, l2, l3⟩, ⟨hI, hK⟩⟩
        have := hcell j (by omega)
        rw [Addr.add_add] at this
        rw [this]
        rfl
    obtain ⟨z, hz⟩ := choose9 noNx each
    have hget : ∀ i, i < len → ((List.range len).map z).getD i noNx = z i := fun i hi => by simp [hi]
    refine ⟨(List.range len).map z, some y, m, by simp, ⟨?_, fun i hi => ?_⟩, fun i hi => ?_⟩
    · by_cases h0 : len = 0
      · subst h0; exact LsAt.nil _ _
      have hs := World.cell?_spot (((hz 0 (by omega)).1 0 (by omega)).trans (show _ = some (Value.int .i64 (z 0).nd.kind) from rfl))
      have hsp : y.spot = none := by simpa [Addr.add] using hs
      obtain ⟨b, o, sp⟩ := y
      simp at hsp
      subst hsp
      have hL : ((List.range len).map z).length = len := by simp
      refine ⟨b, o, fun _ => rfl, fun i hi => ?_⟩
      rw [nxV_length, hL] at hi
      have hc := (hz (i / 4) (by omega)).1 (i % 4) (by omega)
      rw [show i / 4 * 4 + i % 4 = i by omega, add_plain] at hc
      have hv := nxV_at ((List.range len).map z) (i / 4) (i % 4) (by rw [hL]; omega) (by omega)
      rw [hget _ (by omega), show i / 4 * 4 + i % 4 = i by omega] at hv
      rw [hv, ← hc]
      refine ⟨?_, rfl⟩
      have : ∃ u, (nxC (z (i / 4)))[i % 4]? = some u := by
        rcases (by omega : i % 4 = 0 ∨ i % 4 = 1 ∨ i % 4 = 2 ∨ i % 4 = 3) with q | q | q | q <;> rw [q] <;> exact ⟨_, rfl⟩
      obtain ⟨u, hu⟩ := this
      rw [hu] at hc
      exact block_lt_of_cell hc
    · have hi' : i < len := by simpa using hi
      rw [hget i hi']
      exact (hz i (by omega)).2.1
    · have hi' : i < len := by simpa using hi
      rw [hget i hi']
      exact (hz i (by omega)).2.2

end

/-- Its texts, where they lie. -/
def IsTexts (w : World) (a : Option Addr) (len cap : Nat) (L : List ByteArray) : Prop :=
  L.length = len ∧ len ≤ cap ∧ cap ≤ maxLen ∧ (a = none → len = 0 ∧ cap = 0) ∧ ∃ b o, (0 < len → a = some ⟨b, o, none⟩) ∧ TextAt w b o L

theorem open_texts {H : Type} {enc : TypeId × Value → H} {P : Program} {w : World} {t e : TypeId} {a : Option Addr} {len cap : Nat} {x : DataW H × List MemPlace} (ht : P.underlying t = some (.slice e)) (he : P.underlying e = some .string) (ce : P.cellsOf e = 1)
    (h : ∃ fuel, DataW.trod enc P w 0 (fun _ => true) true fuel t (Value.slice a len cap).cells.toList = some x) : ∃ L, IsTexts w a len cap L := by
  obtain ⟨fuel, hf⟩ := h
  rcases Go.Deep.open_strs ht he ce hf with ⟨hcs, _⟩ | ⟨y, l, c, m, S, hcs, _, hl, hm, hmm, _, hx⟩
  · simp [Value.cells] at hcs
    obtain ⟨rfl, rfl, rfl⟩ := hcs
    exact ⟨[], rfl, Nat.le_refl _, Nat.zero_le _, fun _ => ⟨rfl, rfl⟩, 0, 0, by omega, fun i hi => by simp at hi⟩
  · simp [Value.cells] at hcs
    obtain ⟨rfl, rfl, rfl⟩ := hcs
    simp at hmm
    subst hmm
    refine ⟨(List.range len).map S, by simp, hl, hm, fun h => by simp at h, y.block, y.off, ?_, ?_⟩
    · intro h0
      have hs := World.cell?_spot (hx 0 (by omega)).1
      have : y.spot = none := by simpa [Addr.add] using hs
      cases y
      simp at this
      subst this
      rfl
    · intro i hi
      simp at hi
      have hs := World.cell?_spot (hx 0 (by omega)).1
      have hsp : y.spot = none := by simpa [Addr.add] using hs
      obtain ⟨h1, h2⟩ := hx i (by omega)
      cases y
      simp at hsp
      subst hsp
      rw [show ∀ (bb oo j : Nat), (⟨bb, oo, none⟩ : Addr).add j = ⟨bb, oo + j, none⟩ from fun bb oo j => by unfold Addr.add; split <;> simp_all] at h1
      have hlt := block_lt_of_cell h1
      exact ⟨hlt, by simpa using h1⟩

theorem okWide_arr {P : Program} {w : World} {r : Reach} {base : Nat} {t e : TypeId} {v : Value} {n : Nat} (ht : P.underlying t = some (.array n e)) (h : Value.okWide P w r base t v) : ∃ cs, v = .agg cs ∧ cs.size = P.cellsOf t := by
  simp only [Value.okWide, ht] at h
  obtain ⟨cs, h1, h2, _⟩ := h
  exact ⟨cs, h1, h2⟩

/-- An array of two ints that came in. -/
theorem open_arr2 {H : Type} {enc : TypeId × Value → H} {P : Program} {w : World} {r : Reach} {base : Nat} {t e : TypeId} {v : Value} {x : DataW H × List MemPlace} (ht : P.underlying t = some (.array 2 e)) (he : P.underlying e = some (.int .i64)) (ct : P.cellsOf t = 2) (ce : P.cellsOf e = 1)
    (hv : Value.okWide P w r base t v) (h : ∃ fuel, DataW.trod enc P w 0 (fun _ => true) true fuel t v.cells.toList = some x) : ∃ p q : Int, v = .agg #[.int .i64 p, .int .i64 q] ∧ (Lit.int .i64 p).wf = true ∧ (Lit.int .i64 q).wf = true := by
  obtain ⟨cs, rfl, hz⟩ := okWide_arr ht hv
  obtain ⟨fuel, hf⟩ := h
  obtain ⟨xs, m, _, _, _, hl, hx⟩ := DataW.trod_array ht hf
  rw [ct] at hz
  obtain ⟨c0, c1, rfl⟩ : ∃ c0 c1, cs = #[c0, c1] := by
    match cs, hz with
    | ⟨[c0, c1]⟩, _ => exact ⟨c0, c1, rfl⟩
  have h0 := hx 0 (by omega)
  have h1 := hx 1 (by omega)
  rw [ce, List.getElem?_eq_getElem (by omega)] at h0 h1
  simp [Value.cells] at h0 h1
  obtain ⟨p, e1, _, g1⟩ := DataW.trod_int he h0
  obtain ⟨q, e2, _, g2⟩ := DataW.trod_int he h1
  simp at e1 e2
  subst e1
  subst e2
  exact ⟨p, q, rfl, g1, g2⟩

/-- The list, as each of the given rows has it. -/
def laid2 : List (String × DataW Unit) := Rows.recordPutsRow.laid

theorem tK : (Tryd.prog.globals[0]?).map (·.type) = some 116 := by kernel_rfl
theorem tS : (Tryd.prog.globals[1]?).map (·.type) = some 135 := by kernel_rfl

theorem tabs_of {W : World} (h : laidMetH Tryd.prog laid2 W) : Tabs12 W := by
  rw [MakeChecks.laidMetH_plain _ _ _ (by kernel_rfl)] at h
  obtain ⟨ps, ⟨g0, t0, cs0, f0, p0, q0, hg0, ht0, hv0, hd0, ⟨g1, t1, cs1, f1, p1, q1, hg1, ht1, hv1, hd1, _, _⟩, _⟩, _, _⟩ := h
  exact ⟨tab_of (n := 8) (by kernel_rfl) tK (by kernel_rfl) hg0 ht0 hv0 hd0, tab_of (n := 8) (by kernel_rfl) tS (by kernel_rfl) hg1 ht1 hv1 hd1⟩

/-- The heap that the program's own start leaves meets the list. -/
theorem door_met (os : Os) (args : Array Value) : laidMetH Tryd.prog laid2 ((World.doorLaid Tryd.prog 400 os).forCall (fun _ _ => 0) ⟨#[], args, []⟩).memory :=
  laidMetH_of_parts3 (fuel := 8) (laidMet_of_run' 8 (by kernel_rfl) (by kernel_rfl)) (by kernel_rfl) (by kernel_rfl)

end Go.Proofs.YtknfecclijoefaaDoor
