/- What the given rows' list of package-level variables gives: the two tables of the package schema, cell by cell; limits that came in; what Valid tells. -/
import Derived.Test.YtdioecmpcppleaaDoorAwake12
import Derived.Test.YtdioecmpcppleaaDoorCC
import Derived.Stop.Joined
namespace Go.Proofs.YtdioecmpcppleaaDoor
open Go.ChangeShapes Go.WideShapes Go.ChangeAt Go.RowKit Go.Joins Go.Deep

/-- The list, as each of the given rows has it. -/
def laid2 : List (String × DataW Unit) := Rows.limitValidRow.laid

theorem tK : (Tryd.prog.globals[0]?).map (·.type) = some 97 := by kernel_rfl
theorem tS : (Tryd.prog.globals[1]?).map (·.type) = some 126 := by kernel_rfl

theorem tabs_of {W : World} (h : laidMetH Tryd.prog laid2 W) : Tabs12 W := by
  rw [MakeChecks.laidMetH_plain _ _ _ (by kernel_rfl)] at h
  obtain ⟨ps, ⟨g0, t0, cs0, f0, p0, q0, hg0, ht0, hv0, hd0, ⟨g1, t1, cs1, f1, p1, q1, hg1, ht1, hv1, hd1, _, _⟩, _⟩, _, _⟩ := h
  exact ⟨tab_of (n := 8) (by kernel_rfl) tK (by kernel_rfl) hg0 ht0 hv0 hd0, tab_of (n := 8) (by kernel_rfl) tS (by kernel_rfl) hg1 ht1 hv1 hd1⟩

/-- The heap that the program's own start leaves meets the list. -/
theorem door_met (os : Os) (args : Array Value) : laidMetH Tryd.prog laid2 ((World.doorLaid Tryd.prog 400 os).forCall (fun _ _ => 0) ⟨#[], args, []⟩).memory :=
  laidMetH_of_parts3 (fuel := 8) (laidMet_of_run' 8 (by kernel_rfl) (by kernel_rfl)) (by kernel_rfl) (by kernel_rfl)

/-- Limits that came in are numbers that there are. -/
structure LmR (l : Lm) : Prop where
  b : inR l.b
  n : inR l.n
  e : inR l.e
  d : inR l.d
  x : inR l.x

section
variable {H : Type} {enc : TypeId × Value → H} {P : Program} {w : World}
theorem five_cells {α : Type} {cs : Array α} (h : cs.size = 5) : ∃ c0 c1 c2 c3 c4, cs = #[c0, c1, c2, c3, c4] := by
  obtain ⟨l⟩ := cs
  match l, h with
  | [c0, c1, c2, c3, c4], _ => exact ⟨c0, c1, c2, c3, c4, rfl⟩
theorem five_read {xs : List (DataW H × List MemPlace)} (h : xs.length = 5) : ∃ y0 y1 y2 y3 y4, xs = [y0, y1, y2, y3, y4] := by
  match xs, h with
  | [y0, y1, y2, y3, y4], _ => exact ⟨y0, y1, y2, y3, y4, rfl⟩
theorem open_lim {r : Reach} {b0 : Nat} {t : TypeId} {f0 f1 f2 f3 f4 : Field} {v : Value} {d : DataW H} {p : List MemPlace} (hs : P.underlying t = some (.struct #[f0, f1, f2, f3, f4])) (hone : oneCellFields P #[f0, f1, f2, f3, f4] = true) (hC : P.cellsOf t = 5)
    (u0 : P.underlying f0.type = some (.int .i64)) (u1 : P.underlying f1.type = some (.int .i64)) (u2 : P.underlying f2.type = some (.int .i64)) (u3 : P.underlying f3.type = some (.int .i64)) (u4 : P.underlying f4.type = some (.int .i64))
    (hv : Value.okWide P w r b0 t v) (h : DataW.Trod enc P w 0 (fun _ => true) true t v d p) :
    ∃ l : Lm, v = .agg #[.int .i64 l.b, .int .i64 l.n, .int .i64 l.e, .int .i64 l.d, .int .i64 l.x] ∧ LmR l := by
  obtain ⟨cs, rfl, hsz⟩ := okWide_struct hs hv
  obtain ⟨c0, c1, c2, c3, c4, rfl⟩ := five_cells (hsz.trans hC)
  obtain ⟨fuel, hf⟩ := h
  obtain ⟨xs, n, _, _, _, hlen, hx⟩ := DataW.trod_struct hs hf
  obtain ⟨y0, y1, y2, y3, y4, rfl⟩ := five_read (by simpa using hlen)
  obtain ⟨o0, k0⟩ := hone_of hone 0 f0 rfl
  obtain ⟨o1, k1⟩ := hone_of hone 1 f1 rfl
  obtain ⟨o2, k2⟩ := hone_of hone 2 f2 rfl
  obtain ⟨o3, k3⟩ := hone_of hone 3 f3 rfl
  obtain ⟨o4, k4⟩ := hone_of hone 4 f4 rfl
  have t0 := hx 0 f0 rfl
  have t1 := hx 1 f1 rfl
  have t2 := hx 2 f2 rfl
  have t3 := hx 3 f3 rfl
  have t4 := hx 4 f4 rfl
  simp [Value.cells, o0, k0, o1, k1, o2, k2, o3, k3, o4, k4] at t0 t1 t2 t3 t4
  obtain ⟨z0, e0, _, g0⟩ := DataW.trod_int u0 t0
  obtain ⟨z1, e1, _, g1⟩ := DataW.trod_int u1 t1
  obtain ⟨z2, e2, _, g2⟩ := DataW.trod_int u2 t2
  obtain ⟨z3, e3, _, g3⟩ := DataW.trod_int u3 t3
  obtain ⟨z4, e4, _, g4⟩ := DataW.trod_int u4 t4
  simp at e0 e1 e2 e3 e4
  subst e0 e1 e2 e3 e4
  exact ⟨⟨z0, z1, z2, z3, z4⟩, rfl, ⟨wf_i64 g0, wf_i64 g1, wf_i64 g2, wf_i64 g3, wf_i64 g4⟩⟩
end

theorem IsSc.fn {w : World} {a : Option Addr} {X : List Nx} {r : Int} (h : IsSc w a X r) : FnX X := fun i hi j hj => by
  have h1 := (h.rg i hi).ints
  generalize (X.getD i noNx).nd.ints = T at *
  exact h1 _ (by rw [List.getD_eq_getElem?_getD, List.getElem?_eq_getElem hj]; exact List.getElem_mem hj)

/-- What the law holds of its scene, and of limits. -/
structure L2 (w W : World) (a : Option Addr) (X : List Nx) (c : Nat) (r : Int) (l : Lm) : Prop where
  s : AtN 24 W w.heap.size #[.slice a X.length c, .int .i64 r]
  l : AtN 26 W (w.heap.size + 1) (lmC l)
  bel : Below w.heap.size w W
  tab : Tabs12 W
/-- .. and of other limits. -/
structure L3 (w W : World) (a : Option Addr) (X : List Nx) (c : Nat) (r : Int) (l m : Lm) : Prop where
  t : L2 w W a X c r l
  m : AtN 26 W (w.heap.size + 1 + 1) (lmC m)
section
variable {w W W' : World} {a : Option Addr} {X : List Nx} {c : Nat} {r : Int} {l m : Lm}
theorem L2.more (h : L2 w W a X c r l) (hb : Below W.heap.size W W') : L2 w W' a X c r l := ⟨h.s.belowAll hb, h.l.belowAll hb, h.bel.trans (hb.mono h.bel.size), h.tab.on hb⟩
theorem L3.more (h : L3 w W a X c r l m) (hb : Below W.heap.size W W') : L3 w W' a X c r l m := ⟨h.t.more hb, h.m.belowAll hb⟩
theorem L2.start (ht : Tabs12 w) : L2 w ((w.alloc (.cells #[.slice a X.length c, .int .i64 r] 24)).alloc (.cells (lmC l) 26)) a X c r l := by
  have hb : Below w.heap.size w ((w.alloc (.cells #[.slice a X.length c, .int .i64 r] 24)).alloc (.cells (lmC l) 26)) := ((Below.refl w.heap.size w).alloc (Nat.le_refl _) _).alloc (by simp) _
  exact ⟨(AtN.new w 24 _).alloc _, mk_at (AtN.new (w.alloc _) 26 _) (by simp), hb, ht.on hb⟩
theorem L3.start (ht : Tabs12 w) : L3 w (((w.alloc (.cells #[.slice a X.length c, .int .i64 r] 24)).alloc (.cells (lmC l) 26)).alloc (.cells (lmC m) 26)) a X c r l m :=
  ⟨(L2.start ht).more ((Below.refl _ _).alloc (Nat.le_refl _) _), mk_at (AtN.new ((w.alloc _).alloc _) 26 _) (by simp)⟩
theorem L2.c0 (h : L2 w W a X c r l) : W.cell? ⟨w.heap.size, 0, none⟩ = some (.slice a X.length c) := h.s.cell 0
theorem L2.c1 (h : L2 w W a X c r l) : W.cell? ⟨w.heap.size, 1, none⟩ = some (.int .i64 r) := h.s.cell 1
theorem L2.d0 (h : L2 w W a X c r l) : W.cell? ⟨w.heap.size + 1, 0, none⟩ = some (.int .i64 l.b) := h.l.cell 0
theorem L2.d1 (h : L2 w W a X c r l) : W.cell? ⟨w.heap.size + 1, 1, none⟩ = some (.int .i64 l.n) := h.l.cell 1
theorem L2.d2 (h : L2 w W a X c r l) : W.cell? ⟨w.heap.size + 1, 2, none⟩ = some (.int .i64 l.e) := h.l.cell 2
theorem L2.d3 (h : L2 w W a X c r l) : W.cell? ⟨w.heap.size + 1, 3, none⟩ = some (.int .i64 l.d) := h.l.cell 3
theorem L2.d4 (h : L2 w W a X c r l) : W.cell? ⟨w.heap.size + 1, 4, none⟩ = some (.int .i64 l.x) := h.l.cell 4
theorem L3.e0 (h : L3 w W a X c r l m) : W.cell? ⟨w.heap.size + 1 + 1, 0, none⟩ = some (.int .i64 m.b) := h.m.cell 0
theorem L3.e1 (h : L3 w W a X c r l m) : W.cell? ⟨w.heap.size + 1 + 1, 1, none⟩ = some (.int .i64 m.n) := h.m.cell 1
theorem L3.e2 (h : L3 w W a X c r l m) : W.cell? ⟨w.heap.size + 1 + 1, 2, none⟩ = some (.int .i64 m.e) := h.m.cell 2
theorem L3.e3 (h : L3 w W a X c r l m) : W.cell? ⟨w.heap.size + 1 + 1, 3, none⟩ = some (.int .i64 m.d) := h.m.cell 3
theorem L3.e4 (h : L3 w W a X c r l m) : W.cell? ⟨w.heap.size + 1 + 1, 4, none⟩ = some (.int .i64 m.x) := h.m.cell 4
theorem IsSc.belS {q : Int} (h : IsSc w a X q) (hb : Below w.heap.size w W) : ScAt W a X := h.sc.belowB hb
end

/-- What Valid's answer comes to. -/
theorem VaIs.uniq {X : List Nx} {r : Int} {l : Lm} {d : Nat} {e z e' z' : Int} (h : VaIs X r l d e z) (h' : VaIs X r l d e' z') : e' = e ∧ z' = z := by
  rcases h with ⟨h1, rfl, rfl⟩ | ⟨h1, h2, rfl, rfl⟩ | ⟨h1, h2, n, y, hc, h3⟩
  · rcases h' with ⟨_, rfl, rfl⟩ | ⟨q, _⟩ | ⟨q, _⟩
    · exact ⟨rfl, rfl⟩
    · rw [h1] at q; cases q
    · rw [h1] at q; cases q
  · rcases h' with ⟨q, _⟩ | ⟨_, _, rfl, rfl⟩ | ⟨_, q, _⟩
    · rw [h1] at q; cases q
    · exact ⟨rfl, rfl⟩
    · exact absurd q h2
  · rcases h' with ⟨q, _⟩ | ⟨_, q, _⟩ | ⟨_, _, n', y', hc', h3'⟩
    · rw [h1] at q; cases q
    · exact absurd h2 q
    · obtain ⟨rfl, rfl⟩ := hc.uniq hc'
      rcases h3 with ⟨p, rfl, rfl⟩ | ⟨p, ⟨p1, rfl, rfl⟩ | ⟨p1, rfl, rfl⟩⟩
      · rcases h3' with ⟨_, rfl, rfl⟩ | ⟨q, _⟩
        · exact ⟨rfl, rfl⟩
        · exact absurd q p
      · rcases h3' with ⟨q, _⟩ | ⟨_, ⟨_, rfl, rfl⟩ | ⟨q, _⟩⟩
        · exact absurd p q
        · exact ⟨rfl, rfl⟩
        · rw [p1] at q; cases q
      · rcases h3' with ⟨q, _⟩ | ⟨_, ⟨q, _⟩ | ⟨_, rfl, rfl⟩⟩
        · exact absurd p q
        · rw [p1] at q; cases q
        · exact ⟨rfl, rfl⟩
theorem CheckIs.few {X : List Nx} {r e z : Int} (h : CheckIs X r e z) : e = 0 ∨ e = 13 ∨ e = 14 ∨ e = 15 := by
  rcases h with ⟨_, rfl, _⟩ | ⟨_, _, _, rfl, _⟩ | ⟨_, _, ⟨_, rfl, _⟩ | ⟨_, ⟨_, rfl, _⟩ | ⟨rfl, _⟩⟩⟩ <;> omega
theorem chk_few (N : Nd) (C : List Int) (t l m : Int) : chk N C t l m = 10 ∨ chk N C t l m = 11 ∨ chk N C t l m = 12 ∨ chk N C t l m = 0 := by
  unfold chk
  split
  · exact .inl rfl
  · split
    · exact .inr (.inl rfl)
    · split
      · exact .inr (.inr (.inl rfl))
      · exact .inr (.inr (.inr rfl))
theorem tyN_few (N : Nd) : tyN N = 0 ∨ (9 ≤ tyN N ∧ tyN N ≤ 12) := by
  unfold tyN
  split
  · omega
  · have := chk_few N (newSp N.kind).ints (newSp N.kind).texts (newSp N.kind).least (newSp N.kind).most
    omega
theorem tyG_few : ∀ (X : List Nx) (k : Nat), (tyG X k).1 = 0 ∨ (9 ≤ (tyG X k).1 ∧ (tyG X k).1 ≤ 12)
  | [], _ => .inl rfl
  | x :: t, k => by
    unfold tyG
    split
    · exact tyG_few t (k + 1)
    · exact tyN_few x.nd
theorem tyG_zero : ∀ (X : List Nx) (k : Nat), (tyG X k).1 = 0 ↔ ∀ x ∈ X, tyN x.nd = 0
  | [], _ => by simp [tyG]
  | x :: t, k => by
    unfold tyG
    by_cases h : tyN x.nd = 0
    · rw [if_pos h, tyG_zero t (k + 1)]
      simp [h]
    · rw [if_neg h]
      simp [h]
/-- Is all right but for the limits? -/
def Whole (X : List Nx) (r : Int) : Prop := tyE X = 0 ∧ RightIs X r
theorem VaIs.zero {X : List Nx} {r : Int} {l : Lm} {d : Nat} {e z : Int} (h : VaIs X r l d e z) : e = 0 ↔ okL l = true ∧ Whole X r ∧ inL (meL X d) l = true := by
  rcases h with ⟨h1, rfl, rfl⟩ | ⟨h1, h2, rfl, rfl⟩ | ⟨h1, h2, n, y, hc, h3⟩
  · exact ⟨fun q => by omega, fun q => by rw [h1] at q; exact absurd q.1 (by simp)⟩
  · exact ⟨fun q => absurd q h2, fun q => absurd q.2.1.1 h2⟩
  · have hr := hc.right
    rcases h3 with ⟨p, rfl, rfl⟩ | ⟨p, ⟨p1, rfl, rfl⟩ | ⟨p1, rfl, rfl⟩⟩
    · exact ⟨fun q => absurd q p, fun q => absurd (hr.2 q.2.1.2) p⟩
    · exact ⟨fun q => by omega, fun q => by rw [p1] at q; exact absurd q.2.2 (by simp)⟩
    · exact ⟨fun _ => ⟨h1, ⟨h2, hr.1 p⟩, p1⟩, fun _ => rfl⟩
theorem VaIs.limit {X : List Nx} {r : Int} {l : Lm} {d : Nat} {e z : Int} (h : VaIs X r l d e z) : e = 19 ↔ okL l = true ∧ Whole X r ∧ inL (meL X d) l = false := by
  rcases h with ⟨h1, rfl, rfl⟩ | ⟨h1, h2, rfl, rfl⟩ | ⟨h1, h2, n, y, hc, h3⟩
  · exact ⟨fun q => by omega, fun q => by rw [h1] at q; exact absurd q.1 (by simp)⟩
  · exact ⟨fun q => by have := tyG_few X 0; unfold tyE at q h2; omega, fun q => absurd q.2.1.1 h2⟩
  · have hr := hc.right
    rcases h3 with ⟨p, rfl, rfl⟩ | ⟨p, ⟨p1, rfl, rfl⟩ | ⟨p1, rfl, rfl⟩⟩
    · exact ⟨fun q => by have := hc.few; omega, fun q => absurd (hr.2 q.2.1.2) p⟩
    · exact ⟨fun _ => ⟨h1, ⟨h2, hr.1 p⟩, p1⟩, fun _ => rfl⟩
    · exact ⟨fun q => by omega, fun q => by rw [p1] at q; exact absurd q.2.2 (by simp)⟩

end Go.Proofs.YtdioecmpcppleaaDoor
