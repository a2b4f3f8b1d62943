/- Limits that came in; a scene and limits in a law's own blocks; the widest limits. -/
import Derived.Test.YtgoffkfpdigeeaaGreatDoorCC
import Derived.Test.YtgoffkfpdigeeaaGreatDoorLTyp
import Derived.Test.YtgoffkfpdigeeaaGreatDoorLLim
import Derived.Stop.Joined
import Derived.LaidMore
import Derived.SevenTiedAt
namespace Go.Proofs.YtgoffkfpdigeeaaGreatDoor
open Go.ChangeShapes Go.WideShapes Go.ChangeAt Go.RowKit Go.Joins Go.Deep Go.Maps Go.WideMaps Go.Sort

/-- Limits that came in are numbers that there are. -/
structure LmR (l : Lm) : Prop where
  b : inR l.b
  n : inR l.n
  e : inR l.e
  d : inR l.d
  x : inR l.x

section
variable {H : Type} {enc : TypeId × Value → H} {P : Program} {w : World}
theorem five_cells {α : Type} {cs : Array α} (h : cs.size = 5) : ∃ c0 c1 c2 c3 c4, cs = #[c0, c1, c2, c3, c4] := by
  obtain ⟨l⟩ := cs
  match l, h with
  | [c0, c1, c2, c3, c4], _ => exact ⟨c0, c1, c2, c3, c4, rfl⟩
theorem five_read {xs : List (DataW H × List MemPlace)} (h : xs.length = 5) : ∃ y0 y1 y2 y3 y4, xs = [y0, y1, y2, y3, y4] := by
  match xs, h with
  | [y0, y1, y2, y3, y4], _ => exact ⟨y0, y1, y2, y3, y4, rfl⟩
theorem open_lim {r : Reach} {b0 : Nat} {t : TypeId} {f0 f1 f2 f3 f4 : Field} {v : Value} {d : DataW H} {p : List MemPlace} (hs : P.underlying t = some (.struct #[f0, f1, f2, f3, f4])) (hone : oneCellFields P #[f0, f1, f2, f3, f4] = true) (hC : P.cellsOf t = 5)
    (u0 : P.underlying f0.type = some (.int .i64)) (u1 : P.underlying f1.type = some (.int .i64)) (u2 : P.underlying f2.type = some (.int .i64)) (u3 : P.underlying f3.type = some (.int .i64)) (u4 : P.underlying f4.type = some (.int .i64))
    (hv : Value.okWide P w r b0 t v) (h : DataW.Trod enc P w 0 (fun _ => true) true t v d p) :
    ∃ l : Lm, v = .agg #[.int .i64 l.b, .int .i64 l.n, .int .i64 l.e, .int .i64 l.d, .int .i64 l.x] ∧ LmR l := by
  obtain ⟨cs, rfl, hsz⟩ := okWide_struct hs hv
  obtain ⟨c0, c1, c2, c3, c4, rfl⟩ := five_cells (hsz.trans hC)
  obtain ⟨fuel, hf⟩ := h
  obtain ⟨xs, n, _, _, _, hlen, hx⟩ := DataW.trod_struct hs hf
  obtain ⟨y0, y1, y2, y3, y4, rfl⟩ := five_read (by simpa using hlen)
  obtain ⟨o0, k0⟩ := hone_of hone 0 f0 rfl
  obtain ⟨o1, k1⟩ := hone_of hone 1 f1 rfl
  obtain ⟨o2, k2⟩ := hone_of hone 2 f2 rfl
  obtain ⟨o3, k3⟩ := hone_of hone 3 f3 rfl
  obtain ⟨o4, k4⟩ := hone_of hone 4 f4 rfl
  have t0 := hx 0 f0 rfl
  have t1 := hx 1 f1 rfl
  have t2 := hx 2 f2 rfl
  have t3 := hx 3 f3 rfl
  have t4 := hx 4 f4 rfl
  simp [Value.cells, o0, k0, o1, k1, o2, k2, o3, k3, o4, k4] at t0 t1 t2 t3 t4
  obtain ⟨z0, e0, _, g0⟩ := DataW.trod_int u0 t0
  obtain ⟨z1, e1, _, g1⟩ := DataW.trod_int u1 t1
  obtain ⟨z2, e2, _, g2⟩ := DataW.trod_int u2 t2
  obtain ⟨z3, e3, _, g3⟩ := DataW.trod_int u3 t3
  obtain ⟨z4, e4, _, g4⟩ := DataW.trod_int u4 t4
  simp at e0 e1 e2 e3 e4
  subst e0 e1 e2 e3 e4
  exact ⟨⟨z0, z1, z2, z3, z4⟩, rfl, ⟨wf_i64 g0, wf_i64 g1, wf_i64 g2, wf_i64 g3, wf_i64 g4⟩⟩
end

theorem IsSc.fn {w : World} {a : Option Addr} {X : List Nx} {r : Int} (h : IsSc w a X r) : FnX X := fun i hi j hj => by
  have h1 := (h.rg i hi).ints
  generalize (X.getD i noNx).nd.ints = T at *
  exact h1 _ (by rw [List.getD_eq_getElem?_getD, List.getElem?_eq_getElem hj]; exact List.getElem_mem hj)

theorem lm_all {l : Lm} (h : LmR l) : ∀ i, i < 5 → -9223372036854775808 ≤ (lmL l).getD i 0 ∧ (lmL l).getD i 0 ≤ 9223372036854775807 := fun i hi => by
  rcases five_cases hi with rfl | rfl | rfl | rfl | rfl
  · exact h.b
  · exact h.n
  · exact h.e
  · exact h.d
  · exact h.x
/-- The limits in the law's own block. -/
structure Lg (w W : World) (l : Lm) : Prop where
  a : AtN 26 W w.heap.size #[.int .i64 l.b, .int .i64 l.n, .int .i64 l.e, .int .i64 l.d, .int .i64 l.x]
  bel : Below w.heap.size w W
/-- The scene and the limits. -/
structure L5 (w W : World) (a : Option Addr) (X : List Nx) (c : Nat) (r : Int) (l : Lm) : Prop where
  s : AtN 24 W w.heap.size #[.slice a X.length c, .int .i64 r]
  l : AtN 26 W (w.heap.size + 1) #[.int .i64 l.b, .int .i64 l.n, .int .i64 l.e, .int .i64 l.d, .int .i64 l.x]
  bel : Below w.heap.size w W
section
variable {w W W' : World} {a : Option Addr} {X : List Nx} {c : Nat} {r q : Int} {l : Lm}
theorem Lg.more (h : Lg w W l) (hb : Below W.heap.size W W') : Lg w W' l := ⟨h.a.belowAll hb, h.bel.trans (hb.mono h.bel.size)⟩
theorem Lg.start (w : World) (l : Lm) : Lg w (w.alloc (.cells #[.int .i64 l.b, .int .i64 l.n, .int .i64 l.e, .int .i64 l.d, .int .i64 l.x] 26)) l := ⟨AtN.new w 26 _, (Below.refl w.heap.size w).alloc (Nat.le_refl _) _⟩
theorem Lg.all (h : Lg w W l) : W.cell? ⟨w.heap.size, 0, none⟩ = some (.int .i64 l.b) ∧ W.cell? ⟨w.heap.size, 1, none⟩ = some (.int .i64 l.n) ∧ W.cell? ⟨w.heap.size, 2, none⟩ = some (.int .i64 l.e) ∧ W.cell? ⟨w.heap.size, 3, none⟩ = some (.int .i64 l.d) ∧ W.cell? ⟨w.heap.size, 4, none⟩ = some (.int .i64 l.x) :=
  ⟨h.a.cell 0, h.a.cell 1, h.a.cell 2, h.a.cell 3, h.a.cell 4⟩
theorem L5.more (h : L5 w W a X c r l) (hb : Below W.heap.size W W') : L5 w W' a X c r l := ⟨h.s.belowAll hb, h.l.belowAll hb, h.bel.trans (hb.mono h.bel.size)⟩
theorem L5.start (w : World) (a : Option Addr) (X : List Nx) (c : Nat) (r : Int) (l : Lm) : L5 w ((w.alloc (.cells #[.slice a X.length c, .int .i64 r] 24)).alloc (.cells #[.int .i64 l.b, .int .i64 l.n, .int .i64 l.e, .int .i64 l.d, .int .i64 l.x] 26)) a X c r l :=
  ⟨(AtN.new w 24 _).alloc _, mk_at (AtN.new (w.alloc _) 26 _) (by simp), ((Below.refl w.heap.size w).alloc (Nat.le_refl _) _).alloc (by simp) _⟩
theorem L5.sc (h : L5 w W a X c r l) (hs : IsSc w a X q) : ScAt W a X := hs.sc.belowB h.bel
theorem L5.all (h : L5 w W a X c r l) : W.cell? ⟨w.heap.size, 0, none⟩ = some (.slice a X.length c) ∧ W.cell? ⟨w.heap.size, 1, none⟩ = some (.int .i64 r) ∧ W.cell? ⟨w.heap.size + 1, 0, none⟩ = some (.int .i64 l.b) ∧ W.cell? ⟨w.heap.size + 1, 1, none⟩ = some (.int .i64 l.n) ∧ W.cell? ⟨w.heap.size + 1, 2, none⟩ = some (.int .i64 l.e) ∧ W.cell? ⟨w.heap.size + 1, 3, none⟩ = some (.int .i64 l.d) ∧ W.cell? ⟨w.heap.size + 1, 4, none⟩ = some (.int .i64 l.x) :=
  ⟨h.s.cell 0, h.s.cell 1, h.l.cell 0, h.l.cell 1, h.l.cell 2, h.l.cell 3, h.l.cell 4⟩
end
set_option maxRecDepth 10000 in
theorem wide_any (w : World) : Calls Tryz.prog 22 #[] w fun e w' => e = .returned (.agg #[.int .i64 16777216, .int .i64 16777216, .int .i64 16777216, .int .i64 16777216, .int .i64 16777216]) ∧ Below w.heap.size w w' := by
  have HA : Hid (∀ o : Obj, o = .cells #[.int .i64 16777216, .int .i64 16777216, .int .i64 16777216, .int .i64 16777216, .int .i64 16777216] 26 → AtN 26 (w.alloc o) w.heap.size #[.int .i64 16777216, .int .i64 16777216, .int .i64 16777216, .int .i64 16777216, .int .i64 16777216] ∧ Below w.heap.size w (w.alloc o)) := by
    rintro _ rfl
    exact ⟨AtN.new w 26 _, (Below.refl w.heap.size w).alloc (Nat.le_refl _) _⟩
  go_enter Tryz.func22, Tryz.ntmps22
  go_wp2_with fail
  obtain ⟨h1, h2⟩ := HA.out _ rfl
  have c0 := h1.cell 0
  have c1 := h1.cell 1
  have c2 := h1.cell 2
  have c3 := h1.cell 3
  have c4 := h1.cell 4
  exact bodyPost_ret (v := .agg #[.int .i64 16777216, .int .i64 16777216, .int .i64 16777216, .int .i64 16777216, .int .i64 16777216]) (by simp [results, Tryz.results22, go_sem, c0, c1, c2, c3, c4]) rfl ⟨rfl, h2⟩

theorem bel_drew (w : World) : Below w.heap.size w w.drew := ⟨rfl, rfl, rfl, Nat.le_refl _, fun _ _ => rfl⟩
/-- The widest limits. -/
def wL : Lm := ⟨16777216, 16777216, 16777216, 16777216, 16777216⟩
end Go.Proofs.YtgoffkfpdigeeaaGreatDoor
