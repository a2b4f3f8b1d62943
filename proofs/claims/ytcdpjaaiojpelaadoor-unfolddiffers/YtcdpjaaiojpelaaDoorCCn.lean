/- The contract of the program's Canon. -/
import Derived.Test.YtcdpjaaiojpelaaDoorCNum
import Derived.Test.YtcdpjaaiojpelaaDoorGReg5
namespace Go.Proofs.YtcdpjaaiojpelaaDoor
open Go.RowKit Go.Maps Go.WideMaps Go.Sort

/-- A node's place, as a kid's number. -/
def pX (X : List Nx) (r : Int) (z : Int) : Int := ((oX X r).idxOf z.toNat : Int)
/-- The canonical scene's nodes. -/
def cX (X : List Nx) (r : Int) : List Nd := (oX X r).map fun i => renNd (pX X r) (X.getD i noNx).nd

theorem nxV_at' (X : List Nx) (i j : Nat) (h : i < X.length) (hj : j < 4) : (nxV X).toArray[i * 4 + j]? = (nxC (X.getD i noNx))[j]? := by simpa using nxV_at X i j h hj
theorem nxV_set (y : Nx) : ∀ (Z : List Nx) (j : Nat), j < Z.length → ((((nxV Z).set (j * 4) (.int .i64 y.nd.kind)).set (j * 4 + 1) (.slice y.a1 y.nd.ints.length y.c1)).set (j * 4 + 2) (.slice y.a2 y.nd.texts.length y.c2)).set (j * 4 + 3) (.slice y.a3 y.nd.kids.length y.c3) = nxV (Z.set j y)
  | x :: r, 0, _ => by simp [nxV, nxC]
  | x :: r, j + 1, h => by
    have ih := nxV_set y r j (by simpa using h)
    have e : nxV (x :: r) = nxC x ++ nxV r := by simp [nxV]
    have hl : (nxC x).length = 4 := rfl
    rw [e, List.set_append_right _ _ (by omega), List.set_append_right _ _ (by omega), List.set_append_right _ _ (by omega), List.set_append_right _ _ (by omega), hl,
      show (j + 1) * 4 - 4 = j * 4 by omega, show (j + 1) * 4 + 1 - 4 = j * 4 + 1 by omega, show (j + 1) * 4 + 2 - 4 = j * 4 + 2 by omega, show (j + 1) * 4 + 3 - 4 = j * 4 + 3 by omega, ih]
    simp [nxV]
theorem at_setNx {T : TypeId} {W : World} {g : Nat} {Z : List Nx} (h : AtN T W g (nxV Z).toArray) (j : Nat) (hj : j < Z.length) (y : Nx) : AtN T ((((W.setCell ⟨g, j * 4, none⟩ (.int .i64 y.nd.kind)).setCell ⟨g, j * 4 + 1, none⟩ (.slice y.a1 y.nd.ints.length y.c1)).setCell ⟨g, j * 4 + 2, none⟩ (.slice y.a2 y.nd.texts.length y.c2)).setCell ⟨g, j * 4 + 3, none⟩ (.slice y.a3 y.nd.kids.length y.c3)) g (nxV (Z.set j y)).toArray := by
  have := (((h.set (j * 4) (.int .i64 y.nd.kind)).set (j * 4 + 1) (.slice y.a1 y.nd.ints.length y.c1)).set (j * 4 + 2) (.slice y.a2 y.nd.texts.length y.c2)).set (j * 4 + 3) (.slice y.a3 y.nd.kids.length y.c3)
  rw [← nxV_set y Z j hj]
  simpa using this
theorem nxV_none : ∀ n : Nat, nxV (List.replicate n noNx) = (List.replicate n [Value.int .i64 0, .slice none 0 0, .slice none 0 0, .slice none 0 0]).flatten
  | 0 => rfl
  | n + 1 => by
    have := nxV_none n
    simp only [nxV, List.replicate_succ, List.flatMap_cons, List.flatten_cons] at this ⊢
    rw [this]
    rfl
theorem nxV_new (n : Nat) : madeCells (Value.agg #[.int .i64 0, .slice none 0 0, .slice none 0 0, .slice none 0 0]).cells (n * 4) = (nxV (List.replicate n noNx)).toArray := by
  apply Array.ext
  · simp [size_madeCells, nxV_length]
  · intro i h1 h2
    have hi : i < n * 4 := by simpa [size_madeCells] using h1
    have h3 := nxV_at (List.replicate n noNx) (i / 4) (i % 4) (by simp; omega) (by omega)
    rw [show i / 4 * 4 + i % 4 = i by omega] at h3
    have h4 : (List.replicate n noNx).getD (i / 4) noNx = noNx := by simp [show i / 4 < n by omega]
    rw [h4] at h3
    have h5 : (nxV (List.replicate n noNx))[i]? = some (nxV (List.replicate n noNx)).toArray[i] := by
      rw [List.getElem?_eq_getElem (by simpa using h2)]
      simp
    rw [h5] at h3
    rcases (by omega : i % 4 = 0 ∨ i % 4 = 1 ∨ i % 4 = 2 ∨ i % 4 = 3) with q | q | q | q <;> rw [q] at h3 <;> rw [Option.some.inj (h3.trans (show _ = some _ from rfl))] <;> simp [madeCells, Value.cells, q, noNx]

/-- The facts of a round of Canon. -/
def cnF (gn gp n i j : Nat) (p : Int → Int) (N : Nx) (Z : List Nx) (B : Nat) : Nat → Value → World → Prop
  | 0, v, _ => v = .slice (some ⟨gn, 0, none⟩) n n
  | 1, v, _ | 6, v, _ => v = .slice (some ⟨gp, 0, none⟩) n n
  | 2, v, _ => v = .int .i64 (i : Int)
  | 3, v, _ => v = .pointer (some ⟨gp, i, none⟩)
  | 4, v, _ => v = .int .i64 (j : Int)
  | 5, v, _ => v = .agg #[.int .i64 N.nd.kind, .slice N.a1 N.nd.ints.length N.c1, .slice N.a2 N.nd.texts.length N.c2, .slice N.a3 N.nd.kids.length N.c3]
  | 7, v, W => ∃ y : Nx, y.nd = renNd p N.nd ∧ v = .agg (nxC y).toArray ∧ OwnNx W B y
  | 8, v, _ => v = .pointer (some ⟨gn, j * 4, none⟩)
  | 9, _, W => ∃ y : Nx, y.nd = renNd p N.nd ∧ AtN 42 W gn (nxV (Z.set j y)).toArray ∧ OwnNx W B y
  | _, _, _ => True
def cnG (gn j : Nat) (Z : List Nx) (W0 W : World) : Prop := (∃ Z', (Z' = Z ∨ ∃ y, Z' = Z.set j y) ∧ AtN 42 W gn (nxV Z').toArray) ∧ Fr (fun b => b = gn) W0 W
section
variable {gn gp n i j B : Nat} {p : Int → Int} {N : Nx} {Z : List Nx} {W0 W W' : World}
theorem cnG.below (h : cnG gn j Z W0 W) (hb : Below W.heap.size W W') : cnG gn j Z W0 W' := by
  obtain ⟨⟨Z', h1, h2⟩, h3⟩ := h
  exact ⟨⟨Z', h1, h2.belowAll hb⟩, h3.trans (Fr.of_below (S := fun _ => False) hb) (fun _ q _ => q.elim)⟩
theorem cnF_below (hb : Below W.heap.size W W') : ∀ k u, 7 ≠ k → cnF gn gp n i j p N Z B k u W → cnF gn gp n i j p N Z B k u W' := by
  intro k u hk h
  match k, h with
  | 0, h | 1, h | 2, h | 3, h | 4, h | 5, h | 6, h | 8, h => exact h
  | 7, _ => exact absurd rfl hk
  | 9, h =>
    obtain ⟨y, h1, h2, h3⟩ := h
    exact ⟨y, h1, h2.belowAll hb, h3.fr (Fr.of_below (S := fun _ => False) hb) (fun _ q => q.elim)⟩
  | q + 10, _ => trivial
theorem cnF_set (hf : Fr (fun b => b = gn) W W') (ha : Alien W (fun b => b = gn)) : ∀ k u, 9 ≠ k → cnF gn gp n i j p N Z B k u W → cnF gn gp n i j p N Z B k u W' := by
  intro k u hk h
  match k, h with
  | 0, h | 1, h | 2, h | 3, h | 4, h | 5, h | 6, h | 8, h => exact h
  | 7, h =>
    obtain ⟨y, h1, h2, h3⟩ := h
    exact ⟨y, h1, h2, h3.fr hf ha⟩
  | 9, _ => exact absurd rfl hk
  | q + 10, _ => trivial
end

/-- The block of a node's list of kids. -/
def kidB (y : Nx) : Option Nat := (Value.slice y.a3 y.nd.kids.length y.c3).ownBlock
/-- No two nodes share their kids' list. -/
def Aprt (Y : List Nx) : Prop := ∀ i j, i < j → j < Y.length → ∀ g, kidB (Y.getD i noNx) = some g → kidB (Y.getD j noNx) ≠ some g

/-- While the nodes are put to their places. -/
structure CnI (w wr : World) (X : List Nx) (a : Option Addr) (c : Nat) (r : Int) (gn gp i : Nat) (Z : List Nx) : Prop where
  len : Z.length = X.length
  nd : ∀ k, k < i → (Z.getD ((oX X r).idxOf k) noNx).nd = renNd (pX X r) (X.getD k noNx).nd
  own : ∀ k, k < i → OwnNx wr w.heap.size (Z.getD ((oX X r).idxOf k) noNx)
  nodes : AtN 42 wr gn (nxV Z).toArray
  places : AtN 3 wr gp (zV X.length (fun i => ((oX X r).idxOf i : Int)))
  arg : AtN 24 wr w.heap.size #[.slice a X.length c, .int .i64 r]
  res : AtN 24 wr (w.heap.size + 1) #[.slice none 0 0, .int .i64 0]
  bel : Below w.heap.size w wr
  big : w.heap.size + 2 ≤ gn
  ap : ∀ k k', k < i → k' < i → k ≠ k' → ∀ q, kidB (Z.getD ((oX X r).idxOf k) noNx) = some q → kidB (Z.getD ((oX X r).idxOf k') noNx) ≠ some q
/-- A round. -/
theorem CnI.next {w wr W0 W : World} {X : List Nx} {a : Option Addr} {c : Nat} {r : Int} {gn gp i : Nat} {Z : List Nx} {y : Nx} (h : CnI w wr X a c r gn gp i Z) (hR : RightIs X r) (hi : i < X.length) (hb : Below wr.heap.size wr W0) (hf : Fr (fun b => b = gn) W0 W) (hy : y.nd = renNd (pX X r) (X.getD i noNx).nd) (hA : AtN 42 W gn (nxV (Z.set ((oX X r).idxOf i) y)).toArray) (hO : OwnNx W W0.heap.size y) : CnI w W X a c r gn gp (i + 1) (Z.set ((oX X r).idxOf i) y) := by
  have hord := hR.ord
  have hgl := h.nodes.lt
  have hne : gp ≠ gn := fun e => by
    have h1 : wr.heap[gp]? = _ := h.places
    have h2 : wr.heap[gn]? = _ := h.nodes
    rw [e, h2] at h1
    injection h1 with h1
    injection h1 with _ h1
    exact absurd h1 (by decide)
  have hf2 : Fr (fun b => b = gn) wr W := (Fr.of_below (S := fun b => b = gn) hb).trans hf (fun _ e _ => e)
  have hal : Alien wr (fun b => b = gn) := fun b hb _ => by
    subst hb
    exact ⟨_, _, _, h.nodes, by decide, by decide, by decide⟩
  have hget : ∀ k, k < i + 1 → (Z.set ((oX X r).idxOf i) y).getD ((oX X r).idxOf k) noNx = if k = i then y else Z.getD ((oX X r).idxOf k) noNx := fun k hk => by
    have hil := hord.idx (x := i) (by rw [kX_length]; exact hi)
    rw [kX_length] at hil
    by_cases e : k = i
    · subst e
      rw [if_pos rfl, List.getD_eq_getElem?_getD, List.getElem?_set, if_pos rfl, if_pos (by rw [h.len]; exact hil)]
      rfl
    · rw [if_neg e, List.getD_eq_getElem?_getD, List.getElem?_set, if_neg (fun q => e (idx_inj (hord.all k (by rw [kX_length]; omega)) (hord.all i (by rw [kX_length]; omega)) q.symm)), ← List.getD_eq_getElem?_getD]
  refine ⟨by rw [List.length_set]; exact h.len, fun k hk => ?_, fun k hk => ?_, hA, h.places.fr hf2 hne, h.arg.fr hf2 (by have := h.big; omega), h.res.fr hf2 (by have := h.big; omega), Fr.below h.bel hf2 (fun b e => by have := h.big; omega) h.bel.size, h.big, fun k k' hk hk' hne q hq hq' => ?_⟩
  · rw [hget k hk]
    by_cases e : k = i
    · rw [if_pos e, hy, e]
    · rw [if_neg e]; exact h.nd k (by omega)
  · rw [hget k hk]
    by_cases e : k = i
    · rw [if_pos e]
      exact hO.mono (Nat.le_trans h.bel.size hb.size)
    · rw [if_neg e]; exact (h.own k (by omega)).fr hf2 hal
  · rw [hget k hk] at hq
    rw [hget k' hk'] at hq'
    have hold : ∀ m, m < i → kidB (Z.getD ((oX X r).idxOf m) noNx) = some q → q < wr.heap.size := fun m hm e => ((h.own m hm).k.lt q e).2
    have hnew : kidB y = some q → wr.heap.size ≤ q := fun e => Nat.le_trans hb.size (hO.k.lt q e).1
    by_cases e : k = i
    · rw [if_pos e] at hq
      rw [if_neg (by omega)] at hq'
      have := hold k' (by omega) hq'
      have := hnew hq
      omega
    · rw [if_neg e] at hq
      by_cases e' : k' = i
      · rw [if_pos e'] at hq'
        have := hold k (by omega) hq
        have := hnew hq'
        omega
      · rw [if_neg e'] at hq'
        exact h.ap k k' (by omega) (by omega) hne q hq hq'
/-- All are at their places. -/
theorem CnI.fin {w wr : World} {X : List Nx} {a : Option Addr} {c : Nat} {r : Int} {gn gp : Nat} {Z : List Nx} (h : CnI w wr X a c r gn gp X.length Z) (hR : RightIs X r) : Z.map Nx.nd = cX X r ∧ ScAt wr (some ⟨gn, 0, none⟩) Z := by
  have hord := hR.ord
  have hol : (oX X r).length = X.length := by have := hord.len; rwa [kX_length] at this
  have hat : ∀ j, (hj : j < X.length) → ∃ k, k < X.length ∧ (oX X r).idxOf k = j ∧ (oX X r)[j]? = some k := fun j hj => by
    have hj' : j < (oX X r).length := by omega
    refine ⟨(oX X r)[j], ?_, hord.good.nd.idxOf_getElem j hj', List.getElem?_eq_getElem hj'⟩
    have := hord.good.lt _ (List.getElem_mem hj')
    rwa [kX_length] at this
  constructor
  · refine List.ext_getElem? (fun j => ?_)
    by_cases hj : j < X.length
    · obtain ⟨k, hk, h1, h2⟩ := hat j hj
      unfold cX
      rw [List.getElem?_map, List.getElem?_map, h2, List.getElem?_eq_getElem (by rw [h.len]; exact hj)]
      have := h.nd k hk
      rw [h1, List.getD_eq_getElem?_getD, List.getElem?_eq_getElem (by rw [h.len]; exact hj)] at this
      simpa using this
    · rw [List.getElem?_eq_none (by rw [List.length_map, h.len]; omega), List.getElem?_eq_none (by unfold cX; rw [List.length_map]; omega)]
  · refine ⟨h.nodes.lsQ.toAt, fun j hj => ?_⟩
    rw [h.len] at hj
    obtain ⟨k, hk, h1, _⟩ := hat j hj
    have := h.own k hk
    rw [h1] at this
    exact this.ndAt

/-- What Canon tells. -/
def CanonOut (X : List Nx) (r : Int) (w w' : World) (e : Ending) : Prop := (RightIs X r → ∃ Y a' c', e = .returned (.tuple #[.agg #[.slice a' (List.length Y) c', .int .i64 ((X.length : Int) - 1)], .int .i64 0]) ∧ Y.map Nx.nd = cX X r ∧ ScAt w' a' Y) ∧ (¬ RightIs X r → ∃ n z, e = .returned (.tuple #[.agg #[.slice none 0 0, .int .i64 0], .int .i64 n]) ∧ CheckIs X r n z ∧ n ≠ 0) ∧ Below w.heap.size w w'

/-- A scene all of which is new. -/
structure OwnSc (w : World) (B gn : Nat) (Y : List Nx) : Prop where
  nodes : AtN 42 w gn (nxV Y).toArray
  own : ∀ j, j < Y.length → OwnNx w B (Y.getD j noNx)
  ap : Aprt Y
  ge : B ≤ gn
theorem OwnSc.scAt {w : World} {B gn : Nat} {Y : List Nx} (h : OwnSc w B gn Y) : ScAt w (some ⟨gn, 0, none⟩) Y := ⟨h.nodes.lsQ.toAt, fun j hj => (h.own j hj).ndAt⟩
/-- What Canon tells, and that it is new. -/
def CanonOut2 (X : List Nx) (r : Int) (w w' : World) (e : Ending) : Prop := (RightIs X r → ∃ (Y : List Nx) (gn : Nat), e = .returned (.tuple #[.agg #[.slice (some ⟨gn, 0, none⟩) Y.length Y.length, .int .i64 ((X.length : Int) - 1)], .int .i64 0]) ∧ Y.map Nx.nd = cX X r ∧ OwnSc w' w.heap.size gn Y) ∧ (¬ RightIs X r → ∃ n z, e = .returned (.tuple #[.agg #[.slice none 0 0, .int .i64 0], .int .i64 n]) ∧ CheckIs X r n z ∧ n ≠ 0) ∧ Below w.heap.size w w'

set_option maxRecDepth 10000 in
set_option maxHeartbeats 2000000 in
theorem canon2_any (X : List Nx) (a : Option Addr) (c : Nat) (r : Int) (w : World) (h : ScAt w a X) (hX : Small X) :
    Calls Tryd.prog 22 #[.agg #[.slice a X.length c, .int .i64 r]] w fun e w' => CanonOut2 X r w w' e := by
  obtain ⟨i0, hi0, hz0, hz1, hz2⟩ := info_parts Tryd.infoD9
  have hn := hX.1
  have HS : Hid (ScAt w a X ∧ Small X) := ⟨h, hX⟩
  clear h hX
  have HA : Hid (∀ (o1 o2 : Obj), o1 = .cells #[.slice a X.length c, .int .i64 r] 24 → o2 = .cells #[.slice none 0 0, .int .i64 0] 24 → AtN 24 ((w.alloc o1).alloc o2) w.heap.size #[.slice a X.length c, .int .i64 r] ∧ AtN 24 ((w.alloc o1).alloc o2) (w.heap.size + 1) #[.slice none 0 0, .int .i64 0] ∧ Below w.heap.size w ((w.alloc o1).alloc o2) ∧ ((w.alloc o1).alloc o2).heap.size = w.heap.size + 2) := by
    rintro _ _ rfl rfl
    exact ⟨(AtN.new w 24 _).alloc _, mk_at (AtN.new (w.alloc _) 24 _) (show _ = w.heap.size + 1 by simp), ((Below.refl w.heap.size w).alloc (Nat.le_refl _) _).alloc (by simp) _, by simp⟩
  go_enter Tryd.func22, Tryd.ntmps22
  go_wp2_with fail
  obtain ⟨h1, h2, h3, h4⟩ := HA.out _ _ rfl rfl
  refine (check_any X a c r _ (HS.out.1.belowB h3) HS.out.2).mono ?_
  rintro e w1 ⟨n, z, rfl, hc, hb1⟩
  have HA1 : Hid (AtN 24 w1 w.heap.size #[.slice a X.length c, .int .i64 r]) := h1.belowAll hb1
  have HR1 : Hid (AtN 24 w1 (w.heap.size + 1) #[.slice none 0 0, .int .i64 0]) := h2.belowAll hb1
  have HB1 : Hid (Below w.heap.size w w1) := h3.trans (hb1.mono h3.size)
  have hs1 : w.heap.size + 2 ≤ w1.heap.size := by have := hb1.size; omega
  have x0 : w1.cell? ⟨w.heap.size, 0, none⟩ = some (.slice a X.length c) := HA1.out.cell 0
  have x1 : w1.cell? ⟨w.heap.size, 1, none⟩ = some (.int .i64 r) := HA1.out.cell 1
  have HC : Hid (CheckIs X r n z) := hc
  clear HA h1 h2 h3 h4 hb1 hc
  by_cases hn0 : n = 0
  · subst hn0
    have hR : RightIs X r := HC.out.right.1 rfl
    have HN : Hid (Calls Tryd.prog 37 #[.agg #[.slice a X.length c, .int .i64 r]] w1 fun e w' => CanonicalOut X r w1 w' e) := canonical_any X a c r w1 (HS.out.1.belowB HB1.out) HS.out.2 hR
    have HR : Hid (RightIs X r) := hR
    clear hR HC
    go_wp2_with fail
    refine Calls.mono HN.out ?_
    rintro e w2 ⟨gp, rfl, hg, hgl, hb2⟩
    have HA2 : Hid (AtN 24 w2 w.heap.size #[.slice a X.length c, .int .i64 r]) := HA1.out.belowAll hb2
    have y0 : w2.cell? ⟨w.heap.size, 0, none⟩ = some (.slice a X.length c) := HA2.out.cell 0
    have hs2 : w1.heap.size ≤ w2.heap.size := hb2.size
    have hmk : (Instr.makeSlice 22 (.int .i64 (X.length : Int)) (.int .i64 (X.length : Int))).run Tryd.prog w2 = .ok (.slice (some ⟨w2.heap.size, 0, none⟩) X.length X.length) (w2.alloc (.cells (nxV (List.replicate X.length noNx)).toArray 42)) := by
      have := run_make (P := Tryd.prog) w2 22 42 i0 (.agg #[.int .i64 0, .slice none 0 0, .slice none 0 0, .slice none 0 0]) Tryd.underlying22 hi0 hz0 .i64 .i64 X.length X.length (by omega) (by omega) (by rw [hz2]; omega) (by omega)
      rw [hz1, Int.toNat_natCast, nxV_new] at this
      simpa using this
    have HI0 : Hid (CnI w (w2.alloc (.cells (nxV (List.replicate X.length noNx)).toArray 42)) X a c r w2.heap.size gp 0 (List.replicate X.length noNx)) :=
      ⟨by simp, fun k hk => by omega, fun k hk => by omega, AtN.new w2 42 _, hg.alloc _, HA2.out.alloc _, (HR1.out.belowAll hb2).alloc _, (HB1.out.trans (hb2.mono HB1.out.size)).alloc (by omega) _, by omega, fun k k' hk => by omega⟩
    have y0' : (w2.alloc (.cells (nxV (List.replicate X.length noNx)).toArray 42)).cell? ⟨w.heap.size, 0, none⟩ = some (.slice a X.length c) := HI0.out.arg.cell 0
    clear HN hg hgl hb2 HA1 HR1 HB1 HA2 x0 x1
    go_wp2_with fail
    clear hmk y0 y0'
    go_loopw [28] (fun iv wr => ∃ (i : Nat) (Z : List Nx), iv = .int .i64 i ∧ i ≤ X.length ∧ Hid (CnI w wr X a c r w2.heap.size gp i Z)) (fun iv _ => X.length - (intOf iv).toNat)
    case atStart => exact ⟨0, _, rfl, by omega, HI0⟩
    case round =>
      clear HI0
      obtain ⟨i, Z, rfl, hi, HI⟩ := hrel
      by_cases hlt : i < X.length
      · have hlt' : (i : Int) < X.length := by omega
        have hsc := ScAt.belowB HS.out.1 HI.out.bel
        obtain ⟨b, o, rfl, hbl, d0, d1, d2, d3⟩ := hsc.node hlt
        have hZl := HI.out.len
        have hjl : (oX X r).idxOf i < X.length := by have := HR.out.ord.idx (x := i) (by rw [kX_length]; exact hlt); rwa [kX_length] at this
        have g0' : wr.cell? ⟨gp, i, none⟩ = some (.int .i64 ((oX X r).idxOf i : Int)) := by rw [HI.out.places.cell i, zV_at _ _ _ hlt]
        have hgpl := HI.out.places.lt
        have hgnl := HI.out.nodes.lt
        have hne : gp ≠ w2.heap.size := fun e => by
          have h1 : wr.heap[gp]? = _ := HI.out.places
          have h2 : wr.heap[w2.heap.size]? = _ := HI.out.nodes
          rw [e, h2] at h1
          injection h1 with h1
          injection h1 with _ h1
          exact absurd h1 (by decide)
        have HW : Hid (∀ W0, W0 = wr.alloc (.cells #[.int .i64 (X.getD i noNx).nd.kind, .slice (X.getD i noNx).a1 (X.getD i noNx).nd.ints.length (X.getD i noNx).c1, .slice (X.getD i noNx).a2 (X.getD i noNx).nd.texts.length (X.getD i noNx).c2, .slice (X.getD i noNx).a3 (X.getD i noNx).nd.kids.length (X.getD i noNx).c3] 42) →
            ((∀ W, Fr (fun b => b = w2.heap.size) W0 W → Calls Tryd.prog 38 #[.agg #[.int .i64 (X.getD i noNx).nd.kind, .slice (X.getD i noNx).a1 (X.getD i noNx).nd.ints.length (X.getD i noNx).c1, .slice (X.getD i noNx).a2 (X.getD i noNx).nd.texts.length (X.getD i noNx).c2, .slice (X.getD i noNx).a3 (X.getD i noNx).nd.kids.length (X.getD i noNx).c3], .slice (some ⟨gp, 0, none⟩) X.length X.length] W fun e w' => NdOut W w' e (renNd (pX X r) (X.getD i noNx).nd)) ∧
            ∀ W (y : Nx), y.nd = renNd (pX X r) (X.getD i noNx).nd → AtN 42 W w2.heap.size (nxV (Z.set ((oX X r).idxOf i) y)).toArray → OwnNx W W0.heap.size y → Fr (fun b => b = w2.heap.size) W0 W → ∃ (i' : Nat) (Z' : List Nx), Value.int .i64 ((i : Int) + 1) = .int .i64 i' ∧ i' ≤ X.length ∧ Hid (CnI w W X (some ⟨b, o, none⟩) c r w2.heap.size gp i' Z')) ∧
            W0.cell? ⟨gp, i, none⟩ = some (.int .i64 ((oX X r).idxOf i : Int)) ∧ AtN 42 W0 wr.heap.size #[.int .i64 (X.getD i noNx).nd.kind, .slice (X.getD i noNx).a1 (X.getD i noNx).nd.ints.length (X.getD i noNx).c1, .slice (X.getD i noNx).a2 (X.getD i noNx).nd.texts.length (X.getD i noNx).c2, .slice (X.getD i noNx).a3 (X.getD i noNx).nd.kids.length (X.getD i noNx).c3] ∧ AtN 42 W0 w2.heap.size (nxV Z).toArray ∧ W0.heap.size = wr.heap.size + 1) := by
          rintro _ rfl
          refine ⟨⟨fun W hf => ?_, fun W y hy hA hO hf => ?_⟩, ((HI.out.places.alloc _).cell i).trans (zV_at _ _ _ hlt), AtN.new wr 42 _, HI.out.nodes.alloc _, by simp⟩
          · have hbW : Below w.heap.size w W := Fr.below (HI.out.bel.alloc HI.out.bel.size _) hf (fun b e => by have := HI.out.big; omega) (by have := HI.out.bel.size; simp; omega)
            exact renum_any (X.getD i noNx).nd (X.getD i noNx).a1 (X.getD i noNx).a2 (X.getD i noNx).a3 (X.getD i noNx).c1 (X.getD i noNx).c2 (X.getD i noNx).c3 gp X.length X.length (fun k => ((oX X r).idxOf k : Int)) W ((ScAt.belowB HS.out.1 hbW).each i hlt) (HS.out.2.2 i hlt) ((HI.out.places.alloc _).fr hf hne) (fun j hj => HR.out.2.1 i hlt j hj)
          · exact ⟨i + 1, _, by simp, hlt, HI.out.next HR.out hlt ((Below.refl wr.heap.size wr).alloc (Nat.le_refl _) _) hf hy hA hO⟩
        clear HI hsc HS HR g0'
        generalize (oX X r).idxOf i = j at *
        generalize X.getD i noNx = N at *
        generalize hp : pX X r = p at *
        clear hp
        go_wp2_with fail
        obtain ⟨h0, g0, hx, HZ0', hsz⟩ := HW.out _ rfl
        have HZ0 : Hid _ := HZ0'
        generalize wr.alloc (.cells #[.int .i64 N.nd.kind, .slice N.a1 N.nd.ints.length N.c1, .slice N.a2 N.nd.texts.length N.c2, .slice N.a3 N.nd.kids.length N.c3] 42) = W0 at *
        have H0 : Hid _ := h0
        have u0 : W0.cell? ⟨wr.heap.size, 0, none⟩ = some (.int .i64 N.nd.kind) := hx.cell 0
        have u1 : W0.cell? ⟨wr.heap.size, 1, none⟩ = some (.slice N.a1 N.nd.ints.length N.c1) := hx.cell 1
        have u2 : W0.cell? ⟨wr.heap.size, 2, none⟩ = some (.slice N.a2 N.nd.texts.length N.c2) := hx.cell 2
        have u3 : W0.cell? ⟨wr.heap.size, 3, none⟩ = some (.slice N.a3 N.nd.kids.length N.c3) := hx.cell 3
        have hgp0 : gp < W0.heap.size := by omega
        have hgx0 : wr.heap.size < W0.heap.size := by omega
        have hgxn : wr.heap.size ≠ w2.heap.size := by omega
        have hjl' : (j : Int) < X.length := by omega
        clear HW h0 hx HZ0' d0 d1 d2 d3
        refine facts_region6 (cnG w2.heap.size j Z W0) (cnF w2.heap.size gp X.length i j p N Z W0.heap.size) (by kernel_rfl) (by kernel_rfl) ⟨⟨Z, .inl rfl, HZ0.out⟩, (Fr.refl _ _).drew⟩ ?step ?fin
        case step =>
          intro i' o' ho a W hG hoff hdep K hQ hK
          have m0 : W.cell? ⟨gp, i, none⟩ = some (.int .i64 (j : Int)) := (World.cell?_of_block (hG.2.block gp hgp0 (by omega))).trans g0
          have n0 : W.cell? ⟨wr.heap.size, 0, none⟩ = some (.int .i64 N.nd.kind) := (World.cell?_of_block (hG.2.block wr.heap.size hgx0 (by omega))).trans u0
          have n1 : W.cell? ⟨wr.heap.size, 1, none⟩ = some (.slice N.a1 N.nd.ints.length N.c1) := (World.cell?_of_block (hG.2.block wr.heap.size hgx0 (by omega))).trans u1
          have n2 : W.cell? ⟨wr.heap.size, 2, none⟩ = some (.slice N.a2 N.nd.texts.length N.c2) := (World.cell?_of_block (hG.2.block wr.heap.size hgx0 (by omega))).trans u2
          have n3 : W.cell? ⟨wr.heap.size, 3, none⟩ = some (.slice N.a3 N.nd.kids.length N.c3) := (World.cell?_of_block (hG.2.block wr.heap.size hgx0 (by omega))).trans u3
          rcases i' with _|_|_|_|_|_|_|_|_|_|i'
          · obtain rfl := Option.some.inj ho
            have t7 : a.tmps[7]?.getD undef = .slice (some ⟨w2.heap.size, 0, none⟩) X.length X.length := hoff 7 (by kernel_rfl)
            clear hdep hoff
            go_simp
            exact hQ _ (rfl)
          · obtain rfl := Option.some.inj ho
            have t6 : a.tmps[6]?.getD undef = .slice (some ⟨gp, 0, none⟩) X.length X.length := hoff 6 (by kernel_rfl)
            clear hdep hoff
            go_simp
            exact hQ _ (rfl)
          · obtain rfl := Option.some.inj ho
            have t8 : a.tmps[8]?.getD undef = .int .i64 (i : Int) := hoff 8 (by kernel_rfl)
            clear hdep hoff
            go_simp
            exact hQ _ (rfl)
          · obtain rfl := Option.some.inj ho
            have e1 : a.tmps[34]?.getD undef = .slice (some ⟨gp, 0, none⟩) X.length X.length := hdep 1 _ (by kernel_rfl) rfl
            have e2 : a.tmps[35]?.getD undef = .int .i64 (i : Int) := hdep 2 _ (by kernel_rfl) rfl
            clear hdep hoff m0 n0 n1 n2 n3
            go_simp
            exact hQ _ (rfl)
          · obtain rfl := Option.some.inj ho
            have e3 : a.tmps[36]?.getD undef = .pointer (some ⟨gp, i, none⟩) := hdep 3 _ (by kernel_rfl) rfl
            clear hdep hoff n0 n1 n2 n3
            go_simp
            exact hQ _ (rfl)
          · obtain rfl := Option.some.inj ho
            have t9 : a.tmps[9]?.getD undef = .pointer (some ⟨wr.heap.size, 0, none⟩) := hoff 9 (by kernel_rfl)
            clear hdep hoff m0
            go_simp
            exact hQ _ (rfl)
          · obtain rfl := Option.some.inj ho
            have t6 : a.tmps[6]?.getD undef = .slice (some ⟨gp, 0, none⟩) X.length X.length := hoff 6 (by kernel_rfl)
            clear hdep hoff
            go_simp
            exact hQ _ (rfl)
          · obtain rfl := Option.some.inj ho
            have e5 : a.tmps[38]?.getD undef = .agg #[.int .i64 N.nd.kind, .slice N.a1 N.nd.ints.length N.c1, .slice N.a2 N.nd.texts.length N.c2, .slice N.a3 N.nd.kids.length N.c3] := hdep 5 _ (by kernel_rfl) rfl
            have e6 : a.tmps[39]?.getD undef = .slice (some ⟨gp, 0, none⟩) X.length X.length := hdep 6 _ (by kernel_rfl) rfl
            clear hdep hoff
            have HC : Hid (Calls Tryd.prog 38 #[.agg #[.int .i64 N.nd.kind, .slice N.a1 N.nd.ints.length N.c1, .slice N.a2 N.nd.texts.length N.c2, .slice N.a3 N.nd.kids.length N.c3], .slice (some ⟨gp, 0, none⟩) X.length X.length] W fun e w' => NdOut W w' e (renNd p N.nd)) := H0.out.1 W hG.2
            have HG : Hid (cnG w2.heap.size j Z W0 W) := hG
            clear hG m0 n0 n1 n2 n3
            go_simp
            refine Calls.mono HC.out ?_
            rintro e w' ⟨a1, c1, a2, c2, a3, c3, rfl, hO, hb⟩
            refine hK _ _ (HG.out.below hb) (cnF_below hb) ⟨⟨renNd p N.nd, a1, c1, a2, c2, a3, c3⟩, rfl, rfl, OwnNd.mono hO HG.out.2.size⟩
          · obtain rfl := Option.some.inj ho
            have e0 : a.tmps[33]?.getD undef = .slice (some ⟨w2.heap.size, 0, none⟩) X.length X.length := hdep 0 _ (by kernel_rfl) rfl
            have e4 : a.tmps[37]?.getD undef = .int .i64 (j : Int) := hdep 4 _ (by kernel_rfl) rfl
            clear hdep hoff m0 n0 n1 n2 n3
            go_simp
            exact hQ _ (rfl)
          · obtain rfl := Option.some.inj ho
            have e7 : ∃ y : Nx, y.nd = renNd p N.nd ∧ a.tmps[40]?.getD undef = .agg (nxC y).toArray ∧ OwnNx W W0.heap.size y := hdep 7 _ (by kernel_rfl) rfl
            have e8 : a.tmps[41]?.getD undef = .pointer (some ⟨w2.heap.size, j * 4, none⟩) := hdep 8 _ (by kernel_rfl) rfl
            clear hdep hoff
            obtain ⟨y, hy, ey, hO⟩ := e7
            have e40 : a.tmps[40]?.getD undef = .agg #[.int .i64 y.nd.kind, .slice y.a1 y.nd.ints.length y.c1, .slice y.a2 y.nd.texts.length y.c2, .slice y.a3 y.nd.kids.length y.c3] := ey
            obtain ⟨Z', hZ', hA⟩ := hG.1
            have hl' : Z'.length = X.length := by rcases hZ' with rfl | ⟨_, rfl⟩ <;> simp [hZl]
            have q0 : W.cell? ⟨w2.heap.size, j * 4, none⟩ = some (.int .i64 (Z'.getD j noNx).nd.kind) := (hA.cell _).trans (nxV_at' Z' j 0 (by omega) (by omega))
            have q1 : W.cell? ⟨w2.heap.size, j * 4 + 1, none⟩ = some (.slice (Z'.getD j noNx).a1 (Z'.getD j noNx).nd.ints.length (Z'.getD j noNx).c1) := (hA.cell _).trans (nxV_at' Z' j 1 (by omega) (by omega))
            have q2 : W.cell? ⟨w2.heap.size, j * 4 + 2, none⟩ = some (.slice (Z'.getD j noNx).a2 (Z'.getD j noNx).nd.texts.length (Z'.getD j noNx).c2) := (hA.cell _).trans (nxV_at' Z' j 2 (by omega) (by omega))
            have q3 : W.cell? ⟨w2.heap.size, j * 4 + 3, none⟩ = some (.slice (Z'.getD j noNx).a3 (Z'.getD j noNx).nd.kids.length (Z'.getD j noNx).c3) := (hA.cell _).trans (nxV_at' Z' j 3 (by omega) (by omega))
            have f0 := hA.fz (j * 4)
            have f1 := hA.fz (j * 4 + 1)
            have f2 := hA.fz (j * 4 + 2)
            have f3 := hA.fz (j * 4 + 3)
            have hgl := hA.lt
            have HS4 : Hid (AtN 42 ((((W.setCell ⟨w2.heap.size, j * 4, none⟩ (.int .i64 y.nd.kind)).setCell ⟨w2.heap.size, j * 4 + 1, none⟩ (.slice y.a1 y.nd.ints.length y.c1)).setCell ⟨w2.heap.size, j * 4 + 2, none⟩ (.slice y.a2 y.nd.texts.length y.c2)).setCell ⟨w2.heap.size, j * 4 + 3, none⟩ (.slice y.a3 y.nd.kids.length y.c3)) w2.heap.size (nxV (Z.set j y)).toArray) := by
              have := at_setNx hA j (by omega) y
              rwa [show Z'.set j y = Z.set j y by rcases hZ' with rfl | ⟨_, rfl⟩ <;> simp] at this
            have HF4 : Hid (∀ v0 v1 v2 v3, Fr (fun b => b = w2.heap.size) W ((((W.setCell ⟨w2.heap.size, j * 4, none⟩ v0).setCell ⟨w2.heap.size, j * 4 + 1, none⟩ v1).setCell ⟨w2.heap.size, j * 4 + 2, none⟩ v2).setCell ⟨w2.heap.size, j * 4 + 3, none⟩ v3)) := fun v0 v1 v2 v3 => ((((Fr.refl (fun b => b = w2.heap.size) W).set ⟨w2.heap.size, j * 4, none⟩ rfl v0).set ⟨w2.heap.size, j * 4 + 1, none⟩ rfl v1).set ⟨w2.heap.size, j * 4 + 2, none⟩ rfl v2).set ⟨w2.heap.size, j * 4 + 3, none⟩ rfl v3
            have HAl : Hid (Alien W (fun b => b = w2.heap.size)) := fun b hb _ => by
              subst hb
              exact ⟨_, _, _, hA, by decide, by decide, by decide⟩
            have HG : Hid (Fr (fun b => b = w2.heap.size) W0 W) := hG.2
            have HY : Hid (y.nd = renNd p N.nd ∧ OwnNx W W0.heap.size y) := ⟨hy, hO⟩
            clear hy ey hO hA hG m0 n0 n1 n2 n3 hZ' hl'
            generalize Z'.getD j noNx = M at *
            go_simp
            exact hK undef _ ⟨⟨_, .inr ⟨y, rfl⟩, HS4.out⟩, HG.out.trans (HF4.out _ _ _ _) (fun _ e _ => e)⟩ (cnF_set (HF4.out _ _ _ _) HAl.out) ⟨y, HY.out.1, HS4.out, HY.out.2.fr (HF4.out _ _ _ _) HAl.out⟩
          · exact absurd ho (by simp)
        case fin =>
          intro V W hG hF
          have y9 : ∃ y : Nx, y.nd = renNd p N.nd ∧ AtN 42 W w2.heap.size (nxV (Z.set j y)).toArray ∧ OwnNx W W0.heap.size y := hF 9 _ rfl
          obtain ⟨y, hy, hA, hO⟩ := y9
          have H9 := H0.out.2 W y hy hA hO hG.2
          have HN : Hid _ := H9
          clear hF hG H0 hA hO hy H9
          simp only [fillA, Act.put, List.setIfInBounds_toArray, List.set_cons_zero, List.set_cons_succ]
          generalize V (some 33) = z33
          generalize V (some 34) = z34
          generalize V (some 35) = z35
          generalize V (some 36) = z36
          generalize V (some 37) = z37
          generalize V (some 38) = z38
          generalize V (some 39) = z39
          generalize V (some 40) = z40
          generalize V (some 41) = z41
          go_wp2_with fail
          go_roundw
          case rel => exact HN.out
          case measure => simp [intOf]; omega
      · have hlt' : ¬ (i : Int) < X.length := by omega
        obtain rfl : i = X.length := by omega
        obtain ⟨hY, hYs⟩ := HI.out.fin HR.out
        have z0 : wr.cell? ⟨w.heap.size + 1, 0, none⟩ = some (.slice none 0 0) := HI.out.res.cell 0
        have z1 : wr.cell? ⟨w.heap.size + 1, 1, none⟩ = some (.int .i64 0) := HI.out.res.cell 1
        have f0 := HI.out.res.fz 0
        have f1 := HI.out.res.fz 1
        have hl1 := HI.out.res.lt
        have HW : Hid (∀ v0 v1, AtN 24 ((wr.setCell ⟨w.heap.size + 1, 0, none⟩ v0).setCell ⟨w.heap.size + 1, 1, none⟩ v1) (w.heap.size + 1) #[v0, v1] ∧ Fr (fun q => q = w.heap.size + 1) wr ((wr.setCell ⟨w.heap.size + 1, 0, none⟩ v0).setCell ⟨w.heap.size + 1, 1, none⟩ v1)) := fun v0 v1 => by
          refine ⟨?_, ((Fr.refl (fun q => q = w.heap.size + 1) wr).set ⟨w.heap.size + 1, 0, none⟩ rfl v0).set ⟨w.heap.size + 1, 1, none⟩ rfl v1⟩
          simpa using (HI.out.res.set 0 v0).set 1 v1
        have HF : Hid (∀ W, Fr (fun q => q = w.heap.size + 1) wr W → OwnSc W w.heap.size w2.heap.size Z ∧ Below w.heap.size w W) := fun W hf => by
          have hord' := HR.out.ord
          have hol' : (oX X r).length = X.length := by have := hord'.len; rwa [kX_length] at this
          have hwh : ∀ j, (hj : j < Z.length) → ∃ k, k < X.length ∧ (oX X r).idxOf k = j := fun j hj => by
            have hj' : j < (oX X r).length := by rw [hol', ← HI.out.len]; exact hj
            exact ⟨(oX X r)[j], by have := hord'.good.lt _ (List.getElem_mem hj'); rwa [kX_length] at this, hord'.good.nd.idxOf_getElem j hj'⟩
          refine ⟨⟨HI.out.nodes.fr hf (by have := HI.out.big; omega), fun j hj => ?_, fun j j' hjj hj' q h1 h2 => ?_, by have := HI.out.big; omega⟩, Fr.below HI.out.bel hf (fun b e => by omega) HI.out.bel.size⟩
          rotate_left
          · obtain ⟨k, hk, rfl⟩ := hwh j (by omega)
            obtain ⟨k', hk', rfl⟩ := hwh j' hj'
            exact HI.out.ap k k' hk hk' (fun e => by rw [e] at hjj; omega) q h1 h2
          · have hal : Alien wr (fun q => q = w.heap.size + 1) := fun b hb _ => by
              subst hb
              exact ⟨_, _, _, HI.out.res, by decide, by decide, by decide⟩
            have hord := HR.out.ord
            have hol : (oX X r).length = X.length := by have := hord.len; rwa [kX_length] at this
            have hj' : j < (oX X r).length := by rw [hol, ← HI.out.len]; exact hj
            have hk : (oX X r)[j] < X.length := by have := hord.good.lt _ (List.getElem_mem hj'); rwa [kX_length] at this
            have := (HI.out.own _ hk).fr hf hal
            rw [show (oX X r).idxOf (oX X r)[j] = j from hord.good.nd.idxOf_getElem j hj'] at this
            exact this
        have Hl : Hid (Z.length = X.length) := HI.out.len
        have HY : Hid (Z.map Nx.nd = cX X r) := hY
        clear HI hYs hY
        go_wp2_with fail
        obtain ⟨A, F⟩ := HW.out (.slice (some ⟨w2.heap.size, 0, none⟩) X.length X.length) (.int .i64 ((X.length : Int) - 1))
        obtain ⟨S1, B1⟩ := HF.out _ F
        have k0 := A.cell 0
        have k1 := A.cell 1
        exact bodyPost_ret (v := .tuple #[.agg #[.slice (some ⟨w2.heap.size, 0, none⟩) X.length X.length, .int .i64 ((X.length : Int) - 1)], .int .i64 0]) (by simp [results, Tryd.results22, go_sem, k0, k1]) rfl ⟨fun _ => ⟨Z, _, by rw [Hl.out], HY.out, S1⟩, fun q => absurd HR.out q, B1⟩
  · have HC2 : Hid (¬ RightIs X r) := fun q => hn0 (HC.out.right.2 q)
    have z0 : w1.cell? ⟨w.heap.size + 1, 0, none⟩ = some (.slice none 0 0) := HR1.out.cell 0
    have z1 : w1.cell? ⟨w.heap.size + 1, 1, none⟩ = some (.int .i64 0) := HR1.out.cell 1
    have f0 := HR1.out.fz 0
    have f1 := HR1.out.fz 1
    have hl1 := HR1.out.lt
    have HW : Hid (∀ v0 v1, AtN 24 ((w1.setCell ⟨w.heap.size + 1, 0, none⟩ v0).setCell ⟨w.heap.size + 1, 1, none⟩ v1) (w.heap.size + 1) #[v0, v1] ∧ Below w.heap.size w ((w1.setCell ⟨w.heap.size + 1, 0, none⟩ v0).setCell ⟨w.heap.size + 1, 1, none⟩ v1)) := fun v0 v1 => by
      refine ⟨?_, (HB1.out.setCell (p := ⟨w.heap.size + 1, 0, none⟩) (by show w.heap.size ≤ w.heap.size + 1; omega) v0).setCell (p := ⟨w.heap.size + 1, 1, none⟩) (by show w.heap.size ≤ w.heap.size + 1; omega) v1⟩
      simpa using (HR1.out.set 0 v0).set 1 v1
    clear HA1 HR1 HB1
    go_wp2_with fail
    obtain ⟨A, B1⟩ := HW.out (.slice none 0 0) (.int .i64 0)
    have k0 := A.cell 0
    have k1 := A.cell 1
    exact bodyPost_ret (v := .tuple #[.agg #[.slice none 0 0, .int .i64 0], .int .i64 n]) (by simp [results, Tryd.results22, go_sem, k0, k1]) rfl ⟨fun q => absurd q HC2.out, fun _ => ⟨n, z, rfl, HC.out, hn0⟩, B1⟩

theorem canon_any (X : List Nx) (a : Option Addr) (c : Nat) (r : Int) (w : World) (h : ScAt w a X) (hX : Small X) :
    Calls Tryd.prog 22 #[.agg #[.slice a X.length c, .int .i64 r]] w fun e w' => CanonOut X r w w' e := by
  refine Calls.mono (canon2_any X a c r w h hX) ?_
  rintro e w' ⟨h1, h2, h3⟩
  refine ⟨fun hR => ?_, h2, h3⟩
  obtain ⟨Y, gn, h4, h5, h6⟩ := h1 hR
  exact ⟨Y, _, _, h4, h5, h6.scAt⟩

/-- Its numbers are numbers of the machine's. -/
structure RgN (N : Nd) : Prop where
  kind : inR N.kind
  ints : ∀ k ∈ N.ints, inR k
  kids : ∀ k ∈ N.kids, inR k

end Go.Proofs.YtcdpjaaiojpelaaDoor
