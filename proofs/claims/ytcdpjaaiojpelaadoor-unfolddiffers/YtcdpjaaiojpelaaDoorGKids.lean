/- The contract of the program's kids: a scene's links. -/
import Derived.Test.YtcdpjaaiojpelaaDoorGRefs
namespace Go.Proofs.YtcdpjaaiojpelaaDoor
open Go.RowKit Go.Maps Go.WideMaps Go.Sort

/-- A node's links. -/
def lnOf (x : Nx) : Ln := ⟨x.nd.kids.map Int.toNat, x.a3, x.c3⟩
theorem lnOf_cell (x : Nx) : Value.slice (lnOf x).a (lnOf x).ks.length (lnOf x).c = .slice x.a3 x.nd.kids.length x.c3 := by simp [lnOf]
theorem nV_toNat {n : Nat} (l : List Int) (h : ∀ j, j < l.length → isPb n (l.getD j 0) = true) : nV (l.map Int.toNat) = iV l := by
  unfold nV iV
  rw [List.map_map]
  refine List.map_congr_left fun k hk => ?_
  obtain ⟨j, hj, rfl⟩ := List.getElem_of_mem hk
  have := isPb_iff.1 (h j hj)
  rw [show l.getD j 0 = l[j] by simp [hj]] at this
  simp only [Function.comp]
  rw [Int.toNat_of_nonneg this.1]
/-- A scene's links. -/
def lks (X : List Nx) : List Ln := X.map lnOf
theorem lks_length (X : List Nx) : (lks X).length = X.length := by simp [lks]
theorem lks_at (X : List Nx) (i : Nat) (h : i < X.length) : (lks X).getD i noLn = lnOf (X.getD i noNx) := by simp [lks, h]
/-- The kids of a scene's nodes, as places. -/
def kX (X : List Nx) : List (List Nat) := kOf (lks X)
theorem kX_length (X : List Nx) : (kX X).length = X.length := by simp [kX, kOf, lks]
theorem kX_at (X : List Nx) (i : Nat) (h : i < X.length) : (kX X).getD i [] = (X.getD i noNx).nd.kids.map Int.toNat := by
  rw [kX, kOf_at, lks_at X i h]
  rfl
theorem kX_ok {X : List Nx} (h : ∀ i, i < X.length → okAt X i) : Ok9 (kX X) := by
  intro a b e
  have ha : a < X.length := by have := e.lt; rwa [kX_length] at this
  unfold Ed at e
  rw [kX_at X a ha] at e
  obtain ⟨k, hk, rfl⟩ := List.mem_map.1 e
  obtain ⟨j, hj, rfl⟩ := List.getElem_of_mem hk
  have := isPb_iff.1 (h a ha j hj)
  rw [show (X.getD a noNx).nd.kids.getD j 0 = (X.getD a noNx).nd.kids[j] by rw [List.getD_eq_getElem?_getD, List.getElem?_eq_getElem hj]; rfl] at this
  rw [kX_length]
  omega

theorem Tryd.infoL9 : (Tryd.prog.info? 38).map (fun i => (i.zero, i.size, i.bytes)) = some (some (.slice none 0 0), 1, 24) := by kernel_rfl
/-- A list that is being filled. -/
def filled (vs : List Value) (n : Nat) (z : Value) : Array Value := (vs ++ List.replicate (n - vs.length) z).toArray
theorem filled_new (n : Nat) (z : Value) (hz : z.cells = #[z]) : madeCells z.cells (n * 1) = filled [] n z := by
  apply Array.ext
  · simp [size_madeCells, filled]
  · intro i h1 h2
    have h0 : i % 1 = 0 := Nat.mod_one i
    simp [madeCells, filled, hz, h0]
theorem filled_set (vs : List Value) (n : Nat) (z v : Value) (h : vs.length < n) : (filled vs n z).setIfInBounds vs.length v = filled (vs ++ [v]) n z := by
  unfold filled
  rw [show n - vs.length = (n - (vs ++ [v]).length) + 1 by simp; omega, List.replicate_succ]
  apply Array.ext'
  simp
theorem filled_all (vs : List Value) (n : Nat) (z : Value) (h : vs.length = n) : filled vs n z = vs.toArray := by
  unfold filled
  rw [h]
  simp
theorem AtN.lsQ {T : TypeId} {w : World} {g : Nat} {vs : List Value} (h : AtN T w g vs.toArray) : LsQ (fun b => b = g) w (some ⟨g, 0, none⟩) vs :=
  ⟨g, 0, fun _ => rfl, fun i hi => ⟨⟨rfl, h.lt⟩, by rw [Nat.zero_add, h.cell i]; simp⟩⟩

def KidsOut (X : List Nx) (w w' : World) (e : Ending) : Prop := ∃ a, e = .returned (.slice a (lks X).length (lks X).length) ∧ LkQ (fun _ => True) w' a (lks X) ∧ Below w.heap.size w w'

set_option maxRecDepth 10000 in
set_option maxHeartbeats 400000 in
theorem kids_any (X : List Nx) (a : Option Addr) (c : Nat) (r : Int) (w : World) (h : ScAt w a X) (hX : Small X) (hok : ∀ i, i < X.length → okAt X i) :
    Calls Tryd.prog 44 #[.agg #[.slice a X.length c, .int .i64 r]] w fun e w' => KidsOut X w w' e := by
  have HS : Hid _ := And.intro h (And.intro hX hok)
  have hn := hX.1
  obtain ⟨i1, hi1, hz10, hz11, hz12⟩ := info_parts Tryd.infoL9
  have hmk : (Instr.makeSlice 68 (.int .i64 (X.length : Int)) (.int .i64 (X.length : Int))).run Tryd.prog (w.alloc (.cells #[.slice a X.length c, .int .i64 r] 24)) = .ok (.slice (some ⟨w.heap.size + 1, 0, none⟩) X.length X.length) ((w.alloc (.cells #[.slice a X.length c, .int .i64 r] 24)).alloc (.cells (filled [] X.length (.slice none 0 0)) 38)) := by
    have := run_make (P := Tryd.prog) (w.alloc (.cells #[.slice a X.length c, .int .i64 r] 24)) 68 38 i1 (.slice none 0 0) Tryd.underlying68 hi1 hz10 .i64 .i64 X.length X.length (by omega) (by omega) (by rw [hz12]; omega) (by omega)
    rw [hz11, Int.toNat_natCast, filled_new _ _ rfl] at this
    simpa using this
  have HB : Hid (Below w.heap.size w ((w.alloc (.cells #[.slice a X.length c, .int .i64 r] 24)).alloc (.cells (filled [] X.length (.slice none 0 0)) 38))) := ((Below.refl w.heap.size w).alloc (Nat.le_refl _) _).alloc (by simp) _
  have HA : Hid (AtN 38 ((w.alloc (.cells #[.slice a X.length c, .int .i64 r] 24)).alloc (.cells (filled [] X.length (.slice none 0 0)) 38)) (w.heap.size + 1) (filled [] X.length (.slice none 0 0))) := mk_at (AtN.new _ 38 _) (by simp)
  have hsz : (w.alloc (.cells #[.slice a X.length c, .int .i64 r] 24)).heap.size = w.heap.size + 1 := by simp
  have HF : Hid (filled [] X.length (.slice none 0 0) = filled (lnV ((lks X).take 0)) X.length (.slice none 0 0)) := by
    show _ = _
    simp [lnV]
  clear h hX hok
  generalize filled [] X.length (.slice none 0 0) = f0 at *
  go_enter Tryd.func44, Tryd.ntmps44
  go_wp2_with fail
  go_loopw [13] (fun iv wr => ∃ i : Nat, iv = .int .i64 i ∧ i ≤ X.length ∧ AtN 38 wr (w.heap.size + 1) (filled (lnV ((lks X).take i)) X.length (.slice none 0 0)) ∧ Below w.heap.size w wr) (fun iv _ => X.length - (intOf iv).toNat)
  case atStart => exact ⟨0, rfl, by omega, HF.out ▸ HA.out, HB.out⟩
  case round =>
    clear HF HA HB hmk hsz
    obtain ⟨i, rfl, hi, n1, hb⟩ := hrel
    by_cases hlt : i < X.length
    · have hlt' : (i : Int) < X.length := by omega
      obtain ⟨b, o, rfl, hbl, d0, d1, d2, d3⟩ := (ScAt.belowB HS.out.1 hb).node hlt
      have hlen : (lnV ((lks X).take i)).length = i := by rw [lnV_length, List.length_take, lks_length]; omega
      have HV : Hid ((filled (lnV ((lks X).take i)) X.length (.slice none 0 0)).setIfInBounds i (.slice (X.getD i noNx).a3 (X.getD i noNx).nd.kids.length (X.getD i noNx).c3) = filled (lnV ((lks X).take (i + 1))) X.length (.slice none 0 0)) := by
        have := filled_set (lnV ((lks X).take i)) X.length (.slice none 0 0) (.slice (X.getD i noNx).a3 (X.getD i noNx).nd.kids.length (X.getD i noNx).c3) (by rw [hlen]; exact hlt)
        rw [hlen] at this
        show _ = _
        rw [this, ← lnOf_cell, List.take_add_one, List.getElem?_eq_getElem (by rw [lks_length]; exact hlt)]
        congr 1
        simp [lnV, lks, hlt]
      have y0 : ∃ v, wr.cell? ⟨w.heap.size + 1, i, none⟩ = some v := by
        rw [n1.cell i]
        exact ⟨_, Array.getElem?_eq_getElem (by simp [filled, hlen]; omega)⟩
      obtain ⟨v0, y0⟩ := y0
      have yf := n1.fz i
      have hbs := hb.size
      have hgl := n1.lt
      generalize X.getD i noNx = N at *
      have HN : Hid _ := And.intro n1 hb
      have y1 := fun o => (AtN.alloc n1 o).fz i
      have y2 : ∀ o, (wr.alloc o).cell? ⟨w.heap.size + 1, i, none⟩ = some v0 := fun o => by rw [← y0, (AtN.alloc n1 o).cell, n1.cell]
      clear n1 hb HS hlen yf
      go_wp2_with fail
      go_roundw
      case rel =>
        refine ⟨i + 1, by go_num, by omega, ?_, ?_⟩
        · rw [← HV.out]
          exact AtN.alloc (AtN.set HN.out.1 i _) _
        · exact (set_below HN.out.2 _ (by show w.heap.size ≤ w.heap.size + 1; omega) _).alloc (by simpa [World.setCell] using hbs) _
      case measure => simp [intOf]; omega
    · have hlt' : ¬ (i : Int) < X.length := by omega
      have HN : Hid (AtN 38 wr (w.heap.size + 1) (lnV (lks X)).toArray ∧ Below w.heap.size w wr) := by
        refine ⟨?_, hb⟩
        rw [← filled_all (lnV (lks X)) X.length (.slice none 0 0) (by rw [lnV_length, lks_length])]
        rw [List.take_of_length_le (by rw [lks_length]; omega)] at n1
        exact n1
      clear n1 hb
      go_wp2_with fail
      go_ret
      refine ⟨some ⟨w.heap.size + 1, 0, none⟩, by rw [lks_length]; rfl, ⟨HN.out.1.lsQ.mono fun _ _ _ => trivial, fun k hk => ?_⟩, HN.out.2⟩
      rw [lks_length] at hk
      rw [lks_at X k hk]
      have := ((ScAt.belowB HS.out.1 HN.out.2).each k hk).k
      rw [← nV_toNat _ (HS.out.2.2 k hk)] at this
      exact this.toQ.mono fun _ _ _ => trivial

end Go.Proofs.YtcdpjaaiojpelaaDoor
