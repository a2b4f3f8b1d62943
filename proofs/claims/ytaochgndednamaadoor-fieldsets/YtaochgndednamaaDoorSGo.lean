/- The contracts of the package schema's calls: a row told in new memory. -/
import Derived.Test.YtaochgndednamaaDoorAtn
import Derived.Test.YtaochgndednamaaDoorRows
import Derived.Deep.AppendLies
import Derived.Deep.RegionLaw
import Derived.Laws.OwnMore
namespace Go.Proofs.YtaochgndednamaaDoor
open Go.RowKit

theorem Tryd.infoI7 : (Tryd.prog.info? 3).map (fun i => (i.zero, i.size, i.bytes)) = some (some (.int .i64 0), 1, 8) := by kernel_rfl

/-- The classes of a row. -/
def nz (l : List Int) : List Int := l.filter (fun z => decide (z ≠ 0))
def iV (l : List Int) : List Value := l.map fun z => Value.int .i64 z

theorem nz_snoc (l : List Int) (z : Int) (h : z ≠ 0) : nz (l ++ [z]) = nz l ++ [z] := by simp [nz, h]
theorem nz_zero (l : List Int) : nz (l ++ [0]) = nz l := by simp [nz]
theorem iV_snoc (l : List Int) (z : Int) : iV (l ++ [z]) = iV l ++ [.int .i64 z] := by simp [iV]

/-- A list of numbers of the call's own, from block B on. -/
def Ints (w : World) (B : Nat) (v : Value) (l : List Int) : Prop := w.ownsRow B 3 1 v l.length (iV l)

/-- What a row's Spec is, while it is made: in blocks g (the answer) and g + 1 (what is made). -/
structure Mk (w wr : World) (t l m : Int) (v : Value) (L : List Int) : Prop where
  a1 : AtN 28 wr (w.heap.size + 1) #[.slice none 0 0, .int .i64 0, .int .i64 0, .int .i64 0]
  a2 : AtN 28 wr (w.heap.size + 1 + 1) #[v, .int .i64 t, .int .i64 l, .int .i64 m]
  own : wr.ownsRow (w.heap.size + 1 + 1 + 1) 3 1 v L.length (iV L)
  bel : Below w.heap.size w wr

theorem mk_at {T : TypeId} {w : World} {g g' : Nat} {cs : Array Value} (h : AtN T w g cs) (e : g = g') : AtN T w g' cs := e ▸ h

theorem own_shape7 {w : World} {B : Nat} {e : TypeId} {n : Nat} {v : Value} {xs : List Value} (h : w.ownsRow B e 1 v n xs) : ∃ a cap, v = .slice a n cap := by
  rcases h.2 with ⟨rfl, h2⟩ | ⟨g, cap, cur, rfl, _⟩
  · exact ⟨none, 0, by rw [h2]⟩
  · exact ⟨_, _, rfl⟩

set_option maxRecDepth 10000 in
set_option maxHeartbeats 400000 in
theorem spec_any (a0 a1 a2 a3 t l m : Int) (w : World) :
    Calls Tryd.prog 28 #[.agg #[.int .i64 a0, .int .i64 a1, .int .i64 a2, .int .i64 a3, .int .i64 t, .int .i64 l, .int .i64 m]] w fun e w' =>
      ∃ v, e = .returned (.agg #[v, .int .i64 t, .int .i64 l, .int .i64 m]) ∧ Ints w' (w.heap.size + 1) v (nz [a0, a1, a2, a3]) ∧ Below w.heap.size w w' := by
  obtain ⟨i0, hi, hz0, hz1, hz2⟩ := info_parts Tryd.infoI7
  go_enter Tryd.func28, Tryd.ntmps28
  go_wp2_with fail
  go_loopw [15] (fun iv wr => ∃ (i : Nat) (v : Value), iv = .int .i64 i ∧ i ≤ 4 ∧ Mk w wr t l m v (nz ([a0, a1, a2, a3].take i))) (fun iv _ => 4 - (intOf iv).toNat)
  case atStart =>
    refine ⟨0, .slice none 0 0, rfl, by omega, ?_, ?_, ⟨rfl, .inl ⟨rfl, rfl⟩⟩, ?_⟩
    · exact mk_at ((AtN.new (w.alloc _) 28 _).alloc _) (by simp)
    · exact mk_at (AtN.new ((w.alloc _).alloc _) 28 _) (by simp)
    · exact (((Below.refl _ _).alloc (Nat.le_refl _) _).alloc (by simp) _).alloc (by simp; omega) _
  case round =>
    obtain ⟨i, v, rfl, hi4, hM⟩ := hrel
    obtain ⟨ao, cap, rfl⟩ := own_shape7 hM.own
    have c0 : wr.cell? ⟨w.heap.size + 1 + 1, 0, none⟩ = some (.slice ao (nz (List.take i [a0, a1, a2, a3])).length cap) := hM.a2.cell 0
    have c1 : wr.cell? ⟨w.heap.size + 1 + 1, 1, none⟩ = some (.int .i64 t) := hM.a2.cell 1
    have c2 : wr.cell? ⟨w.heap.size + 1 + 1, 2, none⟩ = some (.int .i64 l) := hM.a2.cell 2
    have c3 : wr.cell? ⟨w.heap.size + 1 + 1, 3, none⟩ = some (.int .i64 m) := hM.a2.cell 3
    have hw3 := hM.a2.lt
    by_cases he : i = 4
    · subst he
      have d0 : wr.cell? ⟨w.heap.size + 1, 0, none⟩ = some (.slice none 0 0) := hM.a1.cell 0
      have d1 : wr.cell? ⟨w.heap.size + 1, 1, none⟩ = some (.int .i64 0) := hM.a1.cell 1
      have d2 : wr.cell? ⟨w.heap.size + 1, 2, none⟩ = some (.int .i64 0) := hM.a1.cell 2
      have d3 : wr.cell? ⟨w.heap.size + 1, 3, none⟩ = some (.int .i64 0) := hM.a1.cell 3
      have f0 := hM.a1.fz 0
      have f1 := hM.a1.fz 1
      have f2 := hM.a1.fz 2
      have f3 := hM.a1.fz 3
      have HM : Hid _ := hM
      clear hM
      go_wp2_with fail
      have hM := HM.out
      have hB := hM.bel.size
      have o1 := own_mono (own_set (own_set (own_set (own_set hM.own ⟨w.heap.size + 1, 0, none⟩ (fun r hr => by have := (hM.own.lt r hr).1; dsimp only; omega) (.slice ao (nz [a0, a1, a2, a3]).length cap)) ⟨w.heap.size + 1, 1, none⟩ (fun r hr => by have := (hM.own.lt r hr).1; dsimp only; omega) (.int .i64 t)) ⟨w.heap.size + 1, 2, none⟩ (fun r hr => by have := (hM.own.lt r hr).1; dsimp only; omega) (.int .i64 l)) ⟨w.heap.size + 1, 3, none⟩ (fun r hr => by have := (hM.own.lt r hr).1; dsimp only; omega) (.int .i64 m)) (by omega : w.heap.size + 1 ≤ w.heap.size + 1 + 1 + 1)
      have b1 := set_below (set_below (set_below (set_below hM.bel ⟨w.heap.size + 1, 0, none⟩ (by dsimp only; omega) (.slice ao (nz [a0, a1, a2, a3]).length cap)) ⟨w.heap.size + 1, 1, none⟩ (by dsimp only; omega) (.int .i64 t)) ⟨w.heap.size + 1, 2, none⟩ (by dsimp only; omega) (.int .i64 l)) ⟨w.heap.size + 1, 3, none⟩ (by dsimp only; omega) (.int .i64 m)
      exact bodyPost_ret (v := .agg #[.slice ao (nz [a0, a1, a2, a3]).length cap, .int .i64 t, .int .i64 l, .int .i64 m]) (by simp [results, Tryd.results28, go_sem, *]) rfl ⟨_, rfl, o1, b1⟩
    · obtain ⟨z, hz⟩ : ∃ z, [a0, a1, a2, a3][i]? = some z := by
        rcases (by omega : i = 0 ∨ i = 1 ∨ i = 2 ∨ i = 3) with rfl | rfl | rfl | rfl <;> exact ⟨_, rfl⟩
      have hidx : ∀ W : World, (Instr.index 58 (.agg #[.int .i64 a0, .int .i64 a1, .int .i64 a2, .int .i64 a3]) (.int .i64 i)).run Tryd.prog W = .ok (.int .i64 z) W := by
        intro W
        rcases (by omega : i = 0 ∨ i = 1 ∨ i = 2 ∨ i = 3) with rfl | rfl | rfl | rfl <;> (cases hz; kernel_rfl)
      have hlt : (i : Int) < 4 := by omega
      have HT : Hid ([a0, a1, a2, a3].take (i + 1) = [a0, a1, a2, a3].take i ++ [z]) := by show _ = _; rw [List.take_add_one, hz]; rfl
      clear hz
      by_cases h0 : z = 0
      · subst h0
        go_wp2_with fail
        go_roundw
        case rel => exact ⟨i + 1, _, by go_num, by omega, by rw [HT.out, nz_zero]; exact hM⟩
        case measure => simp [intOf]; omega
      · have hlen : (nz (List.take i [a0, a1, a2, a3])).length ≤ 4 := Nat.le_trans (List.length_filter_le _ _) (by simp; omega)
        have HS : Hid (nz (List.take (i + 1) [a0, a1, a2, a3]) = nz (List.take i [a0, a1, a2, a3]) ++ [z]) := by show _ = _; rw [HT.out, nz_snoc _ _ h0]
        have HM : Hid _ := hM
        clear hM
        generalize nz (List.take i [a0, a1, a2, a3]) = L at *
        go_wp2_with (at_builtin; refine wpList_append_lies _ rfl (.tmp 21) (.tmp 23) 24 rfl (w.heap.size + 1 + 1 + 1) 3 i0 (.int .i64 0) 1 8 Tryd.underlying24 hi hz0 hz1 hz2 rfl (by decide) _ L.length (iV L) rfl (HM.out.own.alloc _) ⟨wr.heap.size, 0, none⟩ 1 1 [.int .i64 z] rfl rfl (cell_one_new _ _ _) (by intro u hu; simp at hu; subst hu; rfl) (by decide) (by unfold maxLen; omega) (by omega) (by simp; omega) _ rfl ?_)
        intro g2 cap2 w2 hown2 hgrow2 hlie hlt2
        have hM := HM.out
        have hrow : ∀ r, (Value.slice ao L.length cap).ownBlock = some r → w.heap.size + 1 + 1 + 1 ≤ r := fun r hr => (hM.own.lt r hr).1
        have n1 : AtN 28 w2 (w.heap.size + 1) #[.slice none 0 0, .int .i64 0, .int .i64 0, .int .i64 0] := (hM.a1.alloc _).kept hgrow2 (fun e => by have := hrow _ e.symm; omega)
        have n2 : AtN 28 w2 (w.heap.size + 1 + 1) #[.slice ao L.length cap, .int .i64 t, .int .i64 l, .int .i64 m] := (hM.a2.alloc _).kept hgrow2 (fun e => by have := hrow _ e.symm; omega)
        have e0 : w2.cell? ⟨w.heap.size + 1 + 1, 0, none⟩ = some (.slice ao L.length cap) := n2.cell 0
        have f0 := n2.fz 0
        have hg2 : w.heap.size + 1 + 1 + 1 ≤ g2 := by
          rcases hlie with e | e
          · exact hrow _ e
          · omega
        have B2 : Below w.heap.size w w2 := (hM.bel.alloc hM.bel.size _).grown hgrow2 (by have := hM.bel.size; simp; omega) (fun k hk => by have := hrow k hk; omega)
        clear hgrow2 hM HM hlie hrow
        go_wp2_with fail
        go_roundw
        case rel =>
          refine ⟨i + 1, .slice (some ⟨g2, 0, none⟩) (L.length + 1) cap2, by go_num, by omega, ?_⟩
          rw [HS.out]
          exact ⟨n1.setOther _ (by dsimp only; omega) _, by simpa using n2.set 0 _, by simpa [iV] using own_set hown2 ⟨w.heap.size + 1 + 1, 0, none⟩ (fun r hr => by simp [Value.ownBlock] at hr; dsimp only; omega) _, set_below B2 _ (by dsimp only; omega) _⟩
        case measure => simp [intOf]; omega

end Go.Proofs.YtaochgndednamaaDoor
