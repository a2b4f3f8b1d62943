/- The contracts of the library's Index, Contains, Min of numbers, and of the program's isCycle. -/
import Derived.Test.YtcdpjaaiojpelaaDoorGTurn
namespace Go.Proofs.YtcdpjaaiojpelaaDoor
open Go.RowKit Go.Maps Go.WideMaps Go.Sort

def IndexOut (l : List Nat) (x : Nat) (w w' : World) (e : Ending) : Prop := ∃ z : Int, e = .returned (.int .i64 z) ∧ (0 ≤ z ↔ x ∈ l) ∧ w' = w

set_option maxRecDepth 10000 in
set_option maxHeartbeats 400000 in
theorem index_any (l : List Nat) (a : Option Addr) (c x : Nat) (w : World) (h : LsAt w a (nV l)) (hl : l.length ≤ 20000) :
    Calls Tryd.prog 67 #[.slice a l.length c, .int .i64 (x : Int)] w fun e w' => IndexOut l x w w' e := by
  have HS : Hid (LsAt w a (nV l)) := h
  clear h
  go_enter Tryd.func67, Tryd.ntmps67
  go_wp2_with fail
  go_loopw [8] (fun iv wr => ∃ i : Nat, iv = .int .i64 i ∧ i ≤ l.length ∧ Hid (∀ k, k < i → l.getD k 0 ≠ x) ∧ Hid (wr = w)) (fun iv _ => l.length - (intOf iv).toNat)
  case atStart => exact ⟨0, rfl, by omega, fun k hk => by omega, rfl⟩
  case round =>
    obtain ⟨i, rfl, hi, HI, HWr⟩ := hrel
    obtain rfl : wr = w := HWr.out
    by_cases hlt : i < l.length
    · have hlt' : (i : Int) < l.length := by omega
      obtain ⟨b, o, rfl, hb, d0⟩ := HS.out.at (nV_at l i hlt)
      by_cases he : x = l.getD i 0
      · have HM : Hid (x ∈ l) := he ▸ getD_mem hlt
        rw [← he] at d0
        clear HI he
        go_wp2_with fail
        go_ret
        exact ⟨_, rfl, ⟨fun _ => HM.out, fun _ => by omega⟩, rfl⟩
      · have HV : Hid (∀ k, k < i + 1 → l.getD k 0 ≠ x) := fun k hk => by
          by_cases e : k = i
          · rw [e]; exact fun q => he q.symm
          · exact HI.out k (by omega)
        generalize l.getD i 0 = y at *
        have he' : ¬ ((x : Int) = y) := by omega
        clear HI
        go_wp2_with fail
        go_roundw
        case rel => exact ⟨i + 1, by go_num, by omega, HV, by simp [Hid]⟩
        case measure => simp [intOf]; omega
    · have hlt' : ¬ (i : Int) < l.length := by omega
      have HM : Hid (x ∉ l) := fun q => by
        obtain ⟨k, hk, e⟩ := List.getElem_of_mem q
        exact HI.out k (by omega) (by rw [List.getD_eq_getElem?_getD, List.getElem?_eq_getElem hk]; exact e)
      clear HI HS
      go_wp2_with fail
      go_ret
      exact ⟨_, rfl, ⟨fun q => by omega, fun q => absurd q HM.out⟩, rfl⟩

set_option maxRecDepth 10000 in
set_option maxHeartbeats 400000 in
theorem contains_any (l : List Nat) (a : Option Addr) (c x : Nat) (w : World) (h : LsAt w a (nV l)) (hl : l.length ≤ 20000) :
    Calls Tryd.prog 63 #[.slice a l.length c, .int .i64 (x : Int)] w fun e w' => e = .returned (.bool (l.contains x)) ∧ w' = w := by
  have HI : Hid (Calls Tryd.prog 67 #[.slice a l.length c, .int .i64 (x : Int)] w fun e w' => IndexOut l x w w' e) := index_any l a c x w h hl
  clear h
  by_cases hx : x ∈ l
  · rw [show l.contains x = true by simpa using hx]
    go_enter Tryd.func63, Tryd.ntmps63
    go_wp2_with fail
    refine Calls.mono HI.out ?_
    rintro e w1 ⟨z, rfl, hz, rfl⟩
    have hz' := hz.2 hx
    clear hz HI
    go_wp2_with fail
    go_ret
    exact ⟨rfl, rfl⟩
  · rw [show l.contains x = false by simpa using hx]
    go_enter Tryd.func63, Tryd.ntmps63
    go_wp2_with fail
    refine Calls.mono HI.out ?_
    rintro e w1 ⟨z, rfl, hz, rfl⟩
    have hz' : ¬ (0 ≤ z) := fun q => hx (hz.1 q)
    clear hz HI
    go_wp2_with fail
    go_ret
    refine ⟨?_, rfl⟩
    show Ending.returned (.bool (decide (0 ≤ z))) = _
    rw [decide_eq_false (by omega)]

/-- What Min tells. -/
def MinOut (l : List Nat) (w w' : World) (e : Ending) : Prop := ∃ m : Nat, e = .returned (.int .i64 (m : Int)) ∧ m ∈ l ∧ (∀ x ∈ l, m ≤ x) ∧ w' = w

set_option maxRecDepth 10000 in
set_option maxHeartbeats 400000 in
theorem min_any (l : List Nat) (a : Option Addr) (c : Nat) (w : World) (h : LsAt w a (nV l)) (hl : l.length ≤ 20000) (h0 : 0 < l.length) :
    Calls Tryd.prog 59 #[.slice a l.length c] w fun e w' => MinOut l w w' e := by
  have HS : Hid (LsAt w a (nV l)) := h
  have h0' : ¬ ((l.length : Int) < 1) := by omega
  obtain ⟨b, o, rfl, hb, d0⟩ := h.at (nV_at l 0 h0)
  rw [Nat.add_zero] at d0
  have HM : Hid (l.getD 0 0 ∈ l ∧ ∀ k, k < 1 → l.getD 0 0 ≤ l.getD k 0) := ⟨getD_mem h0, fun k hk => by rw [show k = 0 by omega]; exact Nat.le_refl _⟩
  generalize l.getD 0 0 = m0 at *
  clear h
  go_enter Tryd.func59, Tryd.ntmps59
  go_wp2_with fail
  go_loopw [3, 4] (fun mv iv wr => ∃ m i : Nat, mv = .int .i64 (m : Int) ∧ iv = .int .i64 i ∧ 1 ≤ i ∧ i ≤ l.length ∧ Hid (m ∈ l ∧ ∀ k, k < i → m ≤ l.getD k 0) ∧ Hid (wr = w)) (fun _ iv _ => l.length - (intOf iv).toNat)
  case atStart => exact ⟨m0, 1, rfl, rfl, by omega, by omega, HM, rfl⟩
  case round =>
    clear HM d0
    obtain ⟨m, i, rfl, rfl, hi1, hi, HI, HWr⟩ := hrel
    obtain rfl : wr = w := HWr.out
    by_cases hlt : i < l.length
    · have hlt' : (i : Int) < l.length := by omega
      obtain ⟨b2, o2, e2, hb2, d1⟩ := HS.out.at (nV_at l i hlt)
      cases e2
      have HV : Hid (min m (l.getD i 0) ∈ l ∧ ∀ k, k < i + 1 → min m (l.getD i 0) ≤ l.getD k 0) := by
        refine ⟨?_, fun k hk => ?_⟩
        · rcases Nat.le_total m (l.getD i 0) with q | q
          · rw [Nat.min_eq_left q]; exact HI.out.1
          · rw [Nat.min_eq_right q]; exact getD_mem hlt
        · by_cases e : k = i
          · rw [e]; exact Nat.min_le_right _ _
          · exact Nat.le_trans (Nat.min_le_left _ _) (HI.out.2 k (by omega))
      generalize l.getD i 0 = y at *
      clear HI HS
      go_wp2_with fail
      go_roundw
      case rel => exact ⟨min m y, i + 1, by simp; split <;> omega, by go_num, by omega, by omega, HV, by simp [Hid]⟩
      case measure => simp [intOf]; omega
    · have hlt' : ¬ (i : Int) < l.length := by omega
      have HV : Hid (MinOut l wr wr (.returned (.int .i64 (m : Int)))) := ⟨m, rfl, HI.out.1, fun x hx => by
        obtain ⟨k, hk, e⟩ := List.getElem_of_mem hx
        have := HI.out.2 k (by omega)
        rw [List.getD_eq_getElem?_getD, List.getElem?_eq_getElem hk] at this
        simpa [e] using this, rfl⟩
      clear HI HS
      go_wp2_with fail
      go_ret
      exact HV.out

set_option maxRecDepth 10000 in
set_option maxHeartbeats 800000 in
theorem iscycle_any {Q : Nat → Prop} (L : List Ln) (a ar : Option Addr) (c cr : Nat) (ring : List Nat) (w : World) (hl : LkQ Q w a L) (hr : LsAt w ar (nV ring)) (hs : Lim L) (hx : ∀ x ∈ ring, x < L.length) (hlen : ring.length ≤ 61) :
    Calls Tryd.prog 58 #[.slice a L.length c, .slice ar ring.length cr] w fun e w' => e = .returned (.bool (ringB (kOf L) ring)) ∧ Below w.heap.size w w' := by
  have HB : Hid (∀ q, Below w.heap.size w (w.drewN q)) := fun q => dn_below (Below.refl _ _) q
  by_cases h1 : 1 < ring.length
  · have h1' : (1 : Int) < ring.length := by omega
    rw [show ringB (kOf L) ring = true by unfold ringB; rw [decide_eq_true h1]; rfl]
    clear hl hr hs hx
    go_enter Tryd.func58, Tryd.ntmps58
    go_wp2_with fail
    go_quiet (fail)
    go_wp2_with fail
    go_ret
    exact ⟨rfl, HB.out _⟩
  · have h1' : ¬ (1 : Int) < ring.length := by omega
    by_cases h2 : ring.length = 1
    · have h2' : (ring.length : Int) = 1 := by omega
      have hxl := hx _ (getD_mem (show 0 < ring.length by omega))
      have HR : Hid (ringB (kOf L) ring = ((kOf L).getD (ring.getD 0 0) []).contains (ring.getD 0 0)) := by
        show _ = _
        unfold ringB
        rw [decide_eq_false h1, decide_eq_true h2]
        rfl
      obtain ⟨b, o, rfl, hb, d0⟩ := hr.at (nV_at ring 0 (by omega))
      rw [Nat.add_zero] at d0
      obtain ⟨b1, o1, rfl, hb1, d1⟩ := hl.top.at (lnV_at L (ring.getD 0 0) hxl)
      have hE := (hl.each _ hxl).toAt
      have hkl := hs.2 _ hxl
      have hK := kOf_at L (ring.getD 0 0)
      generalize ring.getD 0 0 = x at *
      generalize L.getD x noLn = N at *
      have hxl' : (x : Int) < L.length := by omega
      have hC : Hid (∀ q, Calls Tryd.prog 63 #[.slice N.a N.ks.length N.c, .int .i64 (x : Int)] (w.drewN q) fun e w' => e = .returned (.bool (N.ks.contains x)) ∧ w' = w.drewN q) := fun q => contains_any N.ks N.a N.c x (w.drewN q) hE hkl
      rw [hK] at HR
      rw [HR.out]
      clear hl hr hs hx hE HR hK
      rw [h2] at *
      generalize N.ks.contains x = R at *
      go_enter Tryd.func58, Tryd.ntmps58
      go_wp2_with fail
      go_quiet ((go_at_call 63; exact Calls.quiet_of_same (hC.out _)))
      go_wp2_with fail
      go_ret
      exact ⟨rfl, HB.out _⟩
    · have h2' : ring.length = 0 := by omega
      rw [show ringB (kOf L) ring = false by unfold ringB; rw [decide_eq_false h1, decide_eq_false h2]; rfl]
      clear hl hr hs hx
      rw [h2']
      go_enter Tryd.func58, Tryd.ntmps58
      go_wp2_with fail
      go_quiet (fail)
      go_wp2_with fail
      go_ret
      exact ⟨rfl, HB.out _⟩

end Go.Proofs.YtcdpjaaiojpelaaDoor
