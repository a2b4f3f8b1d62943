/- The contracts of ref's Depths and Ints. -/
import Derived.Test.YtnmdkbeicggfhaaGRchk
namespace Go.Proofs.Ytnmdkbeicggfhaa
open Go.RowKit Go.Maps Go.WideMaps Go.Sort

theorem fold1_mem (f : Nat → Nat) (l : List Nat) (k : Nat) (hk : k ∈ l) : f k ≤ fold1 f l := by
  have : ∀ (l : List Nat) (m : Nat), k ∈ l → f k ≤ l.foldl (fun m k => max m (f k)) m := by
    intro l
    induction l with
    | nil => intro m q; simp at q
    | cons x t ih =>
      intro m q
      rw [List.foldl_cons]
      rcases List.mem_cons.1 q with rfl | q
      · exact Nat.le_trans (Nat.le_max_right _ _) (foldl_ge f t _)
      · exact ih _ q
  exact this l 0 hk
theorem getD_toNat (l : List Int) (j : Nat) (hj : j < l.length) : (l.map Int.toNat).getD j 0 = (l.getD j 0).toNat := by simp [hj]
/-- Heights are one. -/
theorem HtIs.uniq {K : List (List Nat)} {h h' : Nat → Nat} (hh : HtIs K h) (hh' : HtIs K h') (hk : Ok9 K) : ∀ (n a : Nat), h a = n → a < K.length → h a = h' a := by
  intro n
  induction n using Nat.strongRecOn with
  | _ n ih =>
    intro a hn ha
    rw [hh a ha, hh' a ha]
    congr 1
    refine fold1_congr _ (fun k e => ih (h k) ?_ k rfl (hk a k e))
    have := fold1_mem h _ k e
    have := hh a ha
    omega

def DepsOut (X : List Nx) (h : Nat → Nat) (w w' : World) (e : Ending) : Prop := ∃ g out, e = .returned (.slice (some ⟨g, 0, none⟩) X.length X.length) ∧ AtN 3 w' g (fnV X.length out) ∧ (∀ x, x < X.length → out x = h x) ∧ Below w.heap.size w w'

/-- Are two lists the same? -/
def intsB (A B : List Nat) : Bool := decide (A = B)
set_option maxRecDepth 10000 in
set_option maxHeartbeats 400000 in
theorem ints_any (A B : List Nat) (a b : Option Addr) (c d : Nat) (w : World) (ha : LsAt w a (nV A)) (hb : LsAt w b (nV B)) (hA : A.length ≤ 1000) :
    Calls Try.prog 17 #[.slice a A.length c, .slice b B.length d] w fun e w' => e = .returned (.bool (intsB A B)) ∧ Below w.heap.size w w' := by
  have HS : Hid (LsAt w a (nV A) ∧ LsAt w b (nV B)) := ⟨ha, hb⟩
  have HB0 : Hid (Below w.heap.size w w) := Below.refl _ _
  clear ha hb
  by_cases hl : A.length = B.length
  · have Hl : Hid (A.length = B.length) := hl
    rw [← hl]
    clear hl
    go_enter Try.func17, Try.ntmps17
    go_wp2_with fail
    go_loopw [5] (fun iv wr => ∃ i : Nat, iv = .int .i64 i ∧ i ≤ A.length ∧ Hid (∀ k, k < i → A.getD k 0 = B.getD k 0) ∧ Hid (Below w.heap.size w wr)) (fun iv _ => A.length - (intOf iv).toNat)
    case atStart => exact ⟨0, rfl, by omega, fun k hk => by omega, HB0⟩
    case round =>
      obtain ⟨i, rfl, hi, HI, HB⟩ := hrel
      by_cases hlt : i < A.length
      · have hlt' : (i : Int) < A.length := by omega
        obtain ⟨g1, o1, rfl, l1, d1⟩ := (HS.out.1.belowB HB.out).at (nV_at A i hlt)
        obtain ⟨g2, o2, rfl, l2, d2⟩ := (HS.out.2.belowB HB.out).at (nV_at B i (by rw [← Hl.out]; exact hlt))
        by_cases he : A.getD i 0 = B.getD i 0
        · have HV : Hid (∀ k, k < i + 1 → A.getD k 0 = B.getD k 0) := fun k hk => by
            by_cases e : k = i
            · rw [e]; exact he
            · exact HI.out k (by omega)
          rw [← he] at d2
          generalize A.getD i 0 = x at *
          clear HI HS he
          go_wp2_with fail
          go_quiet (fail)
          go_wp2_with fail
          go_roundw
          case rel => exact ⟨i + 1, by go_num, by omega, HV, dn_below HB.out _⟩
          case measure => simp [intOf]; omega
        · have HV : Hid (intsB A B = false) := decide_eq_false (fun q => he (by rw [q]))
          have he' : ¬ ((A.getD i 0 : Nat) : Int) = (B.getD i 0 : Nat) := by omega
          generalize A.getD i 0 = x at *
          generalize B.getD i 0 = y at *
          clear HI HS he
          go_wp2_with fail
          go_quiet (fail)
          go_wp2_with fail
          go_ret
          rw [HV.out]
          exact ⟨rfl, dn_below HB.out _⟩
      · have hlt' : ¬ (i : Int) < A.length := by omega
        have HV : Hid (intsB A B = true) := decide_eq_true (List.ext_getElem Hl.out (fun k h1 h2 => by
          have := HI.out k (by omega)
          rw [List.getD_eq_getElem?_getD, List.getD_eq_getElem?_getD, List.getElem?_eq_getElem h1, List.getElem?_eq_getElem h2] at this
          exact this))
        clear HI HS
        go_wp2_with fail
        go_ret
        rw [HV.out]
        exact ⟨rfl, HB.out⟩
  · have hl' : ¬ (A.length : Int) = B.length := by omega
    have HV : Hid (intsB A B = false) := decide_eq_false (fun q => hl (by rw [q]))
    clear HS
    go_enter Try.func17, Try.ntmps17
    go_wp2_with fail
    go_ret
    rw [HV.out]
    exact ⟨rfl, HB0.out⟩

end Go.Proofs.Ytnmdkbeicggfhaa
