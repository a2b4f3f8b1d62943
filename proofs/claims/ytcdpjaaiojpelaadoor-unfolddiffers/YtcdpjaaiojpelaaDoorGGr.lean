/- The contract of ref's Great. -/
import Derived.Test.YtcdpjaaiojpelaaDoorGNd
namespace Go.Proofs.YtcdpjaaiojpelaaDoor
open Go.RowKit

/-- Is a node more than is played? -/
def great (N : Nd) : Bool := decide (100 < N.ints.length) || (decide (100 < N.texts.length) || (decide (300 < N.kids.length) || N.texts.any (fun s => decide (500 < s.size))))

theorem any_at (L : List ByteArray) (i : Nat) (h : i < L.length) (f : ByteArray → Bool) : (L.drop i).any f = (f (L.getD i noT) || (L.drop (i + 1)).any f) := by
  rw [show L.drop i = L[i] :: L.drop (i + 1) from List.drop_eq_getElem_cons h, List.any_cons]
  rw [show L.getD i noT = L[i] by simp [h]]

set_option maxRecDepth 10000 in
set_option maxHeartbeats 400000 in
theorem great_any (N : Nd) (a1 a2 a3 : Option Addr) (c1 c2 c3 : Nat) (w : World) (h : LsAt w a2 (tV N.texts)) :
    Calls Tryd.prog 24 #[.agg #[.int .i64 N.kind, .slice a1 N.ints.length c1, .slice a2 N.texts.length c2, .slice a3 N.kids.length c3]] w fun e w' => e = .returned (.bool (great N)) ∧ Below w.heap.size w w' := by
  have HB : Hid _ := fun (o : Obj) => (Below.refl w.heap.size w).alloc (Nat.le_refl _) o
  have HT : Hid _ := h
  clear h
  by_cases h1 : 100 < N.ints.length
  · have h1' : (100 : Int) < N.ints.length := by omega
    rw [show great N = true by unfold great; rw [decide_eq_true h1]; rfl]
    go_enter Tryd.func24, Tryd.ntmps24
    go_wp2_with fail
    go_ret
    exact ⟨rfl, HB.out _⟩
  · have h1' : ¬ (100 : Int) < N.ints.length := by omega
    by_cases h2 : 100 < N.texts.length
    · have h2' : (100 : Int) < N.texts.length := by omega
      rw [show great N = true by unfold great; rw [decide_eq_true h2]; simp]
      go_enter Tryd.func24, Tryd.ntmps24
      go_wp2_with fail
      go_ret
      exact ⟨rfl, HB.out _⟩
    · have h2' : ¬ (100 : Int) < N.texts.length := by omega
      by_cases h3 : 300 < N.kids.length
      · have h3' : (300 : Int) < N.kids.length := by omega
        rw [show great N = true by unfold great; rw [decide_eq_true h3]; simp]
        go_enter Tryd.func24, Tryd.ntmps24
        go_wp2_with fail
        go_ret
        exact ⟨rfl, HB.out _⟩
      · have h3' : ¬ (300 : Int) < N.kids.length := by omega
        have HG : Hid (great N = (N.texts.drop 0).any (fun s => decide (500 < s.size))) := by
          show _ = _
          unfold great
          rw [decide_eq_false h1, decide_eq_false h2, decide_eq_false h3, List.drop_zero]
          simp
        generalize great N = G at *
        go_enter Tryd.func24, Tryd.ntmps24
        go_wp2_with fail
        go_loopw [3] (fun iv wr => ∃ i : Nat, iv = .int .i64 i ∧ i ≤ N.texts.length ∧ Hid (G = (N.texts.drop i).any (fun s => decide (500 < s.size))) ∧ AtN 42 wr w.heap.size #[.int .i64 N.kind, .slice a1 N.ints.length c1, .slice a2 N.texts.length c2, .slice a3 N.kids.length c3] ∧ Below w.heap.size w wr) (fun iv _ => N.texts.length - (intOf iv).toNat)
        case atStart => exact ⟨0, rfl, by omega, HG, AtN.new w 42 _, HB.out _⟩
        case round =>
          clear HG HB
          obtain ⟨i, rfl, hi, HI, n1, hb⟩ := hrel
          have x2 : wr.cell? ⟨w.heap.size, 2, none⟩ = some (.slice a2 N.texts.length c2) := n1.cell 2
          by_cases hlt : i < N.texts.length
          · have hlt' : (i : Int) < N.texts.length := by omega
            obtain ⟨ga, oa, rfl, la, da⟩ := (LsAt.belowB HT.out hb).at (tV_at N.texts i hlt)
            have hI := HI.out
            rw [any_at _ _ hlt] at hI
            generalize N.texts.getD i noT = s at *
            have HN : Hid _ := And.intro n1 hb
            clear HI HT n1 hb
            by_cases hp : 500 < s.size
            · have hp' : (500 : Int) < s.size := by omega
              rw [decide_eq_true hp, Bool.true_or] at hI
              have HV : Hid (G = true) := hI
              clear hI hp
              go_wp2_with fail
              go_ret
              rw [HV.out]
              exact ⟨rfl, HN.out.2⟩
            · have hp' : ¬ (500 : Int) < s.size := by omega
              rw [decide_eq_false hp, Bool.false_or] at hI
              have HV : Hid _ := hI
              clear hI hp
              go_wp2_with fail
              go_roundw
              case rel => exact ⟨i + 1, by go_num, by omega, HV.out, HN.out.1, HN.out.2⟩
              case measure => simp [intOf]; omega
          · have hlt' : ¬ (i : Int) < N.texts.length := by omega
            have HV : Hid (G = false) := by
              show _ = _
              rw [HI.out, List.drop_of_length_le (by omega)]
              rfl
            have HN : Hid _ := hb
            clear HI HT n1 hb
            go_wp2_with fail
            go_ret
            rw [HV.out]
            exact ⟨rfl, HN.out⟩

theorem great_no {N : Nd} (h : great N = false) : N.ints.length ≤ 100 ∧ N.texts.length ≤ 100 ∧ N.kids.length ≤ 300 ∧ ∀ s ∈ N.texts, s.size ≤ 500 := by
  unfold great at h
  simp only [Bool.or_eq_false_iff, decide_eq_false_iff_not, List.any_eq_false, decide_eq_true_eq, Nat.not_lt] at h
  exact ⟨h.1, h.2.1, h.2.2.1, h.2.2.2⟩

end Go.Proofs.YtcdpjaaiojpelaaDoor
