/- Limits: may they be, is one within another: the contracts of the program's and of the document's own calls. -/
import Derived.Test.YthfemhpbamcpjaaGreatDoorGD
import Derived.Deep.QuietTactic
import Derived.BigQuiet
namespace Go.Proofs.YthfemhpbamcpjaaGreatDoor
open Go.RowKit
structure Lm where
  b : Int
  n : Int
  e : Int
  d : Int
  x : Int
def lmL (l : Lm) : List Int := [l.b, l.n, l.e, l.d, l.x]
abbrev okP (l : Lm) : Prop := (0 ≤ l.b ∧ l.b ≤ 16777216) ∧ (0 ≤ l.n ∧ l.n ≤ 16777216) ∧ (0 ≤ l.e ∧ l.e ≤ 16777216) ∧ (0 ≤ l.d ∧ l.d ≤ 16777216) ∧ (0 ≤ l.x ∧ l.x ≤ 16777216)
def okL (l : Lm) : Bool := decide (okP l)
theorem five_cases {i : Nat} (h : i < 5) : i = 0 ∨ i = 1 ∨ i = 2 ∨ i = 3 ∨ i = 4 := by omega
theorem okL_yes (l : Lm) (h : ∀ i, i < 5 → 0 ≤ (lmL l).getD i 0 ∧ (lmL l).getD i 0 ≤ 16777216) : okL l = true := by
  have h0 := h 0 (by omega)
  have h1 := h 1 (by omega)
  have h2 := h 2 (by omega)
  have h3 := h 3 (by omega)
  have h4 := h 4 (by omega)
  exact decide_eq_true ⟨h0, h1, h2, h3, h4⟩
theorem okL_no (l : Lm) (i : Nat) (hi : i < 5) (h : (lmL l).getD i 0 < 0 ∨ 16777216 < (lmL l).getD i 0) : okL l = false := by
  refine decide_eq_false fun q => ?_
  obtain ⟨q0, q1, q2, q3, q4⟩ := q
  rcases five_cases hi with rfl | rfl | rfl | rfl | rfl <;> simp [lmL] at h <;> omega
set_option maxRecDepth 10000 in
set_option maxHeartbeats 400000 in
theorem five_any (b n e d x : Int) (w : World) :
    Calls Tryz.prog 66 #[.agg #[.int .i64 b, .int .i64 n, .int .i64 e, .int .i64 d, .int .i64 x]] w fun r w' => r = .returned (.agg #[.int .i64 b, .int .i64 n, .int .i64 e, .int .i64 d, .int .i64 x]) ∧ Below w.heap.size w w' := by
  go_enter Tryz.func66, Tryz.ntmps66
  go_wp2_with fail
  exact bodyPost_ret (v := .agg #[.int .i64 b, .int .i64 n, .int .i64 e, .int .i64 d, .int .i64 x]) (by simp [results, Tryz.results66, go_sem, *]) rfl ⟨rfl, ((Below.refl w.heap.size w).alloc (Nat.le_refl _) _).alloc (by simp) _⟩
theorem index5 (l : Lm) (i : Nat) (h : i < 5) (W : World) : (Instr.index 112 (.agg #[.int .i64 l.b, .int .i64 l.n, .int .i64 l.e, .int .i64 l.d, .int .i64 l.x]) (.int .i64 i)).run Tryz.prog W = .ok (.int .i64 ((lmL l).getD i 0)) W := by
  rcases five_cases h with rfl | rfl | rfl | rfl | rfl <;> kernel_rfl
set_option maxRecDepth 10000 in
set_option maxHeartbeats 400000 in
theorem okl_any (l : Lm) (w : World) :
    Calls Tryz.prog 35 #[.agg #[.int .i64 l.b, .int .i64 l.n, .int .i64 l.e, .int .i64 l.d, .int .i64 l.x]] w fun e w' => e = .returned (.bool (okL l)) ∧ Below w.heap.size w w' := by
  have HF : Hid (∀ W, _) := fun W => five_any l.b l.n l.e l.d l.x W
  have HI : Hid (∀ i, i < 5 → ∀ W : World, (Instr.index 112 (.agg #[.int .i64 l.b, .int .i64 l.n, .int .i64 l.e, .int .i64 l.d, .int .i64 l.x]) (.int .i64 (i : Nat))).run Tryz.prog W = .ok (.int .i64 ((lmL l).getD i 0)) W) := fun i h W => index5 l i h W
  have HY : Hid ((∀ i, i < 5 → 0 ≤ (lmL l).getD i 0 ∧ (lmL l).getD i 0 ≤ 16777216) → okL l = true) := okL_yes l
  have HN : Hid (∀ i, i < 5 → (lmL l).getD i 0 < 0 ∨ 16777216 < (lmL l).getD i 0 → okL l = false) := okL_no l
  have HB : Hid _ := fun (o : Obj) => (Below.refl w.heap.size w).alloc (Nat.le_refl _) o
  generalize okL l = Q at *
  generalize lmL l = L at *
  obtain ⟨b, n, e, d, x⟩ := l
  dsimp only at *
  go_enter Tryz.func35, Tryz.ntmps35
  go_wp2_with fail
  refine (HF.out _).mono ?_
  rintro r w1 ⟨rfl, hb1⟩
  have HB1 : Hid (Below w.heap.size w w1) := (HB.out _).trans (hb1.mono (by simp))
  clear HB hb1 HF
  go_wp2_with fail
  go_loopw [7] (fun iv wr => ∃ i : Nat, iv = .int .i64 i ∧ i ≤ 5 ∧ wr = w1 ∧ Hid (∀ k, k < i → 0 ≤ L.getD k 0 ∧ L.getD k 0 ≤ 16777216)) (fun iv _ => 5 - (intOf iv).toNat)
  case atStart => exact ⟨0, rfl, by omega, rfl, fun k hk => by omega⟩
  case round =>
    obtain ⟨i, rfl, hi, rfl, HK⟩ := hrel
    by_cases hlt : i < 5
    · have hlt' : (i : Int) < 5 := by omega
      have hx := HI.out i hlt
      have HN1 : Hid (L.getD i 0 < 0 ∨ 16777216 < L.getD i 0 → Q = false) := HN.out i hlt
      have HK1 : Hid (0 ≤ L.getD i 0 ∧ L.getD i 0 ≤ 16777216 → ∀ k, k < i + 1 → 0 ≤ L.getD k 0 ∧ L.getD k 0 ≤ 16777216) := fun h k hk => by
        by_cases e : k = i
        · subst e; exact h
        · exact HK.out k (by omega)
      generalize L.getD i 0 = z at *
      clear HI HY HN HK
      by_cases h0 : z < 0
      · go_wp2_with fail
        go_ret
        rw [HN1.out (.inl h0)]
        exact ⟨rfl, HB1.out⟩
      · by_cases h1 : 16777216 < z
        · go_wp2_with fail
          go_ret
          rw [HN1.out (.inr h1)]
          exact ⟨rfl, HB1.out⟩
        · go_wp2_with fail
          go_roundw
          case rel => exact ⟨i + 1, by go_num, by omega, by first | rfl | trivial, HK1.out ⟨by omega, by omega⟩⟩
          case measure => simp [intOf]; omega
    · have hlt' : ¬ (i : Int) < 5 := by omega
      have HQ : Hid (Q = true) := HY.out (fun k hk => HK.out k (by omega))
      clear HI HY HN HK
      go_wp2_with fail
      go_ret
      rw [HQ.out]
      exact ⟨rfl, HB1.out⟩
set_option maxRecDepth 10000 in
set_option maxHeartbeats 400000 in
theorem rokl_any (l : Lm) (w : World) :
    Calls Tryz.prog 18 #[.agg #[.int .i64 l.b, .int .i64 l.n, .int .i64 l.e, .int .i64 l.d, .int .i64 l.x]] w fun e w' => e = .returned (.bool (okL l)) ∧ Below w.heap.size w w' := by
  have HY : Hid ((∀ i, i < 5 → 0 ≤ (lmL l).getD i 0 ∧ (lmL l).getD i 0 ≤ 16777216) → okL l = true) := okL_yes l
  have HN : Hid (∀ i, i < 5 → (lmL l).getD i 0 < 0 ∨ 16777216 < (lmL l).getD i 0 → okL l = false) := okL_no l
  have HA : Hid (∀ W : World, ∀ g, AtN 3 W g #[.int .i64 l.b, .int .i64 l.n, .int .i64 l.e, .int .i64 l.d, .int .i64 l.x] → ∀ i, i < 5 → W.cell? ⟨g, i, none⟩ = some (.int .i64 ((lmL l).getD i 0))) := fun W g h i hi => by
    rcases five_cases hi with rfl | rfl | rfl | rfl | rfl
    · exact h.cell 0
    · exact h.cell 1
    · exact h.cell 2
    · exact h.cell 3
    · exact h.cell 4
  have n1 := mk_at (AtN.new (w.alloc (.cells #[.int .i64 l.b, .int .i64 l.n, .int .i64 l.e, .int .i64 l.d, .int .i64 l.x] 34)) 3 #[.int .i64 l.b, .int .i64 l.n, .int .i64 l.e, .int .i64 l.d, .int .i64 l.x]) (show _ = w.heap.size + 1 by simp)
  have HA1 : Hid (AtN 3 ((w.alloc (.cells #[.int .i64 l.b, .int .i64 l.n, .int .i64 l.e, .int .i64 l.d, .int .i64 l.x] 34)).alloc (.cells #[.int .i64 l.b, .int .i64 l.n, .int .i64 l.e, .int .i64 l.d, .int .i64 l.x] 3)) (w.heap.size + 1) #[.int .i64 l.b, .int .i64 l.n, .int .i64 l.e, .int .i64 l.d, .int .i64 l.x]) := n1
  have HB1 : Hid (Below w.heap.size w ((w.alloc (.cells #[.int .i64 l.b, .int .i64 l.n, .int .i64 l.e, .int .i64 l.d, .int .i64 l.x] 34)).alloc (.cells #[.int .i64 l.b, .int .i64 l.n, .int .i64 l.e, .int .i64 l.d, .int .i64 l.x] 3))) := ((Below.refl w.heap.size w).alloc (Nat.le_refl _) _).alloc (by simp) _
  generalize okL l = Q at *
  generalize lmL l = L at *
  obtain ⟨b, n, e, d, x⟩ := l
  dsimp only at *
  clear n1
  go_enter Tryz.func18, Tryz.ntmps18
  go_wp2_with fail
  go_loopw [4] (fun iv wr => ∃ i : Nat, iv = .int .i64 i ∧ i ≤ 5 ∧ Hid (Below w.heap.size w wr) ∧ Hid (AtN 3 wr (w.heap.size + 1) #[.int .i64 b, .int .i64 n, .int .i64 e, .int .i64 d, .int .i64 x]) ∧ Hid (∀ k, k < i → 0 ≤ L.getD k 0 ∧ L.getD k 0 ≤ 16777216)) (fun iv _ => 5 - (intOf iv).toNat)
  case atStart => exact ⟨0, rfl, by omega, HB1, HA1, fun k hk => by omega⟩
  case round =>
    clear HA1 HB1
    obtain ⟨i, rfl, hi, HB, HA1, HK⟩ := hrel
    by_cases hlt : i < 5
    · have hlt' : (i : Int) < 5 := by omega
      have hx := HA.out _ _ HA1.out i hlt
      have hl := AtN.lt HA1.out
      have HN1 : Hid (L.getD i 0 < 0 ∨ 16777216 < L.getD i 0 → Q = false) := HN.out i hlt
      have HK1 : Hid (0 ≤ L.getD i 0 ∧ L.getD i 0 ≤ 16777216 → ∀ k, k < i + 1 → 0 ≤ L.getD k 0 ∧ L.getD k 0 ≤ 16777216) := fun h k hk => by
        by_cases e : k = i
        · subst e; exact h
        · exact HK.out k (by omega)
      generalize L.getD i 0 = z at *
      clear HA HY HN HK
      by_cases h0 : z < 0
      · go_wp2_with fail
        go_ret
        rw [HN1.out (.inl h0)]
        exact ⟨rfl, HB.out⟩
      · by_cases h1 : 16777216 < z
        · go_wp2_with fail
          go_ret
          rw [HN1.out (.inr h1)]
          exact ⟨rfl, HB.out⟩
        · go_wp2_with fail
          go_roundw
          case rel => exact ⟨i + 1, by go_num, by omega, HB, HA1, HK1.out ⟨by omega, by omega⟩⟩
          case measure => simp [intOf]; omega
    · have hlt' : ¬ (i : Int) < 5 := by omega
      have HQ : Hid (Q = true) := HY.out (fun k hk => HK.out k (by omega))
      clear HA HY HN HK
      go_wp2_with fail
      go_ret
      rw [HQ.out]
      exact ⟨rfl, HB.out⟩
end Go.Proofs.YthfemhpbamcpjaaGreatDoor
