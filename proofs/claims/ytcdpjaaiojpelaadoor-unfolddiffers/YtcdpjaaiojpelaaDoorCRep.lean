/- The contract of slices.Repeat for a list of one number. -/
import Derived.Test.YtcdpjaaiojpelaaDoorGKids
import Derived.Test.YtcdpjaaiojpelaaDoorGReg5
import Derived.Laws.CopyOwn
import Derived.Deep.RegionLaw
import Derived.Sort.OwnSortedInts
namespace Go.Proofs.YtcdpjaaiojpelaaDoor
open Go.RowKit Go.Maps Go.WideMaps

theorem and_small : ∀ m : Nat, m < 62 → bits .and .u64 (m : Int) 4294967295 = (m : Int) := by decide
theorem wrap_small {z : Int} (h : 0 ≤ z ∧ z < 100) : IntKind.u64.wrap z = z := by
  simp [IntKind.wrap, IntKind.signed, IntKind.bits]
  omega

theorem wrap_i64 {z : Int} (h : 0 ≤ z ∧ z < 1000000) : IntKind.i64.wrap z = z := by
  simp [IntKind.wrap, IntKind.signed, IntKind.bits]
  omega

set_option maxRecDepth 10000 in
set_option maxHeartbeats 400000 in
theorem mul64_one (n : Nat) (hn : n ≤ 61) (w : World) :
    Calls Tryd.prog 65 #[.int .u64 1, .int .u64 n] w fun e w' => e = .returned (.tuple #[.int .u64 0, .int .u64 n]) ∧ w' = w := by
  have h1 : bits .and .u64 1 4294967295 = 1 := by decide
  have h0 : bits .and .u64 0 4294967295 = 0 := by decide
  have h2 : bits .and .u64 (n : Int) 4294967295 = n := and_small n (by omega)
  have h3 : (n : Int) / 4294967296 = 0 := by omega
  have h4 : IntKind.u64.wrap (n : Int) = n := wrap_small (by omega)
  have h5 : IntKind.u64.wrap 0 = 0 := by decide
  go_enter Tryd.func65, Tryd.ntmps65
  go_wp2_with fail
  go_ret2
  exact ⟨by simp, rfl⟩

set_option maxRecDepth 10000 in
set_option maxHeartbeats 400000 in
theorem mul_one10 (n : Nat) (hn : n ≤ 61) (w : World) :
    Calls Tryd.prog 60 #[.int .u64 1, .int .u64 n] w fun e w' => e = .returned (.tuple #[.int .u64 0, .int .u64 n]) ∧ w' = w := by
  have H : Hid _ := mul64_one n hn w
  go_enter Tryd.func60, Tryd.ntmps60
  go_wp2_with fail
  refine Calls.mono H.out ?_
  rintro e w1 ⟨rfl, rfl⟩
  go_wp2_with fail
  go_ret2
  exact ⟨rfl, rfl⟩

theorem slice_from (W : World) (g m n : Nat) (hm : m < n) : (Instr.slice 38 (.slice (some ⟨g, 0, none⟩) n n) (some (.int .i64 (m : Int))) none none).run Tryd.prog W = .ok (.slice (some ⟨g, m, none⟩) (n - m) (n - m)) W := by
  simp [Instr.slice, run_underlying Tryd.underlying38, go_sem]
  rw [if_pos (by omega), if_neg (by omega)]
theorem slice_to (W : World) (g m n : Nat) (hm : m < n) : (Instr.slice 38 (.slice (some ⟨g, 0, none⟩) n n) none (some (.int .i64 (m : Int))) none).run Tryd.prog W = .ok (.slice (some ⟨g, 0, none⟩) m n) W := by
  have h1 : (m : Int) ≤ n := by omega
  go_simp

/-- A row that is being filled. -/
def fillL (z : Int) (m n : Nat) : List Value := List.replicate m (.int .i64 z) ++ List.replicate (n - m) (.int .i64 0)
theorem fillL_length (z : Int) {m n : Nat} (h : m ≤ n) : (fillL z m n).length = n := by
  simp only [fillL, List.length_append, List.length_replicate]
  omega
theorem fillL_at (z : Int) {m n j : Nat} (h : j < m) : (fillL z m n)[j]? = some (.int .i64 z) := by
  unfold fillL
  rw [List.getElem?_append_left (by simpa using h)]
  simp [h]
theorem fillL_splice (z : Int) {m n k : Nat} : splice (fillL z m n) m (List.replicate k (.int .i64 z)) = fillL z (m + k) n := by
  unfold splice fillL
  have e1 : (List.replicate m (Value.int .i64 z) ++ List.replicate (n - m) (Value.int .i64 0)).take m = List.replicate m (Value.int .i64 z) := by
    rw [List.take_append_of_le_length (by simp)]
    simp
  have e2 : (List.replicate m (Value.int .i64 z) ++ List.replicate (n - m) (Value.int .i64 0)).drop (m + (List.replicate k (Value.int .i64 z)).length) = List.replicate (n - (m + k)) (Value.int .i64 0) := by
    rw [List.drop_append]
    simp
    omega
  rw [e1, e2, ← List.append_assoc, List.replicate_append_replicate]
theorem fillL_again (z : Int) {m m' n k : Nat} (h' : m' = m ∨ m' = m + k) : splice (fillL z m' n) m (List.replicate k (.int .i64 z)) = fillL z (m + k) n := by
  rcases h' with rfl | rfl
  · exact fillL_splice z
  · unfold splice fillL
    have e1 : (List.replicate (m + k) (Value.int .i64 z) ++ List.replicate (n - (m + k)) (Value.int .i64 0)).take m = List.replicate m (Value.int .i64 z) := by
      rw [List.take_append_of_le_length (by simp)]
      simp
    have e2 : (List.replicate (m + k) (Value.int .i64 z) ++ List.replicate (n - (m + k)) (Value.int .i64 0)).drop (m + (List.replicate k (Value.int .i64 z)).length) = List.replicate (n - (m + k)) (Value.int .i64 0) := by
      rw [List.drop_append]
      simp
    rw [e1, e2, ← List.append_assoc, List.replicate_append_replicate]
theorem fillL_new (z : Int) (n : Nat) : madeCells (Value.int .i64 0).cells (n * 1) = (fillL z 0 n).toArray := by
  have := filled_new n (.int .i64 0) rfl
  rw [this]
  simp [filled, fillL]

/-- The facts of a round. -/
def repF (z : Int) (g m k n : Nat) : Nat → Value → World → Prop
  | 1, v, _ | 4, v, _ => v = .slice (some ⟨g, 0, none⟩) n n
  | 3, v, _ => v = .slice (some ⟨g, m, none⟩) (n - m) (n - m)
  | 6, v, _ => v = .slice (some ⟨g, 0, none⟩) m n
  | 7, v, W => v = .int .i64 (k : Int) ∧ AtN 3 W g (fillL z (m + k) n).toArray
  | 8, v, _ | 9, v, _ => v = .int .i64 ((m : Int) + k)
  | _, v, _ => v = .int .i64 (m : Int)
def repR (z : Int) (g m k n B : Nat) (w0 : World) (i : Nat) (W W' : World) : Prop := if i = 7 then AtN 3 W' g (fillL z (m + k) n).toArray ∧ Below B w0 W' else W.grownBy W' none
theorem repF_stab (z : Int) (g m k n B : Nat) (w0 : World) : ∀ i j v W W', i ≠ j → repR z g m k n B w0 i W W' → repF z g m k n j v W → repF z g m k n j v W' := by
  intro i j v W W' hne hR h
  unfold repR at hR
  match j, h with
  | 0, h | 1, h | 2, h | 3, h | 4, h | 5, h | 6, h | 8, h | 9, h => exact h
  | 7, h =>
    rw [if_neg hne] at hR
    exact ⟨h.1, h.2.kept hR (by simp)⟩
  | n + 10, h => exact h
def repG (z : Int) (g m k n B : Nat) (w0 : World) (W : World) : Prop := (∃ m', (m' = m ∨ m' = m + k) ∧ AtN 3 W g (fillL z m' n).toArray) ∧ Below B w0 W
theorem repG_more (z : Int) (g m k n B : Nat) (w0 : World) (hB : B ≤ w0.heap.size) : ∀ i W W', repR z g m k n B w0 i W W' → repG z g m k n B w0 W → repG z g m k n B w0 W' := by
  intro i W W' hR hG
  unfold repR at hR
  by_cases h : i = 7
  · rw [if_pos h] at hR
    exact ⟨⟨_, .inr rfl, hR.1⟩, hR.2⟩
  · rw [if_neg h] at hR
    obtain ⟨⟨m', h1, h2⟩, h3⟩ := hG
    exact ⟨⟨m', h1, h2.kept hR (by simp)⟩, h3.grown hR (Nat.le_trans hB h3.size) (by simp)⟩

def RepOut (z : Int) (n : Nat) (w w' : World) (e : Ending) : Prop := ∃ g, e = .returned (.slice (some ⟨g, 0, none⟩) n n) ∧ AtN 3 w' g (List.replicate n (Value.int .i64 z)).toArray ∧ w.heap.size ≤ g ∧ Below w.heap.size w w'

set_option maxRecDepth 10000 in
set_option maxHeartbeats 1000000 in
theorem repeat_any (a : Addr) (c : Nat) (z : Int) (n : Nat) (h1 : 1 ≤ n) (hn : n ≤ 61) (w : World) (h : LsAt w (some a) [.int .i64 z]) :
    Calls Tryd.prog 47 #[.slice (some a) 1 c, .int .i64 n] w fun e w' => RepOut z n w w' e := by
  obtain ⟨i0, hi, hz0, hz1, hz2⟩ := info_parts Tryd.infoI7
  have hn' : ¬ (n : Int) < 0 := by omega
  have hbig : ¬ 9223372036854775807 < (n : Int) := by omega
  have hw64 : IntKind.u64.wrap (n : Int) = n := wrap_small (by omega)
  have HC : Hid _ := mul_one10 n hn w
  have HA : Hid _ := h
  have hmk : (Instr.makeSlice 38 (.int .i64 (n : Int)) (.int .i64 (n : Int))).run Tryd.prog w = .ok (.slice (some ⟨w.heap.size, 0, none⟩) n n) (w.alloc (.cells (fillL z 0 n).toArray 3)) := by
    have := run_make (P := Tryd.prog) w 38 3 i0 (.int .i64 0) Tryd.underlying38 hi hz0 .i64 .i64 n n (by omega) (by omega) (by rw [hz2]; omega) (by omega)
    rw [hz1, Int.toNat_natCast, fillL_new z] at this
    simpa using this
  have HN : Hid (AtN 3 (w.alloc (.cells (fillL z 0 n).toArray 3)) w.heap.size (fillL z 0 n).toArray ∧ Below w.heap.size w (w.alloc (.cells (fillL z 0 n).toArray 3))) := ⟨AtN.new w 3 _, (Below.refl w.heap.size w).alloc (Nat.le_refl _) _⟩
  have HS : Hid (∀ j v, [Value.int .i64 z][j]? = some v → (w.alloc (.cells (fillL z 0 n).toArray 3)).cell? (a.add j) = some v) := (h.alloc _).news
  clear h
  have e1 : splice (fillL z 0 n) 0 [.int .i64 z] = fillL z 1 n := fillL_splice z (m := 0) (n := n) (k := 1)
  have hcp : (Builtin.copy_ #[38, 38] 3 #[.slice (some ⟨w.heap.size, 0, none⟩) n n, .slice (some a) 1 c]).run Tryd.prog (w.alloc (.cells (fillL z 0 n).toArray 3)) = .ok (.int .i64 1) ((w.alloc (.cells (fillL z 0 n).toArray 3)).setRow w.heap.size (fillL z 1 n).toArray) := by
    have := run_copy_row (P := Tryd.prog) (w.alloc (.cells (fillL z 0 n).toArray 3)) 38 38 3 3 w.heap.size 0 n n a 1 c (fillL z 0 n).toArray 3 [.int .i64 z] Tryd.underlying38 (by kernel_rfl) HN.out.1 (by show 1 = min 1 n; omega) HS.out (by have := fillL_length z (m := 0) (n := n) (by omega); simp; omega) (by intro u hu; simp at hu; subst hu; rfl)
    rw [← e1]
    exact this
  have H2 : Hid (AtN 3 ((w.alloc (.cells (fillL z 0 n).toArray 3)).setRow w.heap.size (fillL z 1 n).toArray) w.heap.size (fillL z 1 n).toArray) := setRow_heap _ w.heap.size _ _ 3 _ HN.out.1
  have HB2 : Hid (Below w.heap.size w ((w.alloc (.cells (fillL z 0 n).toArray 3)).setRow w.heap.size (fillL z 1 n).toArray)) := below_setRow HN.out.2 (Nat.le_refl _) _
  clear e1
  go_enter Tryd.func47, Tryd.ntmps47
  go_wp2_with fail
  refine Calls.mono HC.out ?_
  rintro e w1 ⟨rfl, rfl⟩
  clear HC
  go_wp2_with fail
  clear HN HS HA hmk
  generalize (w1.alloc (.cells (fillL z 0 n).toArray 3)).setRow w1.heap.size (fillL z 1 n).toArray = w2 at *
  go_wp2_with fail
  go_loopw [8] (fun mv wr => ∃ m : Nat, mv = .int .i64 m ∧ 1 ≤ m ∧ m ≤ n ∧ Hid (AtN 3 wr w1.heap.size (fillL z m n).toArray) ∧ Hid (Below w1.heap.size w1 wr)) (fun mv _ => n - (intOf mv).toNat)
  case atStart => exact ⟨1, rfl, by omega, h1, H2, HB2⟩
  case round =>
    clear H2 HB2
    obtain ⟨m, rfl, hm1, hmn, HG, HB⟩ := hrel
    by_cases hlt : m < n
    · have hlt' : (m : Int) < n := by omega
      have s1 := fun W => slice_from W w1.heap.size m n hlt
      have s2 := fun W => slice_to W w1.heap.size m n hlt
      obtain ⟨k, hk⟩ : ∃ k, k = min m (n - m) := ⟨_, rfl⟩
      have hk1 : 1 ≤ k ∧ k ≤ m ∧ m + k ≤ n := by omega
      have Hk : Hid (k = min m (n - m)) := hk
      clear hk
      go_wp2_with fail
      refine facts_region5 (repG z w1.heap.size m k n w1.heap.size w1) (repR z w1.heap.size m k n w1.heap.size w1) (repF z w1.heap.size m k n) (by kernel_rfl) (by kernel_rfl) ⟨⟨m, .inl rfl, HG.out⟩, HB.out.drew⟩ (repF_stab z w1.heap.size m k n w1.heap.size w1) (repG_more z w1.heap.size m k n w1.heap.size w1 (Nat.le_refl _)) ?step ?fin
      case step =>
        intro i o ho a W hG hoff hdep K hK
        have hWs : True := trivial
        rcases i with _|_|_|_|_|_|_|_|_|_|i
        · obtain rfl := Option.some.inj ho
          have t8 : a.tmps[8]?.getD undef = .int .i64 (m : Int) := hoff 8 (by kernel_rfl)
          clear hdep hoff
          go_simp
          exact hK _ _ (grown_refl _ _) (rfl)
        · obtain rfl := Option.some.inj ho
          have t7 : a.tmps[7]?.getD undef = .slice (some ⟨w1.heap.size, 0, none⟩) n n := hoff 7 (by kernel_rfl)
          clear hdep hoff
          go_simp
          exact hK _ _ (grown_refl _ _) (rfl)
        · obtain rfl := Option.some.inj ho
          have t8 : a.tmps[8]?.getD undef = .int .i64 (m : Int) := hoff 8 (by kernel_rfl)
          clear hdep hoff
          go_simp
          exact hK _ _ (grown_refl _ _) (rfl)
        · obtain rfl := Option.some.inj ho
          have e1 : a.tmps[39]?.getD undef = .slice (some ⟨w1.heap.size, 0, none⟩) n n := hdep 1 _ (by kernel_rfl) rfl
          have e2 : a.tmps[40]?.getD undef = .int .i64 (m : Int) := hdep 2 _ (by kernel_rfl) rfl
          clear hdep hoff
          go_simp
          exact hK _ _ (grown_refl _ _) (rfl)
        · obtain rfl := Option.some.inj ho
          have t7 : a.tmps[7]?.getD undef = .slice (some ⟨w1.heap.size, 0, none⟩) n n := hoff 7 (by kernel_rfl)
          clear hdep hoff
          go_simp
          exact hK _ _ (grown_refl _ _) (rfl)
        · obtain rfl := Option.some.inj ho
          have t8 : a.tmps[8]?.getD undef = .int .i64 (m : Int) := hoff 8 (by kernel_rfl)
          clear hdep hoff
          go_simp
          exact hK _ _ (grown_refl _ _) (rfl)
        · obtain rfl := Option.some.inj ho
          have e4 : a.tmps[42]?.getD undef = .slice (some ⟨w1.heap.size, 0, none⟩) n n := hdep 4 _ (by kernel_rfl) rfl
          have e5 : a.tmps[43]?.getD undef = .int .i64 (m : Int) := hdep 5 _ (by kernel_rfl) rfl
          clear hdep hoff
          go_simp
          exact hK _ _ (grown_refl _ _) (rfl)
        · obtain rfl := Option.some.inj ho
          have e3 : a.tmps[41]?.getD undef = .slice (some ⟨w1.heap.size, m, none⟩) (n - m) (n - m) := hdep 3 _ (by kernel_rfl) rfl
          have e6 : a.tmps[44]?.getD undef = .slice (some ⟨w1.heap.size, 0, none⟩) m n := hdep 6 _ (by kernel_rfl) rfl
          clear hdep hoff
          obtain ⟨⟨m', hm', hA⟩, hBW⟩ := hG
          have hmm : m ≤ m' ∧ m' ≤ n := by omega
          have hsrc : ∀ j v, (List.replicate k (Value.int .i64 z))[j]? = some v → W.cell? ((⟨w1.heap.size, 0, none⟩ : Addr).add j) = some v := fun j v hj => by
            have hjk : j < k := by
              have := (List.getElem?_eq_some_iff.1 hj).1
              simpa using this
            rw [List.getElem?_replicate, if_pos hjk] at hj
            rw [show (⟨w1.heap.size, 0, none⟩ : Addr).add j = ⟨w1.heap.size, 0 + j, none⟩ by unfold Addr.add; split <;> simp_all, Nat.zero_add, hA.cell j, ← hj]
            have := fillL_at z (m := m') (n := n) (j := j) (by omega)
            simpa using this
          refine step_copy_splice rfl (.tmp 41) (.tmp 44) 38 38 rfl 3 Tryd.underlying38 (by kernel_rfl) (some ⟨w1.heap.size, m, none⟩) (some ⟨w1.heap.size, 0, none⟩) (n - m) (n - m) m n (by simpa [Act.eval] using e3) (by simpa [Act.eval] using e6) w1.heap.size m (fillL z m' n) 3 hA (List.replicate k (.int .i64 z)) (by rw [List.length_replicate]; exact Hk.out) (fun _ => ⟨rfl, _, rfl, hsrc⟩) (by rw [fillL_length z hmm.2, List.length_replicate]; omega) (by intro u hu; rw [List.eq_of_mem_replicate hu]; rfl) w1.heap.size w1 hBW (Nat.le_refl _) ?_
          intro w4 hg4 hb4
          have A4 : AtN 3 w4 w1.heap.size (fillL z (m + k) n).toArray := by
            have h0 := hg4.out
            rw [fillL_again z hm'] at h0
            exact h0
          exact hK _ _ (by unfold repR; rw [if_pos rfl]; exact ⟨A4, hb4⟩) ⟨by rw [List.length_replicate]; rfl, A4⟩
        · obtain rfl := Option.some.inj ho
          have e0 : a.tmps[38]?.getD undef = .int .i64 (m : Int) := hdep 0 _ (by kernel_rfl) rfl
          have e7 : a.tmps[45]?.getD undef = .int .i64 (k : Int) ∧ AtN 3 W w1.heap.size (fillL z (m + k) n).toArray := hdep 7 _ (by kernel_rfl) rfl
          clear hdep hoff
          have e7' := e7.1
          have hwk : IntKind.i64.wrap ((m : Int) + k) = (m : Int) + k := wrap_i64 (by omega)
          clear e7
          go_simp
          exact hK _ _ (grown_refl _ _) (rfl)
        · obtain rfl := Option.some.inj ho
          have e8 : a.tmps[46]?.getD undef = .int .i64 ((m : Int) + k) := hdep 8 _ (by kernel_rfl) rfl
          clear hdep hoff
          go_simp
          exact hK _ _ (grown_refl _ _) (rfl)
        · exact absurd ho (by simp)
      case fin =>
        intro V W hG hF
        have y9 : V (some 8) = .int .i64 ((m : Int) + k) := hF 9 _ rfl
        have y7 : V (some 45) = .int .i64 (k : Int) ∧ AtN 3 W w1.heap.size (fillL z (m + k) n).toArray := hF 7 _ rfl
        have HG2 : Hid (AtN 3 W w1.heap.size (fillL z (m + k) n).toArray) := y7.2
        have HB2 : Hid (Below w1.heap.size w1 W) := hG.2
        clear hF hG y7 HG HB s1 s2
        simp only [fillA, Act.put, List.setIfInBounds_toArray, List.set_cons_zero, List.set_cons_succ, y9]
        generalize V (some 38) = z38
        generalize V (some 39) = z39
        generalize V (some 40) = z40
        generalize V (some 41) = z41
        generalize V (some 42) = z42
        generalize V (some 43) = z43
        generalize V (some 44) = z44
        generalize V (some 45) = z45
        generalize V (some 46) = z46
        clear y9
        go_wp2_with fail
        go_roundw
        case rel => exact ⟨m + k, by go_num, by omega, by omega, HG2, HB2⟩
        case measure => simp [intOf]; omega
    · obtain rfl : m = n := by omega
      have HO : Hid (AtN 3 wr w1.heap.size (List.replicate m (Value.int .i64 z)).toArray) := by
        have := HG.out
        show AtN _ _ _ _
        simpa [fillL] using this
      clear HG
      go_wp2_with fail
      go_ret
      exact ⟨_, rfl, HO.out, Nat.le_refl _, HB.out⟩

end Go.Proofs.YtcdpjaaiojpelaaDoor
