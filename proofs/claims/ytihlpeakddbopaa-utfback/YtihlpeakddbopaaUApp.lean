/- The contracts of the standard library's utf8.ValidRune and utf8.AppendRune, and of strings.Builder's WriteRune, of a builder that the call has made itself. -/
import Derived.Test.YtihlpeakddbopaaURef3
import Derived.Test.YtihlpeakddbopaaUDec
import Derived.Test.YtihlpeakddbopaaBld
namespace Go.Proofs.Ytihlpeakddbopaa
open Go.RowKit

theorem vrune_any (c : Int) (w : World) : Calls Try.prog 18 #[.int .i32 c] w fun e w' => e = .returned (.bool (decide (okI c))) ∧ w' = w := by
  have HO : Hid (okI c ↔ (0 ≤ c ∧ c < 55296) ∨ (57343 < c ∧ c ≤ 1114111)) := by show _ ↔ _; unfold okI isC; omega
  obtain ⟨d, hd⟩ : ∃ d, decide (okI c) = d := ⟨_, rfl⟩
  rw [hd]
  have HD : Hid (d = true ↔ (0 ≤ c ∧ c < 55296) ∨ (57343 < c ∧ c ≤ 1114111)) := by show _ ↔ _; rw [← hd, decide_eq_true_eq]; exact HO.out
  clear hd HO
  go_enter Try.func18, Try.ntmps18
  by_cases h1 : 0 ≤ c
  · by_cases h2 : c < 55296
    · obtain rfl : d = true := HD.out.2 (by omega)
      go_wp2_with fail
      go_ret
      exact ⟨rfl, rfl⟩
    · by_cases h3 : 57343 < c
      · by_cases h4 : c ≤ 1114111
        · obtain rfl : d = true := HD.out.2 (by omega)
          go_wp2_with fail
          go_ret
          exact ⟨rfl, rfl⟩
        · obtain rfl : d = false := Bool.eq_false_iff.2 (fun e => by have := HD.out.1 e; omega)
          go_wp2_with fail
          go_ret
          exact ⟨rfl, rfl⟩
      · obtain rfl : d = false := Bool.eq_false_iff.2 (fun e => by have := HD.out.1 e; omega)
        go_wp2_with fail
        go_ret
        exact ⟨rfl, rfl⟩
  · have h3 : ¬ 57343 < c := by omega
    obtain rfl : d = false := Bool.eq_false_iff.2 (fun e => by have := HD.out.1 e; omega)
    go_wp2_with fail
    go_ret
    exact ⟨rfl, rfl⟩

theorem cells_new (w : World) (xs : List Value) (t : TypeId) (j : Nat) (u : Value) (h : xs[j]? = some u) : (w.alloc (.cells xs.toArray t)).cell? ((⟨w.heap.size, 0, none⟩ : Addr).add j) = some u := by
  have hadd : (⟨w.heap.size, 0, none⟩ : Addr).add j = ⟨w.heap.size, j, none⟩ := by unfold Addr.add; split <;> simp_all
  rw [hadd]
  simp [h]

set_option maxRecDepth 10000 in
set_option maxHeartbeats 400000 in
theorem app2_any (B : Nat) (v : Value) (l : List UInt8) (c : Int) (w : World) (h : w.ownsRow B 5 1 v l.length (bV l)) (h1 : 128 ≤ c) (h2 : c ≤ 2047) (hlen : l.length + 4 ≤ 140737488355328) (hBw : B ≤ w.heap.size) :
    Calls Try.prog 26 #[v, .int .i32 c] w fun e w' => ∃ v' o, e = .returned v' ∧ w'.ownsRow B 5 1 v' (l.length + 2) (bV l ++ [.int .u8 (192 + c / 64), .int .u8 (128 + c % 64)]) ∧ (w.alloc o).grownBy w' v.ownBlock := by
  obtain ⟨i0, hi, hz0, hz1, hz2⟩ := info_parts Try.infoU
  go_enter Try.func26, Try.ntmps26
  go_wp2_with (at_builtin; refine wpList_append_own _ rfl _ _ 39 rfl B 5 i0 (.int .u8 0) 1 1 Try.underlying39 hi hz0 hz1 hz2 rfl (by decide) _ _ _ rfl (h.alloc _) ⟨w.heap.size, 0, none⟩ 2 2 [.int .u8 (192 + c / 64), .int .u8 (128 + c % 64)] rfl rfl (cells_new _ [.int .u8 (192 + c / 64), .int .u8 (128 + c % 64)] _) ?c2 ?c3 ?c4 ?c5 ?_)
  case c2 => intro u hu; simp at hu; rcases hu with rfl | rfl <;> rfl
  case c3 => unfold maxLen; omega
  case c4 => omega
  case c5 => simp; omega
  intro v' w2 hown' hgrow _
  obtain ⟨ao, cap, rfl⟩ := own_form hown'
  go_wp2_with fail
  go_ret
  exact ⟨_, _, rfl, hown', hgrow⟩

set_option maxRecDepth 10000 in
set_option maxHeartbeats 400000 in
theorem app3_any (B : Nat) (v : Value) (l : List UInt8) (c : Int) (w : World) (h : w.ownsRow B 5 1 v l.length (bV l)) (h1 : 2048 ≤ c) (h2 : c < 55296) (hlen : l.length + 4 ≤ 140737488355328) (hBw : B ≤ w.heap.size) :
    Calls Try.prog 26 #[v, .int .i32 c] w fun e w' => ∃ v' o, e = .returned v' ∧ w'.ownsRow B 5 1 v' (l.length + 3) (bV l ++ [.int .u8 (224 + c / 4096), .int .u8 (128 + c / 64 % 64), .int .u8 (128 + c % 64)]) ∧ (w.alloc o).grownBy w' v.ownBlock := by
  obtain ⟨i0, hi, hz0, hz1, hz2⟩ := info_parts Try.infoU
  go_enter Try.func26, Try.ntmps26
  go_wp2_with (at_builtin; refine wpList_append_own _ rfl _ _ 39 rfl B 5 i0 (.int .u8 0) 1 1 Try.underlying39 hi hz0 hz1 hz2 rfl (by decide) _ _ _ rfl (h.alloc _) ⟨w.heap.size, 0, none⟩ 3 3 [.int .u8 (224 + c / 4096), .int .u8 (128 + c / 64 % 64), .int .u8 (128 + c % 64)] rfl rfl (cells_new _ [.int .u8 (224 + c / 4096), .int .u8 (128 + c / 64 % 64), .int .u8 (128 + c % 64)] _) ?c2 ?c3 ?c4 ?c5 ?_)
  case c2 => intro u hu; simp at hu; rcases hu with rfl | rfl | rfl <;> rfl
  case c3 => unfold maxLen; omega
  case c4 => omega
  case c5 => simp; omega
  intro v' w2 hown' hgrow _
  obtain ⟨ao, cap, rfl⟩ := own_form hown'
  go_wp2_with fail
  go_ret
  exact ⟨_, _, rfl, hown', hgrow⟩

set_option maxRecDepth 10000 in
set_option maxHeartbeats 400000 in
theorem app4_any (B : Nat) (v : Value) (l : List UInt8) (c : Int) (w : World) (h : w.ownsRow B 5 1 v l.length (bV l)) (h1 : 57343 < c) (h2 : c ≤ 65535) (hlen : l.length + 4 ≤ 140737488355328) (hBw : B ≤ w.heap.size) :
    Calls Try.prog 26 #[v, .int .i32 c] w fun e w' => ∃ v' o, e = .returned v' ∧ w'.ownsRow B 5 1 v' (l.length + 3) (bV l ++ [.int .u8 (224 + c / 4096), .int .u8 (128 + c / 64 % 64), .int .u8 (128 + c % 64)]) ∧ (w.alloc o).grownBy w' v.ownBlock := by
  obtain ⟨i0, hi, hz0, hz1, hz2⟩ := info_parts Try.infoU
  go_enter Try.func26, Try.ntmps26
  go_wp2_with (at_builtin; refine wpList_append_own _ rfl _ _ 39 rfl B 5 i0 (.int .u8 0) 1 1 Try.underlying39 hi hz0 hz1 hz2 rfl (by decide) _ _ _ rfl (h.alloc _) ⟨w.heap.size, 0, none⟩ 3 3 [.int .u8 (224 + c / 4096), .int .u8 (128 + c / 64 % 64), .int .u8 (128 + c % 64)] rfl rfl (cells_new _ [.int .u8 (224 + c / 4096), .int .u8 (128 + c / 64 % 64), .int .u8 (128 + c % 64)] _) ?c2 ?c3 ?c4 ?c5 ?_)
  case c2 => intro u hu; simp at hu; rcases hu with rfl | rfl | rfl <;> rfl
  case c3 => unfold maxLen; omega
  case c4 => omega
  case c5 => simp; omega
  intro v' w2 hown' hgrow _
  obtain ⟨ao, cap, rfl⟩ := own_form hown'
  go_wp2_with fail
  go_ret
  exact ⟨_, _, rfl, hown', hgrow⟩

set_option maxRecDepth 10000 in
set_option maxHeartbeats 400000 in
theorem app5_any (B : Nat) (v : Value) (l : List UInt8) (c : Int) (w : World) (h : w.ownsRow B 5 1 v l.length (bV l)) (h1 : 65536 ≤ c) (h2 : c ≤ 1114111) (hlen : l.length + 4 ≤ 140737488355328) (hBw : B ≤ w.heap.size) :
    Calls Try.prog 26 #[v, .int .i32 c] w fun e w' => ∃ v' o, e = .returned v' ∧ w'.ownsRow B 5 1 v' (l.length + 4) (bV l ++ [.int .u8 (240 + c / 262144), .int .u8 (128 + c / 4096 % 64), .int .u8 (128 + c / 64 % 64), .int .u8 (128 + c % 64)]) ∧ (w.alloc o).grownBy w' v.ownBlock := by
  obtain ⟨i0, hi, hz0, hz1, hz2⟩ := info_parts Try.infoU
  go_enter Try.func26, Try.ntmps26
  go_wp2_with (at_builtin; refine wpList_append_own _ rfl _ _ 39 rfl B 5 i0 (.int .u8 0) 1 1 Try.underlying39 hi hz0 hz1 hz2 rfl (by decide) _ _ _ rfl (h.alloc _) ⟨w.heap.size, 0, none⟩ 4 4 [.int .u8 (240 + c / 262144), .int .u8 (128 + c / 4096 % 64), .int .u8 (128 + c / 64 % 64), .int .u8 (128 + c % 64)] rfl rfl (cells_new _ [.int .u8 (240 + c / 262144), .int .u8 (128 + c / 4096 % 64), .int .u8 (128 + c / 64 % 64), .int .u8 (128 + c % 64)] _) ?c2 ?c3 ?c4 ?c5 ?_)
  case c2 => intro u hu; simp at hu; rcases hu with rfl | rfl | rfl | rfl <;> rfl
  case c3 => unfold maxLen; omega
  case c4 => omega
  case c5 => simp; omega
  intro v' w2 hown' hgrow _
  obtain ⟨ao, cap, rfl⟩ := own_form hown'
  go_wp2_with fail
  go_ret
  exact ⟨_, _, rfl, hown', hgrow⟩

theorem bV_b8 (n : Nat) (h : n < 256) (r : List UInt8) : bV (b8 n :: r) = .int .u8 (n : Int) :: bV r := by
  simp only [bV, List.map_cons]
  rw [b8_toNat n h]

/-- One character appended to a row of bytes of the call's own. -/
theorem appn_any (B : Nat) (v : Value) (l : List UInt8) (c : Nat) (w : World) (h : w.ownsRow B 5 1 v l.length (bV l)) (hc : isC c) (h1 : 128 ≤ c) (hlen : l.length + 4 ≤ 140737488355328) (hBw : B ≤ w.heap.size) :
    Calls Try.prog 26 #[v, .int .i32 (c : Int)] w fun e w' => ∃ v' o, e = .returned v' ∧ w'.ownsRow B 5 1 v' (l ++ chr c).length (bV (l ++ chr c)) ∧ (w.alloc o).grownBy w' v.ownBlock := by
  obtain ⟨h2, h3⟩ := hc
  rw [List.length_append, bV_append]
  unfold chr
  rw [if_neg (by omega)]
  by_cases c2 : c < 2048
  · rw [if_pos c2, bV_b8 _ (by omega), bV_b8 _ (by omega)]
    exact app2_any B v l c w h (by omega) (by omega) hlen hBw
  rw [if_neg c2]
  by_cases c3 : c < 65536
  · rw [if_pos c3, bV_b8 _ (by omega), bV_b8 _ (by omega), bV_b8 _ (by omega)]
    by_cases c4 : c < 55296
    · exact app3_any B v l c w h (by omega) (by omega) hlen hBw
    · exact app4_any B v l c w h (by omega) (by omega) hlen hBw
  rw [if_neg c3, bV_b8 _ (by omega), bV_b8 _ (by omega), bV_b8 _ (by omega), bV_b8 _ (by omega)]
  exact app5_any B v l c w h (by omega) (by omega) hlen hBw

set_option maxRecDepth 10000 in
set_option maxHeartbeats 400000 in
theorem appr_any (B : Nat) (v : Value) (l : List UInt8) (c : Nat) (w : World) (h : w.ownsRow B 5 1 v l.length (bV l)) (hc : isC c) (hlen : l.length + 4 ≤ 140737488355328) (hBw : B ≤ w.heap.size) :
    Calls Try.prog 24 #[v, .int .i32 (c : Int)] w fun e w' => ∃ v' o, e = .returned v' ∧ w'.ownsRow B 5 1 v' (l ++ chr c).length (bV (l ++ chr c)) ∧ (w.alloc o).grownBy w' v.ownBlock := by
  obtain ⟨i0, hi, hz0, hz1, hz2⟩ := info_parts Try.infoU
  have hcI : (c : Int) ≤ 1114111 := by unfold isC at hc; omega
  by_cases h1 : c < 128
  · have h1' : (c : Int) ≤ 127 := by omega
    have hch : chr c = [b8 c] := by unfold chr; rw [if_pos h1]
    rw [hch, List.length_append, bV_append, bV_b8 c (by omega)]
    clear hc hcI hch
    go_enter Try.func24, Try.ntmps24
    go_wp2_with (at_builtin; refine wpList_append_own _ rfl _ _ 39 rfl B 5 i0 (.int .u8 0) 1 1 Try.underlying39 hi hz0 hz1 hz2 rfl (by decide) _ _ _ rfl (h.alloc _) ⟨w.heap.size, 0, none⟩ 1 1 [.int .u8 (c : Int)] rfl rfl (cells_new _ [.int .u8 (c : Int)] _) ?c2 ?c3 ?c4 ?c5 ?_)
    case c2 => intro u hu; simp at hu; subst hu; rfl
    case c3 => unfold maxLen; omega
    case c4 => omega
    case c5 => simp; omega
    intro v' w2 hown' hgrow _
    obtain ⟨ao, cap, rfl⟩ := own_form hown'
    go_wp2_with fail
    go_ret
    exact ⟨_, _, rfl, hown', hgrow⟩
  · have HA := appn_any B v l c w h hc (by omega) hlen hBw
    generalize l ++ chr c = M at *
    have h1' : ¬ (c : Int) ≤ 127 := by omega
    clear hc h1
    go_enter Try.func24, Try.ntmps24
    go_wp2_with fail
    refine Calls.mono HA ?_
    rintro e w2 ⟨v', o, rfl, hown', hgrow⟩
    obtain ⟨ao, cap, rfl⟩ := own_form hown'
    go_wp2_with fail
    go_ret
    exact ⟨_, _, rfl, hown', hgrow⟩

set_option maxRecDepth 10000 in
set_option maxHeartbeats 400000 in
theorem wrune_any (B g : Nat) (l : List UInt8) (c : Nat) (w : World) (h : Bu B g l w) (hc : isC c) (hlen : l.length + 4 ≤ 140737488355328) (hBw : B ≤ w.heap.size) :
    Calls Try.prog 19 #[.pointer (some ⟨g, 0, none⟩), .int .i32 (c : Int)] w fun e w' => (∃ x, e = .returned x) ∧ Bu B g (l ++ chr c) w' ∧ Below B w w' ∧ Kept g w w' := by
  have hl : (bV l).length = l.length := bV_length l
  go_enter Try.func19, Try.ntmps19
  go_wp2_with fail
  refine (check_any B g (bV l) _ h).mono ?_
  rintro e w1 ⟨rfl, h1, hb1, hk1⟩
  obtain ⟨hB, v, hbk, hown, hne⟩ := h1
  have hs1 := hb1.size
  have hlt : g < w1.heap.size := (Array.getElem?_eq_some_iff.1 hbk).1
  have c0 : w1.cell? ⟨g, 0, none⟩ = some (.pointer (some ⟨g, 0, none⟩)) := by rw [Lib.cell_of_heap hbk]; rfl
  have c1 : w1.cell? ⟨g, 1, none⟩ = some v := by rw [Lib.cell_of_heap hbk]; rfl
  rw [hl] at hown
  have HA : Hid _ := appr_any B v l c w1 hown hc hlen (by omega)
  obtain ⟨ao0, cap0, rfl⟩ := own_form hown
  clear hc
  have hM : (l ++ chr c).length ≤ l.length + 4 := by have := chr_length c; rw [List.length_append]; omega
  obtain ⟨M, HM⟩ : ∃ M, Hid (l ++ chr c = M) := ⟨_, rfl⟩
  rw [HM.out] at HA hM
  go_wp2_with fail
  refine Calls.mono HA.out ?_
  rintro e w2 ⟨v', o, rfl, hown', hgrow⟩
  have hb2 : w2.heap[g]? = some (.cells #[.pointer (some ⟨g, 0, none⟩), .slice ao0 l.length cap0] 41 (0, 0)) := by
    rw [hgrow.block g (by simp; omega) (fun e => hne e.symm), Lib.alloc_old w1 _ g hlt]
    exact hbk
  have d0 : w2.cell? ⟨g, 0, none⟩ = some (.pointer (some ⟨g, 0, none⟩)) := by rw [Lib.cell_of_heap hb2]; rfl
  have d1 : w2.cell? ⟨g, 1, none⟩ = some (.slice ao0 l.length cap0) := by rw [Lib.cell_of_heap hb2]; rfl
  have f1 : w2.frozen? ⟨g, 1, none⟩ = false := Lib.frozen_of_heap hb2 1
  obtain ⟨ao, cap, rfl⟩ := own_form hown'
  clear HA
  go_wp2_with fail
  go_ret2
  have hkind := own_kind (hown.alloc o)
  refine ⟨⟨_, rfl⟩, .inr ?_, ?_, ?_⟩
  · rw [HM.out]
    exact Lib.BuilderAt.put (T := 41) (e := 5) hB hb2 (bs' := bV M) (by simpa [bV_length] using hown') (by decide)
  · exact ((hb1.alloc (by omega) _).grown hgrow (by simp; omega) (fun k hk => (hown.lt k hk).1)).setCell (p := ⟨g, 1, none⟩) hB _
  · exact ((hk1.alloc _).grown hgrow hkind).setCell ⟨g, 1, none⟩ rfl _

end Go.Proofs.Ytihlpeakddbopaa
