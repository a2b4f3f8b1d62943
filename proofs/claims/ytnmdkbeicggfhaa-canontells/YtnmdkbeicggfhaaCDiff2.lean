/- The contract of ref's Diff. -/
import Derived.Test.YtnmdkbeicggfhaaCDiff
namespace Go.Proofs.Ytnmdkbeicggfhaa
open Go.RowKit

set_option maxRecDepth 10000 in
set_option maxHeartbeats 1000000 in
theorem rdiff_yes (A B : Nd) (a1 a2 a3 b1 b2 b3 : Option Addr) (c1 c2 c3 d1 d2 d3 : Nat) (w : World) (hA : NdAt w A a1 a2 a3) (hB : NdAt w B b1 b2 b3) (hk : A.kind = B.kind) (hi : A.ints.length = B.ints.length) (ht : A.texts.length = B.texts.length) (h1 : A.ints.length ≤ 100) (h2 : A.texts.length ≤ 100) :
    Calls Try.prog 38 #[.agg #[.int .i64 A.kind, .slice a1 A.ints.length c1, .slice a2 A.texts.length c2, .slice a3 A.kids.length c3], .agg #[.int .i64 B.kind, .slice b1 B.ints.length d1, .slice b2 B.texts.length d2, .slice b3 B.kids.length d3]] w fun e w' => StOut w w' e true (DL A B A.ints.length A.texts.length) := by
  obtain ⟨i0, hi0, hz0, hz1, hz2⟩ := info_parts Try.infoSet
  rw [← hk, ← hi, ← ht]
  have HA : Hid _ := hA
  have HB : Hid _ := hB
  have Hi : Hid _ := hi
  have Ht : Hid _ := ht
  clear hA hB hk hi ht
  obtain ⟨cA, hcA⟩ : ∃ cA : Array Value, cA = #[.int .i64 A.kind, .slice a1 A.ints.length c1, .slice a2 A.texts.length c2, .slice a3 A.kids.length c3] := ⟨_, rfl⟩
  obtain ⟨cB, hcB⟩ : ∃ cB : Array Value, cB = #[.int .i64 A.kind, .slice b1 A.ints.length d1, .slice b2 A.texts.length d2, .slice b3 B.kids.length d3] := ⟨_, rfl⟩
  have S0 : DfI w (((w.alloc (.cells cA 40)).alloc (.cells cB 40)).alloc (.cells #[] 69)) cA cB (.slice (some ⟨w.heap.size + 1 + 1, 0, none⟩) 0 0) (DL A B 0 0) := by
    refine ⟨((AtN.new w 40 _).alloc _).alloc _, (mk_at (AtN.new (w.alloc _) 40 _) (by simp)).alloc _, ?_, (((Below.refl _ _).alloc (Nat.le_refl _) _).alloc (by simp) _).alloc (by simp; omega) _⟩
    have := World.ownsRow_lit (base := w.heap.size + 1 + 1) (e := 69) (size := 4) ((w.alloc (.cells cA 40)).alloc (.cells cB 40)) #[] 0 (by simp) (by decide) (by simp)
    simpa [DL, dI, dT, stV] using this
  subst hcA hcB
  have HS : Hid _ := S0
  clear S0
  go_enter Try.func38, Try.ntmps38
  go_wp2_with fail
  go_loopw [6, 7] (fun lv iv wr => ∃ (i : Nat), iv = .int .i64 i ∧ i ≤ A.ints.length ∧ DfI w wr #[.int .i64 A.kind, .slice a1 A.ints.length c1, .slice a2 A.texts.length c2, .slice a3 A.kids.length c3] #[.int .i64 A.kind, .slice b1 A.ints.length d1, .slice b2 A.texts.length d2, .slice b3 B.kids.length d3] lv (DL A B i 0)) (fun _ iv _ => A.ints.length - (intOf iv).toNat)
  case atStart => exact ⟨0, rfl, by omega, HS.out⟩
  case round =>
    clear HS
    obtain ⟨i, rfl, hi, hD⟩ := hrel
    have x1 : wr.cell? ⟨w.heap.size, 1, none⟩ = some (.slice a1 A.ints.length c1) := hD.a.cell 1
    have y1 : wr.cell? ⟨w.heap.size + 1, 1, none⟩ = some (.slice b1 A.ints.length d1) := hD.b.cell 1
    by_cases hlt : i < A.ints.length
    · have hlt' : (i : Int) < A.ints.length := by omega
      obtain ⟨ga, oa, rfl, la, da⟩ := (HA.out.i.belowB hD.bel).at (iV_at A.ints i hlt)
      obtain ⟨gb, ob, rfl, lb, db⟩ := (HB.out.i.belowB hD.bel).at (iV_at B.ints i (by rw [← Hi.out]; exact hlt))
      obtain ⟨ao, co, hv⟩ := own_shape8 hD.own
      subst hv
      have hle := DL_le A B i 0
      by_cases he : A.ints.getD i 0 = B.ints.getD i 0
      · have HE : Hid _ := DL_i1 A B i he
        rw [← he] at db
        generalize A.ints.getD i 0 = x at *
        have HD : Hid _ := hD
        clear hD HA HB
        go_wp2_with fail
        go_quiet (fail)
        go_wp2_with fail
        go_roundw
        case rel => exact ⟨i + 1, by go_num, by omega, by rw [HE.out]; exact HD.out.dn _⟩
        case measure => simp [intOf]; omega
      · have HE : Hid _ := DL_i2 A B i he
        have HD : Hid _ := hD
        have he' : ¬ B.ints.getD i 0 = A.ints.getD i 0 := fun e => he e.symm
        generalize A.ints.getD i 0 = x at *
        generalize B.ints.getD i 0 = y at *
        generalize DL A B i 0 = L at *
        clear hD HA HB
        go_wp2_with fail
        go_quiet (fail)
        go_wp2_with (at_builtin; refine wpList_append_lies _ rfl (.tmp 51) (.tmp 59) 54 rfl (w.heap.size + 1 + 1) 69 i0 (.agg #[.bool false, .int .i64 0, .int .i64 0, .string ⟨#[]⟩]) 4 40 Try.underlying54 hi0 hz0 hz1 hz2 rfl (by decide) _ L.length (stV L) rfl ((HD.out.dn _).own.alloc _) ⟨wr.heap.size, 0, none⟩ 1 1 [.bool false, .int .i64 i, .int .i64 y, .string noT] rfl rfl (cells_four _ _ _ _ _ _) (by intro u hu; simp at hu; rcases hu with rfl | rfl | rfl | rfl <;> rfl) (by decide) (by unfold maxLen; omega) (by omega) (by have := HD.out.own; have := HD.out.b.lt; simp; omega) _ rfl ?_)
        intro g2 cap2 w2 hown2 hgrow2 _ _
        have HM : Hid _ := (HD.out.dn _).more ⟨false, i, y, noT⟩ hgrow2 hown2
        clear HD hown2 hgrow2
        go_wp2_with fail
        go_roundw
        case rel => exact ⟨i + 1, by go_num, by omega, by rw [HE.out]; simpa using HM.out⟩
        case measure => simp [intOf]; omega
    · have hlt' : ¬ (i : Int) < A.ints.length := by omega
      obtain rfl : i = A.ints.length := by omega
      have HD : Hid _ := hD
      clear hD
      go_wp2_with fail
      go_loopw [6, 8] (fun lv iv wr => ∃ (i : Nat), iv = .int .i64 i ∧ i ≤ A.texts.length ∧ DfI w wr #[.int .i64 A.kind, .slice a1 A.ints.length c1, .slice a2 A.texts.length c2, .slice a3 A.kids.length c3] #[.int .i64 A.kind, .slice b1 A.ints.length d1, .slice b2 A.texts.length d2, .slice b3 B.kids.length d3] lv (DL A B A.ints.length i)) (fun _ iv _ => A.texts.length - (intOf iv).toNat)
      case atStart => exact ⟨0, rfl, by omega, HD.out⟩
      case round =>
        clear HD x1 y1
        obtain ⟨i, rfl, hi, hD⟩ := hrel
        have x1 : wr.cell? ⟨w.heap.size, 2, none⟩ = some (.slice a2 A.texts.length c2) := hD.a.cell 2
        have y1 : wr.cell? ⟨w.heap.size + 1, 2, none⟩ = some (.slice b2 A.texts.length d2) := hD.b.cell 2
        obtain ⟨ao, co, hv⟩ := own_shape8 hD.own
        subst hv
        have hle := DL_le A B A.ints.length i
        by_cases hlt : i < A.texts.length
        · have hlt' : (i : Int) < A.texts.length := by omega
          obtain ⟨ga, oa, rfl, la, da⟩ := (HA.out.t.belowB hD.bel).at (tV_at A.texts i hlt)
          obtain ⟨gb, ob, rfl, lb, db⟩ := (HB.out.t.belowB hD.bel).at (tV_at B.texts i (by rw [← Ht.out]; exact hlt))
          by_cases he : A.texts.getD i noT = B.texts.getD i noT
          · have HE : Hid _ := DL_t1 A B A.ints.length i he
            rw [← he] at db
            generalize A.texts.getD i noT = x at *
            have HD : Hid _ := hD
            clear hD HA HB
            go_wp2_with fail
            go_quiet (fail)
            go_wp2_with fail
            go_roundw
            case rel => exact ⟨i + 1, by go_num, by omega, by rw [HE.out]; exact HD.out.dn _⟩
            case measure => simp [intOf]; omega
          · have HE : Hid _ := DL_t2 A B A.ints.length i he
            have HD : Hid _ := hD
            have he' : ¬ B.texts.getD i noT = A.texts.getD i noT := fun e => he e.symm
            have hq := eq_text (A.texts.getD i noT) (B.texts.getD i noT)
            rw [decide_eq_false he] at hq
            generalize A.texts.getD i noT = x at *
            generalize B.texts.getD i noT = y at *
            generalize DL A B A.ints.length i = L at *
            clear hD HA HB
            go_wp2_with fail
            go_quiet (fail)
            go_wp2_with (at_builtin; refine wpList_append_lies _ rfl (.tmp 79) (.tmp 87) 54 rfl (w.heap.size + 1 + 1) 69 i0 (.agg #[.bool false, .int .i64 0, .int .i64 0, .string ⟨#[]⟩]) 4 40 Try.underlying54 hi0 hz0 hz1 hz2 rfl (by decide) _ L.length (stV L) rfl ((HD.out.dn _).own.alloc _) ⟨wr.heap.size, 0, none⟩ 1 1 [.bool true, .int .i64 i, .int .i64 0, .string y] rfl rfl (cells_four _ _ _ _ _ _) (by intro u hu; simp at hu; rcases hu with rfl | rfl | rfl | rfl <;> rfl) (by decide) (by unfold maxLen; omega) (by omega) (by have := HD.out.own; have := HD.out.b.lt; simp; omega) _ rfl ?_)
            intro g2 cap2 w2 hown2 hgrow2 _ _
            have HM : Hid _ := (HD.out.dn _).more ⟨true, i, 0, y⟩ hgrow2 hown2
            clear HD hown2 hgrow2
            go_wp2_with fail
            go_roundw
            case rel => exact ⟨i + 1, by go_num, by omega, by rw [HE.out]; simpa using HM.out⟩
            case measure => simp [intOf]; omega
        · have hlt' : ¬ (i : Int) < A.texts.length := by omega
          obtain rfl : i = A.texts.length := by omega
          have HD : Hid _ := hD
          clear hD
          go_wp2_with fail
          go_ret2
          exact ⟨_, _, rfl, own_mono HD.out.own (by omega), HD.out.bel⟩

set_option maxRecDepth 10000 in
set_option maxHeartbeats 400000 in
theorem rdiff_no (A B : Nd) (a1 a2 a3 b1 b2 b3 : Option Addr) (c1 c2 c3 d1 d2 d3 : Nat) (w : World) (h : cmp A B = false) :
    Calls Try.prog 38 #[.agg #[.int .i64 A.kind, .slice a1 A.ints.length c1, .slice a2 A.texts.length c2, .slice a3 A.kids.length c3], .agg #[.int .i64 B.kind, .slice b1 B.ints.length d1, .slice b2 B.texts.length d2, .slice b3 B.kids.length d3]] w fun e w' => StOut w w' e false [] := by
  have HB : Hid _ := fun (o p : Obj) => ((Below.refl w.heap.size w).alloc (Nat.le_refl _) o).alloc (by simp) p
  unfold cmp at h
  simp only [decide_eq_false_iff_not] at h
  by_cases hk : A.kind = B.kind
  · by_cases hi : A.ints.length = B.ints.length
    · have ht : ¬ A.texts.length = B.texts.length := fun e => h ⟨hk, hi, e⟩
      have ht' : ¬ (A.texts.length : Int) = B.texts.length := by omega
      rw [hk, hi]
      clear h hk hi
      go_enter Try.func38, Try.ntmps38
      go_wp2_with fail
      go_ret2
      exact ⟨_, _, rfl, World.ownsRow_nil _ _ _ _, HB.out _ _⟩
    · have hi' : ¬ (A.ints.length : Int) = B.ints.length := by omega
      rw [hk]
      clear h hk
      go_enter Try.func38, Try.ntmps38
      go_wp2_with fail
      go_ret2
      exact ⟨_, _, rfl, World.ownsRow_nil _ _ _ _, HB.out _ _⟩
  · clear h
    go_enter Try.func38, Try.ntmps38
    go_wp2_with fail
    go_ret2
    exact ⟨_, _, rfl, World.ownsRow_nil _ _ _ _, HB.out _ _⟩

theorem rdiff_any (A B : Nd) (a1 a2 a3 b1 b2 b3 : Option Addr) (c1 c2 c3 d1 d2 d3 : Nat) (w : World) (hA : NdAt w A a1 a2 a3) (hB : NdAt w B b1 b2 b3) (h1 : A.ints.length ≤ 100) (h2 : A.texts.length ≤ 100) :
    Calls Try.prog 38 #[.agg #[.int .i64 A.kind, .slice a1 A.ints.length c1, .slice a2 A.texts.length c2, .slice a3 A.kids.length c3], .agg #[.int .i64 B.kind, .slice b1 B.ints.length d1, .slice b2 B.texts.length d2, .slice b3 B.kids.length d3]] w fun e w' => StOut w w' e (cmp A B) (dL A B) := by
  cases h : cmp A B with
  | false =>
    rw [show dL A B = [] by unfold dL; rw [h]; rfl]
    exact rdiff_no A B a1 a2 a3 b1 b2 b3 c1 c2 c3 d1 d2 d3 w h
  | true =>
    rw [show dL A B = DL A B A.ints.length A.texts.length by unfold dL; rw [h]; rfl]
    unfold cmp at h
    rw [decide_eq_true_eq] at h
    exact rdiff_yes A B a1 a2 a3 b1 b2 b3 c1 c2 c3 d1 d2 d3 w hA hB h.1 h.2.1 h.2.2 h1 h2

end Go.Proofs.Ytnmdkbeicggfhaa
