/- The contract of the document's own At: which character stands at a place of a text. -/
import Derived.Test.YtaochgndednamaaDoorURef
import Derived.Lib.QuietBelow
import Derived.BigQuiet
namespace Go.Proofs.YtaochgndednamaaDoor
open Go.RowKit

theorem dec8_four (l : List UInt8) : (dec8 l).2 ≤ 4 := by
  by_cases h : (dec8 l).2 = 0
  · omega
  · obtain ⟨_, _, _, d4⟩ := dec8_ok l h
    have := chr_length (dec8 l).1
    omega
theorem w64 (n : Nat) (h : n < 256) : wrap64 (n : Int) = n := by unfold wrap64; omega

theorem at8_is (s : ByteArray) (a k : Nat) (h : a + k < s.size) : at8 (s.data.toList.drop a) k = s[a + k].toNat := by
  rw [at8_drop s a k h]
  simp [ByteArray.get!, getElem!_pos, h]
  rfl

theorem take_ext (s : ByteArray) (a n : Nat) : (s.extract a (a + n)).data.toList = (s.data.toList.drop a).take n := by
  rw [Lib.extract_data, show a + n - a = n by omega]

set_option maxRecDepth 10000 in
set_option maxHeartbeats 1600000 in
theorem at_any (s : ByteArray) (a : Nat) (w : World) (ha : a < s.size) (hs : s.size ≤ 100000) :
    Calls Tryd.prog 34 #[.string s, .int .i64 (a : Int)] w fun e w' => e = .returned (.tuple #[.int .i32 ((dec8 (s.data.toList.drop a)).1 : Nat), .int .i64 ((dec8 (s.data.toList.drop a)).2 : Nat)]) ∧ Below w.heap.size w w' := by
  have hl : (s.data.toList.drop a).length = s.size - a := by rw [List.length_drop, Array.length_toList]; rfl
  have h4 := dec8_four (s.data.toList.drop a)
  have hle : (dec8 (s.data.toList.drop a)).2 ≤ s.size - a := by
    by_cases h : (dec8 (s.data.toList.drop a)).2 = 0
    · omega
    · have := (dec8_ok _ h).2.1; omega
  have hz := dec8_zero (s.data.toList.drop a)
  have H8 : Hid (∀ k (h : a + k < s.size), at8 (s.data.toList.drop a) k = s[a + k].toNat) := fun k h => at8_is s a k h
  have HT : Hid (∀ n, (s.extract a (a + n)).data.toList = (s.data.toList.drop a).take n) := fun n => take_ext s a n
  have HQ : Hid (∀ n, 1 ≤ n → n ≤ s.size - a → ((0 ≤ nn (s.data.toList.drop a) n n ∧ nn (s.data.toList.drop a) n n ≤ 1114111 ∧ chrI (nn (s.data.toList.drop a) n n) = (s.data.toList.drop a).take n) ↔ (dec8 (s.data.toList.drop a)).2 = n)) := fun n h1 h2 => at_asks _ n h1 (by omega)
  have HV : Hid (∀ n, 1 ≤ n → n ≤ s.size - a → (dec8 (s.data.toList.drop a)).2 = n → nn (s.data.toList.drop a) n n = ((dec8 (s.data.toList.drop a)).1 : Int)) := fun n h1 h2 h3 => at_val _ n h1 (by omega) h3
  generalize s.data.toList.drop a = l at *
  obtain ⟨D, hD⟩ : ∃ D, dec8 l = D := ⟨_, rfl⟩
  rw [hD] at h4 hle hz HQ HV ⊢
  have HZ : Hid _ := hz
  have H4 : Hid _ := h4
  have HL : Hid _ := hle
  clear hD hz h4 hle hl
  go_enter Tryd.func34, Tryd.ntmps34
  go_wp2_with fail
  go_loopw [6] (fun sv wr => ∃ n : Nat, sv = .int .i64 n ∧ 1 ≤ n ∧ n ≤ 5 ∧ Hid (∀ j, 1 ≤ j → j < n → D.2 ≠ j) ∧ Below w.heap.size w wr) (fun sv _ => 5 - (intOf sv).toNat)
  case atStart => exact ⟨1, rfl, by omega, by omega, fun j h1 h2 => by omega, Below.refl _ _⟩
  case round =>
    obtain ⟨n, rfl, hn1, hn5, HN, hB⟩ := hrel
    by_cases h5 : n = 5
    · subst h5
      have HE : Hid (D = (0, 0)) := HZ.out (by have h1 := HN.out; have h2 := H4.out; have := h1 1; have := h1 2; have := h1 3; have := h1 4; omega)
      go_wp2_with fail
      go_ret2
      rw [HE.out]
      exact ⟨rfl, hB⟩
    · by_cases hin : a + n ≤ s.size
      · have hin' : (a : Int) + n ≤ s.size := by omega
        have h4' : n = 1 ∨ n = 2 ∨ n = 3 ∨ n = 4 := by omega
        have hai : (a : Int) < s.size := by omega
        have g0 := H8.out 0 (by omega)
        simp only [Nat.add_zero] at g0
        have hw0 := w64 s[a].toNat s[a].toNat_lt
        have HR : Hid _ := nn_range l n
        have HS : Hid (nn l n 1 = (s[a].toNat : Int) - sub8 n) := by show _ = _; rw [← g0]; rfl
        have HJ : Hid (∀ j (h1 : 1 ≤ j) (h2 : j < n), nn l n (j + 1) = 64 * nn l n j + (s[a + j]'(by omega)).toNat - 128) := fun j h1 h2 => by
          obtain ⟨k, rfl⟩ : ∃ k, j = k + 1 := ⟨j - 1, by omega⟩
          rw [← H8.out (k + 1) (by omega)]
          rfl
        have HB : Hid (∀ j, 1 ≤ j → j < n → -1300000 ≤ nn l n j ∧ nn l n j ≤ 1300000) := fun j h1 h2 => by
          obtain ⟨r1, r2, r3, r4⟩ := HR.out
          have : j = 1 ∨ j = 2 ∨ j = 3 := by omega
          rcases this with rfl | rfl | rfl <;> omega
        have HBn : Hid (-90000000 ≤ nn l n n ∧ nn l n n ≤ 90000000) := by
          obtain ⟨r1, r2, r3, r4⟩ := HR.out
          rcases h4' with rfl | rfl | rfl | rfl
          · exact ⟨by omega, by omega⟩
          · exact ⟨by omega, by omega⟩
          · exact ⟨by omega, by omega⟩
          · exact ⟨by omega, by omega⟩
        have HQn : Hid _ := HQ.out n hn1 (by omega)
        have HVn : Hid _ := HV.out n hn1 (by omega)
        have HTn : Hid _ := HT.out n
        have hn4 : (n : Int) ≤ 4 := by omega
        clear g0 HR H8 HQ HV HT HZ H4 HL
        have HST : Hid ((n = 1 → nn l n 1 = (s[a].toNat : Int)) ∧ (n = 2 → nn l n 1 = (s[a].toNat : Int) - 192) ∧ (n = 3 → nn l n 1 = (s[a].toNat : Int) - 224) ∧ (n = 4 → nn l n 1 = (s[a].toNat : Int) - 240)) := by
          have := HS.out
          refine ⟨fun h => ?_, fun h => ?_, fun h => ?_, fun h => ?_⟩ <;> (subst h; rw [this]; simp [sub8])
        have hx := s[a].toNat_lt
        clear HS
        rcases h4' with rfl | rfl | rfl | rfl
        · have HI : Hid (nn l 1 1 = (s[a].toNat : Int)) := HST.out.1 rfl
          go_wp2_with fail
          go_loopw [7, 8] (fun nv kv wr => ∃ j : Nat, nv = .int .i64 (nn l 1 j) ∧ kv = .int .i64 j ∧ 1 ≤ j ∧ j ≤ 1 ∧ Below w.heap.size w wr) (fun _ kv _ => 1 - (intOf kv).toNat)
          case atStart => exact ⟨1, by rw [HI.out], rfl, by omega, by omega, hB⟩
          case round =>
            obtain ⟨j, rfl, rfl, hj1, hj2, hC⟩ := hrel
            by_cases hjn : j < 1
            · exfalso; omega
            · obtain rfl : j = 1 := by omega
              obtain ⟨hb1, hb2⟩ := HBn.out
              have hjn' : True := trivial
              have cC := fun (W : World) => char_any (nn l 1 1) W
              have hd1 : (ByteArray.mk (chrI (nn l 1 1)).toArray).data.toList = chrI (nn l 1 1) := rfl
              have hQ := HQn.out
              have hV := HVn.out
              rw [← hd1, ← HTn.out] at hQ
              generalize ByteArray.mk (chrI (nn l 1 1)).toArray = X at *
              generalize nn l 1 1 = N at *
              have hcmp : (X.toList == (s.extract a (a + 1)).toList) = decide (X.data.toList = (s.extract a (a + 1)).data.toList) := by
                rw [ByteArray.toList_eq, ByteArray.toList_eq]; simp [Bool.beq_eq_decide_eq]
              have hTo : ((a : Int) + 1).toNat = a + 1 := by omega
              have hWr : IntKind.i64.wrap ((a : Int) + 1) = (a : Int) + 1 := by rw [IntKind.wrap_i64]; omega
              have hwN : IntKind.i32.wrap N = N := by rw [IntKind.wrap_i32]; omega
              have g1 : (a : Int) + 1 ≤ s.size := by omega
              have g2 : (0 : Int) ≤ (a : Int) + 1 := by omega
              have g3 : (a : Int) ≤ (a : Int) + 1 := by omega
              have KC : ∀ d os, Calls Tryd.prog 36 #[.int .i32 N] (Go.Sort.grow (redrawn wr d) os) fun e w'' => e = .returned (.string X) ∧ ∃ p : Regrown, w'' = Go.Sort.grow (redrawn wr p.d) p.os := fun d os => Calls.regrown_of (cC _)
              have hcases : (D.2 = 1 ∧ decide (0 ≤ N) = true ∧ decide (N ≤ 1114111) = true ∧ (X.toList == (s.extract a (a + 1)).toList) = true) ∨ (D.2 ≠ 1 ∧ (decide (0 ≤ N) = false ∨ (decide (0 ≤ N) = true ∧ decide (N ≤ 1114111) = false) ∨ (decide (0 ≤ N) = true ∧ decide (N ≤ 1114111) = true ∧ (X.toList == (s.extract a (a + 1)).toList) = false))) := by
                by_cases hd : D.2 = 1
                · obtain ⟨q1, q2, q3⟩ := hQ.2 hd
                  exact .inl ⟨hd, decide_eq_true q1, decide_eq_true q2, by rw [hcmp, decide_eq_true q3]⟩
                · refine .inr ⟨hd, ?_⟩
                  by_cases q1 : 0 ≤ N
                  · by_cases q2 : N ≤ 1114111
                    · exact .inr (.inr ⟨decide_eq_true q1, decide_eq_true q2, by rw [hcmp]; exact decide_eq_false (fun q3 => hd (hQ.1 ⟨q1, q2, q3⟩))⟩)
                    · exact .inr (.inl ⟨decide_eq_true q1, decide_eq_false q2⟩)
                  · exact .inl (decide_eq_false q1)
              have HV2 : Hid (D.2 = 1 → N = (D.1 : Int)) := hV
              clear hQ hV hcmp cC hd1 HQn HVn HTn HST HB HBn HJ
              rcases hcases with ⟨hd, q1, q2, q3⟩ | ⟨hd, q1 | ⟨q1, q2⟩ | ⟨q1, q2, q3⟩⟩
              · have HD2 : Hid (D.2 = 1 ∧ N = (D.1 : Int)) := ⟨hd, HV2.out hd⟩
                clear hd HV2
                go_wp2_with fail
                refine wp_region_quiet_below (by kernel_rfl) (by kernel_rfl) ?_
                repeat (first | go_big_quiet_step (first | (go_at_call 36; exact KC _ _)) | quiet_step (first | (go_at_call 36; exact KC _ _)))
                refine wpQuiet_nil ?_
                intro _ hw'
                obtain ⟨⟨dq, osq⟩, hw2⟩ := hw'
                subst hw2
                have hC2 := hC.trans ((below_regrown wr dq osq).mono hC.size)
                have p1 := of_decide_eq_true q1
                have p2 := of_decide_eq_true q2
                clear q1 q2
                go_wp2_with fail
                go_ret2
                obtain ⟨e1, e2⟩ := HD2.out
                refine ⟨?_, hC2⟩
                rw [e1, ← e2]
                rfl
              all_goals
                have HN3 : Hid (∀ i, 1 ≤ i → i < 1 + 1 → D.2 ≠ i) := fun i h1 h2 => by
                  by_cases hij : i = 1
                  · rw [hij]; exact hd
                  · exact HN.out i h1 (by omega)
                clear hd HV2
                go_wp2_with fail
                refine wp_region_quiet_below (by kernel_rfl) (by kernel_rfl) ?_
                repeat (first | go_big_quiet_step (first | (go_at_call 36; exact KC _ _)) | quiet_step (first | (go_at_call 36; exact KC _ _)))
                refine wpQuiet_nil ?_
                intro _ hw'
                obtain ⟨⟨dq, osq⟩, hw2⟩ := hw'
                subst hw2
                have hC2 := hC.trans ((below_regrown wr dq osq).mono hC.size)
                go_wp2_with fail
                go_roundw
                case rel => exact ⟨1 + 1, by go_num, by omega, by omega, HN3, hC2⟩
                case measure => simp [intOf]
        · have HI : Hid (nn l 2 1 = (s[a].toNat : Int) - 192) := HST.out.2.1 rfl
          go_wp2_with fail
          go_loopw [7, 8] (fun nv kv wr => ∃ j : Nat, nv = .int .i64 (nn l 2 j) ∧ kv = .int .i64 j ∧ 1 ≤ j ∧ j ≤ 2 ∧ Below w.heap.size w wr) (fun _ kv _ => 2 - (intOf kv).toNat)
          case atStart => exact ⟨1, by rw [HI.out], rfl, by omega, by omega, hB⟩
          case round =>
            obtain ⟨j, rfl, rfl, hj1, hj2, hC⟩ := hrel
            by_cases hjn : j < 2
            · obtain ⟨hb1, hb2⟩ := HB.out j hj1 hjn
              have hjs := HJ.out j hj1 hjn
              have hy := (s[a + j]'(by omega)).toNat_lt
              have haj : (a : Int) + j < s.size := by omega
              have hjn' : (j : Int) < 2 := by omega
              have HN2 : Hid (nn l 2 (j + 1) = 64 * nn l 2 j + (s[a + j]'(by omega)).toNat - 128) := hjs
              clear hjs
              generalize nn l 2 j = N at *
              go_wp2_with fail
              go_roundw
              case rel => exact ⟨j + 1, by rw [HN2.out], by go_num, by omega, by omega, hC⟩
              case measure => simp [intOf]; omega
            · obtain rfl : j = 2 := by omega
              obtain ⟨hb1, hb2⟩ := HBn.out
              have hjn' : True := trivial
              have cC := fun (W : World) => char_any (nn l 2 2) W
              have hd1 : (ByteArray.mk (chrI (nn l 2 2)).toArray).data.toList = chrI (nn l 2 2) := rfl
              have hQ := HQn.out
              have hV := HVn.out
              rw [← hd1, ← HTn.out] at hQ
              generalize ByteArray.mk (chrI (nn l 2 2)).toArray = X at *
              generalize nn l 2 2 = N at *
              have hcmp : (X.toList == (s.extract a (a + 2)).toList) = decide (X.data.toList = (s.extract a (a + 2)).data.toList) := by
                rw [ByteArray.toList_eq, ByteArray.toList_eq]; simp [Bool.beq_eq_decide_eq]
              have hTo : ((a : Int) + 2).toNat = a + 2 := by omega
              have hWr : IntKind.i64.wrap ((a : Int) + 2) = (a : Int) + 2 := by rw [IntKind.wrap_i64]; omega
              have hwN : IntKind.i32.wrap N = N := by rw [IntKind.wrap_i32]; omega
              have g1 : (a : Int) + 2 ≤ s.size := by omega
              have g2 : (0 : Int) ≤ (a : Int) + 2 := by omega
              have g3 : (a : Int) ≤ (a : Int) + 2 := by omega
              have KC : ∀ d os, Calls Tryd.prog 36 #[.int .i32 N] (Go.Sort.grow (redrawn wr d) os) fun e w'' => e = .returned (.string X) ∧ ∃ p : Regrown, w'' = Go.Sort.grow (redrawn wr p.d) p.os := fun d os => Calls.regrown_of (cC _)
              have hcases : (D.2 = 2 ∧ decide (0 ≤ N) = true ∧ decide (N ≤ 1114111) = true ∧ (X.toList == (s.extract a (a + 2)).toList) = true) ∨ (D.2 ≠ 2 ∧ (decide (0 ≤ N) = false ∨ (decide (0 ≤ N) = true ∧ decide (N ≤ 1114111) = false) ∨ (decide (0 ≤ N) = true ∧ decide (N ≤ 1114111) = true ∧ (X.toList == (s.extract a (a + 2)).toList) = false))) := by
                by_cases hd : D.2 = 2
                · obtain ⟨q1, q2, q3⟩ := hQ.2 hd
                  exact .inl ⟨hd, decide_eq_true q1, decide_eq_true q2, by rw [hcmp, decide_eq_true q3]⟩
                · refine .inr ⟨hd, ?_⟩
                  by_cases q1 : 0 ≤ N
                  · by_cases q2 : N ≤ 1114111
                    · exact .inr (.inr ⟨decide_eq_true q1, decide_eq_true q2, by rw [hcmp]; exact decide_eq_false (fun q3 => hd (hQ.1 ⟨q1, q2, q3⟩))⟩)
                    · exact .inr (.inl ⟨decide_eq_true q1, decide_eq_false q2⟩)
                  · exact .inl (decide_eq_false q1)
              have HV2 : Hid (D.2 = 2 → N = (D.1 : Int)) := hV
              clear hQ hV hcmp cC hd1 HQn HVn HTn HST HB HBn HJ
              rcases hcases with ⟨hd, q1, q2, q3⟩ | ⟨hd, q1 | ⟨q1, q2⟩ | ⟨q1, q2, q3⟩⟩
              · have HD2 : Hid (D.2 = 2 ∧ N = (D.1 : Int)) := ⟨hd, HV2.out hd⟩
                clear hd HV2
                go_wp2_with fail
                refine wp_region_quiet_below (by kernel_rfl) (by kernel_rfl) ?_
                repeat (first | go_big_quiet_step (first | (go_at_call 36; exact KC _ _)) | quiet_step (first | (go_at_call 36; exact KC _ _)))
                refine wpQuiet_nil ?_
                intro _ hw'
                obtain ⟨⟨dq, osq⟩, hw2⟩ := hw'
                subst hw2
                have hC2 := hC.trans ((below_regrown wr dq osq).mono hC.size)
                have p1 := of_decide_eq_true q1
                have p2 := of_decide_eq_true q2
                clear q1 q2
                go_wp2_with fail
                go_ret2
                obtain ⟨e1, e2⟩ := HD2.out
                refine ⟨?_, hC2⟩
                rw [e1, ← e2]
                rfl
              all_goals
                have HN3 : Hid (∀ i, 1 ≤ i → i < 2 + 1 → D.2 ≠ i) := fun i h1 h2 => by
                  by_cases hij : i = 2
                  · rw [hij]; exact hd
                  · exact HN.out i h1 (by omega)
                clear hd HV2
                go_wp2_with fail
                refine wp_region_quiet_below (by kernel_rfl) (by kernel_rfl) ?_
                repeat (first | go_big_quiet_step (first | (go_at_call 36; exact KC _ _)) | quiet_step (first | (go_at_call 36; exact KC _ _)))
                refine wpQuiet_nil ?_
                intro _ hw'
                obtain ⟨⟨dq, osq⟩, hw2⟩ := hw'
                subst hw2
                have hC2 := hC.trans ((below_regrown wr dq osq).mono hC.size)
                go_wp2_with fail
                go_roundw
                case rel => exact ⟨2 + 1, by go_num, by omega, by omega, HN3, hC2⟩
                case measure => simp [intOf]
        · have HI : Hid (nn l 3 1 = (s[a].toNat : Int) - 224) := HST.out.2.2.1 rfl
          go_wp2_with fail
          go_loopw [7, 8] (fun nv kv wr => ∃ j : Nat, nv = .int .i64 (nn l 3 j) ∧ kv = .int .i64 j ∧ 1 ≤ j ∧ j ≤ 3 ∧ Below w.heap.size w wr) (fun _ kv _ => 3 - (intOf kv).toNat)
          case atStart => exact ⟨1, by rw [HI.out], rfl, by omega, by omega, hB⟩
          case round =>
            obtain ⟨j, rfl, rfl, hj1, hj2, hC⟩ := hrel
            by_cases hjn : j < 3
            · obtain ⟨hb1, hb2⟩ := HB.out j hj1 hjn
              have hjs := HJ.out j hj1 hjn
              have hy := (s[a + j]'(by omega)).toNat_lt
              have haj : (a : Int) + j < s.size := by omega
              have hjn' : (j : Int) < 3 := by omega
              have HN2 : Hid (nn l 3 (j + 1) = 64 * nn l 3 j + (s[a + j]'(by omega)).toNat - 128) := hjs
              clear hjs
              generalize nn l 3 j = N at *
              go_wp2_with fail
              go_roundw
              case rel => exact ⟨j + 1, by rw [HN2.out], by go_num, by omega, by omega, hC⟩
              case measure => simp [intOf]; omega
            · obtain rfl : j = 3 := by omega
              obtain ⟨hb1, hb2⟩ := HBn.out
              have hjn' : True := trivial
              have cC := fun (W : World) => char_any (nn l 3 3) W
              have hd1 : (ByteArray.mk (chrI (nn l 3 3)).toArray).data.toList = chrI (nn l 3 3) := rfl
              have hQ := HQn.out
              have hV := HVn.out
              rw [← hd1, ← HTn.out] at hQ
              generalize ByteArray.mk (chrI (nn l 3 3)).toArray = X at *
              generalize nn l 3 3 = N at *
              have hcmp : (X.toList == (s.extract a (a + 3)).toList) = decide (X.data.toList = (s.extract a (a + 3)).data.toList) := by
                rw [ByteArray.toList_eq, ByteArray.toList_eq]; simp [Bool.beq_eq_decide_eq]
              have hTo : ((a : Int) + 3).toNat = a + 3 := by omega
              have hWr : IntKind.i64.wrap ((a : Int) + 3) = (a : Int) + 3 := by rw [IntKind.wrap_i64]; omega
              have hwN : IntKind.i32.wrap N = N := by rw [IntKind.wrap_i32]; omega
              have g1 : (a : Int) + 3 ≤ s.size := by omega
              have g2 : (0 : Int) ≤ (a : Int) + 3 := by omega
              have g3 : (a : Int) ≤ (a : Int) + 3 := by omega
              have KC : ∀ d os, Calls Tryd.prog 36 #[.int .i32 N] (Go.Sort.grow (redrawn wr d) os) fun e w'' => e = .returned (.string X) ∧ ∃ p : Regrown, w'' = Go.Sort.grow (redrawn wr p.d) p.os := fun d os => Calls.regrown_of (cC _)
              have hcases : (D.2 = 3 ∧ decide (0 ≤ N) = true ∧ decide (N ≤ 1114111) = true ∧ (X.toList == (s.extract a (a + 3)).toList) = true) ∨ (D.2 ≠ 3 ∧ (decide (0 ≤ N) = false ∨ (decide (0 ≤ N) = true ∧ decide (N ≤ 1114111) = false) ∨ (decide (0 ≤ N) = true ∧ decide (N ≤ 1114111) = true ∧ (X.toList == (s.extract a (a + 3)).toList) = false))) := by
                by_cases hd : D.2 = 3
                · obtain ⟨q1, q2, q3⟩ := hQ.2 hd
                  exact .inl ⟨hd, decide_eq_true q1, decide_eq_true q2, by rw [hcmp, decide_eq_true q3]⟩
                · refine .inr ⟨hd, ?_⟩
                  by_cases q1 : 0 ≤ N
                  · by_cases q2 : N ≤ 1114111
                    · exact .inr (.inr ⟨decide_eq_true q1, decide_eq_true q2, by rw [hcmp]; exact decide_eq_false (fun q3 => hd (hQ.1 ⟨q1, q2, q3⟩))⟩)
                    · exact .inr (.inl ⟨decide_eq_true q1, decide_eq_false q2⟩)
                  · exact .inl (decide_eq_false q1)
              have HV2 : Hid (D.2 = 3 → N = (D.1 : Int)) := hV
              clear hQ hV hcmp cC hd1 HQn HVn HTn HST HB HBn HJ
              rcases hcases with ⟨hd, q1, q2, q3⟩ | ⟨hd, q1 | ⟨q1, q2⟩ | ⟨q1, q2, q3⟩⟩
              · have HD2 : Hid (D.2 = 3 ∧ N = (D.1 : Int)) := ⟨hd, HV2.out hd⟩
                clear hd HV2
                go_wp2_with fail
                refine wp_region_quiet_below (by kernel_rfl) (by kernel_rfl) ?_
                repeat (first | go_big_quiet_step (first | (go_at_call 36; exact KC _ _)) | quiet_step (first | (go_at_call 36; exact KC _ _)))
                refine wpQuiet_nil ?_
                intro _ hw'
                obtain ⟨⟨dq, osq⟩, hw2⟩ := hw'
                subst hw2
                have hC2 := hC.trans ((below_regrown wr dq osq).mono hC.size)
                have p1 := of_decide_eq_true q1
                have p2 := of_decide_eq_true q2
                clear q1 q2
                go_wp2_with fail
                go_ret2
                obtain ⟨e1, e2⟩ := HD2.out
                refine ⟨?_, hC2⟩
                rw [e1, ← e2]
                rfl
              all_goals
                have HN3 : Hid (∀ i, 1 ≤ i → i < 3 + 1 → D.2 ≠ i) := fun i h1 h2 => by
                  by_cases hij : i = 3
                  · rw [hij]; exact hd
                  · exact HN.out i h1 (by omega)
                clear hd HV2
                go_wp2_with fail
                refine wp_region_quiet_below (by kernel_rfl) (by kernel_rfl) ?_
                repeat (first | go_big_quiet_step (first | (go_at_call 36; exact KC _ _)) | quiet_step (first | (go_at_call 36; exact KC _ _)))
                refine wpQuiet_nil ?_
                intro _ hw'
                obtain ⟨⟨dq, osq⟩, hw2⟩ := hw'
                subst hw2
                have hC2 := hC.trans ((below_regrown wr dq osq).mono hC.size)
                go_wp2_with fail
                go_roundw
                case rel => exact ⟨3 + 1, by go_num, by omega, by omega, HN3, hC2⟩
                case measure => simp [intOf]
        · have HI : Hid (nn l 4 1 = (s[a].toNat : Int) - 240) := HST.out.2.2.2 rfl
          go_wp2_with fail
          go_loopw [7, 8] (fun nv kv wr => ∃ j : Nat, nv = .int .i64 (nn l 4 j) ∧ kv = .int .i64 j ∧ 1 ≤ j ∧ j ≤ 4 ∧ Below w.heap.size w wr) (fun _ kv _ => 4 - (intOf kv).toNat)
          case atStart => exact ⟨1, by rw [HI.out], rfl, by omega, by omega, hB⟩
          case round =>
            obtain ⟨j, rfl, rfl, hj1, hj2, hC⟩ := hrel
            by_cases hjn : j < 4
            · obtain ⟨hb1, hb2⟩ := HB.out j hj1 hjn
              have hjs := HJ.out j hj1 hjn
              have hy := (s[a + j]'(by omega)).toNat_lt
              have haj : (a : Int) + j < s.size := by omega
              have hjn' : (j : Int) < 4 := by omega
              have HN2 : Hid (nn l 4 (j + 1) = 64 * nn l 4 j + (s[a + j]'(by omega)).toNat - 128) := hjs
              clear hjs
              generalize nn l 4 j = N at *
              go_wp2_with fail
              go_roundw
              case rel => exact ⟨j + 1, by rw [HN2.out], by go_num, by omega, by omega, hC⟩
              case measure => simp [intOf]; omega
            · obtain rfl : j = 4 := by omega
              obtain ⟨hb1, hb2⟩ := HBn.out
              have hjn' : True := trivial
              have cC := fun (W : World) => char_any (nn l 4 4) W
              have hd1 : (ByteArray.mk (chrI (nn l 4 4)).toArray).data.toList = chrI (nn l 4 4) := rfl
              have hQ := HQn.out
              have hV := HVn.out
              rw [← hd1, ← HTn.out] at hQ
              generalize ByteArray.mk (chrI (nn l 4 4)).toArray = X at *
              generalize nn l 4 4 = N at *
              have hcmp : (X.toList == (s.extract a (a + 4)).toList) = decide (X.data.toList = (s.extract a (a + 4)).data.toList) := by
                rw [ByteArray.toList_eq, ByteArray.toList_eq]; simp [Bool.beq_eq_decide_eq]
              have hTo : ((a : Int) + 4).toNat = a + 4 := by omega
              have hWr : IntKind.i64.wrap ((a : Int) + 4) = (a : Int) + 4 := by rw [IntKind.wrap_i64]; omega
              have hwN : IntKind.i32.wrap N = N := by rw [IntKind.wrap_i32]; omega
              have g1 : (a : Int) + 4 ≤ s.size := by omega
              have g2 : (0 : Int) ≤ (a : Int) + 4 := by omega
              have g3 : (a : Int) ≤ (a : Int) + 4 := by omega
              have KC : ∀ d os, Calls Tryd.prog 36 #[.int .i32 N] (Go.Sort.grow (redrawn wr d) os) fun e w'' => e = .returned (.string X) ∧ ∃ p : Regrown, w'' = Go.Sort.grow (redrawn wr p.d) p.os := fun d os => Calls.regrown_of (cC _)
              have hcases : (D.2 = 4 ∧ decide (0 ≤ N) = true ∧ decide (N ≤ 1114111) = true ∧ (X.toList == (s.extract a (a + 4)).toList) = true) ∨ (D.2 ≠ 4 ∧ (decide (0 ≤ N) = false ∨ (decide (0 ≤ N) = true ∧ decide (N ≤ 1114111) = false) ∨ (decide (0 ≤ N) = true ∧ decide (N ≤ 1114111) = true ∧ (X.toList == (s.extract a (a + 4)).toList) = false))) := by
                by_cases hd : D.2 = 4
                · obtain ⟨q1, q2, q3⟩ := hQ.2 hd
                  exact .inl ⟨hd, decide_eq_true q1, decide_eq_true q2, by rw [hcmp, decide_eq_true q3]⟩
                · refine .inr ⟨hd, ?_⟩
                  by_cases q1 : 0 ≤ N
                  · by_cases q2 : N ≤ 1114111
                    · exact .inr (.inr ⟨decide_eq_true q1, decide_eq_true q2, by rw [hcmp]; exact decide_eq_false (fun q3 => hd (hQ.1 ⟨q1, q2, q3⟩))⟩)
                    · exact .inr (.inl ⟨decide_eq_true q1, decide_eq_false q2⟩)
                  · exact .inl (decide_eq_false q1)
              have HV2 : Hid (D.2 = 4 → N = (D.1 : Int)) := hV
              clear hQ hV hcmp cC hd1 HQn HVn HTn HST HB HBn HJ
              rcases hcases with ⟨hd, q1, q2, q3⟩ | ⟨hd, q1 | ⟨q1, q2⟩ | ⟨q1, q2, q3⟩⟩
              · have HD2 : Hid (D.2 = 4 ∧ N = (D.1 : Int)) := ⟨hd, HV2.out hd⟩
                clear hd HV2
                go_wp2_with fail
                refine wp_region_quiet_below (by kernel_rfl) (by kernel_rfl) ?_
                repeat (first | go_big_quiet_step (first | (go_at_call 36; exact KC _ _)) | quiet_step (first | (go_at_call 36; exact KC _ _)))
                refine wpQuiet_nil ?_
                intro _ hw'
                obtain ⟨⟨dq, osq⟩, hw2⟩ := hw'
                subst hw2
                have hC2 := hC.trans ((below_regrown wr dq osq).mono hC.size)
                have p1 := of_decide_eq_true q1
                have p2 := of_decide_eq_true q2
                clear q1 q2
                go_wp2_with fail
                go_ret2
                obtain ⟨e1, e2⟩ := HD2.out
                refine ⟨?_, hC2⟩
                rw [e1, ← e2]
                rfl
              all_goals
                have HN3 : Hid (∀ i, 1 ≤ i → i < 4 + 1 → D.2 ≠ i) := fun i h1 h2 => by
                  by_cases hij : i = 4
                  · rw [hij]; exact hd
                  · exact HN.out i h1 (by omega)
                clear hd HV2
                go_wp2_with fail
                refine wp_region_quiet_below (by kernel_rfl) (by kernel_rfl) ?_
                repeat (first | go_big_quiet_step (first | (go_at_call 36; exact KC _ _)) | quiet_step (first | (go_at_call 36; exact KC _ _)))
                refine wpQuiet_nil ?_
                intro _ hw'
                obtain ⟨⟨dq, osq⟩, hw2⟩ := hw'
                subst hw2
                have hC2 := hC.trans ((below_regrown wr dq osq).mono hC.size)
                go_wp2_with fail
                go_roundw
                case rel => exact ⟨4 + 1, by go_num, by omega, by omega, HN3, hC2⟩
                case measure => simp [intOf]
      · have hin' : ¬ (a : Int) + n ≤ s.size := by omega
        have hn4 : (n : Int) ≤ 4 := by omega
        have HE : Hid (D = (0, 0)) := HZ.out (by
          have h1 := HN.out
          have h2 := HL.out
          by_cases hd : D.2 = 0
          · exact hd
          · exact absurd rfl (h1 D.2 (by omega) (by omega)))
        go_wp2_with fail
        go_ret2
        rw [HE.out]
        exact ⟨rfl, hB⟩

end Go.Proofs.YtaochgndednamaaDoor
