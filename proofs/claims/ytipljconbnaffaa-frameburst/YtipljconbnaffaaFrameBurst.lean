/- For every list of sections l, every two ints at and every uint32 mask the law FrameBurst returns true: with bits changed within 32 on end of one payload, and nowhere else, a file is told to have a wrong sum, just if the payload is another one (more than 20 sections, payloads of more than 1000 bytes, and places outside, are let go by the law itself); no condition. -/
import Derived.Test.YtipljconbnaffaaRows
import Derived.WalkKit
import Derived.ProofKit
import Derived.OpenShut
import Derived.ShutString
import Derived.Below
import Derived.Lib.QuietBelow
import Derived.BigQuiet
import Derived.Deep.RegionWith
import Derived.Test.YtipljconbnaffaaAwake04
import Derived.Test.YtipljconbnaffaaSecsIn
import Derived.Test.YtipljconbnaffaaArrIn
import Derived.Test.YtipljconbnaffaaFMath2
import Derived.Test.YtipljconbnaffaaRPut
import Derived.ChangeOld
namespace Go.Proofs.Ytipljconbnaffaa.frameBurst
open Go.ChangeShapes Go.WideShapes Go.ChangeAt Go.RowKit
open Go.ChangeMaps (open_string shut_string)
set_option linter.unusedVariables false

theorem own : ownKnob Try.prog.godebug = none := by kernel_rfl
theorem laidOut : laidOutB Try.prog = true := by kernel_rfl

set_option maxRecDepth 10000 in
set_option maxHeartbeats 800000 in
theorem let_go (a0 : Option Addr) (cap0 b o : Nat) (L0 : List Sec) (x1 y1 m : Int) (G : Bool) (w : World) (hmax : cap0 ≤ maxLen) (hcap : L0.length ≤ cap0) (ha : 0 < L0.length → a0 = some ⟨b, o, none⟩) (hs : SecAt w b o L0) (hg : grt L0 = G)
    (hc : G = true ∨ (G = false ∧ decide (x1 < 0) = true) ∨ (G = false ∧ decide (x1 < 0) = false ∧ decide ((L0.length : Int) ≤ x1) = true) ∨ (G = false ∧ decide (x1 < 0) = false ∧ decide ((L0.length : Int) ≤ x1) = false ∧ decide (y1 < 0) = true)) :
    Calls Try.prog 7 #[.slice a0 L0.length cap0, .agg #[.int .i64 x1, .int .i64 y1], .int .u32 m] w fun e w' => e = .returned (.bool true) ∧ Below w.heap.size w w' := by
  have hmax' := hmax
  unfold maxLen at hmax'
  have HGr : Hid _ := fun (W : World) (hW : SecAt W b o L0) => great_any a0 L0.length cap0 b o L0 W rfl ha hW (by omega)
  rw [hg] at HGr
  have hw1 : Below w.heap.size w (w.alloc (.cells #[.int .i64 x1, .int .i64 y1] 38)) := (Below.refl _ _).alloc (Nat.le_refl _) _
  have q0 : (w.alloc (.cells #[.int .i64 x1, .int .i64 y1] 38)).cell? ⟨w.heap.size, 0, none⟩ = some (.int .i64 x1) := by rw [cell_of_row _ w.heap.size 0 _ _ (0, 0) (heap_alloc_new w _)]; rfl
  have q1 : (w.alloc (.cells #[.int .i64 x1, .int .i64 y1] 38)).cell? ⟨w.heap.size, 1, none⟩ = some (.int .i64 y1) := by rw [cell_of_row _ w.heap.size 1 _ _ (0, 0) (heap_alloc_new w _)]; rfl
  have hs1 : SecAt (w.alloc (.cells #[.int .i64 x1, .int .i64 y1] 38)) b o L0 := hs.below hw1
  clear hg hmax
  rcases hc with rfl | ⟨rfl, k1⟩ | ⟨rfl, k1, k2⟩ | ⟨rfl, k1, k2, k3⟩
  all_goals
    have m0 := fun d os => cell_regrown q0 d os
    have m1 := fun d os => cell_regrown q1 d os
    have cA : ∀ d os, Calls Try.prog 9 #[] (Go.Sort.grow (redrawn (w.alloc (.cells #[.int .i64 x1, .int .i64 y1] 38)) d) os) fun e w'' => e = .returned (.bool true) ∧ ∃ p : Regrown, w'' = Go.Sort.grow (redrawn (w.alloc (.cells #[.int .i64 x1, .int .i64 y1] 38)) p.d) p.os := fun d os => Calls.regrown_of (awake_any _)
    have cG := fun d os => Calls.regrown_of (HGr.out (Go.Sort.grow (redrawn (w.alloc (.cells #[.int .i64 x1, .int .i64 y1] 38)) d) os) (hs1.below (below_regrown _ d os)))
    clear HGr hs1 hs ha
    go_enter Try.func7, Try.ntmps7
    go_wp2_with fail
    generalize w.alloc (.cells #[.int .i64 x1, .int .i64 y1] 38) = w1 at *
    refine wp_region_quiet_below (by kernel_rfl) (by kernel_rfl) ?_
    repeat (first | go_big_quiet_step (first | (go_at_call 9; exact cA _ _) | (go_at_call 10; exact cG _ _)) | quiet_step (first | (go_at_call 9; exact cA _ _) | (go_at_call 10; exact cG _ _)))
    refine wpQuiet_nil ?_
    intro _ hw'
    obtain ⟨⟨dq, osq⟩, hw''⟩ := hw'
    subst hw''
    go_wp2_with fail
    refine (awake_any _).mono ?_
    rintro e w4 ⟨rfl, b4⟩
    go_wp2_with fail
    go_ret
    have hb1 := hw1.trans ((below_regrown w1 dq osq).mono hw1.size)
    exact ⟨rfl, hb1.trans (b4.mono hb1.size)⟩

set_option maxRecDepth 10000 in
set_option maxHeartbeats 800000 in
theorem let_go5 (cap0 b o : Nat) (L0 : List Sec) (i : Nat) (y1 m : Int) (w : World) (hmax : cap0 ≤ maxLen) (hcap : L0.length ≤ cap0) (hs : SecAt w b o L0) (hg : grt L0 = false) (hi : i < L0.length) (hpi : (L0[i]).2.size ≤ 1000) (k3 : decide (y1 < 0) = false) (k4 : decide (8 * ((L0[i]).2.size : Int) ≤ y1) = true) :
    Calls Try.prog 7 #[.slice (some ⟨b, o, none⟩) L0.length cap0, .agg #[.int .i64 (i : Int), .int .i64 y1], .int .u32 m] w fun e w' => e = .returned (.bool true) ∧ Below w.heap.size w w' := by
  have hmax' := hmax
  unfold maxLen at hmax'
  have HGr : Hid _ := fun (W : World) (hW : SecAt W b o L0) => great_any (some ⟨b, o, none⟩) L0.length cap0 b o L0 W rfl (fun _ => rfl) hW (by omega)
  rw [hg] at HGr
  have hw1 : Below w.heap.size w (w.alloc (.cells #[.int .i64 (i : Int), .int .i64 y1] 38)) := (Below.refl _ _).alloc (Nat.le_refl _) _
  have q0 : (w.alloc (.cells #[.int .i64 (i : Int), .int .i64 y1] 38)).cell? ⟨w.heap.size, 0, none⟩ = some (.int .i64 (i : Int)) := by rw [cell_of_row _ w.heap.size 0 _ _ (0, 0) (heap_alloc_new w _)]; rfl
  have q1 : (w.alloc (.cells #[.int .i64 (i : Int), .int .i64 y1] 38)).cell? ⟨w.heap.size, 1, none⟩ = some (.int .i64 y1) := by rw [cell_of_row _ w.heap.size 1 _ _ (0, 0) (heap_alloc_new w _)]; rfl
  have hs1 : SecAt (w.alloc (.cells #[.int .i64 (i : Int), .int .i64 y1] 38)) b o L0 := hs.below hw1
  clear hg hmax
  have hl : (i : Int) < L0.length := by omega
  have k1 : decide ((i : Int) < 0) = false := by simp
  have k2 : decide ((L0.length : Int) ≤ (i : Int)) = false := by simp; omega
  obtain ⟨hbl, c0, c1⟩ := hs1 i hi
  generalize L0[i] = s at *
  obtain ⟨x, p⟩ := s
  dsimp only at c0 c1 k4 hpi
  have m3 := fun d os => cell_regrown c1 d os
  have m0 := fun d os => cell_regrown q0 d os
  have m1 := fun d os => cell_regrown q1 d os
  have cA : ∀ d os, Calls Try.prog 9 #[] (Go.Sort.grow (redrawn (w.alloc (.cells #[.int .i64 (i : Int), .int .i64 y1] 38)) d) os) fun e w'' => e = .returned (.bool true) ∧ ∃ p : Regrown, w'' = Go.Sort.grow (redrawn (w.alloc (.cells #[.int .i64 (i : Int), .int .i64 y1] 38)) p.d) p.os := fun d os => Calls.regrown_of (awake_any _)
  have cG := fun d os => Calls.regrown_of (HGr.out (Go.Sort.grow (redrawn (w.alloc (.cells #[.int .i64 (i : Int), .int .i64 y1] 38)) d) os) (hs1.below (below_regrown _ d os)))
  clear HGr hs
  go_enter Try.func7, Try.ntmps7
  go_wp2_with fail
  generalize w.alloc (.cells #[.int .i64 (i : Int), .int .i64 y1] 38) = w1 at *
  refine wp_region_quiet_below (by kernel_rfl) (by kernel_rfl) ?_
  repeat (first | go_big_quiet_step (first | (go_at_call 9; exact cA _ _) | (go_at_call 10; exact cG _ _)) | quiet_step (first | (go_at_call 9; exact cA _ _) | (go_at_call 10; exact cG _ _)))
  refine wpQuiet_nil ?_
  intro _ hw'
  obtain ⟨⟨dq, osq⟩, hw''⟩ := hw'
  subst hw''
  have k4p := of_decide_eq_true k4
  have k2p : ¬ L0.length ≤ i := by omega
  clear k1 k2 k3 k4
  go_wp2_with fail
  refine (awake_any _).mono ?_
  rintro e w4 ⟨rfl, b4⟩
  go_wp2_with fail
  go_ret
  have hb1 := hw1.trans ((below_regrown w1 dq osq).mono hw1.size)
  exact ⟨rfl, hb1.trans (b4.mono hb1.size)⟩

theorem secAt_take {w : World} {b o : Nat} {L : List Sec} (h : SecAt w b o L) (n : Nat) : SecAt w b o (L.take n) := fun j hj => by
  have hj2 : j < L.length := by rw [List.length_take] at hj; omega
  have e : (L.take n)[j] = L[j] := List.getElem_take
  rw [e]
  exact h j hj2

theorem neq_text (N p : ByteArray) : (N.toList == p.toList) = decide (N = p) := by
  rw [ByteArray.toList_eq, ByteArray.toList_eq, Bool.eq_iff_iff]
  simp only [beq_iff_eq, decide_eq_true_eq]
  exact ⟨fun h => ba_ext h, fun h => by rw [h]⟩

set_option maxRecDepth 10000 in
set_option maxHeartbeats 1600000 in
theorem burst_go (cap0 b o : Nat) (L0 : List Sec) (i k m : Nat) (w : World) (hmax : cap0 ≤ maxLen) (hcap : L0.length ≤ cap0) (hs : SecAt w b o L0) (hg : grt L0 = false) (hi : i < L0.length) (hk : k < 8 * (L0[i]).2.size) (hm : m < 4294967296) :
    Calls Try.prog 7 #[.slice (some ⟨b, o, none⟩) L0.length cap0, .agg #[.int .i64 (i : Int), .int .i64 (k : Int)], .int .u32 (m : Int)] w fun e w' => e = .returned (.bool true) ∧ Below w.heap.size w w' := by
  have hmax' := hmax
  unfold maxLen at hmax'
  have HGr : Hid _ := fun (W : World) (hW : SecAt W b o L0) => great_any (some ⟨b, o, none⟩) L0.length cap0 b o L0 W rfl (fun _ => rfl) hW (by omega)
  rw [hg] at HGr
  obtain ⟨h20, h1000⟩ := grt_no L0 hg
  have hpi := h1000 _ (List.getElem_mem hi)
  have hw1 : Below w.heap.size w (w.alloc (.cells #[.int .i64 (i : Int), .int .i64 (k : Int)] 38)) := (Below.refl _ _).alloc (Nat.le_refl _) _
  have q0 : (w.alloc (.cells #[.int .i64 (i : Int), .int .i64 (k : Int)] 38)).cell? ⟨w.heap.size, 0, none⟩ = some (.int .i64 (i : Int)) := by rw [cell_of_row _ w.heap.size 0 _ _ (0, 0) (heap_alloc_new w _)]; rfl
  have q1 : (w.alloc (.cells #[.int .i64 (i : Int), .int .i64 (k : Int)] 38)).cell? ⟨w.heap.size, 1, none⟩ = some (.int .i64 (k : Int)) := by rw [cell_of_row _ w.heap.size 1 _ _ (0, 0) (heap_alloc_new w _)]; rfl
  have hs1 : SecAt (w.alloc (.cells #[.int .i64 (i : Int), .int .i64 (k : Int)] 38)) b o L0 := hs.below hw1
  have hbx : w.heap.size < (w.alloc (.cells #[.int .i64 (i : Int), .int .i64 (k : Int)] 38)).heap.size := by simp
  -- what Put and the document's Put answer
  have HP : Hid (∀ (W : World) (ao : Option Addr) (cap gk : Nat), (0 < L0.length → ao = some ⟨gk, 0, none⟩) → SecAt W gk 0 L0 → Calls Try.prog 11 #[.string ⟨#[68, 73, 79, 82]⟩, .int .i64 2, .slice ao L0.length cap] W fun e w' => e = .returned (.tuple #[.string ⟨(pPut ⟨#[68, 73, 79, 82]⟩ 2 L0).1.toArray⟩, .int .i64 (pPut ⟨#[68, 73, 79, 82]⟩ 2 L0).2]) ∧ Below W.heap.size W w') := fun W ao cap gk h1 h2 => fput_any _ 2 ao cap gk 0 L0 W h20 h1 h2 (fun s hs => Nat.le_trans (h1000 s hs) (by decide))
  have HRf : Hid (∀ (W : World), SecAt W b o L0 → Calls Try.prog 12 #[.string ⟨#[68, 73, 79, 82]⟩, .int .i64 2, .slice (some ⟨b, o, none⟩) (i + 1) cap0] W fun e w' => e = .returned (.tuple #[.string ⟨(pPut ⟨#[68, 73, 79, 82]⟩ 2 (L0.take (i + 1))).1.toArray⟩, .int .i64 (pPut ⟨#[68, 73, 79, 82]⟩ 2 (L0.take (i + 1))).2]) ∧ Below W.heap.size W w') := fun W hW => by
    have h := rput_any ⟨#[68, 73, 79, 82]⟩ 2 (some ⟨b, o, none⟩) cap0 b o (L0.take (i + 1)) W (fun _ => rfl) (secAt_take hW _) (fun s hs => Nat.le_trans (h1000 s (List.mem_of_mem_take hs)) (by decide))
    rw [show (L0.take (i + 1)).length = i + 1 by rw [List.length_take]; omega] at h
    exact h
  have HFl : Hid _ := fun W => flip_any (L0[i]).2 k m W hpi hk hm
  have hN := pPut_bad ⟨#[68, 73, 79, 82]⟩ 2 L0
  have hZ := pPut_length ⟨#[68, 73, 79, 82]⟩ 2 L0 1000 h1000
  have hfile := file_split ⟨#[68, 73, 79, 82]⟩ 2 L0 i hi
  have hhead := head_split ⟨#[68, 73, 79, 82]⟩ 2 L0 i hi
  have hback := back_math ⟨#[68, 73, 79, 82]⟩ 2 L0
  have hburst := fun h => burst_math ⟨#[68, 73, 79, 82]⟩ 2 L0 i hi h
  generalize pPut ⟨#[68, 73, 79, 82]⟩ 2 L0 = R at *
  obtain ⟨bs, E⟩ := R
  dsimp only at hN hZ hfile hhead hback hburst HP
  generalize pPut ⟨#[68, 73, 79, 82]⟩ 2 (L0.take (i + 1)) = R2 at *
  obtain ⟨hd, E2⟩ := R2
  have hdX : (ByteArray.mk bs.toArray).data.toList = bs := rfl
  have hdH : (ByteArray.mk hd.toArray).data.toList = hd := rfl
  have he0 : bs = [] → (ByteArray.mk bs.toArray).toList = (⟨#[]⟩ : ByteArray).toList := fun h => by rw [h]
  dsimp only at HRf hhead
  generalize ByteArray.mk bs.toArray = X at *
  generalize ByteArray.mk hd.toArray = Hh at *
  have HC : Hid (∀ W : World, SecAt W b o L0 → b < W.heap.size ∧ W.cell? ⟨b, o + i * 2, none⟩ = some (.int .i64 (L0[i]).1) ∧ W.cell? ⟨b, o + i * 2 + 1, none⟩ = some (.string (L0[i]).2)) := fun W hW => hW i hi
  generalize L0[i] = s at *
  obtain ⟨x, p⟩ := s
  dsimp only at *
  have hl : (i : Int) < L0.length := by omega
  have k1 : decide ((i : Int) < 0) = false := by simp
  have k2 : decide ((L0.length : Int) ≤ (i : Int)) = false := by simp; omega
  have k3 : decide ((k : Int) < 0) = false := by simp
  have k4 : decide (8 * (p.size : Int) ≤ (k : Int)) = false := by simp; omega
  have hE : (E = 0 ∧ Hid (bs = aheadL [68, 73, 79, 82] 2 L0 i (x, p) ++ (p.data.toList ++ behindL L0 i (x, p)) ∧ hd = aheadL [68, 73, 79, 82] 2 L0 i (x, p) ++ (p.data.toList ++ four (crc p.data.toList)) ∧ E2 = 0 ∧ pGet [68, 73, 79, 82] bs = (0, 2, L0) ∧ ∀ c : List UInt8, c.length = p.size → crc p.data.toList ≠ crc c → (pGet [68, 73, 79, 82] (aheadL [68, 73, 79, 82] 2 L0 i (x, p) ++ (c ++ behindL L0 i (x, p)))).1 = 5)) ∨ ((E != 0) = true ∧ X.toList = (⟨#[]⟩ : ByteArray).toList) := by
    by_cases h : E = 0
    · have h2 := hhead h
      simp only [Prod.mk.injEq] at h2
      exact .inl ⟨h, hfile h, h2.1, h2.2, hback h, hburst h⟩
    · exact .inr ⟨by simpa using h, he0 (hN h)⟩
  clear hN hfile hhead hback hburst he0 hg
  have m0 := fun d os => cell_regrown q0 d os
  have m1 := fun d os => cell_regrown q1 d os
  have m3 := fun d os => cell_regrown (HC.out _ hs1).2.2 d os
  have cA : ∀ d os, Calls Try.prog 9 #[] (Go.Sort.grow (redrawn (w.alloc (.cells #[.int .i64 (i : Int), .int .i64 (k : Int)] 38)) d) os) fun e w'' => e = .returned (.bool true) ∧ ∃ p : Regrown, w'' = Go.Sort.grow (redrawn (w.alloc (.cells #[.int .i64 (i : Int), .int .i64 (k : Int)] 38)) p.d) p.os := fun d os => Calls.regrown_of (awake_any _)
  have cG := fun d os => Calls.regrown_of (HGr.out (Go.Sort.grow (redrawn (w.alloc (.cells #[.int .i64 (i : Int), .int .i64 (k : Int)] 38)) d) os) (hs1.below (below_regrown _ d os)))
  clear HGr hs
  go_enter Try.func7, Try.ntmps7
  go_wp2_with fail
  generalize w.alloc (.cells #[.int .i64 (i : Int), .int .i64 (k : Int)] 38) = w1 at *
  refine wp_region_quiet_below (by kernel_rfl) (by kernel_rfl) ?_
  repeat (first | go_big_quiet_step (first | (go_at_call 9; exact cA _ _) | (go_at_call 10; exact cG _ _)) | quiet_step (first | (go_at_call 9; exact cA _ _) | (go_at_call 10; exact cG _ _)))
  refine wpQuiet_nil ?_
  intro _ hw'
  obtain ⟨⟨dq, osq⟩, hw2⟩ := hw'
  have B2 : Below w1.heap.size w1 (Go.Sort.grow (redrawn w1 dq) osq) := below_regrown w1 dq osq
  rw [← hw2] at B2
  have k4p : ¬ 8 * (p.size : Int) ≤ (k : Int) := of_decide_eq_false k4
  have k2p : ¬ L0.length ≤ i := by omega
  clear hw2 m0 m1 m3 cA cG k1 k2 k3 k4
  rename World => w2
  have hs2 := hs1.below B2
  have t0 := ((bcell B2).1 w.heap.size 0 hbx).trans q0
  have t1 := ((bcell B2).1 w.heap.size 1 hbx).trans q1
  have hbx2 : w.heap.size < w2.heap.size := Nat.lt_of_lt_of_le hbx B2.size
  have B2' := hw1.trans (B2.mono hw1.size)
  clear q0 q1 hs1 hw1 B2 hbx
  obtain ⟨i0, hi0, hz0, hz1, hz2⟩ := info_parts Try.infoS
  have ho2 := own_empty w2
  have B3 : Below w2.heap.size w2 (w2.alloc (.cells #[] 41)) := (Below.refl _ _).alloc (Nat.le_refl _) _
  have hs3 := hs2.below B3
  have HN := SecAt.news hs3
  go_wp2_with (at_builtin; refine wpList_append_own _ rfl _ _ 22 rfl w2.heap.size 41 i0 (.agg #[.int .i64 0, .string ⟨#[]⟩]) 2 24 Try.underlying22 hi0 hz0 hz1 hz2 rfl (by decide) _ _ _ rfl ho2 ⟨b, o, none⟩ L0.length cap0 (sV L0) rfl (sV_length L0) HN (sV_oneCell L0) ?c3 ?c4 ?c5 ?_)
  case c3 => unfold maxLen; omega
  case c4 => omega
  intro v4 w4 hown4 hgrow4 _
  obtain ⟨ao, cap4, rfl⟩ := own_shape hown4
  obtain ⟨gk, hao, hsec⟩ := own_secs hown4 rfl
  have B4 : Below w2.heap.size w2 w4 := B3.grown hgrow4 (by simp) (fun k hk => (ho2.lt k hk).1)
  clear hown4 hgrow4 B3 hs3 HN ho2
  go_wp2_with fail
  refine (HP.out _ _ _ gk hao hsec).mono ?_
  rintro e w5 ⟨rfl, b5⟩
  have B5 := B4.trans (b5.mono B4.size)
  clear B4 b5 HP hsec hao
  rcases hE with ⟨rfl, HE⟩ | ⟨hE1, hX⟩
  · have hs5 := hs2.below B5
    have t0' := ((bcell B5).1 w.heap.size 0 hbx2).trans t0
    have t1' := ((bcell B5).1 w.heap.size 1 hbx2).trans t1
    have B5' := B2'.trans (B5.mono B2'.size)
    have hbx5 : w.heap.size < w5.heap.size := Nat.lt_of_lt_of_le hbx2 B5.size
    have hic : (i : Int) + 1 ≤ cap0 := by omega
    have hA := (HE.out).1
    have hlA := congrArg List.length hA
    have hlH := congrArg List.length HE.out.2.1
    simp only [List.length_append, list_size, four_length] at hlA hlH
    rw [← hdX, list_size] at hlA
    rw [← hdH, list_size] at hlH
    obtain ⟨An, hAn⟩ : ∃ An, (aheadL [68, 73, 79, 82] 2 L0 i (x, p)).length = An := ⟨_, rfl⟩
    obtain ⟨Bn, hBn⟩ : ∃ Bn, (behindL L0 i (x, p)).length = Bn := ⟨_, rfl⟩
    rw [hAn, hBn] at hlA
    rw [hAn] at hlH
    have hXz : X.size ≤ 10000 := by rw [← list_size, hdX]; omega
    have HBn : Hid ((behindL L0 i (x, p)).length = Bn) := hBn
    have HAn : Hid ((aheadL [68, 73, 79, 82] 2 L0 i (x, p)).length = An) := hAn
    have hHz : Hh.size ≤ 20000 := by omega
    have HlA : Hid (X.size = An + (p.size + Bn)) := hlA
    have HlH : Hid (Hh.size = An + (p.size + 4)) := hlH
    clear t0 t1 hs2 B2' B5 hbx2 hA hAn hBn hlA hlH
    go_wp2_with fail
    refine (HRf.out _ hs5).mono ?_
    rintro e w6 ⟨rfl, b6⟩
    have B6 := B5'.trans (b6.mono B5'.size)
    have u0 := ((bcell b6).1 w.heap.size 0 hbx5).trans t0'
    have u1 := ((bcell b6).1 w.heap.size 1 hbx5).trans t1'
    have hs6 := hs5.below b6
    obtain ⟨hb6l, v0, v1⟩ := HC.out _ hs6
    clear t0' t1' hs5 B5' b6 HRf hbx5
    have hil : (i : Int) < L0.length := by omega
    go_wp2_with fail
    refine (HFl.out _).mono ?_
    rintro e w7 ⟨c, rfl, hcl, hcd, b7⟩
    have B7 := B6.trans (b7.mono B6.size)
    have hdN : (ByteArray.mk c.toArray).data.toList = c := rfl
    rw [list_size] at hcl
    have hNz : (ByteArray.mk c.toArray).size = p.size := by rw [← list_size, hdN]; exact hcl
    have hiff := crc_diff p.data.toList c k m (by rw [list_size]; exact hcl) (by rw [list_size]; omega) hm hcd
    generalize ByteArray.mk c.toArray = Nw at *
    have hlA := HlA.out
    have hlH := HlH.out
    have hfr : (Hh.size : Int) - 4 - (p.size : Int) = (An : Int) := by omega
    have hge : ¬ (X.size : Int) < (An : Int) + p.size := by omega
    have hT : ((An : Int) + p.size).toNat = An + p.size := by omega
    have g1 : (An : Int) ≤ X.size := by omega
    have hWr : IntKind.i64.wrap ((An : Int) + p.size) = (An : Int) + p.size := by rw [IntKind.wrap_i64]; omega
    have g2 : (An : Int) + p.size ≤ X.size := by omega
    have g3 : (0 : Int) ≤ (An : Int) + p.size := by omega
    have e1 : (X.extract 0 An).data.toList = aheadL [68, 73, 79, 82] 2 L0 i (x, p) := by
      rw [Lib.extract_data, hdX, HE.out.1, List.drop_zero, Nat.sub_zero, ← HAn.out, List.take_left]
    have e2 : (X.extract (An + p.size) X.size).data.toList = behindL L0 i (x, p) := by
      rw [Lib.extract_data, hdX, HE.out.1, ← HAn.out, ← List.drop_drop, List.drop_left, ← list_size p, List.drop_left, List.take_of_length_le (by have j1 := HBn.out; have j2 := HAn.out; have j3 := list_size p; omega)]
    have z1 : (X.extract 0 An).size = An := ext_size X An (by omega)
    have z2 : (X.extract (An + p.size) X.size).size ≤ X.size := by rw [ByteArray.size_extract]; omega
    have A1 := fun (W : World) => run_string_add_sum (P := Try.prog) W (X.extract 0 An) Nw (by omega)
    have A2 := fun (W : World) => run_string_add_sum (P := Try.prog) W (X.extract 0 An ++ Nw) (X.extract (An + p.size) X.size) (by rw [ByteArray.size_append]; omega)
    have HY : Hid ((X.extract 0 An ++ Nw ++ X.extract (An + p.size) X.size).data.toList = aheadL [68, 73, 79, 82] 2 L0 i (x, p) ++ (c ++ behindL L0 i (x, p))) := by
      show _ = _
      rw [data_two, data_two, e1, e2, hdN, List.append_assoc]
    have hYz : (X.extract 0 An ++ Nw ++ X.extract (An + p.size) X.size).size ≤ 100000 := by rw [ByteArray.size_append, ByteArray.size_append]; omega
    have hG := fun W => fget_any ⟨#[68, 73, 79, 82]⟩ (X.extract 0 An ++ Nw ++ X.extract (An + p.size) X.size) W hYz
    rw [HY.out] at hG
    have hend : ((Nw.toList == p.toList) = true ∧ ∃ q2 : Nat × List Sec, Hid (∀ W, Calls Try.prog 13 #[.string ⟨#[68, 73, 79, 82]⟩, .string (X.extract 0 An ++ Nw ++ X.extract (An + p.size) X.size)] W fun e w' => FGot W w' e (0, q2))) ∨ ((Nw.toList == p.toList) = false ∧ ∃ q2 : Nat × List Sec, Hid (∀ W, Calls Try.prog 13 #[.string ⟨#[68, 73, 79, 82]⟩, .string (X.extract 0 An ++ Nw ++ X.extract (An + p.size) X.size)] W fun e w' => FGot W w' e (5, q2))) := by
      obtain ⟨f1, _, _, f4, f5⟩ := HE.out
      by_cases hc : c = p.data.toList
      · have hNp : Nw = p := ba_ext (by rw [hdN, hc])
        refine .inl ⟨by rw [hNp]; simp, (2, L0), fun W => ?_⟩
        have h := hG W
        rw [hc, ← f1] at h
        have f4' : pGet (ByteArray.mk #[68, 73, 79, 82]).data.toList bs = (0, 2, L0) := f4
        rw [f4'] at h
        exact h
      · have hNp : Nw ≠ p := fun h => hc (by rw [← hdN, h])
        have hq := f5 c hcl (fun h => hc (hiff.1 h.symm))
        refine .inr ⟨by rw [neq_text, decide_eq_false hNp], (pGet (ByteArray.mk #[68, 73, 79, 82]).data.toList (aheadL [68, 73, 79, 82] 2 L0 i (x, p) ++ (c ++ behindL L0 i (x, p)))).2, fun W => ?_⟩
        have h := hG W
        have hq' : (pGet (ByteArray.mk #[68, 73, 79, 82]).data.toList (aheadL [68, 73, 79, 82] 2 L0 i (x, p) ++ (c ++ behindL L0 i (x, p)))).1 = 5 := hq
        have e3 : pGet (ByteArray.mk #[68, 73, 79, 82]).data.toList (aheadL [68, 73, 79, 82] 2 L0 i (x, p) ++ (c ++ behindL L0 i (x, p))) = (5, (pGet (ByteArray.mk #[68, 73, 79, 82]).data.toList (aheadL [68, 73, 79, 82] 2 L0 i (x, p) ++ (c ++ behindL L0 i (x, p)))).2) := Prod.ext hq' rfl
        rw [e3] at h
        exact h
    clear hG HY e1 e2 HE HAn HlA HlH hlA hlH HBn hiff hcd hcl HFl HC hs6 v0 v1 u0 u1 b7 hdN hdX hdH
    rcases hend with ⟨hNe, q2, HG⟩ | ⟨hNe, q2, HG⟩
    all_goals
      go_wp2_with fail
      go_region_with (go_at_call 13; refine (HG.out _).mono ?_; rintro e w8 ⟨a8, cap8, gk8, rfl, _, _, b8⟩)
      have B8 : Below w.heap.size w w8 := B7.drew.trans (b8.mono B7.size)
      go_wp2_with fail
      go_ret
      exact ⟨rfl, B8⟩
  · go_wp2_with fail
    go_ret
    exact ⟨by simp, B2'.trans (B5.mono B2'.size)⟩

set_option maxRecDepth 10000 in
set_option maxHeartbeats 400000 in
theorem walk (a0 : Option Addr) (len0 cap0 : Nat) (L0 : List Sec) (x1 y1 : Int) (a2 : Int) (w : World) (w0 : IsSecs w a0 len0 cap0 L0) (w1 : (Lit.int .i64 x1).wf = true ∧ (Lit.int .i64 y1).wf = true) (w2 : (Lit.int .u32 a2).wf = true) :
    Calls Try.prog 7 #[.slice a0 len0 cap0, .agg #[.int .i64 x1, .int .i64 y1], .int .u32 a2] w fun e w' => e = .returned (.bool true) ∧ Below w.heap.size w w' := by
  obtain ⟨hlen, hcap, hmax, hnil, b, o, ha, hs⟩ := w0
  subst hlen
  have b2 := bounds_u32 w2
  by_cases hg : grt L0 = true
  · exact let_go a0 cap0 b o L0 x1 y1 a2 true w hmax hcap ha hs hg (.inl rfl)
  · have hg' : grt L0 = false := by simpa using hg
    by_cases h1 : x1 < 0
    · exact let_go a0 cap0 b o L0 x1 y1 a2 false w hmax hcap ha hs hg' (.inr (.inl ⟨rfl, decide_eq_true h1⟩))
    by_cases h2 : (L0.length : Int) ≤ x1
    · exact let_go a0 cap0 b o L0 x1 y1 a2 false w hmax hcap ha hs hg' (.inr (.inr (.inl ⟨rfl, decide_eq_false h1, decide_eq_true h2⟩)))
    by_cases h3 : y1 < 0
    · exact let_go a0 cap0 b o L0 x1 y1 a2 false w hmax hcap ha hs hg' (.inr (.inr (.inr ⟨rfl, decide_eq_false h1, decide_eq_false h2, decide_eq_true h3⟩)))
    obtain ⟨i, rfl⟩ := Int.eq_ofNat_of_zero_le (show 0 ≤ x1 by omega)
    have hi : i < L0.length := by omega
    obtain rfl := ha (by omega)
    have hpi := (grt_no L0 hg').2 _ (List.getElem_mem hi)
    by_cases h4 : 8 * ((L0[i]).2.size : Int) ≤ y1
    · exact let_go5 cap0 b o L0 i y1 a2 w hmax hcap hs hg' hi hpi (decide_eq_false h3) (decide_eq_true h4)
    obtain ⟨k, rfl⟩ := Int.eq_ofNat_of_zero_le (show 0 ≤ y1 by omega)
    obtain ⟨m, rfl⟩ := Int.eq_ofNat_of_zero_le b2.1
    exact burst_go cap0 b o L0 i k m w hmax hcap hs hg' hi (by omega) (by omega)

set_option maxRecDepth 100000 in
theorem lifted (os : Os) (started : os.Started) (H : Type) (enc : TypeId × Value → H) :
    ReturnsInHanded {} Try.checked os 7 .any (Rows.frameBurstSpec.pre6 enc Try.prog Try.f7 Rows.frameBurstRow.domain false) (Rows.frameBurstSpec.post enc Try.prog Try.f7 false true false false) := by
  refine returnsInHanded_of_change (C := Try.checked) own started (by kernel_rfl) Try.func7
    (ChangeSpec.witness6 (enc := enc) (C := Try.checked) false ⟨#[], #[.slice none 0 0, .agg #[.int .i64 0, .int .i64 0], .int .u32 0], []⟩ 8 (by kernel_rfl) (by kernel_rfl) (by kernel_rfl) (by kernel_rfl)) ?_
  intro W base args ds gs before hval0 hW hcnd _
  have hval : ∀ (j : Nat) t v, Try.f7.params[j]? = some t → args[j]? = some v → Value.okWide Try.prog W .any base t v := hval0
  have hW' := hW
  obtain ⟨p, q, hA0, hV, rfl, hfz, hnd⟩ := hW
  have hA : DataW.TrodAll enc Try.prog W 0 (fun _ => true) true Try.f7.params.toList args.toList ds p := hA0
  rw [Try.params7] at hA hval
  obtain ⟨v0, vs0, d0, ds0, p0, q0, hargs, rfl, rfl, h0, r0⟩ := trodAll_cons hA
  obtain ⟨v1, vs1, d1, ds1, p1, q1, rfl, rfl, rfl, h1, r1⟩ := trodAll_cons r0
  obtain ⟨v2, vs2, d2, ds2, p2, q2, rfl, rfl, rfl, h2, r2⟩ := trodAll_cons r1
  obtain ⟨rfl, rfl, rfl⟩ := trodAll_nil r2
  obtain rfl : args = #[v0, v1, v2] := by cases args; simp_all
  obtain ⟨rfl, rfl⟩ := trodVars_none hV
  obtain ⟨a0, len0, cap0, rfl⟩ := okWide_slice Try.underlying22 (hval 0 22 v0 rfl rfl)
  have k0 := h0
  have lt0 : ∀ x ∈ p0, x.block < W.heap.size := by obtain ⟨m, hm⟩ := k0; exact DataW.trod_lt m _ _ _ hm
  obtain ⟨L0, w0⟩ := open_secs Try.underlying22 Try.underlying41 (by kernel_rfl) rfl rfl (by kernel_rfl) (by kernel_rfl) Try.underlying3 Try.underlying9 h0
  have k1 := h1
  have lt1 : ∀ x ∈ p1, x.block < W.heap.size := by obtain ⟨m, hm⟩ := k1; exact DataW.trod_lt m _ _ _ hm
  obtain ⟨x1, y1, rfl, w1⟩ := open_arr2 Try.underlying38 Try.underlying3 (by kernel_rfl) (by kernel_rfl) (hval 1 38 v1 rfl rfl) h1
  obtain ⟨a2, rfl, rfl, rfl, w2⟩ := open_int Try.underlying39 (hval 2 39 v2 rfl rfl) h2
  clear hA0 hval0
  refine (walk a0 len0 cap0 L0 x1 y1 a2 W w0 w1 w2).mono fun e W' ⟨he, bel⟩ => ?_
  subst he
  exact ⟨_, rfl, _, _, _, [], _, [], hW', trodAll_mk1 (shut_bool Try.underlying4 _), (trodAll_cons_mk (Below.trod laidOut (by kernel_rfl) (of_decide_eq_true (by kernel_rfl)) k0 bel lt0) (trodAll_cons_mk (Below.trod laidOut (by kernel_rfl) (of_decide_eq_true (by kernel_rfl)) k1 bel lt1) (trodAll_cons_mk (shut_int Try.underlying39 w2) trodAll_mk0))), rfl, bel.frame _, fun h => by cases h⟩

theorem over : Rows.frameBurstRow.holds Try.pinned (OpenSpec.ofChange Rows.frameBurstSpec) :=
  OpenClaim.holds_of_wide 7 Try.f7 rfl rfl rfl rfl rfl rfl rfl ⟨rfl, rfl, rfl, rfl, rfl⟩ rfl rfl rfl rfl rfl (by kernel_rfl) Try.func7 (by kernel_rfl)
    (of_decide_eq_true (by kernel_rfl)) (by unfold Func.isWrapper; first | (rw [if_pos (by decide +kernel)]; kernel_rfl) | (rw [if_neg (by decide +kernel)]; exact ⟨rfl, rfl⟩))
    (fun os started H enc _ => lifted os started H enc)

end Go.Proofs.Ytipljconbnaffaa.frameBurst

namespace Go.Proofs.Ytipljconbnaffaa
theorem frameBurst_holds : Rows.FrameBurstSaid := frameBurst.over
#print axioms frameBurst_holds
end Go.Proofs.Ytipljconbnaffaa
