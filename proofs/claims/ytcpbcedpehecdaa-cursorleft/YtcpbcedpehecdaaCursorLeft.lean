/- For every text b and every list of calls l the law CursorLeft returns true: with each call as many bytes are left as ahead of it, or fewer, and never fewer than none (texts of more than 1000 bytes, and lists of more than 200 calls, are let go by the law itself); no condition. -/
import Derived.Test.YtcpbcedpehecdaaRows
import Derived.WalkKit
import Derived.ProofKit
import Derived.OpenShut
import Derived.ShutString
import Derived.Below
import Derived.Deep.QuietTactic
import Derived.BigQuiet
import Derived.Test.YtcpbcedpehecdaaAwake02
import Derived.Test.YtcpbcedpehecdaaPairs
import Derived.ChangeOld
namespace Go.Proofs.Ytcpbcedpehecdaa.cursorLeft
open Go.ChangeShapes Go.WideShapes Go.ChangeAt Go.RowKit
open Go.ChangeMaps (open_string shut_string)
set_option linter.unusedVariables false

theorem own : ownKnob Try.prog.godebug = none := by kernel_rfl
theorem laidOut : laidOutB Try.prog = true := by kernel_rfl

set_option maxRecDepth 10000 in
set_option maxHeartbeats 400000 in
theorem walk (a0 : ByteArray) (a1 : Option Addr) (len1 cap1 : Nat) (z1 : Nat → Int × Int) (w : World) (w0 : a0.size ≤ maxLen) (w1 : IsPairs w a1 len1 cap1 z1) :
    Calls Try.prog 7 #[.string a0, .slice a1 len1 cap1] w fun e w' => e = .returned (.bool true) ∧ Below w.heap.size w w' := by
  have w0' := w0
  unfold maxLen at w0'
  by_cases hl : a0.size ≤ 1000 ∧ len1 ≤ 200
  · obtain ⟨hl, hn⟩ := hl
    obtain ⟨xb, xo, hx, hcell⟩ := w1.cells
    clear w1
    go_enter Try.func7, Try.ntmps7
    go_wp2_with fail
    refine (awake_any _).mono ?_
    rintro e w1 ⟨rfl, hb1⟩
    go_wp2_with fail
    refine (new_any _ _).mono ?_
    rintro e w2 ⟨rfl, hw2⟩
    have k2 : Cu w2 w1.heap.size a0 ((0 : Nat) : Int) 0 := by rw [hw2]; exact At3.new _ _ _ _ _
    have c2 : Below w.heap.size w w2 := by rw [hw2]; exact hb1.alloc hb1.size _
    have hg : w.heap.size ≤ w1.heap.size := hb1.size
    clear hw2
    generalize w1.heap.size = g at *
    go_wp2_with fail
    go_loopw [30, 6] (fun iv lv wr => ∃ (i k : Nat) (e : Int), iv = .int .i64 i ∧ lv = .int .i64 ((a0.size : Int) - k) ∧ i ≤ len1 ∧ k ≤ a0.size ∧ Cu wr g a0 k e ∧ Below w.heap.size w wr) (fun iv _ _ => len1 - (intOf iv).toNat)
    case atStart => exact ⟨0, 0, 0, rfl, by simp, by omega, by omega, k2, c2⟩
    case round =>
      obtain ⟨i, k, e, rfl, rfl, hi, hk, hC, hB⟩ := hrel
      by_cases hlt : i < len1
      · obtain ⟨hxb, q0, q1, v0, v1⟩ := hcell i hlt
        have hxa := hx (by omega)
        subst hxa
        have p0 := (hB.cell (p := ⟨xb, xo + i * 2, none⟩) hxb).trans q0
        have p1 := (hB.cell (p := ⟨xb, xo + i * 2 + 1, none⟩) hxb).trans q1
        have hgl := hC.lt
        clear hcell hx q0 q1
        generalize (z1 i).1 = kd at *
        generalize (z1 i).2 = n at *
        have hkd : kd = 1 ∨ kd = 2 ∨ kd = 3 ∨ kd = 4 ∨ kd = 5 ∨ (kd ≠ 1 ∧ kd ≠ 2 ∧ kd ≠ 3 ∧ kd ≠ 4 ∧ kd ≠ 5) := by omega
        rcases hkd with rfl | rfl | rfl | rfl | rfl | ⟨n1, n2, n3, n4, n5⟩
        all_goals go_wp2_with fail
        refine (byte_any _ g a0 k e (hC.alloc _) w0 hk).mono ?_
        rintro r w3 ⟨rfl, hC3, g3⟩
        have hk3 := pByte_at a0 k e hk
        have hB3 := below_but (hB.alloc hB.size _) g3 hg (Nat.le_trans hB.size (by simp))
        generalize (pByte a0 k e).2.1 = k3 at *
        generalize (pByte a0 k e).2.2 = e3 at *
        rotate_left
        refine (bytes_any _ g a0 k e n (hC.alloc _) (by omega) hk).mono ?_
        rintro r w3 ⟨rfl, hC3, g3⟩
        have hk3 := pBytes_at a0 k e n hk
        have hB3 := below_but (hB.alloc hB.size _) g3 hg (Nat.le_trans hB.size (by simp))
        generalize (pBytes a0 k e n).2.1 = k3 at *
        generalize (pBytes a0 k e n).2.2 = e3 at *
        rotate_left
        refine (uint_any _ g a0 k e _ (hC.alloc _) w0 hk).mono ?_
        generalize IntKind.u64.wrap n = m
        rintro r w3 ⟨rfl, hC3, g3⟩
        have hk3 := pUint_at a0 k e m hk
        have hB3 := below_but (hB.alloc hB.size _) g3 hg (Nat.le_trans hB.size (by simp))
        generalize (pUint a0 k e m).2.1 = k3 at *
        generalize (pUint a0 k e m).2.2 = e3 at *
        rotate_left
        refine (int_any _ g a0 k e (hC.alloc _) w0 hk).mono ?_
        rintro r w3 ⟨rfl, hC3, g3⟩
        have hk3 := pInt_at a0 k e hk
        have hB3 := below_but (hB.alloc hB.size _) g3 hg (Nat.le_trans hB.size (by simp))
        generalize (pInt a0 k e).2.1 = k3 at *
        generalize (pInt a0 k e).2.2 = e3 at *
        rotate_left
        refine (text_any _ g a0 k e n (hC.alloc _) (by omega) hk v1.2).mono ?_
        rintro r w3 ⟨rfl, hC3, g3⟩
        have hk3 := pText_at a0 k e n hk
        have hB3 := below_but (hB.alloc hB.size _) g3 hg (Nat.le_trans hB.size (by simp))
        generalize (pText a0 k e n).2.1 = k3 at *
        generalize (pText a0 k e n).2.2 = e3 at *
        rotate_left
        have hC3 : Cu (wr.alloc (.cells #[.int .i64 kd, .int .i64 n] 30)) g a0 k e := hC.alloc _
        have hB3 : Below w.heap.size w (wr.alloc (.cells #[.int .i64 kd, .int .i64 n] 30)) := hB.alloc hB.size _
        generalize wr.alloc (.cells #[.int .i64 kd, .int .i64 n] 30) = w3 at *
        obtain ⟨k3, rfl⟩ : ∃ k3, k3 = k := ⟨k, rfl⟩
        obtain ⟨e3, rfl⟩ : ∃ e3, e3 = e := ⟨e, rfl⟩
        have hk3 : k3 ≤ k3 ∧ k3 ≤ a0.size := ⟨Nat.le_refl _, hk⟩
        rotate_left
        all_goals
          obtain ⟨hk3, hk4⟩ := hk3
          try go_wp2_with fail
          refine (left_any _ g a0 k3 e3 hC3 w0 (by omega) (by omega)).mono ?_
          rintro r w4 ⟨rfl, j1, rfl⟩
          go_wp2_with fail
          refine (left_any _ g a0 k3 e3 (At3.drewN hC3 j1) w0 (by omega) (by omega)).mono ?_
          rintro r w5 ⟨rfl, j2, rfl⟩
          go_wp2_with fail
          refine (left_any _ g a0 k3 e3 (At3.drewN hC3 _) w0 (by omega) (by omega)).mono ?_
          rintro r w6 ⟨rfl, j3, rfl⟩
          go_wp2_with fail
          go_roundw
          case rel => exact ⟨i + 1, k3, e3, by go_num, rfl, by omega, by omega, At3.drewN hC3 _, bdrewN hB3 _⟩
          case measure => simp [intOf]; omega
      · go_wp2_with fail
        go_ret
        exact ⟨rfl, hB⟩
  · have hc : 1000 < a0.size ∨ (a0.size ≤ 1000 ∧ 200 < len1) := by omega
    rcases hc with h1 | ⟨h1, h2⟩
    all_goals
      go_enter Try.func7, Try.ntmps7
      go_wp2_with fail
      refine (awake_any _).mono ?_
      rintro e w1 ⟨rfl, hb1⟩
      go_wp2_with fail
      refine (awake_any _).mono ?_
      rintro e w2 ⟨rfl, hb2⟩
      go_wp2_with fail
      go_ret
      exact ⟨rfl, hb1.trans (hb2.mono hb1.size)⟩

set_option maxRecDepth 100000 in
theorem lifted (os : Os) (started : os.Started) (H : Type) (enc : TypeId × Value → H) :
    ReturnsInHanded {} Try.checked os 7 .any (Rows.cursorLeftSpec.pre6 enc Try.prog Try.f7 Rows.cursorLeftRow.domain false) (Rows.cursorLeftSpec.post enc Try.prog Try.f7 false true false false) := by
  refine returnsInHanded_of_change (C := Try.checked) own started (by kernel_rfl) Try.func7
    (ChangeSpec.witness6 (enc := enc) (C := Try.checked) false ⟨#[], #[.string ByteArray.empty, .slice none 0 0], []⟩ 8 (by kernel_rfl) (by kernel_rfl) (by kernel_rfl) (by kernel_rfl)) ?_
  intro W base args ds gs before hval0 hW hcnd _
  have hval : ∀ (j : Nat) t v, Try.f7.params[j]? = some t → args[j]? = some v → Value.okWide Try.prog W .any base t v := hval0
  have hW' := hW
  obtain ⟨p, q, hA0, hV, rfl, hfz, hnd⟩ := hW
  have hA : DataW.TrodAll enc Try.prog W 0 (fun _ => true) true Try.f7.params.toList args.toList ds p := hA0
  rw [Try.params7] at hA hval
  obtain ⟨v0, vs0, d0, ds0, p0, q0, hargs, rfl, rfl, h0, r0⟩ := trodAll_cons hA
  obtain ⟨v1, vs1, d1, ds1, p1, q1, rfl, rfl, rfl, h1, r1⟩ := trodAll_cons r0
  obtain ⟨rfl, rfl, rfl⟩ := trodAll_nil r1
  obtain rfl : args = #[v0, v1] := by cases args; simp_all
  obtain ⟨rfl, rfl⟩ := trodVars_none hV
  obtain ⟨a0, rfl, rfl, rfl, w0⟩ := open_string Try.underlying9 (hval 0 9 v0 rfl rfl) h0
  obtain ⟨a1, len1, cap1, rfl⟩ := okWide_slice Try.underlying22 (hval 1 22 v1 rfl rfl)
  have k1 := h1
  have lt1 : ∀ x ∈ p1, x.block < W.heap.size := by obtain ⟨m, hm⟩ := k1; exact DataW.trod_lt m _ _ _ hm
  obtain ⟨z1, w1⟩ := open_pairs Try.underlying22 Try.underlying30 (by kernel_rfl) rfl rfl (by kernel_rfl) (by kernel_rfl) Try.underlying3 Try.underlying3 h1
  clear hA0 hval0
  refine (walk a0 a1 len1 cap1 z1 W w0 w1).mono fun e W' ⟨he, bel⟩ => ?_
  subst he
  exact ⟨_, rfl, _, _, _, [], _, [], hW', trodAll_mk1 (shut_bool Try.underlying4 _), (trodAll_cons_mk (shut_string Try.underlying9 w0) (trodAll_cons_mk (Below.trod laidOut (by kernel_rfl) (of_decide_eq_true (by kernel_rfl)) k1 bel lt1) trodAll_mk0)), rfl, bel.frame _, fun h => by cases h⟩

theorem over : Rows.cursorLeftRow.holds Try.pinned (OpenSpec.ofChange Rows.cursorLeftSpec) :=
  OpenClaim.holds_of_wide 7 Try.f7 rfl rfl rfl rfl rfl rfl rfl ⟨rfl, rfl, rfl, rfl, rfl⟩ rfl rfl rfl rfl rfl (by kernel_rfl) Try.func7 (by kernel_rfl)
    (of_decide_eq_true (by kernel_rfl)) (by unfold Func.isWrapper; first | (rw [if_pos (by decide +kernel)]; kernel_rfl) | (rw [if_neg (by decide +kernel)]; exact ⟨rfl, rfl⟩))
    (fun os started H enc _ => lifted os started H enc)

end Go.Proofs.Ytcpbcedpehecdaa.cursorLeft

namespace Go.Proofs.Ytcpbcedpehecdaa
theorem cursorLeft_holds : Rows.CursorLeftSaid := cursorLeft.over
#print axioms cursorLeft_holds
end Go.Proofs.Ytcpbcedpehecdaa
