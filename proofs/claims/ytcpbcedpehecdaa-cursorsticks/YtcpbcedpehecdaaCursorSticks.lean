/- For every text b, every int e and every list of calls l the law CursorSticks returns true: once there is an error it stays, and nothing is read any more (texts of more than 1000 bytes, lists of more than 200 calls, and e = 0 are let go by the law itself); no condition. -/
import Derived.Test.YtcpbcedpehecdaaRows
import Derived.WalkKit
import Derived.ProofKit
import Derived.OpenShut
import Derived.ShutString
import Derived.Below
import Derived.Deep.QuietTactic
import Derived.BigQuiet
import Derived.Test.YtcpbcedpehecdaaAwake02
import Derived.Test.YtcpbcedpehecdaaPairs
import Derived.ChangeOld
namespace Go.Proofs.Ytcpbcedpehecdaa.cursorSticks
open Go.ChangeShapes Go.WideShapes Go.ChangeAt Go.RowKit
open Go.ChangeMaps (open_string shut_string)
set_option linter.unusedVariables false

theorem own : ownKnob Try.prog.godebug = none := by kernel_rfl
theorem laidOut : laidOutB Try.prog = true := by kernel_rfl

theorem st_byte (w : World) (g : Nat) (b : ByteArray) (k : Nat) (e : Int) (h : Cu w g b k e) (he : e ≠ 0) (h48 : b.size ≤ 281474976710656) (hk : k ≤ b.size) :
    Calls Try.prog 11 #[.pointer (some ⟨g, 0, none⟩)] w fun r w' => r = .returned (.int .u8 0) ∧ Cu w' g b k e ∧ w.grownBy w' (some g) := by
  have hs := Nat.le_trans h48 max48
  have hp : pByte b k e = (0, k, e) := by unfold pByte; rw [if_pos he]
  have := byte_any w g b k e h hs hk
  rw [hp] at this
  exact this
theorem st_bytes (w : World) (g : Nat) (b : ByteArray) (k : Nat) (e : Int) (h : Cu w g b k e) (he : e ≠ 0) (h48 : b.size ≤ 281474976710656) (hk : k ≤ b.size) (n : Int) :
    Calls Try.prog 12 #[.pointer (some ⟨g, 0, none⟩), .int .i64 n] w fun r w' => r = .returned (.string ⟨#[]⟩) ∧ Cu w' g b k e ∧ w.grownBy w' (some g) := by
  have hs := Nat.le_trans h48 max48
  have hp : pBytes b k e n = (⟨#[]⟩, k, e) := by unfold pBytes; rw [if_pos he]
  have := bytes_any w g b k e n h h48 hk
  rw [hp] at this
  exact this
theorem st_uint (w : World) (g : Nat) (b : ByteArray) (k : Nat) (e : Int) (h : Cu w g b k e) (he : e ≠ 0) (h48 : b.size ≤ 281474976710656) (hk : k ≤ b.size) (n : Int) :
    Calls Try.prog 13 #[.pointer (some ⟨g, 0, none⟩), .int .u64 n] w fun r w' => r = .returned (.int .i64 0) ∧ Cu w' g b k e ∧ w.grownBy w' (some g) := by
  have hs := Nat.le_trans h48 max48
  have hp : pUint b k e n = (0, k, e) := by unfold pUint; rw [if_pos he]
  have := uint_any w g b k e n h hs hk
  rw [hp] at this
  exact this
theorem st_int (w : World) (g : Nat) (b : ByteArray) (k : Nat) (e : Int) (h : Cu w g b k e) (he : e ≠ 0) (h48 : b.size ≤ 281474976710656) (hk : k ≤ b.size) :
    Calls Try.prog 15 #[.pointer (some ⟨g, 0, none⟩)] w fun r w' => r = .returned (.int .i64 0) ∧ Cu w' g b k e ∧ w.grownBy w' (some g) := by
  have hs := Nat.le_trans h48 max48
  have hp : pInt b k e = (0, k, e) := by unfold pInt; rw [if_pos he]
  have := int_any w g b k e h hs hk
  rw [hp] at this
  exact this
theorem st_text (w : World) (g : Nat) (b : ByteArray) (k : Nat) (e : Int) (h : Cu w g b k e) (he : e ≠ 0) (h48 : b.size ≤ 281474976710656) (hk : k ≤ b.size) (n : Int) (hn : n ≤ 9223372036854775807) :
    Calls Try.prog 17 #[.pointer (some ⟨g, 0, none⟩), .int .i64 n] w fun r w' => r = .returned (.string ⟨#[]⟩) ∧ Cu w' g b k e ∧ w.grownBy w' (some g) := by
  have hs := Nat.le_trans h48 max48
  have hp : pText b k e n = (⟨#[]⟩, k, e) := by unfold pText; rw [if_pos he]
  have := text_any w g b k e n h h48 hk hn
  rw [hp] at this
  exact this

set_option maxRecDepth 10000 in
set_option maxHeartbeats 400000 in
theorem walk (a0 : ByteArray) (a1 : Int) (a2 : Option Addr) (len2 cap2 : Nat) (z2 : Nat → Int × Int) (w : World) (w0 : a0.size ≤ maxLen) (w1 : (Lit.int .i64 a1).wf = true) (w2 : IsPairs w a2 len2 cap2 z2) :
    Calls Try.prog 4 #[.string a0, .int .i64 a1, .slice a2 len2 cap2] w fun e w' => e = .returned (.bool true) ∧ Below w.heap.size w w' := by
  have w0' := w0
  unfold maxLen at w0'
  by_cases hl : a0.size ≤ 1000 ∧ len2 ≤ 200 ∧ a1 ≠ 0
  · obtain ⟨hl, hn, he⟩ := hl
    have he' : (a1 == 0) = false := by simpa using he
    have HE : Hid (a1 ≠ 0) := he
    clear he
    obtain ⟨xb, xo, hx, hcell⟩ := w2.cells
    clear w2
    go_enter Try.func4, Try.ntmps4
    go_wp2_with fail
    refine (awake_any _).mono ?_
    rintro e w1 ⟨rfl, hb1⟩
    go_wp2_with fail
    refine (new_any _ _).mono ?_
    rintro e w2 ⟨rfl, hw2⟩
    have k2 : Cu w2 w1.heap.size a0 ((0 : Nat) : Int) 0 := by rw [hw2]; exact At3.new _ _ _ _ _
    have c2 : Below w.heap.size w w2 := by rw [hw2]; exact hb1.alloc hb1.size _
    have hg : w.heap.size ≤ w1.heap.size := hb1.size
    clear hw2
    generalize w1.heap.size = g at *
    go_wp2_with fail
    refine (fail_any _ g a0 _ 0 a1 k2).mono ?_
    rintro r w3 ⟨rfl, k3, g3⟩
    have c3 := below_but c2 g3 hg c2.size
    go_wp2_with fail
    go_loopw [36] (fun iv wr => ∃ (i : Nat), iv = .int .i64 i ∧ i ≤ len2 ∧ Cu wr g a0 ((0 : Nat) : Int) a1 ∧ Below w.heap.size w wr) (fun iv _ => len2 - (intOf iv).toNat)
    case atStart => exact ⟨0, rfl, by omega, k3, c3⟩
    case round =>
      obtain ⟨i, rfl, hi, hC, hB⟩ := hrel
      by_cases hlt : i < len2
      · obtain ⟨hxb, q0, q1, v0, v1⟩ := hcell i hlt
        have hxa := hx (by omega)
        subst hxa
        have p0 := (hB.cell (p := ⟨xb, xo + i * 2, none⟩) hxb).trans q0
        have p1 := (hB.cell (p := ⟨xb, xo + i * 2 + 1, none⟩) hxb).trans q1
        have hgl := hC.lt
        clear hcell hx q0 q1
        generalize (z2 i).1 = kd at *
        generalize (z2 i).2 = n at *
        go_wp2_with fail
        have hne : some wr.heap.size ≠ some g := by simp; omega
        have A0 : (wr.alloc (.cells #[.int .i64 kd, .int .i64 n] 30)).cell? ⟨wr.heap.size, 0, none⟩ = some (.int .i64 kd) := by simp
        have A1 : (wr.alloc (.cells #[.int .i64 kd, .int .i64 n] 30)).cell? ⟨wr.heap.size, 1, none⟩ = some (.int .i64 n) := by simp
        have C0 : Cu (wr.alloc (.cells #[.int .i64 kd, .int .i64 n] 30)) g a0 ((0 : Nat) : Int) a1 := hC.alloc _
        have B0 : Below w.heap.size w (wr.alloc (.cells #[.int .i64 kd, .int .i64 n] 30)) := hB.alloc hB.size _
        clear p0 p1
        refine (st_byte _ g a0 0 a1 C0 HE.out (by omega) (by omega)).mono ?_
        rintro r u1 ⟨rfl, C1, g1⟩
        have B1 := below_but B0 g1 hg B0.size
        have D0 := g1.cell A0 hne
        have D1 := g1.cell A1 hne
        clear g1 A0 A1 C0
        go_wp2_with fail
        refine (st_bytes _ g a0 0 a1 C1 HE.out (by omega) (by omega) _).mono ?_
        rintro r u2 ⟨rfl, C2, g2⟩
        have B2 := below_but B1 g2 hg B1.size
        have E0 := g2.cell D0 hne
        have E1 := g2.cell D1 hne
        clear g2 D0 D1 C1
        go_wp2_with fail
        refine (st_uint _ g a0 0 a1 C2 HE.out (by omega) (by omega) _).mono ?_
        rintro r u3 ⟨rfl, C3, g3⟩
        have B3 := below_but B2 g3 hg B2.size
        have F0 := g3.cell E0 hne
        have F1 := g3.cell E1 hne
        clear g3 E0 E1 C2
        go_wp2_with fail
        refine (st_int _ g a0 0 a1 C3 HE.out (by omega) (by omega)).mono ?_
        rintro r u4 ⟨rfl, C4, g4⟩
        have B4 := below_but B3 g4 hg B3.size
        have G0 := g4.cell F0 hne
        have G1 := g4.cell F1 hne
        clear g4 F0 F1 C3
        go_wp2_with fail
        refine (st_text _ g a0 0 a1 C4 HE.out (by omega) (by omega) n v1.2).mono ?_
        rintro r u5 ⟨rfl, C5, g5⟩
        have B5 := below_but B4 g5 hg B4.size
        have H0 := g5.cell G0 hne
        clear g5 G0 G1 C4
        go_wp2_with fail
        refine (fail_any _ g a0 _ a1 kd C5).mono ?_
        rw [if_neg HE.out]
        rintro r u6 ⟨rfl, C6, g6⟩
        have B6 := below_but B5 g6 hg B5.size
        go_wp2_with fail
        refine (err_any _ g a0 _ a1 C6).mono ?_
        rintro r u7 ⟨rfl, b7⟩
        have C7 := C6.belowAll b7
        have B7 := B6.trans (b7.mono B6.size)
        go_wp2_with fail
        refine (left_any _ g a0 _ a1 C7 w0 (by omega) (by omega)).mono ?_
        rintro r u8 ⟨rfl, j, rfl⟩
        go_wp2_with fail
        go_roundw
        case rel => exact ⟨i + 1, by go_num, by omega, At3.drewN C7 _, bdrewN B7 _⟩
        case measure => simp [intOf]; omega
      · go_wp2_with fail
        go_ret
        exact ⟨rfl, hB⟩
  · have hc : 1000 < a0.size ∨ (a0.size ≤ 1000 ∧ 200 < len2) ∨ (a0.size ≤ 1000 ∧ len2 ≤ 200 ∧ a1 = 0) := by omega
    rcases hc with h1 | ⟨h1, h2⟩ | ⟨h1, h2, rfl⟩
    all_goals
      go_enter Try.func4, Try.ntmps4
      go_wp2_with fail
      refine (awake_any _).mono ?_
      rintro e w1 ⟨rfl, hb1⟩
      go_wp2_with fail
      refine (awake_any _).mono ?_
      rintro e w2 ⟨rfl, hb2⟩
      go_wp2_with fail
      go_ret
      exact ⟨rfl, hb1.trans (hb2.mono hb1.size)⟩

set_option maxRecDepth 100000 in
theorem lifted (os : Os) (started : os.Started) (H : Type) (enc : TypeId × Value → H) :
    ReturnsInHanded {} Try.checked os 4 .any (Rows.cursorSticksSpec.pre6 enc Try.prog Try.f4 Rows.cursorSticksRow.domain false) (Rows.cursorSticksSpec.post enc Try.prog Try.f4 false true false false) := by
  refine returnsInHanded_of_change (C := Try.checked) own started (by kernel_rfl) Try.func4
    (ChangeSpec.witness6 (enc := enc) (C := Try.checked) false ⟨#[], #[.string ByteArray.empty, .int .i64 0, .slice none 0 0], []⟩ 8 (by kernel_rfl) (by kernel_rfl) (by kernel_rfl) (by kernel_rfl)) ?_
  intro W base args ds gs before hval0 hW hcnd _
  have hval : ∀ (j : Nat) t v, Try.f4.params[j]? = some t → args[j]? = some v → Value.okWide Try.prog W .any base t v := hval0
  have hW' := hW
  obtain ⟨p, q, hA0, hV, rfl, hfz, hnd⟩ := hW
  have hA : DataW.TrodAll enc Try.prog W 0 (fun _ => true) true Try.f4.params.toList args.toList ds p := hA0
  rw [Try.params4] at hA hval
  obtain ⟨v0, vs0, d0, ds0, p0, q0, hargs, rfl, rfl, h0, r0⟩ := trodAll_cons hA
  obtain ⟨v1, vs1, d1, ds1, p1, q1, rfl, rfl, rfl, h1, r1⟩ := trodAll_cons r0
  obtain ⟨v2, vs2, d2, ds2, p2, q2, rfl, rfl, rfl, h2, r2⟩ := trodAll_cons r1
  obtain ⟨rfl, rfl, rfl⟩ := trodAll_nil r2
  obtain rfl : args = #[v0, v1, v2] := by cases args; simp_all
  obtain ⟨rfl, rfl⟩ := trodVars_none hV
  obtain ⟨a0, rfl, rfl, rfl, w0⟩ := open_string Try.underlying9 (hval 0 9 v0 rfl rfl) h0
  obtain ⟨a1, rfl, rfl, rfl, w1⟩ := open_int Try.underlying3 (hval 1 3 v1 rfl rfl) h1
  obtain ⟨a2, len2, cap2, rfl⟩ := okWide_slice Try.underlying22 (hval 2 22 v2 rfl rfl)
  have k2 := h2
  have lt2 : ∀ x ∈ p2, x.block < W.heap.size := by obtain ⟨m, hm⟩ := k2; exact DataW.trod_lt m _ _ _ hm
  obtain ⟨z2, w2⟩ := open_pairs Try.underlying22 Try.underlying30 (by kernel_rfl) rfl rfl (by kernel_rfl) (by kernel_rfl) Try.underlying3 Try.underlying3 h2
  clear hA0 hval0
  refine (walk a0 a1 a2 len2 cap2 z2 W w0 w1 w2).mono fun e W' ⟨he, bel⟩ => ?_
  subst he
  exact ⟨_, rfl, _, _, _, [], _, [], hW', trodAll_mk1 (shut_bool Try.underlying4 _), (trodAll_cons_mk (shut_string Try.underlying9 w0) (trodAll_cons_mk (shut_int Try.underlying3 w1) (trodAll_cons_mk (Below.trod laidOut (by kernel_rfl) (of_decide_eq_true (by kernel_rfl)) k2 bel lt2) trodAll_mk0))), rfl, bel.frame _, fun h => by cases h⟩

theorem over : Rows.cursorSticksRow.holds Try.pinned (OpenSpec.ofChange Rows.cursorSticksSpec) :=
  OpenClaim.holds_of_wide 4 Try.f4 rfl rfl rfl rfl rfl rfl rfl ⟨rfl, rfl, rfl, rfl, rfl⟩ rfl rfl rfl rfl rfl (by kernel_rfl) Try.func4 (by kernel_rfl)
    (of_decide_eq_true (by kernel_rfl)) (by unfold Func.isWrapper; first | (rw [if_pos (by decide +kernel)]; kernel_rfl) | (rw [if_neg (by decide +kernel)]; exact ⟨rfl, rfl⟩))
    (fun os started H enc _ => lifted os started H enc)

end Go.Proofs.Ytcpbcedpehecdaa.cursorSticks

namespace Go.Proofs.Ytcpbcedpehecdaa
theorem cursorSticks_holds : Rows.CursorSticksSaid := cursorSticks.over
#print axioms cursorSticks_holds
end Go.Proofs.Ytcpbcedpehecdaa
