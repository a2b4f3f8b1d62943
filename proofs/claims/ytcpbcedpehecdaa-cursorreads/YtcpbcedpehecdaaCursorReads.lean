/- For every text b and every list of calls l the law CursorReads returns true: in every order of calls the bytes are read as the document says, up to the first error, which is the one that it says (texts of more than 1000 bytes, and lists of more than 200 calls, are let go by the law itself); no condition. -/
import Derived.Test.YtcpbcedpehecdaaRows
import Derived.WalkKit
import Derived.ProofKit
import Derived.OpenShut
import Derived.ShutString
import Derived.Below
import Derived.Deep.QuietTactic
import Derived.BigQuiet
import Derived.Lib.QuietBelow
import Derived.Deep.RegionHeld3
import Derived.Test.YtcpbcedpehecdaaAwake02
import Derived.Test.YtcpbcedpehecdaaRefs2
import Derived.Test.YtcpbcedpehecdaaPairs
import Derived.ChangeOld
namespace Go.Proofs.Ytcpbcedpehecdaa.cursorReads
open Go.ChangeShapes Go.WideShapes Go.ChangeAt Go.RowKit
open Go.ChangeMaps (open_string shut_string)
set_option linter.unusedVariables false

theorem own : ownKnob Try.prog.godebug = none := by kernel_rfl
theorem laidOut : laidOutB Try.prog = true := by kernel_rfl

theorem byte_cases (b : ByteArray) (k : Nat) (e : Int) (hk : k ≤ b.size) : (∃ e3, pByte b k e = (0, k, e3) ∧ pBytes b k e 1 = (⟨#[]⟩, k, e3)) ∨
    ∃ (X : ByteArray) (h : 0 < X.size), X.size = 1 ∧ k + 1 ≤ b.size ∧ pByte b k e = ((X[0].toNat : Int), k + 1, 0) ∧ pBytes b k e 1 = (X, k + 1, 0) := by
  by_cases he : e = 0
  · subst he
    by_cases hl : k < b.size
    · right
      have hz : (b.extract k (k + 1)).size = 1 := by rw [ByteArray.size_extract]; omega
      have hx : (b.extract k (k + 1))[0] = b[k] := by simp [ByteArray.getElem_extract]
      refine ⟨b.extract k (k + 1), by omega, hz, by omega, ?_, ?_⟩
      · unfold pByte
        rw [if_neg (by simp), dif_pos hl, hx]
      · unfold pBytes
        rw [if_neg (by simp), if_neg (by omega), if_neg (by omega)]
        rfl
    · left
      refine ⟨2, ?_, ?_⟩
      · unfold pByte
        rw [if_neg (by simp), dif_neg hl]
      · unfold pBytes
        rw [if_neg (by simp), if_neg (by omega), if_pos (by omega)]
  · left
    refine ⟨e, ?_, ?_⟩
    · unfold pByte
      rw [if_pos he]
    · unfold pBytes
      rw [if_pos he]

set_option maxRecDepth 10000 in
set_option maxHeartbeats 400000 in
theorem walk (a0 : ByteArray) (a1 : Option Addr) (len1 cap1 : Nat) (z1 : Nat → Int × Int) (w : World) (w0 : a0.size ≤ maxLen) (w1 : IsPairs w a1 len1 cap1 z1) :
    Calls Try.prog 3 #[.string a0, .slice a1 len1 cap1] w fun e w' => e = .returned (.bool true) ∧ Below w.heap.size w w' := by
  have w0' := w0
  unfold maxLen at w0'
  by_cases hl : a0.size ≤ 1000 ∧ len1 ≤ 200
  · obtain ⟨hl, hn⟩ := hl
    have h48 : a0.size ≤ 281474976710656 := by omega
    obtain ⟨xb, xo, hx, hcell⟩ := w1.cells
    clear w1
    go_enter Try.func3, Try.ntmps3
    go_wp2_with fail
    refine (awake_any _).mono ?_
    rintro e w1 ⟨rfl, hb1⟩
    go_wp2_with fail
    refine (new_any _ _).mono ?_
    rintro e w2 ⟨rfl, hw2⟩
    have k2 : Cu w2 w1.heap.size a0 ((0 : Nat) : Int) 0 := by rw [hw2]; exact At3.new _ _ _ _ _
    have c2 : Below w.heap.size w w2 := by rw [hw2]; exact hb1.alloc hb1.size _
    have hg : w.heap.size ≤ w1.heap.size := hb1.size
    clear hw2
    generalize w1.heap.size = g at *
    go_wp2_with fail
    have k3 : Cu (w2.alloc (.cells #[.string a0, .int .i64 0, .int .i64 0] 28)) g a0 ((0 : Nat) : Int) 0 := k2.alloc _
    have r3 : Rf (w2.alloc (.cells #[.string a0, .int .i64 0, .int .i64 0] 28)) w2.heap.size a0 ((0 : Nat) : Int) 0 := At3.new _ _ _ _ _
    have c3 : Below w.heap.size w (w2.alloc (.cells #[.string a0, .int .i64 0, .int .i64 0] 28)) := c2.alloc c2.size _
    have hgm : w.heap.size ≤ w2.heap.size := c2.size
    have hne : g ≠ w2.heap.size := by have := k2.lt; omega
    generalize w2.alloc (.cells #[.string a0, .int .i64 0, .int .i64 0] 28) = w3 at *
    generalize w2.heap.size = gm at *
    have hneA : some g ≠ some gm := by simpa using hne
    have hneB : some gm ≠ some g := by simpa using Ne.symm hne
    clear k2 c2 hb1
    go_loopw [34] (fun iv wr => ∃ (i k : Nat) (e : Int), iv = .int .i64 i ∧ i ≤ len1 ∧ k ≤ a0.size ∧ Cu wr g a0 k e ∧ Rf wr gm a0 k e ∧ Below w.heap.size w wr) (fun iv _ => len1 - (intOf iv).toNat)
    case atStart => exact ⟨0, 0, 0, rfl, by omega, by omega, k3, r3, c3⟩
    case round =>
      clear k3 r3 c3
      obtain ⟨i, k, e, rfl, hi, hk, hC, hR, hB⟩ := hrel
      by_cases hlt : i < len1
      · obtain ⟨hxb, q0, q1, v0, v1⟩ := hcell i hlt
        have hxa := hx (by omega)
        subst hxa
        have p0 := (hB.cell (p := ⟨xb, xo + i * 2, none⟩) hxb).trans q0
        have p1 := (hB.cell (p := ⟨xb, xo + i * 2 + 1, none⟩) hxb).trans q1
        have hgl := hC.lt
        have hgml := hR.lt
        clear hcell hx q0 q1
        generalize (z1 i).1 = kd at *
        generalize (z1 i).2 = n at *
        have A1 : (wr.alloc (.cells #[.int .i64 kd, .int .i64 n] 30)).cell? ⟨wr.heap.size, 1, none⟩ = some (.int .i64 n) := by simp
        have C0 : Cu (wr.alloc (.cells #[.int .i64 kd, .int .i64 n] 30)) g a0 k e := hC.alloc _
        have R0 : Rf (wr.alloc (.cells #[.int .i64 kd, .int .i64 n] 30)) gm a0 k e := hR.alloc _
        have B0 : Below w.heap.size w (wr.alloc (.cells #[.int .i64 kd, .int .i64 n] 30)) := hB.alloc hB.size _
        have hnA : some wr.heap.size ≠ some g := by simp; omega
        have hnB : some wr.heap.size ≠ some gm := by simp; omega
        have HA1 : Hid _ := A1
        have hkd : kd = 1 ∨ kd = 2 ∨ kd = 3 ∨ kd = 4 ∨ kd = 5 ∨ kd = 6 ∨ (kd ≠ 1 ∧ kd ≠ 2 ∧ kd ≠ 3 ∧ kd ≠ 4 ∧ kd ≠ 5 ∧ kd ≠ 6) := by omega
        clear A1
        rcases hkd with rfl | rfl | rfl | rfl | rfl | rfl | ⟨n1, n2, n3, n4, n5, n6⟩
        rcases byte_cases a0 k e hk with ⟨e3, hP, hQ⟩ | ⟨X, hX0, hX1, hk3, hP, hQ⟩
        all_goals go_wp2_with fail
        have P10 := rbytes_any _ gm a0 k e 1 R0 w0 hk
        rw [hQ] at P10
        refine P10.mono ?_
        rintro r u1 ⟨rfl, R1, g1⟩
        have C1 := C0.kept g1 hneA
        have B1 := below_but B0 g1 hgm B0.size
        clear P10
        go_wp2_with fail
        have P11 := byte_any _ g a0 k e C1 w0 hk
        rw [hP] at P11
        refine P11.mono ?_
        rintro r u2 ⟨rfl, C3, g2⟩
        have R3 := R1.kept g2 hneB
        have B3 := below_but B1 g2 hg B1.size
        clear P11 hP hQ
        obtain ⟨k3, hk3e⟩ : ∃ k3, k3 = k := ⟨k, rfl⟩
        have hk3 : k3 ≤ a0.size := by omega
        rw [← hk3e] at C3 R3
        clear hk3e
        clear C1 R1 C0 R0 B0 B1 g1 g2 hC hR hB HA1
        rotate_left
        have P10 := rbytes_any _ gm a0 k e 1 R0 w0 hk
        rw [hQ] at P10
        refine P10.mono ?_
        rintro r u1 ⟨rfl, R1, g1⟩
        have C1 := C0.kept g1 hneA
        have B1 := below_but B0 g1 hgm B0.size
        clear P10
        go_wp2_with fail
        have P11 := byte_any _ g a0 k e C1 w0 hk
        rw [hP] at P11
        refine P11.mono ?_
        rintro r u2 ⟨rfl, C3, g2⟩
        have R3 := R1.kept g2 hneB
        have B3 := below_but B1 g2 hg B1.size
        clear P11 hP hQ
        obtain ⟨k3, hk3e⟩ : ∃ k3, k3 = k + 1 := ⟨k + 1, rfl⟩
        obtain ⟨e3, he3⟩ : ∃ e3 : Int, e3 = 0 := ⟨0, rfl⟩
        rw [← hk3e] at hk3
        have C3 : Cu u2 g a0 (k3 : Nat) e3 := by rw [hk3e, he3]; exact C3
        have R3 : Rf u2 gm a0 (k3 : Nat) e3 := by rw [hk3e, he3]; exact R3
        clear hk3e he3
        clear C1 R1 C0 R0 B0 B1 g1 g2 hC hR hB HA1
        rotate_left
        generalize wr.alloc (.cells #[.int .i64 2, .int .i64 n] 30) = wa at *
        have A1 : wa.drew.cell? ⟨wr.heap.size, 1, none⟩ = some (.int .i64 n) := HA1.out
        clear HA1
        have D0 : Cu wa.drew g a0 k e := C0
        have E0 : Rf wa.drew gm a0 k e := R0
        focus
          go_region_held3 (fun W => W.cell? ⟨wr.heap.size, 1, none⟩ = some (.int .i64 n)) (first | exact A1 | exact A2 | exact A3)
            ((first | (go_at_call 12; refine (bytes_any _ g a0 k e n D0 h48 hk).mono ?_; rintro r u1 ⟨rfl, C1, g1⟩; have R1 := E0.kept g1 hneB; have A2 := g1.cell A1 hnA) | (go_at_call 10; refine (rbytes_any _ gm a0 k e n R1 w0 hk).mono ?_; rintro r u2 ⟨rfl, R3, g2⟩; have C3 := C1.kept g2 hneA; have A3 := g2.cell A2 hnB)))
        have B3 := below_but (below_but B0.drew g1 hg B0.size) g2 hgm (Nat.le_trans B0.size g1.size)
        have hk3 := (pBytes_at a0 k e n hk).2
        generalize (pBytes a0 k e n).2.1 = k3 at *
        generalize (pBytes a0 k e n).2.2 = e3 at *
        clear A1 A2 A3 C1 R1 C0 R0 D0 E0 B0 g1 g2 hC hR hB
        rotate_left
        generalize wr.alloc (.cells #[.int .i64 3, .int .i64 n] 30) = wa at *
        have A1 : wa.drew.cell? ⟨wr.heap.size, 1, none⟩ = some (.int .i64 n) := HA1.out
        clear HA1
        have D0 : Cu wa.drew g a0 k e := C0
        have E0 : Rf wa.drew gm a0 k e := R0
        focus
          go_region_held3 (fun W => W.cell? ⟨wr.heap.size, 1, none⟩ = some (.int .i64 n)) (first | exact A1 | exact A2 | exact A3)
            ((first | (go_at_call 13; refine (uint_any _ g a0 k e _ D0 w0 hk).mono ?_; rintro r u1 ⟨rfl, C1, g1⟩; have R1 := E0.kept g1 hneB; have A2 := g1.cell A1 hnA) | (go_at_call 14; refine (ruint_any _ gm a0 k e _ R1 w0 hk).mono ?_; rintro r u2 ⟨rfl, R3, g2⟩; have C3 := C1.kept g2 hneA; have A3 := g2.cell A2 hnB)))
        have B3 := below_but (below_but B0.drew g1 hg B0.size) g2 hgm (Nat.le_trans B0.size g1.size)
        have hk3 := (pUint_at a0 k e (IntKind.u64.wrap n) hk).2
        generalize (pUint a0 k e (IntKind.u64.wrap n)).2.1 = k3 at *
        generalize (pUint a0 k e (IntKind.u64.wrap n)).2.2 = e3 at *
        clear A1 A2 A3 C1 R1 C0 R0 D0 E0 B0 g1 g2 hC hR hB
        rotate_left
        refine (int_any _ g a0 k e C0 w0 hk).mono ?_
        rintro r u1 ⟨rfl, C1, g1⟩
        have R1 := R0.kept g1 hneB
        have B1 := below_but B0 g1 hg B0.size
        go_wp2_with fail
        refine (rint_any _ gm a0 k e R1 w0 hk).mono ?_
        rintro r u2 ⟨rfl, R3, g2⟩
        have C3 := C1.kept g2 hneA
        have B3 := below_but B1 g2 hgm B1.size
        have hk3 := (pInt_at a0 k e hk).2
        generalize (pInt a0 k e).2.1 = k3 at *
        generalize (pInt a0 k e).2.2 = e3 at *
        clear C1 R1 C0 R0 B0 B1 g1 g2 hC hR hB HA1
        rotate_left
        generalize wr.alloc (.cells #[.int .i64 5, .int .i64 n] 30) = wa at *
        have A1 : wa.drew.cell? ⟨wr.heap.size, 1, none⟩ = some (.int .i64 n) := HA1.out
        clear HA1
        have D0 : Cu wa.drew g a0 k e := C0
        have E0 : Rf wa.drew gm a0 k e := R0
        focus
          go_region_held3 (fun W => W.cell? ⟨wr.heap.size, 1, none⟩ = some (.int .i64 n)) (first | exact A1 | exact A2 | exact A3)
            ((first | (go_at_call 17; refine (text_any _ g a0 k e n D0 h48 hk v1.2).mono ?_; rintro r u1 ⟨rfl, C1, g1⟩; have R1 := E0.kept g1 hneB; have A2 := g1.cell A1 hnA) | (go_at_call 18; refine (rtext_any _ gm a0 k e n R1 w0 hk v1.2).mono ?_; rintro r u2 ⟨rfl, R3, g2⟩; have C3 := C1.kept g2 hneA; have A3 := g2.cell A2 hnB)))
        have B3 := below_but (below_but B0.drew g1 hg B0.size) g2 hgm (Nat.le_trans B0.size g1.size)
        have hk3 := (pText_at a0 k e n hk).2
        generalize (pText a0 k e n).2.1 = k3 at *
        generalize (pText a0 k e n).2.2 = e3 at *
        clear A1 A2 A3 C1 R1 C0 R0 D0 E0 B0 g1 g2 hC hR hB
        rotate_left
        refine (fail_any _ g a0 k e n C0).mono ?_
        rintro r u1 ⟨rfl, C1, g1⟩
        have R1 := R0.kept g1 hneB
        have B1 := below_but B0 g1 hg B0.size
        have A2 := g1.cell HA1.out hnA
        go_wp2_with fail
        refine (rfail_any _ gm a0 k e n R1).mono ?_
        rintro r u2 ⟨rfl, R3, g2⟩
        have C3 := C1.kept g2 hneA
        have B3 := below_but B1 g2 hgm B1.size
        obtain ⟨k3, hk3e⟩ : ∃ k3, k3 = k := ⟨k, rfl⟩
        have hk3 : k3 ≤ a0.size := by omega
        rw [← hk3e] at C3 R3
        generalize (if e = 0 then n else e) = e3 at *
        clear C1 R1 C0 R0 B0 B1 g1 g2 hC hR hB HA1 A2 hk3e
        rotate_left
        clear hC hR hB HA1
        generalize wr.alloc (.cells #[.int .i64 kd, .int .i64 n] 30) = u2 at *
        obtain ⟨k3, hk3e⟩ : ∃ k3, k3 = k := ⟨k, rfl⟩
        obtain ⟨e3, he3⟩ : ∃ e3, e3 = e := ⟨e, rfl⟩
        have hk3 : k3 ≤ a0.size := by omega
        have C3 : Cu u2 g a0 (k3 : Nat) e3 := by rw [hk3e, he3]; exact C0
        have R3 : Rf u2 gm a0 (k3 : Nat) e3 := by rw [hk3e, he3]; exact R0
        have B3 := B0
        clear C0 R0 B0 hk3e he3
        rotate_left
        all_goals
          try go_wp2_with fail
          have cE : ∀ d os, Calls Try.prog 21 #[.pointer (some ⟨g, 0, none⟩)] (Go.Sort.grow (redrawn u2 d) os) fun r w'' => r = .returned (.int .i64 e3) ∧ ∃ p : Regrown, w'' = Go.Sort.grow (redrawn u2 p.d) p.os := fun d os => Calls.regrown_of (err_any _ g a0 k3 e3 (C3.belowAll (below_regrown u2 d os)))
          have cL : ∀ d os, Calls Try.prog 22 #[.pointer (some ⟨g, 0, none⟩)] (Go.Sort.grow (redrawn u2 d) os) fun r w'' => r = .returned (.int .i64 ((a0.size : Int) - k3)) ∧ ∃ p : Regrown, w'' = Go.Sort.grow (redrawn u2 p.d) p.os := fun d os => Calls.regrown_of ((left_any _ g a0 k3 e3 (C3.belowAll (below_regrown u2 d os)) w0 (by omega) (by omega)).mono fun _ _ ⟨h1, n, h2⟩ => ⟨h1, by rw [h2]; exact bdrewN (Below.refl _ _) n⟩)
          have m1 := fun d os => cell_regrown (At3.c1 R3) d os
          have m2 := fun d os => cell_regrown (At3.c2 R3) d os
          refine wp_region_quiet_below (by kernel_rfl) (by kernel_rfl) ?_
          repeat (first | go_big_quiet_step (first | (go_at_call 21; exact cE _ _) | (go_at_call 22; exact cL _ _)) | quiet_step (first | (go_at_call 21; exact cE _ _) | (go_at_call 22; exact cL _ _)))
          refine wpQuiet_nil ?_
          intro _ hw'
          obtain ⟨⟨dq, osq⟩, hw''⟩ := hw'
          subst hw''
          go_wp2_with fail
          go_roundw
          case rel => exact ⟨i + 1, k3, e3, by go_num, by omega, hk3, C3.belowAll (below_regrown u2 dq osq), R3.belowAll (below_regrown u2 dq osq), B3.trans ((below_regrown u2 dq osq).mono B3.size)⟩
          case measure => simp [intOf]; omega
      · go_wp2_with fail
        go_ret
        exact ⟨rfl, hB⟩
  · have hc : 1000 < a0.size ∨ (a0.size ≤ 1000 ∧ 200 < len1) := by omega
    rcases hc with h1 | ⟨h1, h2⟩
    all_goals
      go_enter Try.func3, Try.ntmps3
      go_wp2_with fail
      refine (awake_any _).mono ?_
      rintro e w1 ⟨rfl, hb1⟩
      go_wp2_with fail
      refine (awake_any _).mono ?_
      rintro e w2 ⟨rfl, hb2⟩
      go_wp2_with fail
      go_ret
      exact ⟨rfl, hb1.trans (hb2.mono hb1.size)⟩

set_option maxRecDepth 100000 in
theorem lifted (os : Os) (started : os.Started) (H : Type) (enc : TypeId × Value → H) :
    ReturnsInHanded {} Try.checked os 3 .any (Rows.cursorReadsSpec.pre6 enc Try.prog Try.f3 Rows.cursorReadsRow.domain false) (Rows.cursorReadsSpec.post enc Try.prog Try.f3 false true false false) := by
  refine returnsInHanded_of_change (C := Try.checked) own started (by kernel_rfl) Try.func3
    (ChangeSpec.witness6 (enc := enc) (C := Try.checked) false ⟨#[], #[.string ByteArray.empty, .slice none 0 0], []⟩ 8 (by kernel_rfl) (by kernel_rfl) (by kernel_rfl) (by kernel_rfl)) ?_
  intro W base args ds gs before hval0 hW hcnd _
  have hval : ∀ (j : Nat) t v, Try.f3.params[j]? = some t → args[j]? = some v → Value.okWide Try.prog W .any base t v := hval0
  have hW' := hW
  obtain ⟨p, q, hA0, hV, rfl, hfz, hnd⟩ := hW
  have hA : DataW.TrodAll enc Try.prog W 0 (fun _ => true) true Try.f3.params.toList args.toList ds p := hA0
  rw [Try.params3] at hA hval
  obtain ⟨v0, vs0, d0, ds0, p0, q0, hargs, rfl, rfl, h0, r0⟩ := trodAll_cons hA
  obtain ⟨v1, vs1, d1, ds1, p1, q1, rfl, rfl, rfl, h1, r1⟩ := trodAll_cons r0
  obtain ⟨rfl, rfl, rfl⟩ := trodAll_nil r1
  obtain rfl : args = #[v0, v1] := by cases args; simp_all
  obtain ⟨rfl, rfl⟩ := trodVars_none hV
  obtain ⟨a0, rfl, rfl, rfl, w0⟩ := open_string Try.underlying9 (hval 0 9 v0 rfl rfl) h0
  obtain ⟨a1, len1, cap1, rfl⟩ := okWide_slice Try.underlying22 (hval 1 22 v1 rfl rfl)
  have k1 := h1
  have lt1 : ∀ x ∈ p1, x.block < W.heap.size := by obtain ⟨m, hm⟩ := k1; exact DataW.trod_lt m _ _ _ hm
  obtain ⟨z1, w1⟩ := open_pairs Try.underlying22 Try.underlying30 (by kernel_rfl) rfl rfl (by kernel_rfl) (by kernel_rfl) Try.underlying3 Try.underlying3 h1
  clear hA0 hval0
  refine (walk a0 a1 len1 cap1 z1 W w0 w1).mono fun e W' ⟨he, bel⟩ => ?_
  subst he
  exact ⟨_, rfl, _, _, _, [], _, [], hW', trodAll_mk1 (shut_bool Try.underlying4 _), (trodAll_cons_mk (shut_string Try.underlying9 w0) (trodAll_cons_mk (Below.trod laidOut (by kernel_rfl) (of_decide_eq_true (by kernel_rfl)) k1 bel lt1) trodAll_mk0)), rfl, bel.frame _, fun h => by cases h⟩

theorem over : Rows.cursorReadsRow.holds Try.pinned (OpenSpec.ofChange Rows.cursorReadsSpec) :=
  OpenClaim.holds_of_wide 3 Try.f3 rfl rfl rfl rfl rfl rfl rfl ⟨rfl, rfl, rfl, rfl, rfl⟩ rfl rfl rfl rfl rfl (by kernel_rfl) Try.func3 (by kernel_rfl)
    (of_decide_eq_true (by kernel_rfl)) (by unfold Func.isWrapper; first | (rw [if_pos (by decide +kernel)]; kernel_rfl) | (rw [if_neg (by decide +kernel)]; exact ⟨rfl, rfl⟩))
    (fun os started H enc _ => lifted os started H enc)

end Go.Proofs.Ytcpbcedpehecdaa.cursorReads

namespace Go.Proofs.Ytcpbcedpehecdaa
theorem cursorReads_holds : Rows.CursorReadsSaid := cursorReads.over
#print axioms cursorReads_holds
end Go.Proofs.Ytcpbcedpehecdaa
