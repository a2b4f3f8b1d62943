/- For every uint64 n, every int64 m and every text s the law CursorParts returns true: numbers and texts that are put one behind the other are read so (texts of more than 500 bytes, and n beyond 2 to the 24, are let go by the law itself); no condition. -/
import Derived.Test.YtcpbcedpehecdaaRows
import Derived.WalkKit
import Derived.ProofKit
import Derived.OpenShut
import Derived.ShutString
import Derived.Below
import Derived.Test.YtcpbcedpehecdaaAwake02
import Derived.Test.YtcpbcedpehecdaaParts2
import Derived.Test.YtcpbcedpehecdaaRefPut
namespace Go.Proofs.Ytcpbcedpehecdaa.cursorParts
open Go.ChangeShapes Go.WideShapes Go.ChangeAt Go.RowKit
open Go.ChangeMaps (open_string shut_string)
set_option linter.unusedVariables false      -- a walk need not use every 'w<i>' (that an integer argument fits its kind)

theorem own : ownKnob Try.prog.godebug = none := by kernel_rfl

set_option maxRecDepth 10000 in
set_option maxHeartbeats 400000 in
theorem walk (a0 : Int) (a1 : Int) (a2 : ByteArray) (w0 : (Lit.int .u64 a0).wf = true) (w1 : (Lit.int .i64 a1).wf = true) (w2 : a2.size ≤ maxLen) (w : World) :
    Calls Try.prog 6 #[.int .u64 a0, .int .i64 a1, .string a2] w fun e w' => e = .returned (.bool true) ∧ Below w.heap.size w w' := by
  have b0 := bounds_u64 w0
  have b1 := bounds_i64 w1
  have w2' := w2
  unfold maxLen at w2'
  by_cases hl : a2.size ≤ 500 ∧ a0 ≤ 16777216
  · obtain ⟨hl, hn⟩ := hl
    have hzr := zig_range a1 b1.1 b1.2
    have hzz := zag_zig a1
    have HZ := fun W => zig_ref a1 W b1.1 b1.2
    have P1 := fun W => refput_any a0 W b0.1 b0.2
    have P2 := fun W => refput_any (zig a1) W hzr.1 hzr.2
    have P3 := fun W => refput_any (a2.size : Int) W (by omega) (by omega)
    have l1 := put_length a0.toNat
    have l2 := put_length (zig a1).toNat
    have l3 := put_length a2.size
    rw [Int.toNat_natCast] at P3
    have d1 : (ByteArray.mk (put a0.toNat).toArray).data.toList = put a0.toNat := rfl
    have d2 : (ByteArray.mk (put (zig a1).toNat).toArray).data.toList = put (zig a1).toNat := rfl
    have d3 : (ByteArray.mk (put a2.size).toArray).data.toList = put a2.size := rfl
    generalize ByteArray.mk (put a0.toNat).toArray = s1 at *
    generalize ByteArray.mk (put (zig a1).toNat).toArray = s2 at *
    generalize ByteArray.mk (put a2.size).toArray = s3 at *
    obtain ⟨q1, q2, q3⟩ := three_parts s1 s2 s3 a2 a0.toNat (zig a1).toNat (by omega) (by omega) hl d1 d2 d3
    rw [Int.toNat_of_nonneg b0.1] at q1
    rw [Int.toNat_of_nonneg hzr.1, hzz] at q2
    have z1 : s1.size ≤ 10 := by rw [← list_size, d1]; exact l1.2
    have z2 : s2.size ≤ 10 := by rw [← list_size, d2]; exact l2.2
    have z3 : s3.size ≤ 10 := by rw [← list_size, d3]; exact l3.2
    generalize zig a1 = z at *
    have A1 := fun (W : World) => run_string_add_sum (P := Try.prog) W s1 s2 (by omega)
    have A2 := fun (W : World) => run_string_add_sum (P := Try.prog) W (s1 ++ s2) s3 (by rw [ByteArray.size_append]; omega)
    have A3 := fun (W : World) => run_string_add_sum (P := Try.prog) W (s1 ++ s2 ++ s3) a2 (by rw [ByteArray.size_append, ByteArray.size_append]; omega)
    have hB : (s1 ++ s2 ++ s3 ++ a2).size = s1.size + s2.size + s3.size + a2.size := by rw [ByteArray.size_append, ByteArray.size_append, ByteArray.size_append]
    generalize s1 ++ s2 ++ s3 ++ a2 = B at *
    have U := fun (W : World) (g : Nat) (h : Cu W g B ((0 : Nat) : Int) 0) => uint_any W g B 0 0 a0 h (by unfold maxLen; omega) (by omega)
    have I := fun (W : World) (g : Nat) (h : Cu W g B (s1.size : Int) 0) => int_any W g B s1.size 0 h (by unfold maxLen; omega) (by omega)
    have T := fun (W : World) (g : Nat) (h : Cu W g B ((s1.size + s2.size : Nat) : Int) 0) => text_any W g B (s1.size + s2.size) 0 (a2.size : Int) h (by omega) (by omega) (by omega)
    have L := fun (W : World) (g : Nat) (h : Cu W g B ((s1.size + s2.size + s3.size + a2.size : Nat) : Int) 0) => left_any W g B _ 0 h (by unfold maxLen; omega) (by omega) (by omega)
    rw [q1] at U
    rw [q2] at I
    rw [q3] at T
    rw [hB, Int.sub_self] at L
    have HP1 : Hid _ := P1
    have HP2 : Hid _ := P2
    have HP3 : Hid _ := P3
    have HZ' : Hid _ := HZ
    have HU : Hid _ := U
    have HI : Hid _ := I
    have HT : Hid _ := T
    have HL : Hid _ := L
    have h24 : a0 ≤ 16777216 := hn
    clear P1 P2 P3 HZ U I T L d1 d2 d3 q1 q2 q3 hzz hB l1 l2 l3
    go_enter Try.func6, Try.ntmps6
    go_wp2_with fail
    refine (awake_any _).mono ?_
    rintro e w1 ⟨rfl, hb1⟩
    go_wp2_with fail
    refine (HP1.out _).mono ?_
    rintro e w2 ⟨rfl, hb2⟩
    go_wp2_with fail
    refine (HZ'.out _).mono ?_
    rintro e w' ⟨rfl, rfl⟩
    go_wp2_with fail
    refine (HP2.out _).mono ?_
    rintro e w3 ⟨rfl, hb3⟩
    go_wp2_with fail
    refine (HP3.out _).mono ?_
    rintro e w4 ⟨rfl, hb4⟩
    go_wp2_with fail
    refine (new_any _ _).mono ?_
    rintro e w5 ⟨rfl, hw5⟩
    have c2 := hb1.trans (hb2.mono hb1.size)
    have c3 := c2.trans (hb3.mono c2.size)
    have c4 := c3.trans (hb4.mono c3.size)
    have k5 : Cu w5 w4.heap.size B ((0 : Nat) : Int) 0 := by rw [hw5]; exact At3.new _ _ _ _ _
    have c5 : Below w.heap.size w w5 := by rw [hw5]; exact c4.alloc c4.size _
    clear hw5 hb2 hb3 hb4 c2 c3
    go_wp2_with fail
    refine (HU.out _ _ k5).mono ?_
    rintro e w6 ⟨rfl, k6, g6⟩
    have c6 := below_but c5 g6 c4.size c5.size
    go_wp2_with fail
    refine (HI.out _ _ k6).mono ?_
    rintro e w7 ⟨rfl, k7, g7⟩
    have c7 := below_but c6 g7 c4.size c6.size
    go_wp2_with fail
    refine (HT.out _ _ k7).mono ?_
    rintro e w8 ⟨rfl, k8, g8⟩
    have c8 := below_but c7 g8 c4.size c7.size
    go_wp2_with fail
    refine (HL.out _ _ k8).mono ?_
    rintro e w9 ⟨rfl, j, rfl⟩
    go_wp2_with fail
    refine (err_any _ _ _ _ _ (At3.drewN k8 j)).mono ?_
    rintro e w10 ⟨rfl, b10⟩
    go_wp2_with fail
    go_ret
    exact ⟨by simp, (bdrewN c8 j).trans (b10.mono c8.size)⟩
  · have hc : 500 < a2.size ∨ (a2.size ≤ 500 ∧ 16777216 < a0) := by omega
    rcases hc with h1 | ⟨h1, h2⟩
    all_goals
      go_enter Try.func6, Try.ntmps6
      go_wp2_with fail
      refine (awake_any _).mono ?_
      rintro e w1 ⟨rfl, hb1⟩
      go_wp2_with fail
      refine (awake_any _).mono ?_
      rintro e w2 ⟨rfl, hb2⟩
      go_wp2_with fail
      go_ret
      exact ⟨rfl, hb1.trans (hb2.mono hb1.size)⟩

set_option maxRecDepth 100000 in
theorem lifted (os : Os) (started : os.Started) (H : Type) (enc : TypeId × Value → H) :
    ReturnsInHanded {} Try.checked os 6 .any (Rows.cursorPartsSpec.pre6 enc Try.prog Try.f6 Rows.cursorPartsRow.domain false) (Rows.cursorPartsSpec.post enc Try.prog Try.f6 false true false false) := by
  refine returnsInHanded_of_change (C := Try.checked) own started (by kernel_rfl) Try.func6
    (ChangeSpec.witness6 (enc := enc) (C := Try.checked) false ⟨#[], #[.int .u64 0, .int .i64 0, .string ByteArray.empty], []⟩ 8 (by kernel_rfl) (by kernel_rfl) (by kernel_rfl) (by kernel_rfl)) ?_
  intro W base args ds gs before hval0 hW hcnd _
  have hval : ∀ (j : Nat) t v, Try.f6.params[j]? = some t → args[j]? = some v → Value.okWide Try.prog W .any base t v := hval0
  have hW' := hW
  obtain ⟨p, q, hA0, hV, rfl, hfz, hnd⟩ := hW
  have hA : DataW.TrodAll enc Try.prog W 0 (fun _ => true) true Try.f6.params.toList args.toList ds p := hA0
  rw [Try.params6] at hA hval
  obtain ⟨v0, vs0, d0, ds0, p0, q0, hargs, rfl, rfl, h0, r0⟩ := trodAll_cons hA
  obtain ⟨v1, vs1, d1, ds1, p1, q1, rfl, rfl, rfl, h1, r1⟩ := trodAll_cons r0
  obtain ⟨v2, vs2, d2, ds2, p2, q2, rfl, rfl, rfl, h2, r2⟩ := trodAll_cons r1
  obtain ⟨rfl, rfl, rfl⟩ := trodAll_nil r2
  obtain rfl : args = #[v0, v1, v2] := by cases args; simp_all
  obtain ⟨rfl, rfl⟩ := trodVars_none hV
  obtain ⟨a0, rfl, rfl, rfl, w0⟩ := open_int Try.underlying34 (hval 0 34 v0 rfl rfl) h0
  obtain ⟨a1, rfl, rfl, rfl, w1⟩ := open_int Try.underlying2 (hval 1 2 v1 rfl rfl) h1
  obtain ⟨a2, rfl, rfl, rfl, w2⟩ := open_string Try.underlying9 (hval 2 9 v2 rfl rfl) h2
  clear hA0 hval0
  simp only [List.append_nil] at hW'
  refine (walk a0 a1 a2 w0 w1 w2 W).mono fun e W' ⟨he, hg⟩ => ?_
  subst he
  exact ⟨_, rfl, _, _, _, [], [], [], hW', (trodAll_cons_mk (shut_bool Try.underlying4 _) trodAll_mk0), (trodAll_cons_mk (shut_int Try.underlying34 w0) (trodAll_cons_mk (shut_int Try.underlying2 w1) (trodAll_cons_mk (shut_string Try.underlying9 w2) trodAll_mk0))), rfl, hg.frame _, fun h => by cases h⟩

theorem over : Rows.cursorPartsRow.holds Try.pinned (OpenSpec.ofChange Rows.cursorPartsSpec) :=
  OpenClaim.holds_of_wide 6 Try.f6 rfl rfl rfl rfl rfl rfl rfl ⟨rfl, rfl, rfl, rfl, rfl⟩ rfl rfl rfl rfl rfl (by kernel_rfl) Try.func6 (by kernel_rfl)
    (of_decide_eq_true (by kernel_rfl)) (by unfold Func.isWrapper; first | (rw [if_pos (by decide +kernel)]; kernel_rfl) | (rw [if_neg (by decide +kernel)]; exact ⟨rfl, rfl⟩))
    (fun os started H enc _ => lifted os started H enc)

end Go.Proofs.Ytcpbcedpehecdaa.cursorParts

namespace Go.Proofs.Ytcpbcedpehecdaa
theorem cursorParts_holds : Rows.CursorPartsSaid := cursorParts.over
#print axioms cursorParts_holds
end Go.Proofs.Ytcpbcedpehecdaa
