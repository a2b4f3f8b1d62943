/- For all texts a, b and c the law CrcAdds returns true: of three texts of one length, put together by exclusive or, the sum is that of the three sums (texts of more than 1000 bytes are let go by the law itself); no condition. -/
import Derived.Test.YtglmbpdjdilggaaRows
import Derived.WalkKit
import Derived.ProofKit
import Derived.OpenShut
import Derived.ShutString
import Derived.Below
import Derived.Test.YtglmbpdjdilggaaAwake03
namespace Go.Proofs.Ytglmbpdjdilggaa.crcAdds
open Go.ChangeShapes Go.WideShapes Go.ChangeAt Go.RowKit
open Go.ChangeMaps (open_string shut_string)
set_option linter.unusedVariables false      -- a walk need not use every 'w<i>' (that an integer argument fits its kind)

theorem own : ownKnob Try.prog.godebug = none := by kernel_rfl

set_option maxRecDepth 10000 in
set_option maxHeartbeats 400000 in
theorem walk (a0 : ByteArray) (a1 : ByteArray) (a2 : ByteArray) (w0 : a0.size ≤ maxLen) (w1 : a1.size ≤ maxLen) (w2 : a2.size ≤ maxLen) (w : World) :
    Calls Try.prog 7 #[.string a0, .string a1, .string a2] w fun e w' => e = .returned (.bool true) ∧ Below w.heap.size w w' := by
  have w0' := w0
  unfold maxLen at w0'
  by_cases hl : a0.size ≤ 1000 ∧ a1.size = a0.size ∧ a2.size = a0.size
  · obtain ⟨hl0, hl1, hl2⟩ := hl
    have m0 : a0.data.toList.length = a1.data.toList.length := by simp; exact hl1.symm
    have m1 : a0.data.toList.length = a2.data.toList.length := by simp; exact hl2.symm
    have HA : Hid (∀ W : World, Calls Try.prog 9 #[.string a0] W fun e w' => e = .returned (.int .u32 (crc a0.data.toList : Nat)) ∧ Below W.heap.size W w') := fun W => sum_any a0 W (by omega)
    have HB : Hid (∀ W : World, Calls Try.prog 9 #[.string a1] W fun e w' => e = .returned (.int .u32 (crc a1.data.toList : Nat)) ∧ Below W.heap.size W w') := fun W => sum_any a1 W (by omega)
    have HC : Hid (∀ W : World, Calls Try.prog 9 #[.string a2] W fun e w' => e = .returned (.int .u32 (crc a2.data.toList : Nat)) ∧ Below W.heap.size W w') := fun W => sum_any a2 W (by omega)
    have hxl : (xorl a0.data.toList a1.data.toList).length = a0.size := by rw [xorl_length _ _ m0]; simp
    have hyl : (xorl (xorl a0.data.toList a1.data.toList) a2.data.toList).length = a0.size := by rw [xorl_length _ _ (by rw [hxl]; simp; exact hl2.symm), hxl]
    have HX : Hid (∀ W : World, Calls Try.prog 16 #[.string a0, .string a1] W fun e w' => e = .returned (.string ⟨(xorl a0.data.toList a1.data.toList).toArray⟩) ∧ Below W.heap.size W w') := fun W => xor_any a0 a1 W hl0 hl1
    have hx2 := fun (W : World) => xor_any ⟨(xorl a0.data.toList a1.data.toList).toArray⟩ a2 W (by show (xorl a0.data.toList a1.data.toList).toArray.size ≤ 1000; simp [hxl]; exact hl0) (by show a2.size = (xorl a0.data.toList a1.data.toList).toArray.size; simp [hxl]; exact hl2)
    have HY : Hid (∀ W : World, Calls Try.prog 16 #[.string ⟨(xorl a0.data.toList a1.data.toList).toArray⟩, .string a2] W fun e w' => e = .returned (.string ⟨(xorl (xorl a0.data.toList a1.data.toList) a2.data.toList).toArray⟩) ∧ Below W.heap.size W w') := hx2
    have HZ : Hid (∀ W : World, Calls Try.prog 9 #[.string ⟨(xorl (xorl a0.data.toList a1.data.toList) a2.data.toList).toArray⟩] W fun e w' => e = .returned (.int .u32 (crc a0.data.toList ^^^ crc a1.data.toList ^^^ crc a2.data.toList : Nat)) ∧ Below W.heap.size W w') := fun W => by
      have h := sum_any ⟨(xorl (xorl a0.data.toList a1.data.toList) a2.data.toList).toArray⟩ W (by show (xorl (xorl a0.data.toList a1.data.toList) a2.data.toList).toArray.size ≤ _; simp [hyl]; omega)
      rw [show (ByteArray.mk (xorl (xorl a0.data.toList a1.data.toList) a2.data.toList).toArray).data.toList = xorl (xorl a0.data.toList a1.data.toList) a2.data.toList from rfl, crc_three _ _ _ m0 m1] at h
      exact h
    have k1 := xor32 (crc a0.data.toList) (crc a1.data.toList) (crc_lt _) (crc_lt _)
    have k2 := xor32 (crc a0.data.toList ^^^ crc a1.data.toList) (crc a2.data.toList) (xor32_lt (crc_lt _) (crc_lt _)) (crc_lt _)
    generalize crc a0.data.toList ^^^ crc a1.data.toList ^^^ crc a2.data.toList = Z at *
    generalize crc a0.data.toList ^^^ crc a1.data.toList = Y at *
    generalize crc a0.data.toList = A at *
    generalize crc a1.data.toList = B at *
    generalize crc a2.data.toList = C at *
    generalize ByteArray.mk (xorl (xorl a0.data.toList a1.data.toList) a2.data.toList).toArray = V at *
    generalize ByteArray.mk (xorl a0.data.toList a1.data.toList).toArray = U at *
    clear hx2 hxl hyl m0 m1
    go_enter Try.func7, Try.ntmps7
    go_wp2_with fail
    refine (awake_any _).mono ?_
    rintro e w1 ⟨rfl, hb1⟩
    go_wp2_with fail
    refine (HX.out _).mono ?_
    rintro e w2 ⟨rfl, hb2⟩
    go_wp2_with fail
    refine (HY.out _).mono ?_
    rintro e w3 ⟨rfl, hb3⟩
    go_wp2_with fail
    refine (HZ.out _).mono ?_
    rintro e w4 ⟨rfl, hb4⟩
    go_wp2_with fail
    refine (HA.out _).mono ?_
    rintro e w5 ⟨rfl, hb5⟩
    go_wp2_with fail
    refine (HB.out _).mono ?_
    rintro e w6 ⟨rfl, hb6⟩
    go_wp2_with fail
    refine (HC.out _).mono ?_
    rintro e w7 ⟨rfl, hb7⟩
    go_wp2_with fail
    go_ret
    have c2 := bjoin hb1 hb2 hb1.size
    have c3 := bjoin c2 hb3 c2.size
    have c4 := bjoin c3 hb4 c3.size
    have c5 := bjoin c4 hb5 c4.size
    have c6 := bjoin c5 hb6 c5.size
    exact ⟨rfl, bjoin c6 hb7 c6.size⟩
  · have hc : 1000 < a0.size ∨ (a0.size ≤ 1000 ∧ ((a1.size : Int) != (a0.size : Int)) = true) ∨ (a0.size ≤ 1000 ∧ ((a1.size : Int) != (a0.size : Int)) = false ∧ ((a2.size : Int) != (a0.size : Int)) = true) := by simp; omega
    rcases hc with h1 | ⟨h1, h2⟩ | ⟨h1, h2, h3⟩
    all_goals
      go_enter Try.func7, Try.ntmps7
      go_wp2_with fail
      refine (awake_any _).mono ?_
      rintro e w1 ⟨rfl, hb1⟩
      go_wp2_with fail
      refine (awake_any _).mono ?_
      rintro e w2 ⟨rfl, hb2⟩
      go_wp2_with fail
      go_ret
      exact ⟨rfl, bjoin hb1 hb2 hb1.size⟩

set_option maxRecDepth 100000 in
theorem lifted (os : Os) (started : os.Started) (H : Type) (enc : TypeId × Value → H) :
    ReturnsInHanded {} Try.checked os 7 .any (Rows.crcAddsSpec.pre6 enc Try.prog Try.f7 Rows.crcAddsRow.domain false) (Rows.crcAddsSpec.post enc Try.prog Try.f7 false true false false) := by
  refine returnsInHanded_of_change (C := Try.checked) own started (by kernel_rfl) Try.func7
    (ChangeSpec.witness6 (enc := enc) (C := Try.checked) false ⟨#[], #[.string ByteArray.empty, .string ByteArray.empty, .string ByteArray.empty], []⟩ 8 (by kernel_rfl) (by kernel_rfl) (by kernel_rfl) (by kernel_rfl)) ?_
  intro W base args ds gs before hval0 hW hcnd _
  have hval : ∀ (j : Nat) t v, Try.f7.params[j]? = some t → args[j]? = some v → Value.okWide Try.prog W .any base t v := hval0
  have hW' := hW
  obtain ⟨p, q, hA0, hV, rfl, hfz, hnd⟩ := hW
  have hA : DataW.TrodAll enc Try.prog W 0 (fun _ => true) true Try.f7.params.toList args.toList ds p := hA0
  rw [Try.params7] at hA hval
  obtain ⟨v0, vs0, d0, ds0, p0, q0, hargs, rfl, rfl, h0, r0⟩ := trodAll_cons hA
  obtain ⟨v1, vs1, d1, ds1, p1, q1, rfl, rfl, rfl, h1, r1⟩ := trodAll_cons r0
  obtain ⟨v2, vs2, d2, ds2, p2, q2, rfl, rfl, rfl, h2, r2⟩ := trodAll_cons r1
  obtain ⟨rfl, rfl, rfl⟩ := trodAll_nil r2
  obtain rfl : args = #[v0, v1, v2] := by cases args; simp_all
  obtain ⟨rfl, rfl⟩ := trodVars_none hV
  obtain ⟨a0, rfl, rfl, rfl, w0⟩ := open_string Try.underlying9 (hval 0 9 v0 rfl rfl) h0
  obtain ⟨a1, rfl, rfl, rfl, w1⟩ := open_string Try.underlying9 (hval 1 9 v1 rfl rfl) h1
  obtain ⟨a2, rfl, rfl, rfl, w2⟩ := open_string Try.underlying9 (hval 2 9 v2 rfl rfl) h2
  clear hA0 hval0
  simp only [List.append_nil] at hW'
  refine (walk a0 a1 a2 w0 w1 w2 W).mono fun e W' ⟨he, hg⟩ => ?_
  subst he
  exact ⟨_, rfl, _, _, _, [], [], [], hW', (trodAll_cons_mk (shut_bool Try.underlying4 _) trodAll_mk0), (trodAll_cons_mk (shut_string Try.underlying9 w0) (trodAll_cons_mk (shut_string Try.underlying9 w1) (trodAll_cons_mk (shut_string Try.underlying9 w2) trodAll_mk0))), rfl, hg.frame _, fun h => by cases h⟩

theorem over : Rows.crcAddsRow.holds Try.pinned (OpenSpec.ofChange Rows.crcAddsSpec) :=
  OpenClaim.holds_of_wide 7 Try.f7 rfl rfl rfl rfl rfl rfl rfl ⟨rfl, rfl, rfl, rfl, rfl⟩ rfl rfl rfl rfl rfl (by kernel_rfl) Try.func7 (by kernel_rfl)
    (of_decide_eq_true (by kernel_rfl)) (by unfold Func.isWrapper; first | (rw [if_pos (by decide +kernel)]; kernel_rfl) | (rw [if_neg (by decide +kernel)]; exact ⟨rfl, rfl⟩))
    (fun os started H enc _ => lifted os started H enc)

end Go.Proofs.Ytglmbpdjdilggaa.crcAdds

namespace Go.Proofs.Ytglmbpdjdilggaa
theorem crcAdds_holds : Rows.CrcAddsSaid := crcAdds.over
#print axioms crcAdds_holds
end Go.Proofs.Ytglmbpdjdilggaa
