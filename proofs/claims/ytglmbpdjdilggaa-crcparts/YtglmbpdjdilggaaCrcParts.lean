/- For all texts a and b the law CrcParts returns true: More, behind the sum of a, is the sum of a and b behind it, and of nothing more it is the sum of a (texts of more than 1000 bytes are let go by the law itself); no condition. -/
import Derived.Test.YtglmbpdjdilggaaRows
import Derived.WalkKit
import Derived.ProofKit
import Derived.OpenShut
import Derived.ShutString
import Derived.Below
import Derived.Test.YtglmbpdjdilggaaAwake03
namespace Go.Proofs.Ytglmbpdjdilggaa.crcParts
open Go.ChangeShapes Go.WideShapes Go.ChangeAt Go.RowKit
open Go.ChangeMaps (open_string shut_string)
set_option linter.unusedVariables false      -- a walk need not use every 'w<i>' (that an integer argument fits its kind)

theorem own : ownKnob Try.prog.godebug = none := by kernel_rfl

theorem data_join (a b : ByteArray) : (a ++ b).data.toList = a.data.toList ++ b.data.toList := by simp

set_option maxRecDepth 10000 in
set_option maxHeartbeats 400000 in
theorem walk (a0 : ByteArray) (a1 : ByteArray) (w0 : a0.size ≤ maxLen) (w1 : a1.size ≤ maxLen) (w : World) :
    Calls Try.prog 4 #[.string a0, .string a1] w fun e w' => e = .returned (.bool true) ∧ Below w.heap.size w w' := by
  have w0' := w0
  unfold maxLen at w0'
  have w1' := w1
  unfold maxLen at w1'
  by_cases hl : a0.size ≤ 1000 ∧ a1.size ≤ 1000
  · obtain ⟨hl0, hl1⟩ := hl
    have hadd := fun (W : World) => run_string_add_sum (P := Try.prog) W a0 a1 (by omega)
    have HS : Hid (∀ W : World, Calls Try.prog 9 #[.string a0] W fun e w' => e = .returned (.int .u32 (crc a0.data.toList : Nat)) ∧ Below W.heap.size W w') := fun W => sum_any a0 W (by omega)
    have HM : Hid (∀ W : World, Calls Try.prog 11 #[.int .u32 (crc a0.data.toList : Nat), .string a1] W fun e w' => e = .returned (.int .u32 (crc (a0.data.toList ++ a1.data.toList) : Nat)) ∧ Below W.heap.size W w') := fun W => more_any a0.data.toList a1 W (by omega)
    have HT : Hid (∀ W : World, Calls Try.prog 9 #[.string (a0 ++ a1)] W fun e w' => e = .returned (.int .u32 (crc (a0.data.toList ++ a1.data.toList) : Nat)) ∧ Below W.heap.size W w') := fun W => by
      have h := sum_any (a0 ++ a1) W (by rw [ByteArray.size_append]; omega)
      rw [data_join] at h
      exact h
    have HE : Hid (∀ W : World, Calls Try.prog 11 #[.int .u32 (crc a0.data.toList : Nat), .string ⟨#[]⟩] W fun e w' => e = .returned (.int .u32 (crc a0.data.toList : Nat)) ∧ Below W.heap.size W w') := fun W => by
      have h := more_any a0.data.toList ⟨#[]⟩ W (by decide)
      rw [show (ByteArray.mk #[]).data.toList = [] from rfl, List.append_nil] at h
      exact h
    generalize crc (a0.data.toList ++ a1.data.toList) = T at *
    generalize crc a0.data.toList = S at *
    go_enter Try.func4, Try.ntmps4
    go_wp2_with fail
    refine (awake_any _).mono ?_
    rintro e w1 ⟨rfl, hb1⟩
    go_wp2_with fail
    refine (HS.out _).mono ?_
    rintro e w2 ⟨rfl, hb2⟩
    go_wp2_with fail
    refine (HM.out _).mono ?_
    rintro e w3 ⟨rfl, hb3⟩
    go_wp2_with fail
    refine (HT.out _).mono ?_
    rintro e w4 ⟨rfl, hb4⟩
    go_wp2_with fail
    refine (HS.out _).mono ?_
    rintro e w5 ⟨rfl, hb5⟩
    go_wp2_with fail
    refine (HE.out _).mono ?_
    rintro e w6 ⟨rfl, hb6⟩
    go_wp2_with fail
    refine (HS.out _).mono ?_
    rintro e w7 ⟨rfl, hb7⟩
    go_wp2_with fail
    go_ret
    have c2 := bjoin hb1 hb2 hb1.size
    have c3 := bjoin c2 hb3 c2.size
    have c4 := bjoin c3 hb4 c3.size
    have c5 := bjoin c4 hb5 c4.size
    have c6 := bjoin c5 hb6 c5.size
    exact ⟨rfl, bjoin c6 hb7 c6.size⟩
  · have hc : 1000 < a0.size ∨ (a0.size ≤ 1000 ∧ 1000 < a1.size) := by omega
    rcases hc with h1 | ⟨h1, h2⟩
    all_goals
      go_enter Try.func4, Try.ntmps4
      go_wp2_with fail
      refine (awake_any _).mono ?_
      rintro e w1 ⟨rfl, hb1⟩
      go_wp2_with fail
      refine (awake_any _).mono ?_
      rintro e w2 ⟨rfl, hb2⟩
      go_wp2_with fail
      go_ret
      exact ⟨rfl, bjoin hb1 hb2 hb1.size⟩

set_option maxRecDepth 100000 in
theorem lifted (os : Os) (started : os.Started) (H : Type) (enc : TypeId × Value → H) :
    ReturnsInHanded {} Try.checked os 4 .any (Rows.crcPartsSpec.pre6 enc Try.prog Try.f4 Rows.crcPartsRow.domain false) (Rows.crcPartsSpec.post enc Try.prog Try.f4 false true false false) := by
  refine returnsInHanded_of_change (C := Try.checked) own started (by kernel_rfl) Try.func4
    (ChangeSpec.witness6 (enc := enc) (C := Try.checked) false ⟨#[], #[.string ByteArray.empty, .string ByteArray.empty], []⟩ 8 (by kernel_rfl) (by kernel_rfl) (by kernel_rfl) (by kernel_rfl)) ?_
  intro W base args ds gs before hval0 hW hcnd _
  have hval : ∀ (j : Nat) t v, Try.f4.params[j]? = some t → args[j]? = some v → Value.okWide Try.prog W .any base t v := hval0
  have hW' := hW
  obtain ⟨p, q, hA0, hV, rfl, hfz, hnd⟩ := hW
  have hA : DataW.TrodAll enc Try.prog W 0 (fun _ => true) true Try.f4.params.toList args.toList ds p := hA0
  rw [Try.params4] at hA hval
  obtain ⟨v0, vs0, d0, ds0, p0, q0, hargs, rfl, rfl, h0, r0⟩ := trodAll_cons hA
  obtain ⟨v1, vs1, d1, ds1, p1, q1, rfl, rfl, rfl, h1, r1⟩ := trodAll_cons r0
  obtain ⟨rfl, rfl, rfl⟩ := trodAll_nil r1
  obtain rfl : args = #[v0, v1] := by cases args; simp_all
  obtain ⟨rfl, rfl⟩ := trodVars_none hV
  obtain ⟨a0, rfl, rfl, rfl, w0⟩ := open_string Try.underlying9 (hval 0 9 v0 rfl rfl) h0
  obtain ⟨a1, rfl, rfl, rfl, w1⟩ := open_string Try.underlying9 (hval 1 9 v1 rfl rfl) h1
  clear hA0 hval0
  simp only [List.append_nil] at hW'
  refine (walk a0 a1 w0 w1 W).mono fun e W' ⟨he, hg⟩ => ?_
  subst he
  exact ⟨_, rfl, _, _, _, [], [], [], hW', (trodAll_cons_mk (shut_bool Try.underlying4 _) trodAll_mk0), (trodAll_cons_mk (shut_string Try.underlying9 w0) (trodAll_cons_mk (shut_string Try.underlying9 w1) trodAll_mk0)), rfl, hg.frame _, fun h => by cases h⟩

theorem over : Rows.crcPartsRow.holds Try.pinned (OpenSpec.ofChange Rows.crcPartsSpec) :=
  OpenClaim.holds_of_wide 4 Try.f4 rfl rfl rfl rfl rfl rfl rfl ⟨rfl, rfl, rfl, rfl, rfl⟩ rfl rfl rfl rfl rfl (by kernel_rfl) Try.func4 (by kernel_rfl)
    (of_decide_eq_true (by kernel_rfl)) (by unfold Func.isWrapper; first | (rw [if_pos (by decide +kernel)]; kernel_rfl) | (rw [if_neg (by decide +kernel)]; exact ⟨rfl, rfl⟩))
    (fun os started H enc _ => lifted os started H enc)

end Go.Proofs.Ytglmbpdjdilggaa.crcParts

namespace Go.Proofs.Ytglmbpdjdilggaa
theorem crcParts_holds : Rows.CrcPartsSaid := crcParts.over
#print axioms crcParts_holds
end Go.Proofs.Ytglmbpdjdilggaa
