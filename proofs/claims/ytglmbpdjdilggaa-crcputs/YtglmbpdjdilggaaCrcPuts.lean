/- For every uint32 n and every text b the law CrcPuts returns true: Put(n) is the four bytes that the document says, and Get of them is n; Get(b) is the number whose Put b is, just if b has four bytes, else 0 and false (texts of more than 100 bytes are let go by the law itself); no condition. -/
import Derived.Test.YtglmbpdjdilggaaRows
import Derived.WalkKit
import Derived.ProofKit
import Derived.OpenShut
import Derived.ShutString
import Derived.Below
import Derived.Test.YtglmbpdjdilggaaAwake03
namespace Go.Proofs.Ytglmbpdjdilggaa.crcPuts
open Go.ChangeShapes Go.WideShapes Go.ChangeAt Go.RowKit
open Go.ChangeMaps (open_string shut_string)
set_option linter.unusedVariables false      -- a walk need not use every 'w<i>' (that an integer argument fits its kind)

theorem own : ownKnob Try.prog.godebug = none := by kernel_rfl

set_option maxRecDepth 10000 in
set_option maxHeartbeats 400000 in
theorem walk (a0 : Int) (a1 : ByteArray) (w0 : (Lit.int .u32 a0).wf = true) (w1 : a1.size ≤ maxLen) (w : World) :
    Calls Try.prog 5 #[.int .u32 a0, .string a1] w fun e w' => e = .returned (.bool true) ∧ Below w.heap.size w w' := by
  have b0 := bounds_u32 w0
  have w1' := w1
  unfold maxLen at w1'
  obtain ⟨n, rfl⟩ := Int.eq_ofNat_of_zero_le b0.1
  by_cases hl : a1.size ≤ 100
  · have HP : Hid (∀ W : World, Calls Try.prog 13 #[.int .u32 (n : Int)] W fun e w' => e = .returned (.string ⟨(four n).toArray⟩) ∧ Below W.heap.size W w') := fun W => put4_any n W (by omega)
    have HR : Hid (∀ W : World, Calls Try.prog 14 #[.int .u32 (n : Int)] W fun e w' => e = .returned (.string ⟨(four n).toArray⟩) ∧ Below W.heap.size W w') := fun W => refput4_any n W (by omega)
    have HG : Hid (∀ W : World, Calls Try.prog 12 #[.string ⟨(four n).toArray⟩] W fun e w' => e = .returned (.tuple #[.int .u32 (n : Int), .bool true]) ∧ Below W.heap.size W w') := fun W => by
      have h := get4_some ⟨(four n).toArray⟩ W rfl
      rw [show (ByteArray.mk (four n).toArray).data.toList = four n from rfl, num_of_four n (by omega)] at h
      exact h
    generalize ByteArray.mk (four n).toArray = F at *
    by_cases h4 : a1.size = 4
    · have HH : Hid (∀ W : World, Calls Try.prog 12 #[.string a1] W fun e w' => e = .returned (.tuple #[.int .u32 (num a1.data.toList : Nat), .bool true]) ∧ Below W.heap.size W w') := fun W => get4_some a1 W h4
      have HQ : Hid (∀ W : World, Calls Try.prog 13 #[.int .u32 (num a1.data.toList : Nat)] W fun e w' => e = .returned (.string a1) ∧ Below W.heap.size W w') := fun W => by
        have h := put4_any (num a1.data.toList) W (Nat.lt_of_lt_of_le (num_lt _) (by simp [h4]))
        rw [four_of_num a1 h4] at h
        exact h
      generalize num a1.data.toList = v at *
      go_enter Try.func5, Try.ntmps5
      go_wp2_with fail
      refine (awake_any _).mono ?_
      rintro e w1 ⟨rfl, hb1⟩
      go_wp2_with fail
      refine (HP.out _).mono ?_
      rintro e w2 ⟨rfl, hb2⟩
      go_wp2_with fail
      refine (HG.out _).mono ?_
      rintro e w3 ⟨rfl, hb3⟩
      go_wp2_with fail
      refine (HH.out _).mono ?_
      rintro e w4 ⟨rfl, hb4⟩
      go_wp2_with fail
      refine (HP.out _).mono ?_
      rintro e w5 ⟨rfl, hb5⟩
      go_wp2_with fail
      refine (HR.out _).mono ?_
      rintro e w6 ⟨rfl, hb6⟩
      go_wp2_with fail
      refine (HQ.out _).mono ?_
      rintro e w7 ⟨rfl, hb7⟩
      go_wp2_with fail
      go_ret
      have c2 := bjoin hb1 hb2 hb1.size
      have c3 := bjoin c2 hb3 c2.size
      have c4 := bjoin c3 hb4 c3.size
      have c5 := bjoin c4 hb5 c4.size
      have c6 := bjoin c5 hb6 c5.size
      exact ⟨rfl, bjoin c6 hb7 c6.size⟩
    · have HH : Hid (∀ W : World, Calls Try.prog 12 #[.string a1] W fun e w' => e = .returned (.tuple #[.int .u32 0, .bool false]) ∧ Below W.heap.size W w') := fun W => get4_none a1 W h4
      have hn4 : ((a1.size : Int) == 4) = false := by simp; omega
      go_enter Try.func5, Try.ntmps5
      go_wp2_with fail
      refine (awake_any _).mono ?_
      rintro e w1 ⟨rfl, hb1⟩
      go_wp2_with fail
      refine (HP.out _).mono ?_
      rintro e w2 ⟨rfl, hb2⟩
      go_wp2_with fail
      refine (HG.out _).mono ?_
      rintro e w3 ⟨rfl, hb3⟩
      go_wp2_with fail
      refine (HH.out _).mono ?_
      rintro e w4 ⟨rfl, hb4⟩
      go_wp2_with fail
      refine (HP.out _).mono ?_
      rintro e w5 ⟨rfl, hb5⟩
      go_wp2_with fail
      refine (HR.out _).mono ?_
      rintro e w6 ⟨rfl, hb6⟩
      go_wp2_with fail
      go_ret
      have c2 := bjoin hb1 hb2 hb1.size
      have c3 := bjoin c2 hb3 c2.size
      have c4 := bjoin c3 hb4 c3.size
      have c5 := bjoin c4 hb5 c4.size
      exact ⟨rfl, bjoin c5 hb6 c5.size⟩
  · go_enter Try.func5, Try.ntmps5
    go_wp2_with fail
    refine (awake_any _).mono ?_
    rintro e w1 ⟨rfl, hb1⟩
    go_wp2_with fail
    refine (awake_any _).mono ?_
    rintro e w2 ⟨rfl, hb2⟩
    go_wp2_with fail
    go_ret
    exact ⟨rfl, bjoin hb1 hb2 hb1.size⟩

set_option maxRecDepth 100000 in
theorem lifted (os : Os) (started : os.Started) (H : Type) (enc : TypeId × Value → H) :
    ReturnsInHanded {} Try.checked os 5 .any (Rows.crcPutsSpec.pre6 enc Try.prog Try.f5 Rows.crcPutsRow.domain false) (Rows.crcPutsSpec.post enc Try.prog Try.f5 false true false false) := by
  refine returnsInHanded_of_change (C := Try.checked) own started (by kernel_rfl) Try.func5
    (ChangeSpec.witness6 (enc := enc) (C := Try.checked) false ⟨#[], #[.int .u32 0, .string ByteArray.empty], []⟩ 8 (by kernel_rfl) (by kernel_rfl) (by kernel_rfl) (by kernel_rfl)) ?_
  intro W base args ds gs before hval0 hW hcnd _
  have hval : ∀ (j : Nat) t v, Try.f5.params[j]? = some t → args[j]? = some v → Value.okWide Try.prog W .any base t v := hval0
  have hW' := hW
  obtain ⟨p, q, hA0, hV, rfl, hfz, hnd⟩ := hW
  have hA : DataW.TrodAll enc Try.prog W 0 (fun _ => true) true Try.f5.params.toList args.toList ds p := hA0
  rw [Try.params5] at hA hval
  obtain ⟨v0, vs0, d0, ds0, p0, q0, hargs, rfl, rfl, h0, r0⟩ := trodAll_cons hA
  obtain ⟨v1, vs1, d1, ds1, p1, q1, rfl, rfl, rfl, h1, r1⟩ := trodAll_cons r0
  obtain ⟨rfl, rfl, rfl⟩ := trodAll_nil r1
  obtain rfl : args = #[v0, v1] := by cases args; simp_all
  obtain ⟨rfl, rfl⟩ := trodVars_none hV
  obtain ⟨a0, rfl, rfl, rfl, w0⟩ := open_int Try.underlying23 (hval 0 23 v0 rfl rfl) h0
  obtain ⟨a1, rfl, rfl, rfl, w1⟩ := open_string Try.underlying9 (hval 1 9 v1 rfl rfl) h1
  clear hA0 hval0
  simp only [List.append_nil] at hW'
  refine (walk a0 a1 w0 w1 W).mono fun e W' ⟨he, hg⟩ => ?_
  subst he
  exact ⟨_, rfl, _, _, _, [], [], [], hW', (trodAll_cons_mk (shut_bool Try.underlying4 _) trodAll_mk0), (trodAll_cons_mk (shut_int Try.underlying23 w0) (trodAll_cons_mk (shut_string Try.underlying9 w1) trodAll_mk0)), rfl, hg.frame _, fun h => by cases h⟩

theorem over : Rows.crcPutsRow.holds Try.pinned (OpenSpec.ofChange Rows.crcPutsSpec) :=
  OpenClaim.holds_of_wide 5 Try.f5 rfl rfl rfl rfl rfl rfl rfl ⟨rfl, rfl, rfl, rfl, rfl⟩ rfl rfl rfl rfl rfl (by kernel_rfl) Try.func5 (by kernel_rfl)
    (of_decide_eq_true (by kernel_rfl)) (by unfold Func.isWrapper; first | (rw [if_pos (by decide +kernel)]; kernel_rfl) | (rw [if_neg (by decide +kernel)]; exact ⟨rfl, rfl⟩))
    (fun os started H enc _ => lifted os started H enc)

end Go.Proofs.Ytglmbpdjdilggaa.crcPuts

namespace Go.Proofs.Ytglmbpdjdilggaa
theorem crcPuts_holds : Rows.CrcPutsSaid := crcPuts.over
#print axioms crcPuts_holds
end Go.Proofs.Ytglmbpdjdilggaa
