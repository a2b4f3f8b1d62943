/- For all uint64 a and b the law VarintOrder returns true: greater numbers never have fewer bytes, and no number's bytes begin another one's; no condition. -/
import Derived.Test.YtofghnkijmhkiaaRows
import Derived.WalkKit
import Derived.ProofKit
import Derived.OpenShut
import Derived.ShutString
import Derived.Below
import Derived.Lib.QuietBelow
import Derived.BigQuiet
import Derived.Lib.Strings
import Derived.Test.YtofghnkijmhkiaaAwake
import Derived.Test.YtofghnkijmhkiaaCalls
namespace Go.Proofs.Ytofghnkijmhkiaa.varintOrder
open Go.ChangeShapes Go.WideShapes Go.ChangeAt Go.RowKit
open Go.ChangeMaps (open_string shut_string)
set_option linter.unusedVariables false      -- a walk need not use every 'w<i>' (that an integer argument fits its kind)

theorem own : ownKnob Try.prog.godebug = none := by kernel_rfl

set_option maxRecDepth 10000 in
set_option maxHeartbeats 400000 in
theorem order_long (a0 a1 : Int) (S T : ByteArray) (w : World) (hp0 : 0 < S.size ∧ S.size ≤ 10) (hp1 : 0 < T.size ∧ T.size ≤ 10)
    (HP0 : Hid (∀ W : World, Calls Try.prog 9 #[.int .u64 a0] W fun e w' => e = .returned (.string S) ∧ Below W.heap.size W w'))
    (HP1 : Hid (∀ W : World, Calls Try.prog 9 #[.int .u64 a1] W fun e w' => e = .returned (.string T) ∧ Below W.heap.size W w'))
    (hlt : T.size < S.size) (hgt : a1 < a0) (hne : (a0 == a1) = false) (hS : ((S.extract 0 T.size).toList == T.toList) = false) :
    Calls Try.prog 8 #[.int .u64 a0, .int .u64 a1] w fun e w' => e = .returned (.bool true) ∧ Below w.heap.size w w' := by
  go_enter Try.func8, Try.ntmps8
  go_wp2_with fail
  refine (HP0.out _).mono ?_
  rintro e w1 ⟨rfl, hb1⟩
  go_wp2_with fail
  refine (HP1.out _).mono ?_
  rintro e w2 ⟨rfl, hb2⟩
  go_wp2_with fail
  have cA : ∀ d os, Calls Try.prog 10 #[] (Go.Sort.grow (redrawn w2 d) os) fun e w'' => e = .returned (.bool true) ∧ ∃ p : Regrown, w'' = Go.Sort.grow (redrawn w2 p.d) p.os := fun d os => Calls.regrown_of (awake_any _)
  refine wp_region_quiet_below (by kernel_rfl) (by kernel_rfl) ?_
  repeat (first | go_big_quiet_step (exact cA _ _) | quiet_step (exact cA _ _))
  refine wpQuiet_nil ?_
  intro _ hw'
  obtain ⟨⟨dq, osq⟩, hw''⟩ := hw'
  subst hw''
  go_wp2_with fail
  go_ret
  exact ⟨rfl, hb1.trans ((hb2.mono hb1.size).trans ((below_regrown w2 dq osq).mono (Nat.le_trans hb1.size hb2.size)))⟩

set_option maxRecDepth 10000 in
set_option maxHeartbeats 400000 in
theorem order_gt (a0 a1 : Int) (S T : ByteArray) (w : World) (hp0 : 0 < S.size ∧ S.size ≤ 10) (hp1 : 0 < T.size ∧ T.size ≤ 10)
    (HP0 : Hid (∀ W : World, Calls Try.prog 9 #[.int .u64 a0] W fun e w' => e = .returned (.string S) ∧ Below W.heap.size W w'))
    (HP1 : Hid (∀ W : World, Calls Try.prog 9 #[.int .u64 a1] W fun e w' => e = .returned (.string T) ∧ Below W.heap.size W w'))
    (hlt : S.size ≤ T.size) (hgt : a1 < a0) (hne : (a0 == a1) = false) (hS : (S.toList == (T.extract 0 S.size).toList) = false) :
    Calls Try.prog 8 #[.int .u64 a0, .int .u64 a1] w fun e w' => e = .returned (.bool true) ∧ Below w.heap.size w w' := by
  go_enter Try.func8, Try.ntmps8
  go_wp2_with fail
  refine (HP0.out _).mono ?_
  rintro e w1 ⟨rfl, hb1⟩
  go_wp2_with fail
  refine (HP1.out _).mono ?_
  rintro e w2 ⟨rfl, hb2⟩
  go_wp2_with fail
  have cA : ∀ d os, Calls Try.prog 10 #[] (Go.Sort.grow (redrawn w2 d) os) fun e w'' => e = .returned (.bool true) ∧ ∃ p : Regrown, w'' = Go.Sort.grow (redrawn w2 p.d) p.os := fun d os => Calls.regrown_of (awake_any _)
  refine wp_region_quiet_below (by kernel_rfl) (by kernel_rfl) ?_
  repeat (first | go_big_quiet_step (exact cA _ _) | quiet_step (exact cA _ _))
  refine wpQuiet_nil ?_
  intro _ hw'
  obtain ⟨⟨dq, osq⟩, hw''⟩ := hw'
  subst hw''
  go_wp2_with fail
  go_ret
  exact ⟨rfl, hb1.trans ((hb2.mono hb1.size).trans ((below_regrown w2 dq osq).mono (Nat.le_trans hb1.size hb2.size)))⟩

set_option maxRecDepth 10000 in
set_option maxHeartbeats 400000 in
theorem order_eq (a0 a1 : Int) (S T : ByteArray) (w : World) (hp0 : 0 < S.size ∧ S.size ≤ 10) (hp1 : 0 < T.size ∧ T.size ≤ 10)
    (HP0 : Hid (∀ W : World, Calls Try.prog 9 #[.int .u64 a0] W fun e w' => e = .returned (.string S) ∧ Below W.heap.size W w'))
    (HP1 : Hid (∀ W : World, Calls Try.prog 9 #[.int .u64 a1] W fun e w' => e = .returned (.string T) ∧ Below W.heap.size W w'))
    (hlt : S.size ≤ T.size) (hgt : a0 ≤ a1) (hne : (a0 == a1) = true) (hS : (S.toList == (T.extract 0 S.size).toList) = true) :
    Calls Try.prog 8 #[.int .u64 a0, .int .u64 a1] w fun e w' => e = .returned (.bool true) ∧ Below w.heap.size w w' := by
  go_enter Try.func8, Try.ntmps8
  go_wp2_with fail
  refine (HP0.out _).mono ?_
  rintro e w1 ⟨rfl, hb1⟩
  go_wp2_with fail
  refine (HP1.out _).mono ?_
  rintro e w2 ⟨rfl, hb2⟩
  go_wp2_with fail
  have cA : ∀ d os, Calls Try.prog 10 #[] (Go.Sort.grow (redrawn w2 d) os) fun e w'' => e = .returned (.bool true) ∧ ∃ p : Regrown, w'' = Go.Sort.grow (redrawn w2 p.d) p.os := fun d os => Calls.regrown_of (awake_any _)
  refine wp_region_quiet_below (by kernel_rfl) (by kernel_rfl) ?_
  repeat (first | go_big_quiet_step (exact cA _ _) | quiet_step (exact cA _ _))
  refine wpQuiet_nil ?_
  intro _ hw'
  obtain ⟨⟨dq, osq⟩, hw''⟩ := hw'
  subst hw''
  go_wp2_with fail
  go_ret
  exact ⟨rfl, hb1.trans ((hb2.mono hb1.size).trans ((below_regrown w2 dq osq).mono (Nat.le_trans hb1.size hb2.size)))⟩

set_option maxRecDepth 10000 in
set_option maxHeartbeats 400000 in
theorem order_lt (a0 a1 : Int) (S T : ByteArray) (w : World) (hp0 : 0 < S.size ∧ S.size ≤ 10) (hp1 : 0 < T.size ∧ T.size ≤ 10)
    (HP0 : Hid (∀ W : World, Calls Try.prog 9 #[.int .u64 a0] W fun e w' => e = .returned (.string S) ∧ Below W.heap.size W w'))
    (HP1 : Hid (∀ W : World, Calls Try.prog 9 #[.int .u64 a1] W fun e w' => e = .returned (.string T) ∧ Below W.heap.size W w'))
    (hlt : S.size ≤ T.size) (hgt : a0 ≤ a1) (hne : (a0 == a1) = false) (hS : (S.toList == (T.extract 0 S.size).toList) = false) :
    Calls Try.prog 8 #[.int .u64 a0, .int .u64 a1] w fun e w' => e = .returned (.bool true) ∧ Below w.heap.size w w' := by
  go_enter Try.func8, Try.ntmps8
  go_wp2_with fail
  refine (HP0.out _).mono ?_
  rintro e w1 ⟨rfl, hb1⟩
  go_wp2_with fail
  refine (HP1.out _).mono ?_
  rintro e w2 ⟨rfl, hb2⟩
  go_wp2_with fail
  have cA : ∀ d os, Calls Try.prog 10 #[] (Go.Sort.grow (redrawn w2 d) os) fun e w'' => e = .returned (.bool true) ∧ ∃ p : Regrown, w'' = Go.Sort.grow (redrawn w2 p.d) p.os := fun d os => Calls.regrown_of (awake_any _)
  refine wp_region_quiet_below (by kernel_rfl) (by kernel_rfl) ?_
  repeat (first | go_big_quiet_step (exact cA _ _) | quiet_step (exact cA _ _))
  refine wpQuiet_nil ?_
  intro _ hw'
  obtain ⟨⟨dq, osq⟩, hw''⟩ := hw'
  subst hw''
  go_wp2_with fail
  go_ret
  exact ⟨rfl, hb1.trans ((hb2.mono hb1.size).trans ((below_regrown w2 dq osq).mono (Nat.le_trans hb1.size hb2.size)))⟩

theorem order_walk (a0 a1 : Int) (S T : ByteArray) (w : World) (hp0 : 0 < S.size ∧ S.size ≤ 10) (hp1 : 0 < T.size ∧ T.size ≤ 10)
    (HP0 : Hid (∀ W : World, Calls Try.prog 9 #[.int .u64 a0] W fun e w' => e = .returned (.string S) ∧ Below W.heap.size W w'))
    (HP1 : Hid (∀ W : World, Calls Try.prog 9 #[.int .u64 a1] W fun e w' => e = .returned (.string T) ∧ Below W.heap.size W w'))
    (h0 : 0 ≤ a0) (h1 : 0 ≤ a1) (hsame : List.take (min S.size T.size) S.data.toList = List.take (min S.size T.size) T.data.toList ↔ a0.toNat = a1.toNat) (hmono : a0 ≤ a1 → S.size ≤ T.size) :
    Calls Try.prog 8 #[.int .u64 a0, .int .u64 a1] w fun e w' => e = .returned (.bool true) ∧ Below w.heap.size w w' := by
  have hxS : ∀ k, (S.extract 0 k).toList = List.take k S.data.toList := fun k => by rw [ByteArray.toList_eq, Lib.extract_data, List.drop_zero, Nat.sub_zero]
  have hxT : ∀ k, (T.extract 0 k).toList = List.take k T.data.toList := fun k => by rw [ByteArray.toList_eq, Lib.extract_data, List.drop_zero, Nat.sub_zero]
  have hfS : List.take S.size S.data.toList = S.toList := by rw [ByteArray.toList_eq, ← size_list, List.take_length]
  have hfT : List.take T.size T.data.toList = T.toList := by rw [ByteArray.toList_eq, ← size_list, List.take_length]
  by_cases hlt : T.size < S.size
  · rw [Nat.min_eq_right (by omega), ← hxS, hfT] at hsame
    have hgt : a1 < a0 := by
      by_cases h : a0 ≤ a1
      · have := hmono h; omega
      · omega
    exact order_long a0 a1 S T w hp0 hp1 HP0 HP1 hlt hgt (by simp; omega) (by rw [beq_eq_false_iff_ne]; intro h; have := hsame.1 h; omega)
  · rw [Nat.min_eq_left (by omega), ← hxT, hfS] at hsame
    by_cases hgt : a1 < a0
    · exact order_gt a0 a1 S T w hp0 hp1 HP0 HP1 (by omega) hgt (by simp; omega) (by rw [beq_eq_false_iff_ne]; intro h; have := hsame.1 h; omega)
    · by_cases he : a0 = a1
      · exact order_eq a0 a1 S T w hp0 hp1 HP0 HP1 (by omega) (by omega) (by simp [he]) (by rw [beq_iff_eq]; exact hsame.2 (by rw [he]))
      · exact order_lt a0 a1 S T w hp0 hp1 HP0 HP1 (by omega) (by omega) (by simp [he]) (by rw [beq_eq_false_iff_ne]; intro h; have := hsame.1 h; omega)

set_option maxRecDepth 10000 in
set_option maxHeartbeats 400000 in
theorem walk (a0 : Int) (a1 : Int) (w0 : (Lit.int .u64 a0).wf = true) (w1 : (Lit.int .u64 a1).wf = true) (w : World) :
    Calls Try.prog 8 #[.int .u64 a0, .int .u64 a1] w fun e w' => e = .returned (.bool true) ∧ Below w.heap.size w w' := by
  have b0 := bounds_u64 w0
  have b1 := bounds_u64 w1
  have hmono : a0 ≤ a1 → (put a0.toNat).length ≤ (put a1.toNat).length := fun h => put_mono _ _ (by omega)
  have hsame := put_same a0.toNat a1.toNat (by omega) (by omega)
  have hp0 := put_length a0.toNat
  have hp1 := put_length a1.toNat
  have hput0 := fun W => put_any a0 W b0.1 b0.2
  have hput1 := fun W => put_any a1 W b1.1 b1.2
  have hS0 : (ByteArray.mk (put a0.toNat).toArray).data.toList = put a0.toNat := rfl
  have hS1 : (ByteArray.mk (put a1.toNat).toArray).data.toList = put a1.toNat := rfl
  have hz0 : (ByteArray.mk (put a0.toNat).toArray).size = (put a0.toNat).length := rfl
  have hz1 : (ByteArray.mk (put a1.toNat).toArray).size = (put a1.toNat).length := rfl
  generalize ByteArray.mk (put a0.toNat).toArray = S at *
  generalize ByteArray.mk (put a1.toNat).toArray = T at *
  rw [← hS0, ← hS1, size_list, size_list] at hsame
  rw [← hz0] at hmono hp0
  rw [← hz1] at hmono hp1
  have HP0 : Hid (∀ W : World, Calls Try.prog 9 #[.int .u64 a0] W fun e w' => e = .returned (.string S) ∧ Below W.heap.size W w') := hput0
  have HP1 : Hid (∀ W : World, Calls Try.prog 9 #[.int .u64 a1] W fun e w' => e = .returned (.string T) ∧ Below W.heap.size W w') := hput1
  clear hput0 hput1 hS0 hS1 hz0 hz1
  exact order_walk a0 a1 S T w hp0 hp1 HP0 HP1 b0.1 b1.1 hsame hmono

set_option maxRecDepth 100000 in
theorem lifted (os : Os) (started : os.Started) (H : Type) (enc : TypeId × Value → H) :
    ReturnsInHanded {} Try.checked os 8 .any (Rows.varintOrderSpec.pre6 enc Try.prog Try.f8 Rows.varintOrderRow.domain false) (Rows.varintOrderSpec.post enc Try.prog Try.f8 false true false false) := by
  refine returnsInHanded_of_change (C := Try.checked) own started (by kernel_rfl) Try.func8
    (ChangeSpec.witness6 (enc := enc) (C := Try.checked) false ⟨#[], #[.int .u64 0, .int .u64 0], []⟩ 8 (by kernel_rfl) (by kernel_rfl) (by kernel_rfl) (by kernel_rfl)) ?_
  intro W base args ds gs before hval0 hW hcnd _
  have hval : ∀ (j : Nat) t v, Try.f8.params[j]? = some t → args[j]? = some v → Value.okWide Try.prog W .any base t v := hval0
  have hW' := hW
  obtain ⟨p, q, hA0, hV, rfl, hfz, hnd⟩ := hW
  have hA : DataW.TrodAll enc Try.prog W 0 (fun _ => true) true Try.f8.params.toList args.toList ds p := hA0
  rw [Try.params8] at hA hval
  obtain ⟨v0, vs0, d0, ds0, p0, q0, hargs, rfl, rfl, h0, r0⟩ := trodAll_cons hA
  obtain ⟨v1, vs1, d1, ds1, p1, q1, rfl, rfl, rfl, h1, r1⟩ := trodAll_cons r0
  obtain ⟨rfl, rfl, rfl⟩ := trodAll_nil r1
  obtain rfl : args = #[v0, v1] := by cases args; simp_all
  obtain ⟨rfl, rfl⟩ := trodVars_none hV
  obtain ⟨a0, rfl, rfl, rfl, w0⟩ := open_int Try.underlying22 (hval 0 22 v0 rfl rfl) h0
  obtain ⟨a1, rfl, rfl, rfl, w1⟩ := open_int Try.underlying22 (hval 1 22 v1 rfl rfl) h1
  clear hA0 hval0
  simp only [List.append_nil] at hW'
  refine (walk a0 a1 w0 w1 W).mono fun e W' ⟨he, hg⟩ => ?_
  subst he
  exact ⟨_, rfl, _, _, _, [], [], [], hW', (trodAll_cons_mk (shut_bool Try.underlying4 _) trodAll_mk0), (trodAll_cons_mk (shut_int Try.underlying22 w0) (trodAll_cons_mk (shut_int Try.underlying22 w1) trodAll_mk0)), rfl, hg.frame _, fun h => by cases h⟩

theorem over : Rows.varintOrderRow.holds Try.pinned (OpenSpec.ofChange Rows.varintOrderSpec) :=
  OpenClaim.holds_of_wide 8 Try.f8 rfl rfl rfl rfl rfl rfl rfl ⟨rfl, rfl, rfl, rfl, rfl⟩ rfl rfl rfl rfl rfl (by kernel_rfl) Try.func8 (by kernel_rfl)
    (of_decide_eq_true (by kernel_rfl)) (by unfold Func.isWrapper; first | (rw [if_pos (by decide +kernel)]; kernel_rfl) | (rw [if_neg (by decide +kernel)]; exact ⟨rfl, rfl⟩))
    (fun os started H enc _ => lifted os started H enc)

end Go.Proofs.Ytofghnkijmhkiaa.varintOrder

namespace Go.Proofs.Ytofghnkijmhkiaa
theorem varintOrder_holds : Rows.VarintOrderSaid := varintOrder.over
#print axioms varintOrder_holds
end Go.Proofs.Ytofghnkijmhkiaa
