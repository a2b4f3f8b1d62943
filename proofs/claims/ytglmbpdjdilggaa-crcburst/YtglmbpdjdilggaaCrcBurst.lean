/- For every text b, every int from and every uint32 mask the law CrcBurst returns true: with a mask's bits put to 32 bits on end of b the sum is another one, just if the text is (texts of more than 1000 bytes, and places outside of b, are let go by the law itself); no condition. -/
import Derived.Test.YtglmbpdjdilggaaRows
import Derived.WalkKit
import Derived.ProofKit
import Derived.OpenShut
import Derived.ShutString
import Derived.Below
import Derived.Test.YtglmbpdjdilggaaAwake03
namespace Go.Proofs.Ytglmbpdjdilggaa.crcBurst
open Go.ChangeShapes Go.WideShapes Go.ChangeAt Go.RowKit
open Go.ChangeMaps (open_string shut_string)
set_option linter.unusedVariables false      -- a walk need not use every 'w<i>' (that an integer argument fits its kind)

theorem own : ownKnob Try.prog.godebug = none := by kernel_rfl

theorem eq_beq (A B : Nat) (c b : ByteArray) (h : A = B ↔ c = b) : (((A : Int) == (B : Int)) == (c.toList == b.toList)) = true := by
  have e : c.toList = b.toList ↔ c = b := by
    rw [ByteArray.toList_eq, ByteArray.toList_eq]
    exact ⟨fun e => ByteArray.ext (Array.toList_inj.1 e), fun e => by rw [e]⟩
  by_cases hc : c = b
  · have h1 := h.2 hc
    subst hc
    simp [h1]
  · have h1 : ¬ A = B := fun e => hc (h.1 e)
    have h2 : ¬ c.toList = b.toList := fun x => hc (e.1 x)
    have h3 : ((A : Int) == (B : Int)) = false := by simp; omega
    have h4 : (c.toList == b.toList) = false := by simp; exact h2
    rw [h3, h4]
    rfl

set_option maxRecDepth 10000 in
set_option maxHeartbeats 400000 in
theorem walk (a0 : ByteArray) (a1 : Int) (a2 : Int) (w0 : a0.size ≤ maxLen) (w1 : (Lit.int .i64 a1).wf = true) (w2 : (Lit.int .u32 a2).wf = true) (w : World) :
    Calls Try.prog 6 #[.string a0, .int .i64 a1, .int .u32 a2] w fun e w' => e = .returned (.bool true) ∧ Below w.heap.size w w' := by
  have w0' := w0
  unfold maxLen at w0'
  have b1 := bounds_i64 w1
  have b2 := bounds_u32 w2
  by_cases hl : a0.size ≤ 1000 ∧ 0 ≤ a1 ∧ a1 < 8 * a0.size
  · obtain ⟨hl0, hl1, hl2⟩ := hl
    obtain ⟨k, rfl⟩ := Int.eq_ofNat_of_zero_le hl1
    obtain ⟨m, rfl⟩ := Int.eq_ofNat_of_zero_le b2.1
    have HF : Hid (∀ W : World, Calls Try.prog 15 #[.string a0, .int .i64 (k : Int), .int .u32 (m : Int)] W fun e w' => ∃ c : List UInt8, e = .returned (.string ⟨c.toArray⟩) ∧ c.length = a0.data.toList.length ∧ num a0.data.toList ^^^ num c = diff k (8 * a0.data.toList.length) m 32 ∧ Below W.heap.size W w') := fun W => flip_any a0 k m W hl0 (by omega) (by omega)
    go_enter Try.func6, Try.ntmps6
    go_wp2_with fail
    refine (awake_any _).mono ?_
    rintro e w1 ⟨rfl, hb1⟩
    go_wp2_with fail
    refine (HF.out _).mono ?_
    rintro e w2 ⟨c, rfl, hcl, hcd, hb2⟩
    have hal : a0.data.toList.length = a0.size := by simp
    have hcs : (ByteArray.mk c.toArray).size = a0.size := by show c.toArray.size = _; simp; rw [hcl]; simp
    have HQ : Hid (crc c = crc a0.data.toList ↔ (ByteArray.mk c.toArray) = a0) := by
      have h := crc_diff a0.data.toList c k m hcl (by rw [hal]; omega) (by omega) hcd
      refine h.trans ⟨fun e => ?_, fun e => ?_⟩
      · subst e; rfl
      · rw [← e]
    have HS : Hid (∀ W : World, Calls Try.prog 9 #[.string ⟨c.toArray⟩] W fun e w' => e = .returned (.int .u32 (crc c : Nat)) ∧ Below W.heap.size W w') := fun W => sum_any ⟨c.toArray⟩ W (by omega)
    have HT : Hid (∀ W : World, Calls Try.prog 9 #[.string a0] W fun e w' => e = .returned (.int .u32 (crc a0.data.toList : Nat)) ∧ Below W.heap.size W w') := fun W => sum_any a0 W (by omega)
    generalize crc c = A at *
    generalize crc a0.data.toList = B at *
    generalize ByteArray.mk c.toArray = C at *
    clear hcd hcl hal
    go_wp2_with fail
    refine (HS.out _).mono ?_
    rintro e w3 ⟨rfl, hb3⟩
    go_wp2_with fail
    refine (HT.out _).mono ?_
    rintro e w4 ⟨rfl, hb4⟩
    go_wp2_with fail
    go_ret
    have c2 := bjoin hb1 hb2 hb1.size
    have c3 := bjoin c2 hb3 c2.size
    refine ⟨?_, bjoin c3 hb4 c3.size⟩
    exact congrArg (fun x => Ending.returned (Value.bool x)) (eq_beq A B C a0 HQ.out)
  · have hc : 1000 < a0.size ∨ (a0.size ≤ 1000 ∧ a1 < 0) ∨ (a0.size ≤ 1000 ∧ 0 ≤ a1 ∧ 8 * (a0.size : Int) ≤ a1) := by omega
    rcases hc with h1 | ⟨h1, h2⟩ | ⟨h1, h2, h3⟩
    all_goals
      go_enter Try.func6, Try.ntmps6
      go_wp2_with fail
      refine (awake_any _).mono ?_
      rintro e w1 ⟨rfl, hb1⟩
      go_wp2_with fail
      refine (awake_any _).mono ?_
      rintro e w2 ⟨rfl, hb2⟩
      go_wp2_with fail
      go_ret
      exact ⟨rfl, bjoin hb1 hb2 hb1.size⟩

set_option maxRecDepth 100000 in
theorem lifted (os : Os) (started : os.Started) (H : Type) (enc : TypeId × Value → H) :
    ReturnsInHanded {} Try.checked os 6 .any (Rows.crcBurstSpec.pre6 enc Try.prog Try.f6 Rows.crcBurstRow.domain false) (Rows.crcBurstSpec.post enc Try.prog Try.f6 false true false false) := by
  refine returnsInHanded_of_change (C := Try.checked) own started (by kernel_rfl) Try.func6
    (ChangeSpec.witness6 (enc := enc) (C := Try.checked) false ⟨#[], #[.string ByteArray.empty, .int .i64 0, .int .u32 0], []⟩ 8 (by kernel_rfl) (by kernel_rfl) (by kernel_rfl) (by kernel_rfl)) ?_
  intro W base args ds gs before hval0 hW hcnd _
  have hval : ∀ (j : Nat) t v, Try.f6.params[j]? = some t → args[j]? = some v → Value.okWide Try.prog W .any base t v := hval0
  have hW' := hW
  obtain ⟨p, q, hA0, hV, rfl, hfz, hnd⟩ := hW
  have hA : DataW.TrodAll enc Try.prog W 0 (fun _ => true) true Try.f6.params.toList args.toList ds p := hA0
  rw [Try.params6] at hA hval
  obtain ⟨v0, vs0, d0, ds0, p0, q0, hargs, rfl, rfl, h0, r0⟩ := trodAll_cons hA
  obtain ⟨v1, vs1, d1, ds1, p1, q1, rfl, rfl, rfl, h1, r1⟩ := trodAll_cons r0
  obtain ⟨v2, vs2, d2, ds2, p2, q2, rfl, rfl, rfl, h2, r2⟩ := trodAll_cons r1
  obtain ⟨rfl, rfl, rfl⟩ := trodAll_nil r2
  obtain rfl : args = #[v0, v1, v2] := by cases args; simp_all
  obtain ⟨rfl, rfl⟩ := trodVars_none hV
  obtain ⟨a0, rfl, rfl, rfl, w0⟩ := open_string Try.underlying9 (hval 0 9 v0 rfl rfl) h0
  obtain ⟨a1, rfl, rfl, rfl, w1⟩ := open_int Try.underlying3 (hval 1 3 v1 rfl rfl) h1
  obtain ⟨a2, rfl, rfl, rfl, w2⟩ := open_int Try.underlying23 (hval 2 23 v2 rfl rfl) h2
  clear hA0 hval0
  simp only [List.append_nil] at hW'
  refine (walk a0 a1 a2 w0 w1 w2 W).mono fun e W' ⟨he, hg⟩ => ?_
  subst he
  exact ⟨_, rfl, _, _, _, [], [], [], hW', (trodAll_cons_mk (shut_bool Try.underlying4 _) trodAll_mk0), (trodAll_cons_mk (shut_string Try.underlying9 w0) (trodAll_cons_mk (shut_int Try.underlying3 w1) (trodAll_cons_mk (shut_int Try.underlying23 w2) trodAll_mk0))), rfl, hg.frame _, fun h => by cases h⟩

theorem over : Rows.crcBurstRow.holds Try.pinned (OpenSpec.ofChange Rows.crcBurstSpec) :=
  OpenClaim.holds_of_wide 6 Try.f6 rfl rfl rfl rfl rfl rfl rfl ⟨rfl, rfl, rfl, rfl, rfl⟩ rfl rfl rfl rfl rfl (by kernel_rfl) Try.func6 (by kernel_rfl)
    (of_decide_eq_true (by kernel_rfl)) (by unfold Func.isWrapper; first | (rw [if_pos (by decide +kernel)]; kernel_rfl) | (rw [if_neg (by decide +kernel)]; exact ⟨rfl, rfl⟩))
    (fun os started H enc _ => lifted os started H enc)

end Go.Proofs.Ytglmbpdjdilggaa.crcBurst

namespace Go.Proofs.Ytglmbpdjdilggaa
theorem crcBurst_holds : Rows.CrcBurstSaid := crcBurst.over
#print axioms crcBurst_holds
end Go.Proofs.Ytglmbpdjdilggaa
