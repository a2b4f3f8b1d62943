/- For every string b and all int64 numbers texts and bytes the law StrtabGets returns true: any bytes are, within any limits, the table that the document says, or none, for the reason that it says (more than 1500 bytes are let go by the law itself); no condition. -/
import Derived.Test.YtfblmibdcodipaaRows
import Derived.WalkKit
import Derived.ProofKit
import Derived.OpenShut
import Derived.ShutString
import Derived.Below
import Derived.Test.YtfblmibdcodipaaAwake06
import Derived.Test.YtfblmibdcodipaaTMath2
import Derived.Test.YtfblmibdcodipaaTRef4
namespace Go.Proofs.Ytfblmibdcodipaa.strtabGets
open Go.ChangeShapes Go.WideShapes Go.ChangeAt Go.RowKit
open Go.ChangeMaps (open_string shut_string)
set_option linter.unusedVariables false      -- a walk need not use every 'w<i>' (that an integer argument fits its kind)

theorem own : ownKnob Try.prog.godebug = none := by kernel_rfl

set_option maxRecDepth 10000 in
set_option maxHeartbeats 400000 in
theorem walk (a0 : ByteArray) (a1 : Int) (a2 : Int) (w0 : a0.size ≤ maxLen) (w1 : (Lit.int .i64 a1).wf = true) (w2 : (Lit.int .i64 a2).wf = true) (w : World) :
    Calls Try.prog 4 #[.string a0, .int .i64 a1, .int .i64 a2] w fun e w' => e = .returned (.bool true) ∧ Below w.heap.size w w' := by
  have ht : a1 ≤ 9223372036854775807 := by have := bounds_i64 w1; omega
  have hb : a2 ≤ 9223372036854775807 := by have := bounds_i64 w2; omega
  have hm := w0
  unfold maxLen at hm
  clear w1 w2
  by_cases hl : a0.size ≤ 1500
  · have hl' : ¬ (1500 : Int) < a0.size := by omega
    have HG : Hid _ := fun W : World => tget_any a0 a1 a2 W (by omega) ht hb
    have HR : Hid _ := fun W : World => rget6_any a0 a1 a2 W (by omega) ht hb
    have HK := pGet6_ok a0 a1 a2
    generalize pGet6 a0 a1 a2 = R at *
    obtain ⟨er, L⟩ := R
    dsimp only at *
    go_enter Try.func4, Try.ntmps4
    go_wp2_with fail
    refine (awake_any _).mono ?_
    rintro e w1 ⟨rfl, B1⟩
    go_wp2_with fail
    refine (HG.out w1).mono ?_
    by_cases he : er = 0
    · subst he
      obtain ⟨-, -, hsum⟩ := HK rfl
      rintro e w2 ⟨b2, h2⟩
      obtain ⟨-, g, gm, v, rfl, T2⟩ := h2.resolve_left (fun q => absurd rfl q.1)
      have B2 := bjoin B1 b2 B1.size
      clear b2 B1 HG HK h2
      go_wp2_with fail
      refine (HR.out w2).mono ?_
      rintro e w3 ⟨a, cap, b, o, rfl, ha, hL, hc, hn, b3⟩
      have T3 := T2.below b3
      have B3 := bjoin B2 b3 B2.size
      clear b3 B2 HR T2
      go_wp2_with fail
      refine (all_any T3 (by omega)).mono ?_
      rintro e w4 ⟨a', cap', b', rfl, ha', hL', -, b4⟩
      have T4 := T3.below b4
      have hL4 := hL.below b4
      have B4 := bjoin B3 b4 B3.size
      clear b4 B3 T3 hL
      go_wp2_with fail
      refine (same6_any a' a L.length L.length cap' cap b' 0 b o L L w4 rfl rfl ha' ha hL' hL4 (by omega) (by omega)).mono ?_
      rintro e w5 ⟨rfl, b5⟩
      have T5 := T4.below b5
      have hL5 := hL4.below b5
      have B5 := bjoin B4 b5 B4.size
      clear b5 B4 T4 hL4 hL'
      rw [decide_eq_true rfl]
      go_wp2_with fail
      refine (tbytes_any T5).mono ?_
      rintro e w6 ⟨rfl, rfl⟩
      go_wp2_with fail
      refine (bytes6_any a cap b o L w6 ha hL5 (by omega) (by omega)).mono ?_
      rintro e w7 ⟨rfl, rfl⟩
      go_wp2_with fail
      go_ret
      exact ⟨by simp, B5⟩
    · have he' : (er == 0) = false := by simpa using he
      rintro e w2 ⟨b2, h2⟩
      obtain ⟨-, rfl⟩ := h2.resolve_right (fun q => he q.1)
      have B2 := bjoin B1 b2 B1.size
      clear b2 B1 HG HK h2
      go_wp2_with fail
      refine (HR.out w2).mono ?_
      rintro e w3 ⟨a, cap, b, o, rfl, ha, hL, hc, hn, b3⟩
      have B3 := bjoin B2 b3 B2.size
      clear b3 B2 HR
      go_wp2_with fail
      go_ret
      exact ⟨rfl, B3⟩
  · have hl' : (1500 : Int) < a0.size := by omega
    go_enter Try.func4, Try.ntmps4
    go_wp2_with fail
    refine (awake_any _).mono ?_
    rintro e w1 ⟨rfl, B1⟩
    go_wp2_with fail
    refine (awake_any _).mono ?_
    rintro e w2 ⟨rfl, b2⟩
    go_wp2_with fail
    go_ret
    exact ⟨rfl, bjoin B1 b2 B1.size⟩

set_option maxRecDepth 100000 in
theorem lifted (os : Os) (started : os.Started) (H : Type) (enc : TypeId × Value → H) :
    ReturnsInHanded {} Try.checked os 4 .any (Rows.strtabGetsSpec.pre6 enc Try.prog Try.f4 Rows.strtabGetsRow.domain false) (Rows.strtabGetsSpec.post enc Try.prog Try.f4 false true false false) := by
  refine returnsInHanded_of_change (C := Try.checked) own started (by kernel_rfl) Try.func4
    (ChangeSpec.witness6 (enc := enc) (C := Try.checked) false ⟨#[], #[.string ByteArray.empty, .int .i64 0, .int .i64 0], []⟩ 8 (by kernel_rfl) (by kernel_rfl) (by kernel_rfl) (by kernel_rfl)) ?_
  intro W base args ds gs before hval0 hW hcnd _
  have hval : ∀ (j : Nat) t v, Try.f4.params[j]? = some t → args[j]? = some v → Value.okWide Try.prog W .any base t v := hval0
  have hW' := hW
  obtain ⟨p, q, hA0, hV, rfl, hfz, hnd⟩ := hW
  have hA : DataW.TrodAll enc Try.prog W 0 (fun _ => true) true Try.f4.params.toList args.toList ds p := hA0
  rw [Try.params4] at hA hval
  obtain ⟨v0, vs0, d0, ds0, p0, q0, hargs, rfl, rfl, h0, r0⟩ := trodAll_cons hA
  obtain ⟨v1, vs1, d1, ds1, p1, q1, rfl, rfl, rfl, h1, r1⟩ := trodAll_cons r0
  obtain ⟨v2, vs2, d2, ds2, p2, q2, rfl, rfl, rfl, h2, r2⟩ := trodAll_cons r1
  obtain ⟨rfl, rfl, rfl⟩ := trodAll_nil r2
  obtain rfl : args = #[v0, v1, v2] := by cases args; simp_all
  obtain ⟨rfl, rfl⟩ := trodVars_none hV
  obtain ⟨a0, rfl, rfl, rfl, w0⟩ := open_string Try.underlying9 (hval 0 9 v0 rfl rfl) h0
  obtain ⟨a1, rfl, rfl, rfl, w1⟩ := open_int Try.underlying3 (hval 1 3 v1 rfl rfl) h1
  obtain ⟨a2, rfl, rfl, rfl, w2⟩ := open_int Try.underlying3 (hval 2 3 v2 rfl rfl) h2
  clear hA0 hval0
  simp only [List.append_nil] at hW'
  refine (walk a0 a1 a2 w0 w1 w2 W).mono fun e W' ⟨he, hg⟩ => ?_
  subst he
  exact ⟨_, rfl, _, _, _, [], [], [], hW', (trodAll_cons_mk (shut_bool Try.underlying4 _) trodAll_mk0), (trodAll_cons_mk (shut_string Try.underlying9 w0) (trodAll_cons_mk (shut_int Try.underlying3 w1) (trodAll_cons_mk (shut_int Try.underlying3 w2) trodAll_mk0))), rfl, hg.frame _, fun h => by cases h⟩

theorem over : Rows.strtabGetsRow.holds Try.pinned (OpenSpec.ofChange Rows.strtabGetsSpec) :=
  OpenClaim.holds_of_wide 4 Try.f4 rfl rfl rfl rfl rfl rfl rfl ⟨rfl, rfl, rfl, rfl, rfl⟩ rfl rfl rfl rfl rfl (by kernel_rfl) Try.func4 (by kernel_rfl)
    (of_decide_eq_true (by kernel_rfl)) (by unfold Func.isWrapper; first | (rw [if_pos (by decide +kernel)]; kernel_rfl) | (rw [if_neg (by decide +kernel)]; exact ⟨rfl, rfl⟩))
    (fun os started H enc _ => lifted os started H enc)

end Go.Proofs.Ytfblmibdcodipaa.strtabGets

namespace Go.Proofs.Ytfblmibdcodipaa
theorem strtabGets_holds : Rows.StrtabGetsSaid := strtabGets.over
#print axioms strtabGets_holds
end Go.Proofs.Ytfblmibdcodipaa
