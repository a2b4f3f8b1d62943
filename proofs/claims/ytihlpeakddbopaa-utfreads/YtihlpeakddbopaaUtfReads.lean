/- For every text s the law UtfReads returns true: s is UTF-8, with the characters that the document says, or it is told from where on it isn't (texts of more than 1000 bytes are let go by the law itself); no condition. -/
import Derived.Test.YtihlpeakddbopaaRows
import Derived.WalkKit
import Derived.ProofKit
import Derived.OpenShut
import Derived.ShutString
import Derived.Below
import Derived.Test.YtihlpeakddbopaaAwake05
namespace Go.Proofs.Ytihlpeakddbopaa.utfReads
open Go.ChangeShapes Go.WideShapes Go.ChangeAt Go.RowKit
open Go.ChangeMaps (open_string shut_string)
set_option linter.unusedVariables false      -- a walk need not use every 'w<i>' (that an integer argument fits its kind)

theorem own : ownKnob Try.prog.godebug = none := by kernel_rfl

set_option maxRecDepth 10000 in
set_option maxHeartbeats 400000 in
theorem walk (a0 : ByteArray) (w0 : a0.size ≤ maxLen) (w : World) :
    Calls Try.prog 3 #[.string a0] w fun e w' => e = .returned (.bool true) ∧ Below w.heap.size w w' := by
  have w0' := w0
  unfold maxLen at w0'
  by_cases hl : a0.size ≤ 1000
  · have hsz : a0.data.toList.length = a0.size := by rw [Array.length_toList]; rfl
    have hc := read_count a0.data.toList
    have hle := read_le a0.data.toList
    have HF : Hid _ := fun (W : World) => first_any a0 W (by omega)
    have HC : Hid _ := fun (W : World) => count_any a0 W (by omega)
    have HU : Hid _ := fun (W : World) => runes_any a0 W (by omega)
    have HR : Hid _ := fun (W : World) => read_any a0 W (by omega)
    unfold pFirst at HF
    unfold pCount at HC
    unfold pRunes at HU
    rw [hsz] at hle HF HC HU
    have hz := zL_length (read a0.data.toList).1
    generalize read a0.data.toList = R at *
    obtain ⟨L, A⟩ := R
    dsimp only at *
    rw [← hz] at hc HC
    generalize zL L = Z at *
    clear hz hsz
    by_cases hok : A = a0.size
    · rw [if_pos hok] at HF HC HU
      rw [hok] at HR
      have hZ : (Z.length : Int) ≤ 1000 := by omega
      go_enter Try.func3, Try.ntmps3
      go_wp2_with fail
      refine (awake_any _).mono ?_
      rintro e w1 ⟨rfl, b1⟩
      go_wp2_with fail
      refine (HR.out _).mono ?_
      rintro e w2 ⟨a2, cap2, g2, rfl, ha2, hL2, b2⟩
      go_wp2_with fail
      refine (HF.out _).mono ?_
      rintro e w3 ⟨rfl, b3⟩
      go_wp2_with fail
      refine (HC.out _).mono ?_
      rintro e w4 ⟨rfl, b4⟩
      go_wp2_with fail
      refine (HU.out _).mono ?_
      rintro e w5 ⟨a5, cap5, g5, rfl, ha5, hL5, b5⟩
      have hL2' := ((hL2.below b3).below b4).below b5
      go_wp2_with fail
      refine (same5_any a5 a2 _ _ cap5 cap2 g5 0 g2 0 Z Z _ rfl rfl ha5 ha2 hL5 hL2' (by omega) (by omega)).mono ?_
      rintro e w6 ⟨rfl, b6⟩
      go_wp2_with fail
      go_ret
      have c2 := bjoin b1 b2 b1.size
      have c3 := bjoin c2 b3 c2.size
      have c4 := bjoin c3 b4 c3.size
      have c5 := bjoin c4 b5 c4.size
      exact ⟨by simp, bjoin c5 b6 c5.size⟩
    · rw [if_neg hok] at HF HC HU
      have hA : (A : Int) < a0.size := by omega
      go_enter Try.func3, Try.ntmps3
      go_wp2_with fail
      refine (awake_any _).mono ?_
      rintro e w1 ⟨rfl, b1⟩
      go_wp2_with fail
      refine (HR.out _).mono ?_
      rintro e w2 ⟨a2, cap2, g2, rfl, ha2, hL2, b2⟩
      go_wp2_with fail
      refine (HF.out _).mono ?_
      rintro e w3 ⟨rfl, b3⟩
      go_wp2_with fail
      refine (HC.out _).mono ?_
      rintro e w4 ⟨rfl, b4⟩
      go_wp2_with fail
      refine (HU.out _).mono ?_
      rintro e w5 ⟨a5, cap5, g5, rfl, ha5, hL5, b5⟩
      go_wp2_with fail
      go_ret
      have c2 := bjoin b1 b2 b1.size
      have c3 := bjoin c2 b3 c2.size
      have c4 := bjoin c3 b4 c3.size
      exact ⟨rfl, bjoin c4 b5 c4.size⟩
  · go_enter Try.func3, Try.ntmps3
    go_wp2_with fail
    refine (awake_any _).mono ?_
    rintro e w1 ⟨rfl, hb1⟩
    go_wp2_with fail
    refine (awake_any _).mono ?_
    rintro e w2 ⟨rfl, hb2⟩
    go_wp2_with fail
    go_ret
    exact ⟨rfl, bjoin hb1 hb2 hb1.size⟩

set_option maxRecDepth 100000 in
theorem lifted (os : Os) (started : os.Started) (H : Type) (enc : TypeId × Value → H) :
    ReturnsInHanded {} Try.checked os 3 .any (Rows.utfReadsSpec.pre6 enc Try.prog Try.f3 Rows.utfReadsRow.domain false) (Rows.utfReadsSpec.post enc Try.prog Try.f3 false true false false) := by
  refine returnsInHanded_of_change (C := Try.checked) own started (by kernel_rfl) Try.func3
    (ChangeSpec.witness6 (enc := enc) (C := Try.checked) false ⟨#[], #[.string ByteArray.empty], []⟩ 8 (by kernel_rfl) (by kernel_rfl) (by kernel_rfl) (by kernel_rfl)) ?_
  intro W base args ds gs before hval0 hW hcnd _
  have hval : ∀ (j : Nat) t v, Try.f3.params[j]? = some t → args[j]? = some v → Value.okWide Try.prog W .any base t v := hval0
  have hW' := hW
  obtain ⟨p, q, hA0, hV, rfl, hfz, hnd⟩ := hW
  have hA : DataW.TrodAll enc Try.prog W 0 (fun _ => true) true Try.f3.params.toList args.toList ds p := hA0
  rw [Try.params3] at hA hval
  obtain ⟨v0, vs0, d0, ds0, p0, q0, hargs, rfl, rfl, h0, r0⟩ := trodAll_cons hA
  obtain ⟨rfl, rfl, rfl⟩ := trodAll_nil r0
  obtain rfl : args = #[v0] := by cases args; simp_all
  obtain ⟨rfl, rfl⟩ := trodVars_none hV
  obtain ⟨a0, rfl, rfl, rfl, w0⟩ := open_string Try.underlying9 (hval 0 9 v0 rfl rfl) h0
  clear hA0 hval0
  simp only [List.append_nil] at hW'
  refine (walk a0 w0 W).mono fun e W' ⟨he, hg⟩ => ?_
  subst he
  exact ⟨_, rfl, _, _, _, [], [], [], hW', (trodAll_cons_mk (shut_bool Try.underlying4 _) trodAll_mk0), (trodAll_cons_mk (shut_string Try.underlying9 w0) trodAll_mk0), rfl, hg.frame _, fun h => by cases h⟩

theorem over : Rows.utfReadsRow.holds Try.pinned (OpenSpec.ofChange Rows.utfReadsSpec) :=
  OpenClaim.holds_of_wide 3 Try.f3 rfl rfl rfl rfl rfl rfl rfl ⟨rfl, rfl, rfl, rfl, rfl⟩ rfl rfl rfl rfl rfl (by kernel_rfl) Try.func3 (by kernel_rfl)
    (of_decide_eq_true (by kernel_rfl)) (by unfold Func.isWrapper; first | (rw [if_pos (by decide +kernel)]; kernel_rfl) | (rw [if_neg (by decide +kernel)]; exact ⟨rfl, rfl⟩))
    (fun os started H enc _ => lifted os started H enc)

end Go.Proofs.Ytihlpeakddbopaa.utfReads

namespace Go.Proofs.Ytihlpeakddbopaa
theorem utfReads_holds : Rows.UtfReadsSaid := utfReads.over
#print axioms utfReads_holds
end Go.Proofs.Ytihlpeakddbopaa
