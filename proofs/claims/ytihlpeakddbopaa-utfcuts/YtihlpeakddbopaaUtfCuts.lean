/- For every text s the law UtfCuts returns true: where s isn't UTF-8 from a place on, what stands ahead of that place is (texts of more than 1000 bytes are let go by the law itself); no condition. -/
import Derived.Test.YtihlpeakddbopaaRows
import Derived.WalkKit
import Derived.ProofKit
import Derived.OpenShut
import Derived.ShutString
import Derived.Below
import Derived.Test.YtihlpeakddbopaaAwake05
namespace Go.Proofs.Ytihlpeakddbopaa.utfCuts
open Go.ChangeShapes Go.WideShapes Go.ChangeAt Go.RowKit
open Go.ChangeMaps (open_string shut_string)
set_option linter.unusedVariables false      -- a walk need not use every 'w<i>' (that an integer argument fits its kind)

theorem own : ownKnob Try.prog.godebug = none := by kernel_rfl

theorem cut_first (s : ByteArray) (A : Nat) (h : (read s.data.toList).2 = A) : pFirst (s.extract 0 A).data.toList = -1 ∧ pCount (s.extract 0 A).data.toList = ((read s.data.toList).1.length : Int) := by
  have h1 := take_ext s 0 A
  rw [Nat.zero_add, List.drop_zero, ← h] at h1
  have h2 := read_cut s.data.toList
  have h3 := read_le s.data.toList
  have h4 : (s.data.toList.take (read s.data.toList).2).length = (read s.data.toList).2 := by rw [List.length_take]; omega
  rw [← h, h1]
  unfold pFirst pCount
  rw [h2, h4]
  simp

set_option maxRecDepth 10000 in
set_option maxHeartbeats 400000 in
theorem walk (a0 : ByteArray) (w0 : a0.size ≤ maxLen) (w : World) :
    Calls Try.prog 7 #[.string a0] w fun e w' => e = .returned (.bool true) ∧ Below w.heap.size w w' := by
  have w0' := w0
  unfold maxLen at w0'
  by_cases hl : a0.size ≤ 1000
  · have hsz : a0.data.toList.length = a0.size := by rw [Array.length_toList]; rfl
    have hc := read_count a0.data.toList
    have hle := read_le a0.data.toList
    have HF : Hid _ := fun (W : World) => first_any a0 W (by omega)
    have HC : Hid _ := fun (W : World) => count_any a0 W (by omega)
    rw [hsz] at hle
    by_cases hok : (read a0.data.toList).2 = a0.size
    · have e1 : pFirst a0.data.toList = -1 := by unfold pFirst; rw [hsz, if_pos hok]
      have e2 : pCount a0.data.toList = ((read a0.data.toList).1.length : Int) := by unfold pCount; rw [hsz, if_pos hok]
      rw [e1] at HF
      rw [e2] at HC
      have hn : ((read a0.data.toList).1.length : Int) ≤ a0.size := by omega
      generalize (read a0.data.toList).1.length = n at *
      clear e1 e2 hok hc hle
      go_enter Try.func7, Try.ntmps7
      go_wp2_with fail
      refine (awake_any _).mono ?_
      rintro e w1 ⟨rfl, b1⟩
      go_wp2_with fail
      refine (HF.out _).mono ?_
      rintro e w2 ⟨rfl, b2⟩
      go_wp2_with fail
      refine (HC.out _).mono ?_
      rintro e w3 ⟨rfl, b3⟩
      go_wp2_with fail
      refine (HC.out _).mono ?_
      rintro e w4 ⟨rfl, b4⟩
      go_wp2_with fail
      go_ret
      have c2 := bjoin b1 b2 b1.size
      have c3 := bjoin c2 b3 c2.size
      exact ⟨rfl, bjoin c3 b4 c3.size⟩
    · have e1 : pFirst a0.data.toList = ((read a0.data.toList).2 : Int) := by unfold pFirst; rw [hsz, if_neg hok]
      obtain ⟨A, hA⟩ : ∃ A, (read a0.data.toList).2 = A := ⟨_, rfl⟩
      obtain ⟨f1, f2⟩ := cut_first a0 A hA
      rw [hA] at e1 hok hle
      have hx : (a0.extract 0 A).size ≤ 1000 := by rw [ByteArray.size_extract]; omega
      have HF2 : Hid _ := fun (W : World) => first_any (a0.extract 0 A) W (by omega)
      have HC2 : Hid _ := fun (W : World) => count_any (a0.extract 0 A) W (by omega)
      rw [e1] at HF
      rw [f1] at HF2
      rw [f2] at HC2
      have hlt : (A : Int) < a0.size := by omega
      generalize (read a0.data.toList).1.length = n at *
      clear e1 f1 f2 hok hc hA HC
      go_enter Try.func7, Try.ntmps7
      go_wp2_with fail
      refine (awake_any _).mono ?_
      rintro e w1 ⟨rfl, b1⟩
      go_wp2_with fail
      refine (HF.out _).mono ?_
      rintro e w2 ⟨rfl, b2⟩
      go_wp2_with fail
      refine (HF2.out _).mono ?_
      rintro e w3 ⟨rfl, b3⟩
      go_wp2_with fail
      refine (HC2.out _).mono ?_
      rintro e w4 ⟨rfl, b4⟩
      go_wp2_with fail
      go_ret
      have c2 := bjoin b1 b2 b1.size
      have c3 := bjoin c2 b3 c2.size
      exact ⟨rfl, bjoin c3 b4 c3.size⟩
  · go_enter Try.func7, Try.ntmps7
    go_wp2_with fail
    refine (awake_any _).mono ?_
    rintro e w1 ⟨rfl, hb1⟩
    go_wp2_with fail
    refine (awake_any _).mono ?_
    rintro e w2 ⟨rfl, hb2⟩
    go_wp2_with fail
    go_ret
    exact ⟨rfl, bjoin hb1 hb2 hb1.size⟩

set_option maxRecDepth 100000 in
theorem lifted (os : Os) (started : os.Started) (H : Type) (enc : TypeId × Value → H) :
    ReturnsInHanded {} Try.checked os 7 .any (Rows.utfCutsSpec.pre6 enc Try.prog Try.f7 Rows.utfCutsRow.domain false) (Rows.utfCutsSpec.post enc Try.prog Try.f7 false true false false) := by
  refine returnsInHanded_of_change (C := Try.checked) own started (by kernel_rfl) Try.func7
    (ChangeSpec.witness6 (enc := enc) (C := Try.checked) false ⟨#[], #[.string ByteArray.empty], []⟩ 8 (by kernel_rfl) (by kernel_rfl) (by kernel_rfl) (by kernel_rfl)) ?_
  intro W base args ds gs before hval0 hW hcnd _
  have hval : ∀ (j : Nat) t v, Try.f7.params[j]? = some t → args[j]? = some v → Value.okWide Try.prog W .any base t v := hval0
  have hW' := hW
  obtain ⟨p, q, hA0, hV, rfl, hfz, hnd⟩ := hW
  have hA : DataW.TrodAll enc Try.prog W 0 (fun _ => true) true Try.f7.params.toList args.toList ds p := hA0
  rw [Try.params7] at hA hval
  obtain ⟨v0, vs0, d0, ds0, p0, q0, hargs, rfl, rfl, h0, r0⟩ := trodAll_cons hA
  obtain ⟨rfl, rfl, rfl⟩ := trodAll_nil r0
  obtain rfl : args = #[v0] := by cases args; simp_all
  obtain ⟨rfl, rfl⟩ := trodVars_none hV
  obtain ⟨a0, rfl, rfl, rfl, w0⟩ := open_string Try.underlying9 (hval 0 9 v0 rfl rfl) h0
  clear hA0 hval0
  simp only [List.append_nil] at hW'
  refine (walk a0 w0 W).mono fun e W' ⟨he, hg⟩ => ?_
  subst he
  exact ⟨_, rfl, _, _, _, [], [], [], hW', (trodAll_cons_mk (shut_bool Try.underlying4 _) trodAll_mk0), (trodAll_cons_mk (shut_string Try.underlying9 w0) trodAll_mk0), rfl, hg.frame _, fun h => by cases h⟩

theorem over : Rows.utfCutsRow.holds Try.pinned (OpenSpec.ofChange Rows.utfCutsSpec) :=
  OpenClaim.holds_of_wide 7 Try.f7 rfl rfl rfl rfl rfl rfl rfl ⟨rfl, rfl, rfl, rfl, rfl⟩ rfl rfl rfl rfl rfl (by kernel_rfl) Try.func7 (by kernel_rfl)
    (of_decide_eq_true (by kernel_rfl)) (by unfold Func.isWrapper; first | (rw [if_pos (by decide +kernel)]; kernel_rfl) | (rw [if_neg (by decide +kernel)]; exact ⟨rfl, rfl⟩))
    (fun os started H enc _ => lifted os started H enc)

end Go.Proofs.Ytihlpeakddbopaa.utfCuts

namespace Go.Proofs.Ytihlpeakddbopaa
theorem utfCuts_holds : Rows.UtfCutsSaid := utfCuts.over
#print axioms utfCuts_holds
end Go.Proofs.Ytihlpeakddbopaa
