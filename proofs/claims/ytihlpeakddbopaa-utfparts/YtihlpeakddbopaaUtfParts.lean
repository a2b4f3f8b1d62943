/- For all texts a and b the law UtfParts returns true: if both are UTF-8 they are so one behind the other, with all characters of both; if the second one isn't, that isn't, from the same place on (texts of more than 500 bytes are let go by the law itself); no condition. -/
import Derived.Test.YtihlpeakddbopaaRows
import Derived.WalkKit
import Derived.ProofKit
import Derived.OpenShut
import Derived.ShutString
import Derived.Below
import Derived.Test.YtihlpeakddbopaaAwake05
namespace Go.Proofs.Ytihlpeakddbopaa.utfParts
open Go.ChangeShapes Go.WideShapes Go.ChangeAt Go.RowKit
open Go.ChangeMaps (open_string shut_string)
set_option linter.unusedVariables false      -- a walk need not use every 'w<i>' (that an integer argument fits its kind)

theorem own : ownKnob Try.prog.godebug = none := by kernel_rfl

theorem join_read (a b : ByteArray) (h : (read a.data.toList).2 = a.size) : read (a ++ b).data.toList = ((read a.data.toList).1 ++ (read b.data.toList).1, a.size + (read b.data.toList).2) := by
  have hz : a.data.toList.length = a.size := by rw [Array.length_toList]; rfl
  rw [ByteArray.data_append, Array.toList_append, read_two _ _ (by rw [h, hz]), hz]
theorem join_len (a b : ByteArray) : (a ++ b).data.toList.length = a.size + b.size := by
  rw [Array.length_toList]; exact ByteArray.size_append ..

set_option maxRecDepth 10000 in
set_option maxHeartbeats 400000 in
theorem walk (a0 : ByteArray) (a1 : ByteArray) (w0 : a0.size ≤ maxLen) (w1 : a1.size ≤ maxLen) (w : World) :
    Calls Try.prog 6 #[.string a0, .string a1] w fun e w' => e = .returned (.bool true) ∧ Below w.heap.size w w' := by
  have w0' := w0
  unfold maxLen at w0'
  have w1' := w1
  unfold maxLen at w1'
  by_cases hl : a0.size ≤ 500 ∧ a1.size ≤ 500
  · obtain ⟨hl0, hl1⟩ := hl
    have hadd := fun (W : World) => run_string_add_sum (P := Try.prog) W a0 a1 (by omega)
    have hz0 : a0.data.toList.length = a0.size := by rw [Array.length_toList]; rfl
    have hz1 : a1.data.toList.length = a1.size := by rw [Array.length_toList]; rfl
    have hzs : (a0 ++ a1).size ≤ 1000 := by rw [ByteArray.size_append]; omega
    have HF0 : Hid _ := fun (W : World) => first_any a0 W (by omega)
    have HC0 : Hid _ := fun (W : World) => count_any a0 W (by omega)
    have HF1 : Hid _ := fun (W : World) => first_any a1 W (by omega)
    have HC1 : Hid _ := fun (W : World) => count_any a1 W (by omega)
    have HFs : Hid _ := fun (W : World) => first_any (a0 ++ a1) W (by omega)
    have HCs : Hid _ := fun (W : World) => count_any (a0 ++ a1) W (by omega)
    have hle := read_le a0.data.toList
    have hle1 := read_le a1.data.toList
    have hc := read_count a0.data.toList
    have hc1 := read_count a1.data.toList
    have hj := join_read a0 a1
    have hjl := join_len a0 a1
    rw [hz0] at hle
    rw [hz1] at hle1
    unfold pFirst at HF0 HF1 HFs
    unfold pCount at HC0 HC1 HCs
    rw [hz0] at HF0 HC0
    rw [hz1] at HF1 HC1
    rw [hjl] at HFs HCs
    generalize read (a0 ++ a1).data.toList = Rs at *
    generalize read a0.data.toList = R0 at *
    generalize read a1.data.toList = R1 at *
    obtain ⟨L0, A0⟩ := R0
    obtain ⟨L1, A1⟩ := R1
    dsimp only at *
    clear hjl hz0 hz1
    by_cases hok : A0 = a0.size
    · rw [hj hok] at HFs HCs
      rw [if_pos hok] at HF0 HC0
      dsimp only at HFs HCs
      rw [List.length_append] at HCs
      clear HF0 hj
      by_cases hok1 : A1 = a1.size
      · rw [if_pos (by omega)] at HFs HCs
        rw [if_pos hok1] at HF1 HC1
        have h0 : (L0.length : Int) ≤ 500 := by omega
        have h1 : (L1.length : Int) ≤ 500 := by omega
        rw [Int.natCast_add] at HCs
        have k0 : 0 ≤ (L0.length : Int) := by omega
        have k1 : 0 ≤ (L1.length : Int) := by omega
        generalize (L1.length : Int) = n1 at *
        generalize (L0.length : Int) = n0 at *
        clear HFs HF1 hok hok1 hc hc1 hle hle1
        go_enter Try.func6, Try.ntmps6
        go_wp2_with fail
        refine (awake_any _).mono ?_
        rintro e w1 ⟨rfl, b1⟩
        go_wp2_with fail
        refine (HC0.out _).mono ?_
        rintro e w2 ⟨rfl, b2⟩
        go_wp2_with fail
        refine (HC1.out _).mono ?_
        rintro e w3 ⟨rfl, b3⟩
        go_wp2_with fail
        refine (HCs.out _).mono ?_
        rintro e w4 ⟨rfl, b4⟩
        go_wp2_with fail
        go_ret
        have c2 := bjoin b1 b2 b1.size
        have c3 := bjoin c2 b3 c2.size
        exact ⟨rfl, bjoin c3 b4 c3.size⟩
      · rw [if_neg (by omega)] at HFs HCs
        rw [if_neg hok1] at HF1 HC1
        have h0 : (L0.length : Int) ≤ 500 := by omega
        have k0 : 0 ≤ (L0.length : Int) := by omega
        have kA : (A1 : Int) ≤ 500 := by omega
        have ks : (a0.size : Int) ≤ 500 := by omega
        generalize (L0.length : Int) = n0 at *
        rw [Int.natCast_add] at HFs
        clear hok hok1 hc hc1 hle hle1
        go_enter Try.func6, Try.ntmps6
        go_wp2_with fail
        refine (awake_any _).mono ?_
        rintro e w1 ⟨rfl, b1⟩
        go_wp2_with fail
        refine (HC0.out _).mono ?_
        rintro e w2 ⟨rfl, b2⟩
        go_wp2_with fail
        refine (HC1.out _).mono ?_
        rintro e w3 ⟨rfl, b3⟩
        go_wp2_with fail
        refine (HFs.out _).mono ?_
        rintro e w4 ⟨rfl, b4⟩
        go_wp2_with fail
        refine (HF1.out _).mono ?_
        rintro e w5 ⟨rfl, b5⟩
        go_wp2_with fail
        refine (HCs.out _).mono ?_
        rintro e w6 ⟨rfl, b6⟩
        go_wp2_with fail
        go_ret
        have c2 := bjoin b1 b2 b1.size
        have c3 := bjoin c2 b3 c2.size
        have c4 := bjoin c3 b4 c3.size
        have c5 := bjoin c4 b5 c4.size
        exact ⟨rfl, bjoin c5 b6 c5.size⟩
    · rw [if_neg hok] at HF0 HC0
      have hle' : (A0 : Int) ≤ a0.size := by omega
      clear hj HFs HCs HF1 HC1 hok hc hle hle1 hc1 L0
      go_enter Try.func6, Try.ntmps6
      go_wp2_with fail
      refine (awake_any _).mono ?_
      rintro e w1 ⟨rfl, b1⟩
      go_wp2_with fail
      refine (HC0.out _).mono ?_
      rintro e w2 ⟨rfl, b2⟩
      go_wp2_with fail
      refine (HF0.out _).mono ?_
      rintro e w3 ⟨rfl, b3⟩
      go_wp2_with fail
      refine (HF0.out _).mono ?_
      rintro e w4 ⟨rfl, b4⟩
      go_wp2_with fail
      go_ret
      have c2 := bjoin b1 b2 b1.size
      have c3 := bjoin c2 b3 c2.size
      exact ⟨rfl, bjoin c3 b4 c3.size⟩
  · have hc : 500 < a0.size ∨ (a0.size ≤ 500 ∧ 500 < a1.size) := by omega
    rcases hc with h1 | ⟨h1, h2⟩
    all_goals
      go_enter Try.func6, Try.ntmps6
      go_wp2_with fail
      refine (awake_any _).mono ?_
      rintro e w1 ⟨rfl, hb1⟩
      go_wp2_with fail
      refine (awake_any _).mono ?_
      rintro e w2 ⟨rfl, hb2⟩
      go_wp2_with fail
      go_ret
      exact ⟨rfl, bjoin hb1 hb2 hb1.size⟩

set_option maxRecDepth 100000 in
theorem lifted (os : Os) (started : os.Started) (H : Type) (enc : TypeId × Value → H) :
    ReturnsInHanded {} Try.checked os 6 .any (Rows.utfPartsSpec.pre6 enc Try.prog Try.f6 Rows.utfPartsRow.domain false) (Rows.utfPartsSpec.post enc Try.prog Try.f6 false true false false) := by
  refine returnsInHanded_of_change (C := Try.checked) own started (by kernel_rfl) Try.func6
    (ChangeSpec.witness6 (enc := enc) (C := Try.checked) false ⟨#[], #[.string ByteArray.empty, .string ByteArray.empty], []⟩ 8 (by kernel_rfl) (by kernel_rfl) (by kernel_rfl) (by kernel_rfl)) ?_
  intro W base args ds gs before hval0 hW hcnd _
  have hval : ∀ (j : Nat) t v, Try.f6.params[j]? = some t → args[j]? = some v → Value.okWide Try.prog W .any base t v := hval0
  have hW' := hW
  obtain ⟨p, q, hA0, hV, rfl, hfz, hnd⟩ := hW
  have hA : DataW.TrodAll enc Try.prog W 0 (fun _ => true) true Try.f6.params.toList args.toList ds p := hA0
  rw [Try.params6] at hA hval
  obtain ⟨v0, vs0, d0, ds0, p0, q0, hargs, rfl, rfl, h0, r0⟩ := trodAll_cons hA
  obtain ⟨v1, vs1, d1, ds1, p1, q1, rfl, rfl, rfl, h1, r1⟩ := trodAll_cons r0
  obtain ⟨rfl, rfl, rfl⟩ := trodAll_nil r1
  obtain rfl : args = #[v0, v1] := by cases args; simp_all
  obtain ⟨rfl, rfl⟩ := trodVars_none hV
  obtain ⟨a0, rfl, rfl, rfl, w0⟩ := open_string Try.underlying9 (hval 0 9 v0 rfl rfl) h0
  obtain ⟨a1, rfl, rfl, rfl, w1⟩ := open_string Try.underlying9 (hval 1 9 v1 rfl rfl) h1
  clear hA0 hval0
  simp only [List.append_nil] at hW'
  refine (walk a0 a1 w0 w1 W).mono fun e W' ⟨he, hg⟩ => ?_
  subst he
  exact ⟨_, rfl, _, _, _, [], [], [], hW', (trodAll_cons_mk (shut_bool Try.underlying4 _) trodAll_mk0), (trodAll_cons_mk (shut_string Try.underlying9 w0) (trodAll_cons_mk (shut_string Try.underlying9 w1) trodAll_mk0)), rfl, hg.frame _, fun h => by cases h⟩

theorem over : Rows.utfPartsRow.holds Try.pinned (OpenSpec.ofChange Rows.utfPartsSpec) :=
  OpenClaim.holds_of_wide 6 Try.f6 rfl rfl rfl rfl rfl rfl rfl ⟨rfl, rfl, rfl, rfl, rfl⟩ rfl rfl rfl rfl rfl (by kernel_rfl) Try.func6 (by kernel_rfl)
    (of_decide_eq_true (by kernel_rfl)) (by unfold Func.isWrapper; first | (rw [if_pos (by decide +kernel)]; kernel_rfl) | (rw [if_neg (by decide +kernel)]; exact ⟨rfl, rfl⟩))
    (fun os started H enc _ => lifted os started H enc)

end Go.Proofs.Ytihlpeakddbopaa.utfParts

namespace Go.Proofs.Ytihlpeakddbopaa
theorem utfParts_holds : Rows.UtfPartsSaid := utfParts.over
#print axioms utfParts_holds
end Go.Proofs.Ytihlpeakddbopaa
