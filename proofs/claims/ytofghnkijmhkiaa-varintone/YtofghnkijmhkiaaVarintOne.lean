/- For every text b the law VarintOne returns true: bytes that are got are put as they were (texts of more than 500 bytes are let go by the law itself); no condition. -/
import Derived.Test.YtofghnkijmhkiaaRows
import Derived.WalkKit
import Derived.ProofKit
import Derived.OpenShut
import Derived.ShutString
import Derived.Below
import Derived.Deep.RegionHeld3
import Derived.Lib.Strings
import Derived.Test.YtofghnkijmhkiaaAwake
import Derived.Test.YtofghnkijmhkiaaCalls
namespace Go.Proofs.Ytofghnkijmhkiaa.varintOne
open Go.ChangeShapes Go.WideShapes Go.ChangeAt Go.RowKit
open Go.ChangeMaps (open_string shut_string)
set_option linter.unusedVariables false      -- a walk need not use every 'w<i>' (that an integer argument fits its kind)

theorem own : ownKnob Try.prog.godebug = none := by kernel_rfl

set_option maxRecDepth 10000 in
set_option maxHeartbeats 400000 in
theorem walk (a0 : ByteArray) (w0 : a0.size ≤ maxLen) (w : World) :
    Calls Try.prog 7 #[.string a0] w fun e w' => e = .returned (.bool true) ∧ Below w.heap.size w w' := by
  have w0' := w0
  unfold maxLen at w0'
  by_cases hl : a0.size ≤ 500
  · have hget := fun W => get_any a0 0 W w0
    rw [show got a0.data.toList 0 = fin 0 (dec 0 0 a0.data.toList) from got_in a0.data.toList 0 (Nat.zero_le _)] at hget
    obtain ⟨n, m, k, hd⟩ : ∃ n m k, dec 0 0 a0.data.toList = (n, m, k) := ⟨_, _, _, rfl⟩
    rw [hd] at hget
    by_cases hk : k = 0
    · subst hk
      obtain ⟨hn, hm1, hm10, hml, hput⟩ := put_dec _ _ _ hd
      rw [size_list] at hml
      rw [fin_ok] at hget
      have hp := fun W => put_any (n : Int) W (by omega) (by omega)
      rw [Int.toNat_natCast, hput] at hp
      have HGET : Hid (∀ W : World, Calls Try.prog 13 #[.string a0, .int .i64 0] W fun e w' => e = .returned (.tuple #[.int .u64 (n : Int), .int .i64 (m : Int), .int .i64 0]) ∧ w' = W) := by
        intro W; have h := hget W; simpa using h
      have HPUT : Hid (∀ W : World, Calls Try.prog 9 #[.int .u64 (n : Int)] W fun e w' => e = .returned (.string ⟨(a0.data.toList.take m).toArray⟩) ∧ Below W.heap.size W w') := hp
      have hx : (a0.extract 0 m).toList = List.take m a0.data.toList := by
        rw [ByteArray.toList_eq, Lib.extract_data, List.drop_zero, Nat.sub_zero]
      clear hget hp hput hd
      have g1 : (1 : Int) ≤ m := by omega
      have g2 : (m : Int) ≤ a0.size := by omega
      have g3 : (m : Int) ≤ 10 := by omega
      go_enter Try.func7, Try.ntmps7
      go_wp2_with fail
      refine (awake_any _).mono ?_
      rintro e w1 ⟨rfl, hb1⟩
      go_wp2_with fail
      refine (HGET.out _).mono ?_
      rintro e w' ⟨rfl, rfl⟩
      go_wp2_with fail
      go_region_held3 (fun _ => True) (trivial) ((go_at_call 9; refine (HPUT.out _).mono ?_; rintro e w2 ⟨rfl, hb2⟩))
      go_wp2_with fail
      go_ret
      exact ⟨by simp, hb1.drew.trans (hb2.mono hb1.size)⟩
    · have hkd : n = 0 ∧ m = 0 := dec_bad _ _ _ _ _ _ hd hk
      obtain ⟨rfl, rfl⟩ := hkd
      rw [fin_bad _ _ (by omega)] at hget
      have HGET : Hid (∀ W : World, Calls Try.prog 13 #[.string a0, .int .i64 0] W fun e w' => e = .returned (.tuple #[.int .u64 0, .int .i64 0, .int .i64 (k : Int)]) ∧ w' = W) := hget
      have hk' : ((k : Int) != 0) = true := by simp; omega
      clear hget hd
      go_enter Try.func7, Try.ntmps7
      go_wp2_with fail
      refine (awake_any _).mono ?_
      rintro e w1 ⟨rfl, hb1⟩
      go_wp2_with fail
      refine (HGET.out _).mono ?_
      rintro e w' ⟨rfl, rfl⟩
      go_wp2_with fail
      go_ret
      exact ⟨rfl, hb1⟩
  · go_enter Try.func7, Try.ntmps7
    go_wp2_with fail
    refine (awake_any _).mono ?_
    rintro e w1 ⟨rfl, hb1⟩
    go_wp2_with fail
    refine (awake_any _).mono ?_
    rintro e w2 ⟨rfl, hb2⟩
    go_wp2_with fail
    go_ret
    exact ⟨rfl, hb1.trans (hb2.mono hb1.size)⟩

set_option maxRecDepth 100000 in
theorem lifted (os : Os) (started : os.Started) (H : Type) (enc : TypeId × Value → H) :
    ReturnsInHanded {} Try.checked os 7 .any (Rows.varintOneSpec.pre6 enc Try.prog Try.f7 Rows.varintOneRow.domain false) (Rows.varintOneSpec.post enc Try.prog Try.f7 false true false false) := by
  refine returnsInHanded_of_change (C := Try.checked) own started (by kernel_rfl) Try.func7
    (ChangeSpec.witness6 (enc := enc) (C := Try.checked) false ⟨#[], #[.string ByteArray.empty], []⟩ 8 (by kernel_rfl) (by kernel_rfl) (by kernel_rfl) (by kernel_rfl)) ?_
  intro W base args ds gs before hval0 hW hcnd _
  have hval : ∀ (j : Nat) t v, Try.f7.params[j]? = some t → args[j]? = some v → Value.okWide Try.prog W .any base t v := hval0
  have hW' := hW
  obtain ⟨p, q, hA0, hV, rfl, hfz, hnd⟩ := hW
  have hA : DataW.TrodAll enc Try.prog W 0 (fun _ => true) true Try.f7.params.toList args.toList ds p := hA0
  rw [Try.params7] at hA hval
  obtain ⟨v0, vs0, d0, ds0, p0, q0, hargs, rfl, rfl, h0, r0⟩ := trodAll_cons hA
  obtain ⟨rfl, rfl, rfl⟩ := trodAll_nil r0
  obtain rfl : args = #[v0] := by cases args; simp_all
  obtain ⟨rfl, rfl⟩ := trodVars_none hV
  obtain ⟨a0, rfl, rfl, rfl, w0⟩ := open_string Try.underlying9 (hval 0 9 v0 rfl rfl) h0
  clear hA0 hval0
  simp only [List.append_nil] at hW'
  refine (walk a0 w0 W).mono fun e W' ⟨he, hg⟩ => ?_
  subst he
  exact ⟨_, rfl, _, _, _, [], [], [], hW', (trodAll_cons_mk (shut_bool Try.underlying4 _) trodAll_mk0), (trodAll_cons_mk (shut_string Try.underlying9 w0) trodAll_mk0), rfl, hg.frame _, fun h => by cases h⟩

theorem over : Rows.varintOneRow.holds Try.pinned (OpenSpec.ofChange Rows.varintOneSpec) :=
  OpenClaim.holds_of_wide 7 Try.f7 rfl rfl rfl rfl rfl rfl rfl ⟨rfl, rfl, rfl, rfl, rfl⟩ rfl rfl rfl rfl rfl (by kernel_rfl) Try.func7 (by kernel_rfl)
    (of_decide_eq_true (by kernel_rfl)) (by unfold Func.isWrapper; first | (rw [if_pos (by decide +kernel)]; kernel_rfl) | (rw [if_neg (by decide +kernel)]; exact ⟨rfl, rfl⟩))
    (fun os started H enc _ => lifted os started H enc)

end Go.Proofs.Ytofghnkijmhkiaa.varintOne

namespace Go.Proofs.Ytofghnkijmhkiaa
theorem varintOne_holds : Rows.VarintOneSaid := varintOne.over
#print axioms varintOne_holds
end Go.Proofs.Ytofghnkijmhkiaa
