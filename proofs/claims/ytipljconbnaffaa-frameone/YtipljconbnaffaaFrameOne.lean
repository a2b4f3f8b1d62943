/- For every magic word and every bytes the law FrameOne returns true: bytes that are got are put as they were, and where they aren't got there is no version and no section (bytes of more than 3000, and magic words of more than 100, are let go by the law itself); no condition. -/
import Derived.Test.YtipljconbnaffaaRows
import Derived.WalkKit
import Derived.ProofKit
import Derived.OpenShut
import Derived.ShutString
import Derived.Below
import Derived.Test.YtipljconbnaffaaAwake04
import Derived.Test.YtipljconbnaffaaFMore
namespace Go.Proofs.Ytipljconbnaffaa.frameOne
open Go.ChangeShapes Go.WideShapes Go.ChangeAt Go.RowKit
open Go.ChangeMaps (open_string shut_string)
set_option linter.unusedVariables false      -- a walk need not use every 'w<i>' (that an integer argument fits its kind)

theorem own : ownKnob Try.prog.godebug = none := by kernel_rfl

set_option maxRecDepth 10000 in
set_option maxHeartbeats 400000 in
theorem walk (a0 : ByteArray) (a1 : ByteArray) (w0 : a0.size ≤ maxLen) (w1 : a1.size ≤ maxLen) (w : World) :
    Calls Try.prog 6 #[.string a0, .string a1] w fun e w' => e = .returned (.bool true) ∧ Below w.heap.size w w' := by
  have w0' := w0
  have w1' := w1
  unfold maxLen at w0' w1'
  by_cases hl : a1.size ≤ 3000 ∧ a0.size ≤ 100
  · obtain ⟨hl, hm⟩ := hl
    have G := fun W => fget_any a0 a1 W (by omega)
    have O := one_math a0 a1.data.toList
    have N := pGet_bad a0.data.toList a1.data.toList
    generalize pGet a0.data.toList a1.data.toList = q at *
    obtain ⟨E, V, L⟩ := q
    dsimp only at O N
    have HG : Hid _ := G
    clear G
    by_cases hE : E = 0
    · subst hE
      have hP := O rfl
      obtain ⟨z1, z2⟩ := pPut_sizes a0 (V : Int) L (by rw [hP])
      rw [hP] at z2
      have hz : ∀ s ∈ L, s.2.size ≤ 4000 := fun s hs => by have := z2 s hs; rw [list_size] at this; omega
      have HP : Hid (∀ (W : World) (a : Option Addr) (cap gk : Nat), (0 < L.length → a = some ⟨gk, 0, none⟩) → SecAt W gk 0 L → Calls Try.prog 11 #[.string a0, .int .i64 (V : Int), .slice a L.length cap] W fun e w' => e = .returned (.tuple #[.string a1, .int .i64 0]) ∧ Below W.heap.size W w') := fun W a cap gk ha hs => by
        have h := fput_any a0 (V : Int) a cap gk 0 L W (by omega) ha hs hz
        rw [hP] at h
        exact h
      clear O N hP z1 z2 hz
      go_enter Try.func6, Try.ntmps6
      go_wp2_with fail
      refine (awake_any _).mono ?_
      rintro e w1 ⟨rfl, b1⟩
      go_wp2_with fail
      refine (HG.out _).mono ?_
      rintro e w2 ⟨a, cap, gk, rfl, ha, hs, b2⟩
      have B2 := b1.trans (b2.mono b1.size)
      clear b1 b2
      go_wp2_with fail
      refine (HP.out _ a cap gk ha hs).mono ?_
      rintro e w3 ⟨rfl, b3⟩
      have B3 := B2.trans (b3.mono B2.size)
      go_wp2_with fail
      go_ret
      exact ⟨by simp, B3⟩
    · have hN := N hE
      simp only [Prod.mk.injEq] at hN
      obtain ⟨rfl, rfl⟩ := hN
      have hE' : ((E : Int) != 0) = true := by simpa using (by omega : ¬ (E : Int) = 0)
      clear O N hE
      go_enter Try.func6, Try.ntmps6
      go_wp2_with fail
      refine (awake_any _).mono ?_
      rintro e w1 ⟨rfl, b1⟩
      go_wp2_with fail
      refine (HG.out _).mono ?_
      rintro e w2 ⟨a, cap, gk, rfl, _, _, b2⟩
      have B2 := b1.trans (b2.mono b1.size)
      clear b1 b2
      go_wp2_with fail
      go_ret
      exact ⟨rfl, B2⟩
  · have hc : 3000 < a1.size ∨ (a1.size ≤ 3000 ∧ 100 < a0.size) := by omega
    rcases hc with h1 | ⟨h1, h2⟩
    all_goals
      go_enter Try.func6, Try.ntmps6
      go_wp2_with fail
      refine (awake_any _).mono ?_
      rintro e w1 ⟨rfl, hb1⟩
      go_wp2_with fail
      refine (awake_any _).mono ?_
      rintro e w2 ⟨rfl, hb2⟩
      go_wp2_with fail
      go_ret
      exact ⟨rfl, hb1.trans (hb2.mono hb1.size)⟩

set_option maxRecDepth 100000 in
theorem lifted (os : Os) (started : os.Started) (H : Type) (enc : TypeId × Value → H) :
    ReturnsInHanded {} Try.checked os 6 .any (Rows.frameOneSpec.pre6 enc Try.prog Try.f6 Rows.frameOneRow.domain false) (Rows.frameOneSpec.post enc Try.prog Try.f6 false true false false) := by
  refine returnsInHanded_of_change (C := Try.checked) own started (by kernel_rfl) Try.func6
    (ChangeSpec.witness6 (enc := enc) (C := Try.checked) false ⟨#[], #[.string ByteArray.empty, .string ByteArray.empty], []⟩ 8 (by kernel_rfl) (by kernel_rfl) (by kernel_rfl) (by kernel_rfl)) ?_
  intro W base args ds gs before hval0 hW hcnd _
  have hval : ∀ (j : Nat) t v, Try.f6.params[j]? = some t → args[j]? = some v → Value.okWide Try.prog W .any base t v := hval0
  have hW' := hW
  obtain ⟨p, q, hA0, hV, rfl, hfz, hnd⟩ := hW
  have hA : DataW.TrodAll enc Try.prog W 0 (fun _ => true) true Try.f6.params.toList args.toList ds p := hA0
  rw [Try.params6] at hA hval
  obtain ⟨v0, vs0, d0, ds0, p0, q0, hargs, rfl, rfl, h0, r0⟩ := trodAll_cons hA
  obtain ⟨v1, vs1, d1, ds1, p1, q1, rfl, rfl, rfl, h1, r1⟩ := trodAll_cons r0
  obtain ⟨rfl, rfl, rfl⟩ := trodAll_nil r1
  obtain rfl : args = #[v0, v1] := by cases args; simp_all
  obtain ⟨rfl, rfl⟩ := trodVars_none hV
  obtain ⟨a0, rfl, rfl, rfl, w0⟩ := open_string Try.underlying9 (hval 0 9 v0 rfl rfl) h0
  obtain ⟨a1, rfl, rfl, rfl, w1⟩ := open_string Try.underlying9 (hval 1 9 v1 rfl rfl) h1
  clear hA0 hval0
  simp only [List.append_nil] at hW'
  refine (walk a0 a1 w0 w1 W).mono fun e W' ⟨he, hg⟩ => ?_
  subst he
  exact ⟨_, rfl, _, _, _, [], [], [], hW', (trodAll_cons_mk (shut_bool Try.underlying4 _) trodAll_mk0), (trodAll_cons_mk (shut_string Try.underlying9 w0) (trodAll_cons_mk (shut_string Try.underlying9 w1) trodAll_mk0)), rfl, hg.frame _, fun h => by cases h⟩

theorem over : Rows.frameOneRow.holds Try.pinned (OpenSpec.ofChange Rows.frameOneSpec) :=
  OpenClaim.holds_of_wide 6 Try.f6 rfl rfl rfl rfl rfl rfl rfl ⟨rfl, rfl, rfl, rfl, rfl⟩ rfl rfl rfl rfl rfl (by kernel_rfl) Try.func6 (by kernel_rfl)
    (of_decide_eq_true (by kernel_rfl)) (by unfold Func.isWrapper; first | (rw [if_pos (by decide +kernel)]; kernel_rfl) | (rw [if_neg (by decide +kernel)]; exact ⟨rfl, rfl⟩))
    (fun os started H enc _ => lifted os started H enc)

end Go.Proofs.Ytipljconbnaffaa.frameOne

namespace Go.Proofs.Ytipljconbnaffaa
theorem frameOne_holds : Rows.FrameOneSaid := frameOne.over
#print axioms frameOne_holds
end Go.Proofs.Ytipljconbnaffaa
