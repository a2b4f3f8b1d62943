/- For all strings b and s the law StrtabOne returns true: bytes that are got are put as they were, and their texts have their places as numbers (more than 1500 bytes of b, or 500 of s, are let go by the law itself); no condition. -/
import Derived.Test.YtfblmibdcodipaaRows
import Derived.WalkKit
import Derived.ProofKit
import Derived.OpenShut
import Derived.ShutString
import Derived.Below
import Derived.Test.YtfblmibdcodipaaAwake06
import Derived.Test.YtfblmibdcodipaaTMath2
import Derived.Test.YtfblmibdcodipaaTRef4
namespace Go.Proofs.Ytfblmibdcodipaa.strtabOne
open Go.ChangeShapes Go.WideShapes Go.ChangeAt Go.RowKit
open Go.ChangeMaps (open_string shut_string)
set_option linter.unusedVariables false      -- a walk need not use every 'w<i>' (that an integer argument fits its kind)

theorem own : ownKnob Try.prog.godebug = none := by kernel_rfl

theorem arr_of {b : ByteArray} {l : List UInt8} (h : l = b.data.toList) : (⟨l.toArray⟩ : ByteArray) = b := by
  subst h
  cases b
  simp

set_option maxRecDepth 10000 in
set_option maxHeartbeats 400000 in
theorem walk (a0 : ByteArray) (a1 : ByteArray) (w0 : a0.size ≤ maxLen) (w1 : a1.size ≤ maxLen) (w : World) :
    Calls Try.prog 6 #[.string a0, .string a1] w fun e w' => e = .returned (.bool true) ∧ Below w.heap.size w w' := by
  have hm := w0
  unfold maxLen at hm
  by_cases hl : a0.size ≤ 1500 ∧ a1.size ≤ 500
  · obtain ⟨hl, hl2⟩ := hl
    have hl' : ¬ (1500 : Int) < a0.size := by omega
    have hl2' : ¬ (500 : Int) < a1.size := by omega
    have HG : Hid _ := fun W : World => tget_any a0 1048576 1048576 W (by omega) (by decide) (by decide)
    have HK := pGet6_ok a0 1048576 1048576
    generalize pGet6 a0 1048576 1048576 = R at *
    obtain ⟨er, L⟩ := R
    dsimp only at *
    go_enter Try.func6, Try.ntmps6
    go_wp2_with fail
    refine (awake_any _).mono ?_
    rintro e w1 ⟨rfl, B1⟩
    go_wp2_with fail
    refine (HG.out w1).mono ?_
    by_cases he : er = 0
    · subst he
      obtain ⟨hput, hnd, hsum⟩ := HK rfl
      rintro e w2 ⟨b2, h2⟩
      obtain ⟨-, g, gm, v, rfl, T2⟩ := h2.resolve_left (fun q => absurd rfl q.1)
      have B2 := bjoin B1 b2 B1.size
      have T2 : Tb w2 w1.heap.size g gm v L := T2
      have HB1 : Hid (w.heap.size ≤ w1.heap.size) := B1.size
      have P2 := tput_any T2 (by omega) (by omega)
      rw [arr_of hput] at P2
      have HP : Hid _ := P2
      have HND : Hid _ := fun i hi => idx6_nodup L hnd i hi
      clear b2 B1 HG HK h2 hput hnd P2
      go_wp2_with fail
      refine Calls.mono HP.out ?_
      rintro e w3 ⟨rfl, b3⟩
      have T3 := T2.below b3
      have B3 := bjoin B2 b3 B2.size
      clear b3 B2 HP T2
      go_wp2_with fail
      refine (all_any T3 (by omega)).mono ?_
      rintro e w4 ⟨a', cap', b', rfl, ha', hL', -, b4⟩
      have T4 := T3.below b4
      have B4 := bjoin B3 b4 B3.size
      have HA : Hid _ := ha'
      clear b4 B3 T3 ha'
      go_wp2_with fail
      go_loopw [49] (fun iv wr => ∃ i : Nat, iv = .int .i64 i ∧ i ≤ L.length ∧ wr = w4) (fun iv _ => L.length - (intOf iv).toNat)
      case atStart => exact ⟨0, rfl, by omega, rfl⟩
      case round =>
        obtain ⟨i, rfl, hi, rfl⟩ := hrel
        by_cases hlt : i < L.length
        · obtain ⟨hbl, c0⟩ := hL' i hlt
          obtain rfl := HA.out (by omega)
          rw [Nat.zero_add] at c0
          have h1 := HND.out i hlt
          have hsi : L[i].size ≤ 1500 := by
            have := sum6_take L i hlt
            have h3 : sum6 L = sum6 (L.take (i + 1)) + sum6 (L.drop (i + 1)) := by rw [← sum6_append, List.take_append_drop]
            omega
          have HI := tintern_same T4 L[i] (by omega) (by rw [h1]; exact hlt)
          rw [h1] at HI
          have HI' : Hid _ := HI
          clear h1 HI
          have hlt' : (i : Int) < L.length := by omega
          generalize L[i] = x at *
          go_wp2_with fail
          refine Calls.mono HI'.out ?_
          rintro e w5 ⟨rfl, rfl⟩
          go_wp2_with fail
          go_roundw
          case rel => exact ⟨i + 1, by go_num, by omega, trivial⟩
          case measure => simp [intOf]; omega
        · have hlt' : ¬ (i : Int) < L.length := by omega
          have HF : Hid _ := find_any a' cap' b' 0 L a1 wr HA.out hL' (by omega)
          have HI : Hid _ := tintern_any T4 a1 (by omega) (by omega) (by omega)
          have hle := idx6_le a1 L
          by_cases hx : idx6 a1 L < L.length
          · rw [show pFind L a1 = (idx6 a1 L : Int) from if_pos hx] at HF
            generalize idx6 a1 L = n at *
            clear HA
            go_wp2_with fail
            refine Calls.mono HF.out ?_
            rintro e w5 ⟨rfl, rfl⟩
            go_wp2_with fail
            refine Calls.mono HI.out ?_
            rintro e w6 ⟨rfl, I6⟩
            obtain ⟨-, B6⟩ := I6.below T4 B4 HB1.out B4.size
            go_wp2_with fail
            go_ret
            exact ⟨by simp, B6⟩
          · rw [show pFind L a1 = -1 from if_neg hx] at HF
            rw [show idx6 a1 L = L.length by omega] at HI
            clear HA hx
            go_wp2_with fail
            refine Calls.mono HF.out ?_
            rintro e w5 ⟨rfl, rfl⟩
            go_wp2_with fail
            refine Calls.mono HI.out ?_
            rintro e w6 ⟨rfl, I6⟩
            obtain ⟨-, B6⟩ := I6.below T4 B4 HB1.out B4.size
            go_wp2_with fail
            go_ret
            exact ⟨by simp, B6⟩
    · have he' : (er == 0) = false := by simpa using he
      have he2 : (er != 0) = true := by simpa using he
      rintro e w2 ⟨b2, h2⟩
      obtain ⟨-, rfl⟩ := h2.resolve_right (fun q => he q.1)
      have B2 := bjoin B1 b2 B1.size
      clear b2 B1 HG HK h2
      go_wp2_with fail
      go_ret
      exact ⟨by simp, B2⟩
  · rcases (show (1500 : Int) < a0.size ∨ (¬ (1500 : Int) < a0.size ∧ (500 : Int) < a1.size) by omega) with h1 | ⟨h1, h2⟩
    all_goals
      go_enter Try.func6, Try.ntmps6
      go_wp2_with fail
      refine (awake_any _).mono ?_
      rintro e w1 ⟨rfl, B1⟩
      go_wp2_with fail
      refine (awake_any _).mono ?_
      rintro e w2 ⟨rfl, b2⟩
      go_wp2_with fail
      go_ret
      exact ⟨rfl, bjoin B1 b2 B1.size⟩

set_option maxRecDepth 100000 in
theorem lifted (os : Os) (started : os.Started) (H : Type) (enc : TypeId × Value → H) :
    ReturnsInHanded {} Try.checked os 6 .any (Rows.strtabOneSpec.pre6 enc Try.prog Try.f6 Rows.strtabOneRow.domain false) (Rows.strtabOneSpec.post enc Try.prog Try.f6 false true false false) := by
  refine returnsInHanded_of_change (C := Try.checked) own started (by kernel_rfl) Try.func6
    (ChangeSpec.witness6 (enc := enc) (C := Try.checked) false ⟨#[], #[.string ByteArray.empty, .string ByteArray.empty], []⟩ 8 (by kernel_rfl) (by kernel_rfl) (by kernel_rfl) (by kernel_rfl)) ?_
  intro W base args ds gs before hval0 hW hcnd _
  have hval : ∀ (j : Nat) t v, Try.f6.params[j]? = some t → args[j]? = some v → Value.okWide Try.prog W .any base t v := hval0
  have hW' := hW
  obtain ⟨p, q, hA0, hV, rfl, hfz, hnd⟩ := hW
  have hA : DataW.TrodAll enc Try.prog W 0 (fun _ => true) true Try.f6.params.toList args.toList ds p := hA0
  rw [Try.params6] at hA hval
  obtain ⟨v0, vs0, d0, ds0, p0, q0, hargs, rfl, rfl, h0, r0⟩ := trodAll_cons hA
  obtain ⟨v1, vs1, d1, ds1, p1, q1, rfl, rfl, rfl, h1, r1⟩ := trodAll_cons r0
  obtain ⟨rfl, rfl, rfl⟩ := trodAll_nil r1
  obtain rfl : args = #[v0, v1] := by cases args; simp_all
  obtain ⟨rfl, rfl⟩ := trodVars_none hV
  obtain ⟨a0, rfl, rfl, rfl, w0⟩ := open_string Try.underlying9 (hval 0 9 v0 rfl rfl) h0
  obtain ⟨a1, rfl, rfl, rfl, w1⟩ := open_string Try.underlying9 (hval 1 9 v1 rfl rfl) h1
  clear hA0 hval0
  simp only [List.append_nil] at hW'
  refine (walk a0 a1 w0 w1 W).mono fun e W' ⟨he, hg⟩ => ?_
  subst he
  exact ⟨_, rfl, _, _, _, [], [], [], hW', (trodAll_cons_mk (shut_bool Try.underlying4 _) trodAll_mk0), (trodAll_cons_mk (shut_string Try.underlying9 w0) (trodAll_cons_mk (shut_string Try.underlying9 w1) trodAll_mk0)), rfl, hg.frame _, fun h => by cases h⟩

theorem over : Rows.strtabOneRow.holds Try.pinned (OpenSpec.ofChange Rows.strtabOneSpec) :=
  OpenClaim.holds_of_wide 6 Try.f6 rfl rfl rfl rfl rfl rfl rfl ⟨rfl, rfl, rfl, rfl, rfl⟩ rfl rfl rfl rfl rfl (by kernel_rfl) Try.func6 (by kernel_rfl)
    (of_decide_eq_true (by kernel_rfl)) (by unfold Func.isWrapper; first | (rw [if_pos (by decide +kernel)]; kernel_rfl) | (rw [if_neg (by decide +kernel)]; exact ⟨rfl, rfl⟩))
    (fun os started H enc _ => lifted os started H enc)

end Go.Proofs.Ytfblmibdcodipaa.strtabOne

namespace Go.Proofs.Ytfblmibdcodipaa
theorem strtabOne_holds : Rows.StrtabOneSaid := strtabOne.over
#print axioms strtabOne_holds
end Go.Proofs.Ytfblmibdcodipaa
