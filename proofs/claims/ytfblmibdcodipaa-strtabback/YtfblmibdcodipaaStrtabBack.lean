/- For every slice l of strings the law StrtabBack returns true: texts that are UTF-8 are got from the table's bytes as they were, with just so many texts and bytes allowed; with fewer ErrLimit is told (more than 200 texts, and texts of more than 500 bytes, are let go by the law itself); no condition. -/
import Derived.Test.YtfblmibdcodipaaRows
import Derived.WalkKit
import Derived.ProofKit
import Derived.OpenShut
import Derived.ShutString
import Derived.Below
import Derived.Test.YtfblmibdcodipaaTInts
import Derived.Test.YtfblmibdcodipaaTxtIn
import Derived.ChangeOld
namespace Go.Proofs.Ytfblmibdcodipaa.strtabBack
open Go.ChangeShapes Go.WideShapes Go.ChangeAt Go.RowKit
open Go.ChangeMaps (open_string shut_string)
set_option linter.unusedVariables false

theorem own : ownKnob Try.prog.godebug = none := by kernel_rfl
theorem laidOut : laidOutB Try.prog = true := by kernel_rfl

theorem tget_weak (b : ByteArray) (texts bytes : Int) (w : World) (hs : b.size ≤ 1000000) (ht : texts ≤ 9223372036854775807) (hb : bytes ≤ 9223372036854775807) :
    Calls Try.prog 21 #[.string b, .int .i64 texts, .int .i64 bytes] w fun e w' => ∃ p, e = .returned (.tuple #[p, .int .i64 (pGet6 b texts bytes).1]) ∧ Below w.heap.size w w' := by
  refine (tget_any b texts bytes w hs ht hb).mono ?_
  rintro e w' ⟨hB, ⟨_, rfl⟩ | ⟨h0, g, gm, v, rfl, _⟩⟩
  · exact ⟨_, rfl, hB⟩
  · exact ⟨_, by rw [h0], hB⟩

set_option maxRecDepth 10000 in
set_option maxHeartbeats 400000 in
theorem walk (a0 : Option Addr) (len0 cap0 : Nat) (L0 : List ByteArray) (w : World) (w0 : IsTexts w a0 len0 cap0 L0) :
    Calls Try.prog 5 #[.slice a0 len0 cap0] w fun e w' => e = .returned (.bool true) ∧ Below w.heap.size w w' := by
  obtain ⟨hlen, hcap, hmax, hnil, b, o, ha, hs⟩ := w0
  subst hlen
  have hmax' := hmax
  unfold maxLen at hmax'
  have HGr : Hid _ := fun (W : World) (hW : TextAt W b o L0) => great6_any a0 cap0 b o L0 W ha hW (by omega)
  by_cases hg : grt6 L0 = true
  · rw [hg] at HGr
    go_enter Try.func5, Try.ntmps5
    go_wp2_with fail
    refine (awake_any _).mono ?_
    rintro e w2 ⟨rfl, b2⟩
    go_wp2_with fail
    refine (HGr.out _ (hs.below b2)).mono ?_
    rintro e w3 ⟨rfl, rfl⟩
    go_wp2_with fail
    refine (awake_any _).mono ?_
    rintro e w4 ⟨rfl, b4⟩
    go_wp2_with fail
    go_ret
    exact ⟨rfl, bjoin b2 b4 b2.size⟩
  · have hg' : grt6 L0 = false := by simpa using hg
    rw [hg'] at HGr
    obtain ⟨hl, hz⟩ := grt6_no L0 hg'
    clear hg hg'
    go_enter Try.func5, Try.ntmps5
    go_wp2_with fail
    refine (awake_any _).mono ?_
    rintro e w2 ⟨rfl, B2⟩
    go_wp2_with fail
    refine (HGr.out _ (hs.below B2)).mono ?_
    rintro e w3 ⟨rfl, rfl⟩
    clear HGr
    go_wp2_with fail
    refine (tnew_any _).mono ?_
    rintro e w4 ⟨rfl, T4, b4⟩
    have B4 := bjoin B2 b4 B2.size
    have hw3 := B2.size
    clear b4 B2
    generalize w3.heap.size = B at *
    go_wp2_with fail
    go_loopw [27] (fun iv wr => ∃ (i : Nat) (v : Value) (M : List ByteArray), iv = .int .i64 i ∧ i ≤ L0.length ∧ Tb wr B (B + 1) B v M ∧ M.length ≤ i ∧ sum6 M ≤ 500 * i ∧ Below w.heap.size w wr ∧ Hid (M = ints6 (L0.take i)) ∧ Hid (∀ j (h : j < L0.length), j < i → right5 L0[j] = true)) (fun iv _ => L0.length - (intOf iv).toNat)
    case atStart => exact ⟨0, _, [], rfl, by omega, T4, by simp, by simp [sum6], B4, rfl, fun j _ h => by omega⟩
    case round =>
      clear T4 B4
      obtain ⟨i, v, M, rfl, hi, hTb, hMl, hMs, hB, HM, HR⟩ := hrel
      by_cases hlt : i < L0.length
      · obtain rfl := ha (by omega)
        obtain ⟨hbl, c0⟩ := hs i hlt
        have hbr : b < wr.heap.size := Nat.lt_of_lt_of_le hbl hB.size
        rw [← (bcell hB).1 b _ hbl] at c0
        have hsz : L0[i].size ≤ 500 := hz _ (List.getElem_mem hlt)
        have HM2 : Hid (pIntern M L0[i] = ints6 (L0.take (i + 1))) := by show _ = _; rw [ints6_take L0 i hlt, HM.out]
        have HY : Hid (right5 L0[i] = true → ∀ j (h : j < L0.length), j < i + 1 → right5 L0[j] = true) := fun h j hj hji => by
          by_cases e : j = i
          · subst e; exact h
          · exact HR.out j hj (by omega)
        clear HM HR
        generalize L0[i] = s at *
        have hpl := pIntern_len M s
        have HRi : Hid _ := right_any s wr (by omega)
        have HT : Hid (∀ W, Below wr.heap.size wr W → Calls Try.prog 12 #[.pointer (some ⟨B + 1, 0, none⟩), .string s] W fun e w' => e = .returned (.int .i64 (idx6 s M : Nat)) ∧ TIn W w' B (B + 1) B v (pIntern M s)) := fun W hW => tintern_any (hTb.below hW) s (by omega) (by omega) (by omega)
        generalize pIntern M s = M' at *
        by_cases hr : right5 s = true
        · have HY2 : Hid _ := HY.out hr
          rw [hr] at HRi
          clear HY hr
          go_wp2_with fail
          refine Calls.mono HRi.out ?_
          rintro e w5 ⟨rfl, b5⟩
          have B5 := bjoin hB b5 hB.size
          clear HRi
          go_wp2_with fail
          refine (HT.out w5 b5).mono ?_
          rintro e w6 ⟨rfl, v', T6, F6, -⟩
          have B6 := Fr.below B5 F6 (fun k hk => Nat.le_trans hw3 (hTb.ge k hk)) B5.size
          clear HT hTb b5 F6 B5 hB
          go_wp2_with fail
          go_roundw
          case rel => exact ⟨i + 1, v', M', by go_num, by omega, T6, by omega, by omega, B6, HM2.out, HY2.out⟩
          case measure => simp [intOf]; omega
        · have hr' : right5 s = false := by simpa using hr
          rw [hr'] at HRi
          clear HY hr hr' HT
          go_wp2_with fail
          refine Calls.mono HRi.out ?_
          rintro e w5 ⟨rfl, b5⟩
          have B5 := bjoin hB b5 hB.size
          clear HRi
          go_wp2_with fail
          go_ret
          exact ⟨rfl, B5⟩
      · have hMb : M.length ≤ 200 := by omega
        have hMs' : sum6 M ≤ 100000 := by omega
        have hM := HM.out
        rw [List.take_of_length_le (by omega)] at hM
        have hnd : M.Nodup := by rw [hM]; exact ints6_nodup L0
        have hrt : ∀ s ∈ M, right5 s = true ∧ s.size ≤ 16777216 := by
          intro s hsM
          rw [hM, ints6_mem] at hsM
          obtain ⟨j, hj, rfl⟩ := List.getElem_of_mem hsM
          exact ⟨HR.out j hj (by omega), by have := hz _ (List.getElem_mem hj); omega⟩
        obtain ⟨X, hX⟩ : ∃ X : ByteArray, X = ⟨(pPut6 M).toArray⟩ := ⟨_, rfl⟩
        have hXd : X.data.toList = pPut6 M := by rw [hX]
        obtain ⟨g1, g2, g3⟩ := pGet6_put M X hXd hnd hrt (by omega)
        have hXs : X.size ≤ 1000000 := by
          rw [← list_size, hXd]
          have h1 := body6_le M
          have h2 := (put_length M.length).2
          unfold pPut6
          rw [List.length_append]
          omega
        have P0 := tput_any hTb (by omega) (by omega)
        rw [← hX] at P0
        have HP : Hid _ := P0
        have G1 := fun W : World => tget_any X (M.length : Nat) (sum6 M : Nat) W hXs (by omega) (by omega)
        rw [g1] at G1
        have HG1 : Hid _ := G1
        have HG2 : Hid _ := fun W : World => tget_weak X ((M.length : Int) - 1) (sum6 M : Nat) W hXs (by omega) (by omega)
        have HG3 : Hid _ := fun W : World => tget_weak X (M.length : Nat) ((sum6 M : Int) - 1) W hXs (by omega) (by omega)
        have g2' : (M.length : Int) = 0 ∨ (¬ (M.length : Int) = 0 ∧ (pGet6 X ((M.length : Int) - 1) (sum6 M : Nat)).1 = 19) := by
          by_cases q : M.length = 0
          · exact .inl (by omega)
          · exact .inr ⟨by omega, g2 q⟩
        have g3' : (sum6 M : Int) = 0 ∨ (¬ (sum6 M : Int) = 0 ∧ (pGet6 X (M.length : Nat) ((sum6 M : Int) - 1)).1 = 19) := by
          by_cases q : sum6 M = 0
          · exact .inl (by omega)
          · exact .inr ⟨by omega, g3 q⟩
        generalize (pGet6 X ((M.length : Int) - 1) (sum6 M : Nat)).1 = f2 at *
        generalize (pGet6 X (M.length : Nat) ((sum6 M : Int) - 1)).1 = f3 at *
        have HC2 : Hid _ := g2'
        have HC3 : Hid _ := g3'
        clear g2' g3' g1 g2 g3 G1 P0 hXd hX hrt hnd hM HM HR
        go_wp2_with fail
        refine Calls.mono HP.out ?_
        rintro e w5 ⟨rfl, b5⟩
        have T5 := hTb.below b5
        have B5 := bjoin hB b5 hB.size
        clear HP hTb hB b5
        go_wp2_with fail
        refine (tlen_any T5).mono ?_
        rintro e w6 ⟨rfl, rfl⟩
        go_wp2_with fail
        refine (tbytes_any T5).mono ?_
        rintro e w7 ⟨rfl, rfl⟩
        go_wp2_with fail
        refine (HG1.out w7).mono ?_
        rintro e w8 ⟨b8, h8⟩
        obtain ⟨-, g, gm, u, rfl, U8⟩ := h8.resolve_left (fun q => absurd rfl q.1)
        have U8 : Tb w8 w7.heap.size g gm u M := U8
        have T8 := T5.below b8
        have B8 := bjoin B5 b8 B5.size
        clear HG1 b8 h8 T5 B5
        go_wp2_with fail
        refine (all_any U8 (by omega)).mono ?_
        rintro e w9 ⟨a1, cap1, b1, rfl, ha1, hL1, -, b9⟩
        have T9 := T8.below b9
        have B9 := bjoin B8 b9 B8.size
        clear b9 T8 B8 U8
        go_wp2_with fail
        refine (all_any T9 (by omega)).mono ?_
        rintro e w10 ⟨a2, cap2, b2, rfl, ha2, hL2, -, b10⟩
        have hL1' := hL1.below b10
        have B10 := bjoin B9 b10 B9.size
        clear b10 T9 B9 hL1
        go_wp2_with fail
        refine (same6_any a1 a2 M.length M.length cap1 cap2 b1 0 b2 0 M M w10 rfl rfl ha1 ha2 hL1' hL2 (by omega) (by omega)).mono ?_
        rintro e w11 ⟨rfl, b11⟩
        have B11 := bjoin B10 b11 B10.size
        clear b11 B10 hL1' hL2
        rw [decide_eq_true rfl]
        go_wp2_with fail
        refine (HG2.out w11).mono ?_
        rintro e w12 ⟨p2, rfl, b12⟩
        have B12 := bjoin B11 b12 B11.size
        clear b12 B11 HG2
        go_wp2_with fail
        refine (HG3.out w12).mono ?_
        rintro e w13 ⟨p3, rfl, b13⟩
        have B13 := bjoin B12 b13 B12.size
        clear b13 B12 HG3
        rcases HC2.out with q2 | ⟨q2, rfl⟩ <;> rcases HC3.out with q3 | ⟨q3, rfl⟩
        all_goals
          clear HC2 HC3
          go_wp2_with fail
        all_goals
          go_ret
          exact ⟨by simp, B13⟩

set_option maxRecDepth 100000 in
theorem lifted (os : Os) (started : os.Started) (H : Type) (enc : TypeId × Value → H) :
    ReturnsInHanded {} Try.checked os 5 .any (Rows.strtabBackSpec.pre6 enc Try.prog Try.f5 Rows.strtabBackRow.domain false) (Rows.strtabBackSpec.post enc Try.prog Try.f5 false true false false) := by
  refine returnsInHanded_of_change (C := Try.checked) own started (by kernel_rfl) Try.func5
    (ChangeSpec.witness6 (enc := enc) (C := Try.checked) false ⟨#[], #[.slice none 0 0], []⟩ 8 (by kernel_rfl) (by kernel_rfl) (by kernel_rfl) (by kernel_rfl)) ?_
  intro W base args ds gs before hval0 hW hcnd _
  have hval : ∀ (j : Nat) t v, Try.f5.params[j]? = some t → args[j]? = some v → Value.okWide Try.prog W .any base t v := hval0
  have hW' := hW
  obtain ⟨p, q, hA0, hV, rfl, hfz, hnd⟩ := hW
  have hA : DataW.TrodAll enc Try.prog W 0 (fun _ => true) true Try.f5.params.toList args.toList ds p := hA0
  rw [Try.params5] at hA hval
  obtain ⟨v0, vs0, d0, ds0, p0, q0, hargs, rfl, rfl, h0, r0⟩ := trodAll_cons hA
  obtain ⟨rfl, rfl, rfl⟩ := trodAll_nil r0
  obtain rfl : args = #[v0] := by cases args; simp_all
  obtain ⟨rfl, rfl⟩ := trodVars_none hV
  obtain ⟨a0, len0, cap0, rfl⟩ := okWide_slice Try.underlying22 (hval 0 22 v0 rfl rfl)
  have k0 := h0
  have lt0 : ∀ x ∈ p0, x.block < W.heap.size := by obtain ⟨m, hm⟩ := k0; exact DataW.trod_lt m _ _ _ hm
  obtain ⟨L0, w0⟩ := open_texts Try.underlying22 Try.underlying9 (by kernel_rfl) h0
  clear hA0 hval0
  refine (walk a0 len0 cap0 L0 W w0).mono fun e W' ⟨he, bel⟩ => ?_
  subst he
  exact ⟨_, rfl, _, _, _, [], _, [], hW', trodAll_mk1 (shut_bool Try.underlying4 _), (trodAll_cons_mk (Below.trod laidOut (by kernel_rfl) (of_decide_eq_true (by kernel_rfl)) k0 bel lt0) trodAll_mk0), rfl, bel.frame _, fun h => by cases h⟩

theorem over : Rows.strtabBackRow.holds Try.pinned (OpenSpec.ofChange Rows.strtabBackSpec) :=
  OpenClaim.holds_of_wide 5 Try.f5 rfl rfl rfl rfl rfl rfl rfl ⟨rfl, rfl, rfl, rfl, rfl⟩ rfl rfl rfl rfl rfl (by kernel_rfl) Try.func5 (by kernel_rfl)
    (of_decide_eq_true (by kernel_rfl)) (by unfold Func.isWrapper; first | (rw [if_pos (by decide +kernel)]; kernel_rfl) | (rw [if_neg (by decide +kernel)]; exact ⟨rfl, rfl⟩))
    (fun os started H enc _ => lifted os started H enc)

end Go.Proofs.Ytfblmibdcodipaa.strtabBack

namespace Go.Proofs.Ytfblmibdcodipaa
theorem strtabBack_holds : Rows.StrtabBackSaid := strtabBack.over
#print axioms strtabBack_holds
end Go.Proofs.Ytfblmibdcodipaa
