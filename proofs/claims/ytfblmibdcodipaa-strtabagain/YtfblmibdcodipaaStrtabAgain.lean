/- For every slice l of strings and every int64 by the law StrtabAgain returns true: interned again, in any order, texts have the numbers that they had, and the table stays as it is (more than 200 texts, and texts of more than 500 bytes, are let go by the law itself); no condition. -/
import Derived.Test.YtfblmibdcodipaaRows
import Derived.WalkKit
import Derived.ProofKit
import Derived.OpenShut
import Derived.ShutString
import Derived.Below
import Derived.Test.YtfblmibdcodipaaTNums
import Derived.Test.YtfblmibdcodipaaTxtIn
import Derived.ChangeOld
namespace Go.Proofs.Ytfblmibdcodipaa.strtabAgain
open Go.ChangeShapes Go.WideShapes Go.ChangeAt Go.RowKit
open Go.ChangeMaps (open_string shut_string)
set_option linter.unusedVariables false

theorem own : ownKnob Try.prog.godebug = none := by kernel_rfl
theorem laidOut : laidOutB Try.prog = true := by kernel_rfl

open Go.Maps Go.WideMaps

theorem kk_is (a : Int) (n : Nat) (h0 : 0 < n) (hn : n ≤ 200) : ∃ kk : Nat, wrap64 ((IntKind.u64.wrap a).tmod (n : Int)) = kk ∧ kk < n := by
  have h1 : 0 ≤ IntKind.u64.wrap a := by simp [IntKind.wrap, IntKind.signed, IntKind.bits]; omega
  have h2 : (IntKind.u64.wrap a).tmod (n : Int) = IntKind.u64.wrap a % n := Int.tmod_eq_emod_of_nonneg h1
  have h3 := Int.emod_nonneg (IntKind.u64.wrap a) (show (n : Int) ≠ 0 by omega)
  have h4 := Int.emod_lt_of_pos (IntKind.u64.wrap a) (show (0 : Int) < n by omega)
  rw [h2]
  generalize IntKind.u64.wrap a % (n : Int) = x at *
  obtain ⟨m, rfl⟩ := Int.eq_ofNat_of_zero_le h3
  exact ⟨m, by simp [wrap64]; omega, by omega⟩

set_option maxRecDepth 10000 in
set_option maxHeartbeats 400000 in
theorem walk (a0 : Option Addr) (len0 cap0 : Nat) (L0 : List ByteArray) (a1 : Int) (w : World) (w0 : IsTexts w a0 len0 cap0 L0) (w1 : (Lit.int .i64 a1).wf = true) :
    Calls Try.prog 7 #[.slice a0 len0 cap0, .int .i64 a1] w fun e w' => e = .returned (.bool true) ∧ Below w.heap.size w w' := by
  obtain ⟨hlen, hcap, hmax, hnil, b, o, ha, hs⟩ := w0
  subst hlen
  have hmax' := hmax
  unfold maxLen at hmax'
  have HGr : Hid _ := fun (W : World) (hW : TextAt W b o L0) => great6_any a0 cap0 b o L0 W ha hW (by omega)
  by_cases hg : grt6 L0 = true
  · rw [hg] at HGr
    go_enter Try.func7, Try.ntmps7
    go_wp2_with fail
    refine (awake_any _).mono ?_
    rintro e w2 ⟨rfl, b2⟩
    go_wp2_with fail
    refine (HGr.out _ (hs.below b2)).mono ?_
    rintro e w3 ⟨rfl, rfl⟩
    go_wp2_with fail
    refine (awake_any _).mono ?_
    rintro e w4 ⟨rfl, b4⟩
    go_wp2_with fail
    go_ret
    exact ⟨rfl, bjoin b2 b4 b2.size⟩
  · have hg' : grt6 L0 = false := by simpa using hg
    rw [hg'] at HGr
    obtain ⟨hl, hz⟩ := grt6_no L0 hg'
    clear hg hg'
    by_cases h0 : L0.length = 0
    · obtain rfl := List.length_eq_zero_iff.1 h0
      go_enter Try.func7, Try.ntmps7
      go_wp2_with fail
      refine (awake_any _).mono ?_
      rintro e w2 ⟨rfl, b2⟩
      go_wp2_with fail
      refine (HGr.out _ (hs.below b2)).mono ?_
      rintro e w3 ⟨rfl, rfl⟩
      go_wp2_with fail
      refine (awake_any _).mono ?_
      rintro e w4 ⟨rfl, b4⟩
      go_wp2_with fail
      go_ret
      exact ⟨rfl, bjoin b2 b4 b2.size⟩
    obtain rfl := ha (by omega)
    have hpos : (0 : Int) < L0.length := by omega
    have hnz : ¬ (L0.length : Int) = 0 := by omega
    have hne : ¬ L0 = [] := fun e => h0 (by rw [e]; rfl)
    have hmm := @run_makeMap Try.prog
    clear h0
    go_enter Try.func7, Try.ntmps7
    go_wp2_with fail
    refine (awake_any _).mono ?_
    rintro e w2 ⟨rfl, B2⟩
    go_wp2_with fail
    refine (HGr.out _ (hs.below B2)).mono ?_
    rintro e w3 ⟨rfl, rfl⟩
    clear HGr
    go_wp2_with fail
    refine (tnew_any _).mono ?_
    rintro e w4 ⟨rfl, T4, b4⟩
    have B4 := bjoin B2 b4 B2.size
    have hw3 := B2.size
    have hw4 := b4.size
    have T5 : Tb (w4.alloc (.map #[] 0)) w3.heap.size (w3.heap.size + 1) w3.heap.size (.slice none 0 0) [] := T4.below ((Below.refl _ _).alloc (Nat.le_refl _) _)
    have N5 : Nums (w4.alloc (.map #[] 0)) w4.heap.size 0 [] := ⟨_, World.ownsMap_made w4 Try.prog 9 (plainElem (H := Unit) Try.prog 3), NumsIs.none, rfl⟩
    have hap : ¬ TbS (w3.heap.size + 1) w3.heap.size (.slice none 0 0) w4.heap.size := fun q => by have := T4.lt _ q; omega
    have B5 : Below w.heap.size w (w4.alloc (.map #[] 0)) := B4.alloc B4.size _
    have hgn := B4.size
    clear b4 B2 B4 T4
    generalize w3.heap.size = B at *
    obtain ⟨gn, hgn0⟩ : ∃ gn, gn = w4.heap.size := ⟨_, rfl⟩
    rw [← hgn0] at N5 hap hgn
    go_wp2_with fail
    simp only [← hgn0]
    clear hgn0
    generalize w4.alloc (.map #[] 0) = w5 at *
    go_loopw [33] (fun iv wr => ∃ (i : Nat) (v : Value) (M : List ByteArray), iv = .int .i64 i ∧ i ≤ L0.length ∧ Tb wr B (B + 1) B v M ∧ Nums wr gn i M ∧ ¬ TbS (B + 1) B v gn ∧ M.length ≤ i ∧ sum6 M ≤ 500 * i ∧ Below w.heap.size w wr ∧ Hid (M = ints6 (L0.take i))) (fun iv _ => L0.length - (intOf iv).toNat)
    case atStart => exact ⟨0, _, [], rfl, by omega, T5, N5, hap, by simp, by simp [sum6], B5, rfl⟩
    case round =>
      clear T5 N5 hap B5
      obtain ⟨i, v, M, rfl, hi, hTb, hNu, hap, hMl, hMs, hB, HM⟩ := hrel
      by_cases hlt : i < L0.length
      · obtain ⟨hbl, c0⟩ := hs i hlt
        have hbr : b < wr.heap.size := Nat.lt_of_lt_of_le hbl hB.size
        rw [← (bcell hB).1 b _ hbl] at c0
        have hsz : L0[i].size ≤ 500 := hz _ (List.getElem_mem hlt)
        have HM2 : Hid (pIntern M L0[i] = ints6 (L0.take (i + 1))) := by show _ = _; rw [ints6_take L0 i hlt, HM.out]
        clear HM
        generalize L0[i] = s at *
        have hpl := pIntern_len M s
        have hle := idx6_le s M
        have HT : Hid _ := tintern_any hTb s (by omega) (by omega) (by omega)
        obtain ⟨D, hD1, hD2, hD3⟩ := hNu
        have HI : Hid (NumsIs (D.put (kS s) (iE (idx6 s M : Nat))) (pIntern M s) ∧ Maps.size (D.put (kS s) (iE (idx6 s M : Nat))) = (pIntern M s).length) := ⟨hD2.intern s, hD2.size (hD1.tidy lawS6) s hD3⟩
        have hwf : (Lit.int .i64 (idx6 s M : Nat)).wf = true := WalkArith.wf_i64 (by omega)
        have hkey := kS_key s (by unfold maxLen; omega)
        clear hD2 hD3 hle
        generalize pIntern M s = M' at *
        generalize idx6 s M = n at *
        go_wp2_with fail
        refine Calls.mono HT.out ?_
        rintro e w6 ⟨rfl, v', T6, F6, hn6⟩
        have D6 := map_fr hD1 F6 hap
        have B6 := Fr.below hB F6 (fun k hk => Nat.le_trans hw3 (hTb.ge k hk)) hB.size
        have hap6 : ¬ TbS (B + 1) B v' gn := fun q => by
          rcases hn6 _ q with q | q
          · exact hap q
          · have := hD1.lt; omega
        clear HT F6 hn6 hTb hB hD1 hap
        go_wp2_with (at_mapUpdate; refine wpList_mapUpdate_own _ rfl _ _ _ 47 rfl 9 3 lawS6 Try.underlying47 _ gn i D rfl D6 (by unfold maxLen; omega) _ _ _ rfl rfl hkey _ [] (plainElem_int Try.underlying3 hwf) ?_)
        intro w7 m7 hgrow7
        have F7 := Fr.of_grown (S := fun k => k = gn) hgrow7 (fun k hk => by cases hk; rfl)
        have T7 := T6.fr F7 (fun k hk e => hap6 (by rw [← e]; exact hk))
        have B7 := Fr.below B6 F7 (fun k hk => by omega) B6.size
        have N7 : Nums w7 gn (i + 1) M' := ⟨_, m7, HI.out⟩
        clear HI m7 hgrow7 F7 T6 B6 D6
        go_wp2_with fail
        go_roundw
        case rel => exact ⟨i + 1, v', M', by go_num, by omega, T7, N7, hap6, by omega, by omega, B7, HM2.out⟩
        case measure => simp [intOf]; omega
      · have hMb : M.length ≤ 200 := by omega
        have hMs' : sum6 M ≤ 100000 := by omega
        have hM := HM.out
        rw [List.take_of_length_le (by omega)] at hM
        have HIn : Hid (∀ j (h : j < L0.length), idx6 L0[j] M < M.length) := fun j hj => by
          rw [idx6_mem, hM, ints6_mem]
          exact List.getElem_mem hj
        clear hM HM hMl hMs
        obtain ⟨kk, hkk, hkl⟩ : ∃ kk : Nat, wrap64 ((IntKind.u64.wrap a1).tmod (L0.length : Int)) = kk ∧ kk < L0.length := kk_is a1 L0.length (by omega) (by omega)
        have HP : Hid _ := tput_any hTb (by omega) (by omega)
        have HP2 : Hid _ := fun (W : World) (h : Tb W B (B + 1) B v M) => tput_any h (by omega) (by omega)
        generalize ByteArray.mk (pPut6 M).toArray = X at *
        go_wp2_with fail
        refine Calls.mono HP.out ?_
        rintro e w6 ⟨rfl, b6⟩
        have T6 := hTb.below b6
        have N6 := hNu.below b6
        have B6 := bjoin hB b6 hB.size
        clear HP b6 hTb hNu hB
        go_wp2_with fail
        simp only [hkk]
        clear hkk
        go_loopw [54] (fun iv wr => ∃ i2 : Nat, iv = .int .i64 i2 ∧ i2 ≤ L0.length ∧ Tb wr B (B + 1) B v M ∧ Nums wr gn i M ∧ Below w.heap.size w wr) (fun iv _ => L0.length - (intOf iv).toNat)
        case atStart => exact ⟨0, rfl, by omega, T6, N6, B6⟩
        case round =>
          clear T6 N6 B6
          obtain ⟨i2, rfl, hi2, hTb, hNu, hB⟩ := hrel
          by_cases hlt2 : i2 < L0.length
          · have hj : (i2 + kk) % L0.length < L0.length := Nat.mod_lt _ (by omega)
            have hjm : ((i2 : Int) + kk).tmod L0.length = (((i2 + kk) % L0.length : Nat) : Int) := by
              rw [Int.tmod_eq_emod_of_nonneg (by omega), Int.natCast_emod]
              rfl
            obtain ⟨hbl, c0⟩ := hs _ hj
            have hbr : b < wr.heap.size := Nat.lt_of_lt_of_le hbl hB.size
            rw [← (bcell hB).1 b _ hbl] at c0
            have hsz : L0[(i2 + kk) % L0.length].size ≤ 500 := hz _ (List.getElem_mem hj)
            have hx := HIn.out _ hj
            generalize (i2 + kk) % L0.length = j at *
            generalize L0[j] = s at *
            have hget := idx6_get s M hx
            have HA := tat_in hTb (idx6 s M) hx
            rw [hget] at HA
            have HA' : Hid _ := HA
            have HT : Hid _ := fun (W : World) (h : Tb W B (B + 1) B v M) => tintern_same h s (by omega) hx
            have hrun := hNu.look s (by omega) hx
            have hjlt : (j : Int) < L0.length := by omega
            have hlt2' : (i2 : Int) < L0.length := by omega
            have hikk : (i2 : Int) + kk ≤ 1000 := by omega
            have HRun : Hid _ := fun q : Nat => (hNu.drewN q).look s (by omega) hx
            clear HA hget
            generalize idx6 s M = n at *
            go_wp2_with fail
            refine Calls.mono HA'.out ?_
            rintro e w7 ⟨rfl, rfl⟩
            clear HA' hrun
            have hrun : ∀ q, (Instr.lookup 47 (.map (some gn)) (.string s) false).run Try.prog (w7.drewN q) = .ok (.int .i64 (n : Int)) (w7.drewN q) := HRun.out
            go_wp2_with fail
            go_quiet ((go_at_call 12; exact Calls.quiet_of_same (HT.out _ (hTb.drewN _))))
            go_wp2_with fail
            go_roundw
            case rel => exact ⟨i2 + 1, by go_num, by omega, hTb.drewN _, hNu.drewN _, bdrewN hB _⟩
            case measure => simp [intOf]; omega
          · have hlt2' : ¬ (i2 : Int) < L0.length := by omega
            go_wp2_with fail
            refine Calls.mono (HP2.out wr hTb) ?_
            rintro e w7 ⟨rfl, b7⟩
            have T7 := hTb.below b7
            obtain ⟨D, hD1, hD2, hD3⟩ := hNu.below b7
            have B7 := bjoin hB b7 hB.size
            clear b7 hTb hNu hB
            go_wp2_with fail
            refine (tlen_any T7).mono ?_
            rintro e w8 ⟨rfl, rfl⟩
            have hlen := hD1.len Try.underlying47 3
            rw [hD3] at hlen
            go_wp2_with fail
            go_ret
            exact ⟨by simp, B7⟩

set_option maxRecDepth 100000 in
theorem lifted (os : Os) (started : os.Started) (H : Type) (enc : TypeId × Value → H) :
    ReturnsInHanded {} Try.checked os 7 .any (Rows.strtabAgainSpec.pre6 enc Try.prog Try.f7 Rows.strtabAgainRow.domain false) (Rows.strtabAgainSpec.post enc Try.prog Try.f7 false true false false) := by
  refine returnsInHanded_of_change (C := Try.checked) own started (by kernel_rfl) Try.func7
    (ChangeSpec.witness6 (enc := enc) (C := Try.checked) false ⟨#[], #[.slice none 0 0, .int .i64 0], []⟩ 8 (by kernel_rfl) (by kernel_rfl) (by kernel_rfl) (by kernel_rfl)) ?_
  intro W base args ds gs before hval0 hW hcnd _
  have hval : ∀ (j : Nat) t v, Try.f7.params[j]? = some t → args[j]? = some v → Value.okWide Try.prog W .any base t v := hval0
  have hW' := hW
  obtain ⟨p, q, hA0, hV, rfl, hfz, hnd⟩ := hW
  have hA : DataW.TrodAll enc Try.prog W 0 (fun _ => true) true Try.f7.params.toList args.toList ds p := hA0
  rw [Try.params7] at hA hval
  obtain ⟨v0, vs0, d0, ds0, p0, q0, hargs, rfl, rfl, h0, r0⟩ := trodAll_cons hA
  obtain ⟨v1, vs1, d1, ds1, p1, q1, rfl, rfl, rfl, h1, r1⟩ := trodAll_cons r0
  obtain ⟨rfl, rfl, rfl⟩ := trodAll_nil r1
  obtain rfl : args = #[v0, v1] := by cases args; simp_all
  obtain ⟨rfl, rfl⟩ := trodVars_none hV
  obtain ⟨a0, len0, cap0, rfl⟩ := okWide_slice Try.underlying22 (hval 0 22 v0 rfl rfl)
  have k0 := h0
  have lt0 : ∀ x ∈ p0, x.block < W.heap.size := by obtain ⟨m, hm⟩ := k0; exact DataW.trod_lt m _ _ _ hm
  obtain ⟨L0, w0⟩ := open_texts Try.underlying22 Try.underlying9 (by kernel_rfl) h0
  obtain ⟨a1, rfl, rfl, rfl, w1⟩ := open_int Try.underlying3 (hval 1 3 v1 rfl rfl) h1
  clear hA0 hval0
  refine (walk a0 len0 cap0 L0 a1 W w0 w1).mono fun e W' ⟨he, bel⟩ => ?_
  subst he
  exact ⟨_, rfl, _, _, _, [], _, [], hW', trodAll_mk1 (shut_bool Try.underlying4 _), (trodAll_cons_mk (Below.trod laidOut (by kernel_rfl) (of_decide_eq_true (by kernel_rfl)) k0 bel lt0) (trodAll_cons_mk (shut_int Try.underlying3 w1) trodAll_mk0)), rfl, bel.frame _, fun h => by cases h⟩

theorem over : Rows.strtabAgainRow.holds Try.pinned (OpenSpec.ofChange Rows.strtabAgainSpec) :=
  OpenClaim.holds_of_wide 7 Try.f7 rfl rfl rfl rfl rfl rfl rfl ⟨rfl, rfl, rfl, rfl, rfl⟩ rfl rfl rfl rfl rfl (by kernel_rfl) Try.func7 (by kernel_rfl)
    (of_decide_eq_true (by kernel_rfl)) (by unfold Func.isWrapper; first | (rw [if_pos (by decide +kernel)]; kernel_rfl) | (rw [if_neg (by decide +kernel)]; exact ⟨rfl, rfl⟩))
    (fun os started H enc _ => lifted os started H enc)

end Go.Proofs.Ytfblmibdcodipaa.strtabAgain

namespace Go.Proofs.Ytfblmibdcodipaa
theorem strtabAgain_holds : Rows.StrtabAgainSaid := strtabAgain.over
#print axioms strtabAgain_holds
end Go.Proofs.Ytfblmibdcodipaa
