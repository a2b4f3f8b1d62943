/- For every slice l of strings and every int64 ask the law StrtabPuts returns true: in whatever order texts are interned, each has the number that the document says, and the table is what it says, and has the bytes that it says (more than 200 texts, and texts of more than 500 bytes, are let go by the law itself); no condition. -/
import Derived.Test.YtfblmibdcodipaaRows
import Derived.WalkKit
import Derived.ProofKit
import Derived.OpenShut
import Derived.ShutString
import Derived.Below
import Derived.Test.YtfblmibdcodipaaTInts
import Derived.Test.YtfblmibdcodipaaTxtIn
import Derived.ChangeOld
namespace Go.Proofs.Ytfblmibdcodipaa.strtabPuts
open Go.ChangeShapes Go.WideShapes Go.ChangeAt Go.RowKit
open Go.ChangeMaps (open_string shut_string)
set_option linter.unusedVariables false

theorem own : ownKnob Try.prog.godebug = none := by kernel_rfl
theorem laidOut : laidOutB Try.prog = true := by kernel_rfl

set_option maxRecDepth 10000 in
set_option maxHeartbeats 400000 in
theorem walk (a0 : Option Addr) (len0 cap0 : Nat) (L0 : List ByteArray) (a1 : Int) (w : World) (w0 : IsTexts w a0 len0 cap0 L0) (w1 : (Lit.int .i64 a1).wf = true) :
    Calls Try.prog 3 #[.slice a0 len0 cap0, .int .i64 a1] w fun e w' => e = .returned (.bool true) ∧ Below w.heap.size w w' := by
  obtain ⟨hlen, hcap, hmax, hnil, b, o, ha, hs⟩ := w0
  subst hlen
  have hmax' := hmax
  unfold maxLen at hmax'
  have HGr : Hid _ := fun (W : World) (hW : TextAt W b o L0) => great6_any a0 cap0 b o L0 W ha hW (by omega)
  by_cases hg : grt6 L0 = true
  · rw [hg] at HGr
    go_enter Try.func3, Try.ntmps3
    go_wp2_with fail
    refine (awake_any _).mono ?_
    rintro e w2 ⟨rfl, b2⟩
    go_wp2_with fail
    refine (HGr.out _ (hs.below b2)).mono ?_
    rintro e w3 ⟨rfl, rfl⟩
    go_wp2_with fail
    refine (awake_any _).mono ?_
    rintro e w4 ⟨rfl, b4⟩
    go_wp2_with fail
    go_ret
    exact ⟨rfl, bjoin b2 b4 b2.size⟩
  · have hg' : grt6 L0 = false := by simpa using hg
    rw [hg'] at HGr
    obtain ⟨hl, hz⟩ := grt6_no L0 hg'
    clear hg hg'
    go_enter Try.func3, Try.ntmps3
    go_wp2_with fail
    refine (awake_any _).mono ?_
    rintro e w2 ⟨rfl, B2⟩
    go_wp2_with fail
    refine (HGr.out _ (hs.below B2)).mono ?_
    rintro e w3 ⟨rfl, rfl⟩
    clear HGr
    go_wp2_with fail
    refine (tnew_any _).mono ?_
    rintro e w4 ⟨rfl, T4, b4⟩
    have B4 := bjoin B2 b4 B2.size
    have hw3 := B2.size
    have BS4 : Beside w4 none 0 (w3.heap.size + 2) 0 (w3.heap.size + 1) w3.heap.size (.slice none 0 0) [] := ⟨fun h => by simp at h, fun i hi => by simp at hi, Nat.le_refl _, fun _ => rfl, by rintro (h | h | h); omega; omega; simp [Value.ownBlock] at h⟩
    clear b4 B2
    generalize w3.heap.size = B at *
    go_wp2_with fail
    go_loopw [6, 24] (fun xv iv wr => ∃ (i : Nat) (a : Option Addr) (cap b o : Nat) (v : Value) (M : List ByteArray), xv = .slice a M.length cap ∧ iv = .int .i64 i ∧ i ≤ L0.length ∧ Tb wr B (B + 1) B v M ∧ Beside wr a cap b o (B + 1) B v M ∧ M.length ≤ i ∧ sum6 M ≤ 500 * i ∧ Below w.heap.size w wr) (fun _ iv _ => L0.length - (intOf iv).toNat)
    case atStart => exact ⟨0, none, 0, _, 0, _, [], rfl, rfl, by omega, T4, BS4, by simp, by simp [sum6], B4⟩
    case round =>
      clear T4 BS4 B4
      obtain ⟨i, a, cap, bm, om, v, M, rfl, rfl, hi, hTb, hBs, hMl, hMs, hB⟩ := hrel
      by_cases hlt : i < L0.length
      · obtain rfl := ha (by omega)
        obtain ⟨hbl, c0⟩ := hs i hlt
        have hbr : b < wr.heap.size := Nat.lt_of_lt_of_le hbl hB.size
        rw [← (bcell hB).1 b _ hbl] at c0
        have hsz : L0[i].size ≤ 500 := hz _ (List.getElem_mem hlt)
        generalize L0[i] = s at *
        have hpl := pIntern_len M s
        have HI : Hid _ := intern6_at a cap bm om M s wr hBs.addr hBs.text hBs.cap_le hBs.nil (by omega)
        have HT : Hid (∀ W, Below wr.heap.size wr W → Calls Try.prog 12 #[.pointer (some ⟨B + 1, 0, none⟩), .string s] W fun e w' => e = .returned (.int .i64 (idx6 s M : Nat)) ∧ TIn W w' B (B + 1) B v (pIntern M s)) := fun W hW => tintern_any (hTb.below hW) s (by omega) (by omega) (by omega)
        obtain ⟨n, hn⟩ : ∃ n, n = idx6 s M := ⟨_, rfl⟩
        rw [← hn] at HI
        rw [← hn] at HT
        clear hn
        generalize pIntern M s = M' at *
        go_wp2_with fail
        refine Calls.mono HI.out ?_
        rintro e w5 ⟨a', cap', b', o', rfl, h1, h2, h3, h4, h5, b5⟩
        have B5 := bjoin hB b5 hB.size
        obtain rfl := h1 hpl.2.1
        clear h1
        go_wp2_with fail
        refine (HT.out w5 b5).mono ?_
        rintro e w6 ⟨rfl, v', T6, F6, hn6⟩
        have Bs6 := hBs.step hTb b5 (fun _ => rfl) h2 h3 h4 h5 hpl.2.1 F6 hn6
        have B6 := Fr.below B5 F6 (fun k hk => Nat.le_trans hw3 (hTb.ge k hk)) B5.size
        clear HI HT hBs hTb b5 h2 h3 h4 h5 F6 hn6 B5 hB
        go_wp2_with fail
        go_roundw
        case rel => exact ⟨i + 1, _, cap', b', o', v', M', rfl, by go_num, by omega, T6, Bs6, by omega, by omega, B6⟩
        case measure => simp [intOf]; omega
      · have hMb : M.length ≤ 200 := by omega
        have hMs' : sum6 M ≤ 100000 := by omega
        have hBt := hBs.text
        have HBa : Hid _ := hBs.addr
        clear hBs hMl hMs
        rcases (show (∃ n : Nat, a1 = n ∧ n < M.length) ∨ a1 < 0 ∨ (0 ≤ a1 ∧ (M.length : Int) ≤ a1) by
          by_cases q : a1 < 0
          · exact .inr (.inl q)
          · by_cases q2 : a1 < M.length
            · exact .inl ⟨a1.toNat, by omega, by omega⟩
            · exact .inr (.inr ⟨by omega, by omega⟩)) with ⟨n, rfl, hn⟩ | h1 | ⟨h1, h2⟩
        obtain rfl := HBa.out (by omega)
        obtain ⟨hlt2, c2⟩ := hBt n hn
        have HA : Hid _ := tat_in hTb n hn
        have hn' : (n : Int) < M.length := by omega
        generalize M[n] = s at *
        go_wp2_with fail
        refine Calls.mono HA.out ?_
        rintro e w5 ⟨rfl, rfl⟩
        clear HA
        go_wp2_with fail
        clear c2 hlt2 hn' hn
        rotate_left
        have HA : Hid _ := tat_out hTb a1 (.inl h1)
        go_wp2_with fail
        refine Calls.mono HA.out ?_
        rintro e w5 ⟨rfl, rfl⟩
        clear HA
        go_wp2_with fail
        clear h1
        rotate_left
        have HA : Hid _ := tat_out hTb a1 (.inr h2)
        go_wp2_with fail
        refine Calls.mono HA.out ?_
        rintro e w5 ⟨rfl, rfl⟩
        clear HA
        go_wp2_with fail
        clear h1 h2
        rotate_left
        all_goals
          refine (tlen_any hTb).mono ?_
          rintro e w6 ⟨rfl, rfl⟩
          go_wp2_with fail
          refine (tbytes_any hTb).mono ?_
          rintro e w7 ⟨rfl, rfl⟩
          go_wp2_with fail
          refine (bytes6_any _ cap bm om M w7 (by first | exact HBa.out | exact fun _ => rfl) hBt (by omega) (by omega)).mono ?_
          rintro e w8 ⟨rfl, rfl⟩
          go_wp2_with fail
          refine (all_any hTb (by omega)).mono ?_
          rintro e w9 ⟨a', cap', b', rfl, ha', hL', -, b9⟩
          have T9 := hTb.below b9
          have hL9 := hBt.below b9
          have B9 := bjoin hB b9 hB.size
          clear b9 hTb hBt hB
          go_wp2_with fail
          refine (same6_any a' _ M.length M.length cap' cap b' 0 bm om M M w9 rfl rfl ha' (by first | exact HBa.out | exact fun _ => rfl) hL' hL9 (by omega) (by omega)).mono ?_
          rintro e w10 ⟨rfl, b10⟩
          have T10 := T9.below b10
          have hL10 := hL9.below b10
          have B10 := bjoin B9 b10 B9.size
          clear b10 B9 T9 hL9 hL'
          rw [decide_eq_true rfl]
          go_wp2_with fail
          refine (tput_any T10 (by omega) (by omega)).mono ?_
          rintro e w11 ⟨rfl, b11⟩
          have hL11 := hL10.below b11
          have B11 := bjoin B10 b11 B10.size
          clear b11 B10 T10 hL10
          go_wp2_with fail
          refine (rput6_any _ cap bm om M w11 (by first | exact HBa.out | exact fun _ => rfl) hL11 (by omega) (by omega)).mono ?_
          rintro e w12 ⟨rfl, b12⟩
          go_wp2_with fail
          go_ret
          exact ⟨by simp, bjoin B11 b12 B11.size⟩

set_option maxRecDepth 100000 in
theorem lifted (os : Os) (started : os.Started) (H : Type) (enc : TypeId × Value → H) :
    ReturnsInHanded {} Try.checked os 3 .any (Rows.strtabPutsSpec.pre6 enc Try.prog Try.f3 Rows.strtabPutsRow.domain false) (Rows.strtabPutsSpec.post enc Try.prog Try.f3 false true false false) := by
  refine returnsInHanded_of_change (C := Try.checked) own started (by kernel_rfl) Try.func3
    (ChangeSpec.witness6 (enc := enc) (C := Try.checked) false ⟨#[], #[.slice none 0 0, .int .i64 0], []⟩ 8 (by kernel_rfl) (by kernel_rfl) (by kernel_rfl) (by kernel_rfl)) ?_
  intro W base args ds gs before hval0 hW hcnd _
  have hval : ∀ (j : Nat) t v, Try.f3.params[j]? = some t → args[j]? = some v → Value.okWide Try.prog W .any base t v := hval0
  have hW' := hW
  obtain ⟨p, q, hA0, hV, rfl, hfz, hnd⟩ := hW
  have hA : DataW.TrodAll enc Try.prog W 0 (fun _ => true) true Try.f3.params.toList args.toList ds p := hA0
  rw [Try.params3] at hA hval
  obtain ⟨v0, vs0, d0, ds0, p0, q0, hargs, rfl, rfl, h0, r0⟩ := trodAll_cons hA
  obtain ⟨v1, vs1, d1, ds1, p1, q1, rfl, rfl, rfl, h1, r1⟩ := trodAll_cons r0
  obtain ⟨rfl, rfl, rfl⟩ := trodAll_nil r1
  obtain rfl : args = #[v0, v1] := by cases args; simp_all
  obtain ⟨rfl, rfl⟩ := trodVars_none hV
  obtain ⟨a0, len0, cap0, rfl⟩ := okWide_slice Try.underlying22 (hval 0 22 v0 rfl rfl)
  have k0 := h0
  have lt0 : ∀ x ∈ p0, x.block < W.heap.size := by obtain ⟨m, hm⟩ := k0; exact DataW.trod_lt m _ _ _ hm
  obtain ⟨L0, w0⟩ := open_texts Try.underlying22 Try.underlying9 (by kernel_rfl) h0
  obtain ⟨a1, rfl, rfl, rfl, w1⟩ := open_int Try.underlying3 (hval 1 3 v1 rfl rfl) h1
  clear hA0 hval0
  refine (walk a0 len0 cap0 L0 a1 W w0 w1).mono fun e W' ⟨he, bel⟩ => ?_
  subst he
  exact ⟨_, rfl, _, _, _, [], _, [], hW', trodAll_mk1 (shut_bool Try.underlying4 _), (trodAll_cons_mk (Below.trod laidOut (by kernel_rfl) (of_decide_eq_true (by kernel_rfl)) k0 bel lt0) (trodAll_cons_mk (shut_int Try.underlying3 w1) trodAll_mk0)), rfl, bel.frame _, fun h => by cases h⟩

theorem over : Rows.strtabPutsRow.holds Try.pinned (OpenSpec.ofChange Rows.strtabPutsSpec) :=
  OpenClaim.holds_of_wide 3 Try.f3 rfl rfl rfl rfl rfl rfl rfl ⟨rfl, rfl, rfl, rfl, rfl⟩ rfl rfl rfl rfl rfl (by kernel_rfl) Try.func3 (by kernel_rfl)
    (of_decide_eq_true (by kernel_rfl)) (by unfold Func.isWrapper; first | (rw [if_pos (by decide +kernel)]; kernel_rfl) | (rw [if_neg (by decide +kernel)]; exact ⟨rfl, rfl⟩))
    (fun os started H enc _ => lifted os started H enc)

end Go.Proofs.Ytfblmibdcodipaa.strtabPuts

namespace Go.Proofs.Ytfblmibdcodipaa
theorem strtabPuts_holds : Rows.StrtabPutsSaid := strtabPuts.over
#print axioms strtabPuts_holds
end Go.Proofs.Ytfblmibdcodipaa
