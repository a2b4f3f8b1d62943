/- For every list of sections l and every int64 n the law FrameCut returns true: cut off anywhere, a file is told to be wrong, or has fewer sections, all of them as they were (more than 20 sections, and payloads of more than 1000 bytes, are let go by the law itself); no condition. -/
import Derived.Test.YtipljconbnaffaaRows
import Derived.WalkKit
import Derived.ProofKit
import Derived.OpenShut
import Derived.ShutString
import Derived.Below
import Derived.Test.YtipljconbnaffaaAwake04
import Derived.Test.YtipljconbnaffaaSecsIn
import Derived.Test.YtipljconbnaffaaFMath2
import Derived.ChangeOld
namespace Go.Proofs.Ytipljconbnaffaa.frameCut
open Go.ChangeShapes Go.WideShapes Go.ChangeAt Go.RowKit
open Go.ChangeMaps (open_string shut_string)
set_option linter.unusedVariables false

theorem own : ownKnob Try.prog.godebug = none := by kernel_rfl
theorem laidOut : laidOutB Try.prog = true := by kernel_rfl

set_option maxRecDepth 10000 in
set_option maxHeartbeats 400000 in
theorem walk (a0 : Option Addr) (len0 cap0 : Nat) (L0 : List Sec) (a1 : Int) (w : World) (w0 : IsSecs w a0 len0 cap0 L0) (w1 : (Lit.int .i64 a1).wf = true) :
    Calls Try.prog 8 #[.slice a0 len0 cap0, .int .i64 a1] w fun e w' => e = .returned (.bool true) ∧ Below w.heap.size w w' := by
  obtain ⟨hlen, hcap, hmax, hnil, b, o, ha, hs⟩ := w0
  subst hlen
  have hmax' := hmax
  unfold maxLen at hmax'
  have HGr : Hid _ := fun (W : World) (hW : SecAt W b o L0) => great_any a0 L0.length cap0 b o L0 W rfl ha hW (by omega)
  by_cases hg : grt L0 = true
  · rw [hg] at HGr
    go_enter Try.func8, Try.ntmps8
    go_wp2_with fail
    refine (awake_any _).mono ?_
    rintro e w2 ⟨rfl, b2⟩
    go_wp2_with fail
    refine (HGr.out _ (hs.below b2)).mono ?_
    rintro e w3 ⟨rfl, b3⟩
    have B3 := b2.trans (b3.mono b2.size)
    go_wp2_with fail
    refine (awake_any _).mono ?_
    rintro e w4 ⟨rfl, b4⟩
    go_wp2_with fail
    go_ret
    exact ⟨rfl, B3.trans (b4.mono B3.size)⟩
  · have hg' : grt L0 = false := by simpa using hg
    rw [hg'] at HGr
    obtain ⟨h20, h1000⟩ := grt_no L0 hg'
    clear hg hg'
    have HP : Hid (∀ (W : World) (ao : Option Addr) (cap gk : Nat), (0 < L0.length → ao = some ⟨gk, 0, none⟩) → SecAt W gk 0 L0 → Calls Try.prog 11 #[.string ⟨#[68, 73, 79, 82]⟩, .int .i64 2, .slice ao L0.length cap] W fun e w' => e = .returned (.tuple #[.string ⟨(pPut ⟨#[68, 73, 79, 82]⟩ 2 L0).1.toArray⟩, .int .i64 (pPut ⟨#[68, 73, 79, 82]⟩ 2 L0).2]) ∧ Below W.heap.size W w') := fun W ao cap gk h1 h2 => fput_any _ 2 ao cap gk 0 L0 W h20 h1 h2 (fun s hs => Nat.le_trans (h1000 s hs) (by decide))
    have hM := fun n => cut_math ⟨#[68, 73, 79, 82]⟩ 2 L0 n
    have hZ := pPut_length ⟨#[68, 73, 79, 82]⟩ 2 L0 1000 h1000
    generalize pPut ⟨#[68, 73, 79, 82]⟩ 2 L0 = R at *
    obtain ⟨bs, E⟩ := R
    dsimp only at hM hZ HP
    have hd : (ByteArray.mk bs.toArray).data.toList = bs := rfl
    have hzs : (ByteArray.mk bs.toArray).size = bs.length := by rw [← list_size, hd]
    generalize ByteArray.mk bs.toArray = X at *
    have hXs : X.size ≤ 100000 := by omega
    have hE : (E = 0 ∧ ∃ n : Nat, a1 = (n : Int) ∧ n < X.size ∧ ((∃ M : List Sec, M.length < L0.length ∧ Hid (M = L0.take M.length) ∧ ∃ V : Nat, Hid (∀ W, Calls Try.prog 13 #[.string ⟨#[68, 73, 79, 82]⟩, .string (X.extract 0 n)] W fun e w' => FGot W w' e (0, V, M))) ∨ (∃ E' : Nat, (E' = 2 ∨ E' = 6) ∧ Hid (∀ W, Calls Try.prog 13 #[.string ⟨#[68, 73, 79, 82]⟩, .string (X.extract 0 n)] W fun e w' => FGot W w' e (E', 0, []))))) ∨
        ((E != 0) = true) ∨ (E = 0 ∧ a1 < 0) ∨ (E = 0 ∧ ¬ a1 < 0 ∧ (X.size : Int) ≤ a1) := by
      by_cases h : E = 0
      · by_cases hn0 : a1 < 0
        · exact .inr (.inr (.inl ⟨h, hn0⟩))
        by_cases hn1 : (X.size : Int) ≤ a1
        · exact .inr (.inr (.inr ⟨h, hn0, hn1⟩))
        obtain ⟨n, rfl⟩ := Int.eq_ofNat_of_zero_le (show 0 ≤ a1 by omega)
        obtain ⟨m1, m2⟩ := hM n h (by omega)
        have hG := fun W => fget_any ⟨#[68, 73, 79, 82]⟩ (X.extract 0 n) W (by rw [ByteArray.size_extract]; omega)
        have hdX : (X.extract 0 n).data.toList = bs.take n := by rw [Lib.extract_data, hd]; simp
        rw [hdX] at hG
        have hB := pGet_bad (ByteArray.mk #[68, 73, 79, 82]).data.toList (bs.take n)
        generalize pGet (ByteArray.mk #[68, 73, 79, 82]).data.toList (bs.take n) = q at *
        obtain ⟨E', V, M⟩ := q
        dsimp only at m1 m2 hB
        refine .inl ⟨h, n, rfl, by omega, ?_⟩
        by_cases hq : E' = 0
        · subst hq
          obtain ⟨j1, j2⟩ := m2 rfl
          exact .inl ⟨M, j1, j2, V, hG⟩
        · have hb := hB hq
          simp only [Prod.mk.injEq] at hb
          obtain ⟨rfl, rfl⟩ := hb
          exact .inr ⟨E', m1 hq, hG⟩
      · exact .inr (.inl (by simpa using h))
    clear hM hZ hd hzs
    obtain ⟨i0, hi, hz0, hz1, hz2⟩ := info_parts Try.infoS
    rcases a0 with _ | y
    · obtain ⟨hl0, rfl⟩ := hnil rfl
      obtain rfl := List.length_eq_zero_iff.1 hl0
      go_enter Try.func8, Try.ntmps8
      go_wp2_with fail
      refine (awake_any _).mono ?_
      rintro e w2 ⟨rfl, b2⟩
      go_wp2_with fail
      refine (HGr.out _ (hs.below b2)).mono ?_
      rintro e w3 ⟨rfl, b3⟩
      have B3 := b2.trans (b3.mono b2.size)
      have hs3 := (hs.below b2).below b3
      clear b2 b3 HGr
      have B4 : Below w.heap.size w (w3.alloc (.cells #[] 41)) := B3.alloc B3.size _
      have hs4 : SecAt (w3.alloc (.cells #[] 41)) b o [] := hs3.below ((Below.refl _ _).alloc (Nat.le_refl _) _)
      go_wp2_with fail
      refine (HP.out _ _ _ 0 (fun h => by simp at h) (fun i hi => by simp at hi)).mono ?_
      rintro e w5 ⟨rfl, b5⟩
      have B5 := B4.trans (b5.mono B4.size)
      have hs5 := hs4.below b5
      clear B3 B4 hs3 hs4 b5 HP
      rcases hE with ⟨rfl, n, rfl, hn, ⟨M, hMl, _⟩ | ⟨E', hE', HG⟩⟩ | hE1 | ⟨rfl, hE1⟩ | ⟨rfl, hE1, hE2⟩
      · simp at hMl
      · have hn' : (n : Int) < X.size := by omega
        rcases hE' with rfl | rfl
        all_goals
          go_wp2_with fail
          refine (HG.out _).mono ?_
          rintro e w6 ⟨a6, cap6, gk6, rfl, _, _, b6⟩
          have B6 := B5.trans (b6.mono B5.size)
          dsimp only at *
          go_wp2_with fail
          go_ret
          exact ⟨rfl, B6⟩
      all_goals
        go_wp2_with fail
        go_ret
        exact ⟨rfl, B5⟩
    · have HN := fun (W : World) (hW : SecAt W b o L0) => news_in (y := y) hW ha
      have HN' : Hid _ := HN
      clear HN
      go_enter Try.func8, Try.ntmps8
      go_wp2_with fail
      refine (awake_any _).mono ?_
      rintro e w2 ⟨rfl, b2⟩
      go_wp2_with fail
      refine (HGr.out _ (hs.below b2)).mono ?_
      rintro e w3 ⟨rfl, b3⟩
      have B3 := b2.trans (b3.mono b2.size)
      have hs3 := (hs.below b2).below b3
      clear b2 b3 HGr
      have B4 : Below w.heap.size w (w3.alloc (.cells #[] 41)) := B3.alloc B3.size _
      have hs4 : SecAt (w3.alloc (.cells #[] 41)) b o L0 := hs3.below ((Below.refl _ _).alloc (Nat.le_refl _) _)
      have ho4 := own_empty w3
      have hB3 := B3.size
      go_wp2_with (at_builtin; refine wpList_append_own _ rfl _ _ 22 rfl w3.heap.size 41 i0 (.agg #[.int .i64 0, .string ⟨#[]⟩]) 2 24 Try.underlying22 hi hz0 hz1 hz2 rfl (by decide) _ _ _ rfl ho4 y L0.length cap0 (sV L0) rfl (sV_length L0) (HN'.out _ hs4) (sV_oneCell L0) ?c3 ?c4 ?c5 ?_)
      case c3 => unfold maxLen; omega
      case c4 => omega
      case c5 => simp
      intro v4 w4 hown4 hgrow4 _
      obtain ⟨ao, cap4, rfl⟩ := own_shape hown4
      obtain ⟨gk, hao, hsec⟩ := own_secs hown4 rfl
      have B4' : Below w.heap.size w w4 := B4.grown hgrow4 (by simp; omega) (fun k hk => Nat.le_trans hB3 (ho4.lt k hk).1)
      have hs4' : SecAt w4 b o L0 := fun i hi => by
        obtain ⟨q1, q2, q3⟩ := hs3 i hi
        have hk : w4.heap[b]? = w3.heap[b]? := by
          rw [hgrow4.block b (by simp; omega) (by simp [Value.ownBlock]; omega)]
          exact Lib.alloc_old w3 _ b q1
        exact ⟨by have := hgrow4.size; simp at this; omega, by rw [World.cell?_of_block hk]; exact q2, by rw [World.cell?_of_block hk]; exact q3⟩
      clear B3 B4 hs3 hs4 ho4 hown4 hgrow4
      go_wp2_with fail
      refine (HP.out _ _ _ gk hao hsec).mono ?_
      rintro e w5 ⟨rfl, b5⟩
      have B5 := B4'.trans (b5.mono B4'.size)
      have hs5 := hs4'.below b5
      clear B4' hs4' b5 HP hsec hao
      rcases hE with ⟨rfl, n, rfl, hn, ⟨M, hMl, HM, V, HG⟩ | ⟨E', hE', HG⟩⟩ | hE1 | ⟨rfl, hE1⟩ | ⟨rfl, hE1, hE2⟩
      · have hn' : (n : Int) < X.size := by omega
        have hMl' : (M.length : Int) < L0.length := by omega
        have hMc : (M.length : Int) ≤ cap0 := by omega
        go_wp2_with fail
        refine (HG.out _).mono ?_
        rintro e w6 ⟨a6, cap6, gk6, rfl, ha6, hs6, b6⟩
        have B6 := B5.trans (b6.mono B5.size)
        have hs7 := hs5.below b6
        have hs8 : SecAt w6 b o M := fun i hi => by
          have h1 := HM.out
          obtain ⟨q1, q2, q3⟩ := hs7 i (by dsimp only at *; omega)
          have e : M[i] = L0[i] := by
            have h2 : M[i]? = (L0.take M.length)[i]? := by rw [← h1]
            rw [List.getElem?_take, if_pos (by dsimp only at *; omega), List.getElem?_eq_getElem hi, List.getElem?_eq_getElem (by dsimp only at *; omega)] at h2
            exact Option.some.inj h2
          rw [e]
          exact ⟨q1, q2, q3⟩
        clear B5 b6 hs5 HG hs7 HM
        dsimp only at *
        go_wp2_with fail
        refine (same_any a6 (some y) _ _ cap6 _ gk6 0 b o M M _ rfl rfl ha6 (fun h => ha (by omega)) hs6 hs8 (by omega) (by omega)).mono ?_
        rintro e w8 ⟨rfl, b8⟩
        have B8 := B6.trans (b8.mono B6.size)
        rw [decide_eq_true rfl]
        go_wp2_with fail
        go_ret
        exact ⟨rfl, B8⟩
      · have hn' : (n : Int) < X.size := by omega
        rcases hE' with rfl | rfl
        all_goals
          go_wp2_with fail
          refine (HG.out _).mono ?_
          rintro e w6 ⟨a6, cap6, gk6, rfl, _, _, b6⟩
          have B6 := B5.trans (b6.mono B5.size)
          dsimp only at *
          go_wp2_with fail
          go_ret
          exact ⟨rfl, B6⟩
      all_goals
        go_wp2_with fail
        go_ret
        exact ⟨rfl, B5⟩

set_option maxRecDepth 100000 in
theorem lifted (os : Os) (started : os.Started) (H : Type) (enc : TypeId × Value → H) :
    ReturnsInHanded {} Try.checked os 8 .any (Rows.frameCutSpec.pre6 enc Try.prog Try.f8 Rows.frameCutRow.domain false) (Rows.frameCutSpec.post enc Try.prog Try.f8 false true false false) := by
  refine returnsInHanded_of_change (C := Try.checked) own started (by kernel_rfl) Try.func8
    (ChangeSpec.witness6 (enc := enc) (C := Try.checked) false ⟨#[], #[.slice none 0 0, .int .i64 0], []⟩ 8 (by kernel_rfl) (by kernel_rfl) (by kernel_rfl) (by kernel_rfl)) ?_
  intro W base args ds gs before hval0 hW hcnd _
  have hval : ∀ (j : Nat) t v, Try.f8.params[j]? = some t → args[j]? = some v → Value.okWide Try.prog W .any base t v := hval0
  have hW' := hW
  obtain ⟨p, q, hA0, hV, rfl, hfz, hnd⟩ := hW
  have hA : DataW.TrodAll enc Try.prog W 0 (fun _ => true) true Try.f8.params.toList args.toList ds p := hA0
  rw [Try.params8] at hA hval
  obtain ⟨v0, vs0, d0, ds0, p0, q0, hargs, rfl, rfl, h0, r0⟩ := trodAll_cons hA
  obtain ⟨v1, vs1, d1, ds1, p1, q1, rfl, rfl, rfl, h1, r1⟩ := trodAll_cons r0
  obtain ⟨rfl, rfl, rfl⟩ := trodAll_nil r1
  obtain rfl : args = #[v0, v1] := by cases args; simp_all
  obtain ⟨rfl, rfl⟩ := trodVars_none hV
  obtain ⟨a0, len0, cap0, rfl⟩ := okWide_slice Try.underlying22 (hval 0 22 v0 rfl rfl)
  have k0 := h0
  have lt0 : ∀ x ∈ p0, x.block < W.heap.size := by obtain ⟨m, hm⟩ := k0; exact DataW.trod_lt m _ _ _ hm
  obtain ⟨L0, w0⟩ := open_secs Try.underlying22 Try.underlying41 (by kernel_rfl) rfl rfl (by kernel_rfl) (by kernel_rfl) Try.underlying3 Try.underlying9 h0
  obtain ⟨a1, rfl, rfl, rfl, w1⟩ := open_int Try.underlying3 (hval 1 3 v1 rfl rfl) h1
  clear hA0 hval0
  refine (walk a0 len0 cap0 L0 a1 W w0 w1).mono fun e W' ⟨he, bel⟩ => ?_
  subst he
  exact ⟨_, rfl, _, _, _, [], _, [], hW', trodAll_mk1 (shut_bool Try.underlying4 _), (trodAll_cons_mk (Below.trod laidOut (by kernel_rfl) (of_decide_eq_true (by kernel_rfl)) k0 bel lt0) (trodAll_cons_mk (shut_int Try.underlying3 w1) trodAll_mk0)), rfl, bel.frame _, fun h => by cases h⟩

theorem over : Rows.frameCutRow.holds Try.pinned (OpenSpec.ofChange Rows.frameCutSpec) :=
  OpenClaim.holds_of_wide 8 Try.f8 rfl rfl rfl rfl rfl rfl rfl ⟨rfl, rfl, rfl, rfl, rfl⟩ rfl rfl rfl rfl rfl (by kernel_rfl) Try.func8 (by kernel_rfl)
    (of_decide_eq_true (by kernel_rfl)) (by unfold Func.isWrapper; first | (rw [if_pos (by decide +kernel)]; kernel_rfl) | (rw [if_neg (by decide +kernel)]; exact ⟨rfl, rfl⟩))
    (fun os started H enc _ => lifted os started H enc)

end Go.Proofs.Ytipljconbnaffaa.frameCut

namespace Go.Proofs.Ytipljconbnaffaa
theorem frameCut_holds : Rows.FrameCutSaid := frameCut.over
#print axioms frameCut_holds
end Go.Proofs.Ytipljconbnaffaa
