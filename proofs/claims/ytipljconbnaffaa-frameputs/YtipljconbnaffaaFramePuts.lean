/- For every magic word, every int64 version and every list of sections l the law FramePuts returns true: the sections have the bytes that the document says, or none, for the reason that it says (more than 20 sections, payloads of more than 1000 bytes, and magic words of more than 100, are let go by the law itself); no condition. -/
import Derived.Test.YtipljconbnaffaaRows
import Derived.WalkKit
import Derived.ProofKit
import Derived.OpenShut
import Derived.ShutString
import Derived.Below
import Derived.Test.YtipljconbnaffaaAwake04
import Derived.Test.YtipljconbnaffaaSecsIn
import Derived.Test.YtipljconbnaffaaFMore
import Derived.Test.YtipljconbnaffaaRPut
import Derived.ChangeOld
namespace Go.Proofs.Ytipljconbnaffaa.framePuts
open Go.ChangeShapes Go.WideShapes Go.ChangeAt Go.RowKit
open Go.ChangeMaps (open_string shut_string)
set_option linter.unusedVariables false

theorem own : ownKnob Try.prog.godebug = none := by kernel_rfl
theorem laidOut : laidOutB Try.prog = true := by kernel_rfl

set_option maxRecDepth 10000 in
set_option maxHeartbeats 400000 in
theorem walk (a0 : ByteArray) (a1 : Int) (a2 : Option Addr) (len2 cap2 : Nat) (L2 : List Sec) (w : World) (w0 : a0.size ≤ maxLen) (w1 : (Lit.int .i64 a1).wf = true) (w2 : IsSecs w a2 len2 cap2 L2) :
    Calls Try.prog 3 #[.string a0, .int .i64 a1, .slice a2 len2 cap2] w fun e w' => e = .returned (.bool true) ∧ Below w.heap.size w w' := by
  obtain ⟨hlen, hcap, hmax, hnil, b, o, ha, hs⟩ := w2
  have w0' := w0
  unfold maxLen at w0'
  subst hlen
  have hmax' := hmax
  unfold maxLen at hmax'
  have HGr : Hid _ := fun (W : World) (hW : SecAt W b o L2) => great_any a2 L2.length cap2 b o L2 W rfl ha hW (by omega)
  by_cases hg : grt L2 = true
  · rw [hg] at HGr
    go_enter Try.func3, Try.ntmps3
    go_wp2_with fail
    refine (awake_any _).mono ?_
    rintro e w2 ⟨rfl, b2⟩
    go_wp2_with fail
    refine (HGr.out _ (hs.below b2)).mono ?_
    rintro e w3 ⟨rfl, b3⟩
    have B3 := b2.trans (b3.mono b2.size)
    go_wp2_with fail
    refine (awake_any _).mono ?_
    rintro e w4 ⟨rfl, b4⟩
    go_wp2_with fail
    go_ret
    exact ⟨rfl, B3.trans (b4.mono B3.size)⟩
  · have hg' : grt L2 = false := by simpa using hg
    rw [hg'] at HGr
    obtain ⟨h20, h1000⟩ := grt_no L2 hg'
    clear hg hg'
    have HP : Hid (∀ (W : World) (ao : Option Addr) (cap gk : Nat), (0 < L2.length → ao = some ⟨gk, 0, none⟩) → SecAt W gk 0 L2 → Calls Try.prog 11 #[.string a0, .int .i64 a1, .slice ao L2.length cap] W fun e w' => e = .returned (.tuple #[.string ⟨(pPut a0 a1 L2).1.toArray⟩, .int .i64 (pPut a0 a1 L2).2]) ∧ Below W.heap.size W w') := fun W ao cap gk h1 h2 => fput_any _ a1 ao cap gk 0 L2 W h20 h1 h2 (fun s hs => Nat.le_trans (h1000 s hs) (by decide))
    have HRf : Hid _ := fun (W : World) (hW : SecAt W b o L2) => rput_any a0 a1 a2 cap2 b o L2 W ha hW (fun s hs => Nat.le_trans (h1000 s hs) (by decide))
    generalize pPut a0 a1 L2 = R at *
    obtain ⟨bs, E⟩ := R
    dsimp only at HP HRf
    generalize ByteArray.mk bs.toArray = X at *
    by_cases hm100 : 100 < a0.size
    · have hm' : (100 : Int) < a0.size := by omega
      go_enter Try.func3, Try.ntmps3
      go_wp2_with fail
      refine (awake_any _).mono ?_
      rintro e w2 ⟨rfl, b2⟩
      go_wp2_with fail
      refine (HGr.out _ (hs.below b2)).mono ?_
      rintro e w3 ⟨rfl, b3⟩
      have B3 := b2.trans (b3.mono b2.size)
      go_wp2_with fail
      refine (awake_any _).mono ?_
      rintro e w4 ⟨rfl, b4⟩
      go_wp2_with fail
      go_ret
      exact ⟨rfl, B3.trans (b4.mono B3.size)⟩
    have hm' : ¬ (100 : Int) < a0.size := by omega
    obtain ⟨i0, hi, hz0, hz1, hz2⟩ := info_parts Try.infoS
    rcases a2 with _ | y
    · obtain ⟨hl0, rfl⟩ := hnil rfl
      obtain rfl := List.length_eq_zero_iff.1 hl0
      go_enter Try.func3, Try.ntmps3
      go_wp2_with fail
      refine (awake_any _).mono ?_
      rintro e w2 ⟨rfl, b2⟩
      go_wp2_with fail
      refine (HGr.out _ (hs.below b2)).mono ?_
      rintro e w3 ⟨rfl, b3⟩
      have B3 := b2.trans (b3.mono b2.size)
      have hs3 := (hs.below b2).below b3
      clear b2 b3 HGr
      have B4 : Below w.heap.size w (w3.alloc (.cells #[] 41)) := B3.alloc B3.size _
      have hs4 : SecAt (w3.alloc (.cells #[] 41)) b o [] := hs3.below ((Below.refl _ _).alloc (Nat.le_refl _) _)
      go_wp2_with fail
      refine (HP.out _ _ _ 0 (fun h => by simp at h) (fun i hi => by simp at hi)).mono ?_
      rintro e w5 ⟨rfl, b5⟩
      have B5 := B4.trans (b5.mono B4.size)
      have hs5 := hs4.below b5
      clear B3 B4 hs3 hs4 b5 HP
      go_wp2_with fail
      refine (HRf.out _ hs5).mono ?_
      rintro e w6 ⟨rfl, b6⟩
      have B6 := B5.trans (b6.mono B5.size)
      go_wp2_with fail
      go_ret
      exact ⟨by simp, B6⟩
    · have HN := fun (W : World) (hW : SecAt W b o L2) => news_in (y := y) hW ha
      have HN' : Hid _ := HN
      clear HN
      go_enter Try.func3, Try.ntmps3
      go_wp2_with fail
      refine (awake_any _).mono ?_
      rintro e w2 ⟨rfl, b2⟩
      go_wp2_with fail
      refine (HGr.out _ (hs.below b2)).mono ?_
      rintro e w3 ⟨rfl, b3⟩
      have B3 := b2.trans (b3.mono b2.size)
      have hs3 := (hs.below b2).below b3
      clear b2 b3 HGr
      have B4 : Below w.heap.size w (w3.alloc (.cells #[] 41)) := B3.alloc B3.size _
      have hs4 : SecAt (w3.alloc (.cells #[] 41)) b o L2 := hs3.below ((Below.refl _ _).alloc (Nat.le_refl _) _)
      have ho4 := own_empty w3
      have hB3 := B3.size
      go_wp2_with (at_builtin; refine wpList_append_own _ rfl _ _ 22 rfl w3.heap.size 41 i0 (.agg #[.int .i64 0, .string ⟨#[]⟩]) 2 24 Try.underlying22 hi hz0 hz1 hz2 rfl (by decide) _ _ _ rfl ho4 y L2.length cap2 (sV L2) rfl (sV_length L2) (HN'.out _ hs4) (sV_oneCell L2) ?c3 ?c4 ?c5 ?_)
      case c3 => unfold maxLen; omega
      case c4 => omega
      case c5 => simp
      intro v4 w4 hown4 hgrow4 _
      obtain ⟨ao, cap4, rfl⟩ := own_shape hown4
      obtain ⟨gk, hao, hsec⟩ := own_secs hown4 rfl
      have B4' : Below w.heap.size w w4 := B4.grown hgrow4 (by simp; omega) (fun k hk => Nat.le_trans hB3 (ho4.lt k hk).1)
      have hs4' : SecAt w4 b o L2 := fun i hi => by
        obtain ⟨q1, q2, q3⟩ := hs3 i hi
        have hk : w4.heap[b]? = w3.heap[b]? := by
          rw [hgrow4.block b (by simp; omega) (by simp [Value.ownBlock]; omega)]
          exact Lib.alloc_old w3 _ b q1
        exact ⟨by have := hgrow4.size; simp at this; omega, by rw [World.cell?_of_block hk]; exact q2, by rw [World.cell?_of_block hk]; exact q3⟩
      clear B3 B4 hs3 hs4 ho4 hown4 hgrow4
      go_wp2_with fail
      refine (HP.out _ _ _ gk hao hsec).mono ?_
      rintro e w5 ⟨rfl, b5⟩
      have B5 := B4'.trans (b5.mono B4'.size)
      have hs5 := hs4'.below b5
      clear B4' hs4' b5 HP hsec hao
      go_wp2_with fail
      refine (HRf.out _ hs5).mono ?_
      rintro e w6 ⟨rfl, b6⟩
      have B6 := B5.trans (b6.mono B5.size)
      go_wp2_with fail
      go_ret
      exact ⟨by simp, B6⟩

set_option maxRecDepth 100000 in
theorem lifted (os : Os) (started : os.Started) (H : Type) (enc : TypeId × Value → H) :
    ReturnsInHanded {} Try.checked os 3 .any (Rows.framePutsSpec.pre6 enc Try.prog Try.f3 Rows.framePutsRow.domain false) (Rows.framePutsSpec.post enc Try.prog Try.f3 false true false false) := by
  refine returnsInHanded_of_change (C := Try.checked) own started (by kernel_rfl) Try.func3
    (ChangeSpec.witness6 (enc := enc) (C := Try.checked) false ⟨#[], #[.string ByteArray.empty, .int .i64 0, .slice none 0 0], []⟩ 8 (by kernel_rfl) (by kernel_rfl) (by kernel_rfl) (by kernel_rfl)) ?_
  intro W base args ds gs before hval0 hW hcnd _
  have hval : ∀ (j : Nat) t v, Try.f3.params[j]? = some t → args[j]? = some v → Value.okWide Try.prog W .any base t v := hval0
  have hW' := hW
  obtain ⟨p, q, hA0, hV, rfl, hfz, hnd⟩ := hW
  have hA : DataW.TrodAll enc Try.prog W 0 (fun _ => true) true Try.f3.params.toList args.toList ds p := hA0
  rw [Try.params3] at hA hval
  obtain ⟨v0, vs0, d0, ds0, p0, q0, hargs, rfl, rfl, h0, r0⟩ := trodAll_cons hA
  obtain ⟨v1, vs1, d1, ds1, p1, q1, rfl, rfl, rfl, h1, r1⟩ := trodAll_cons r0
  obtain ⟨v2, vs2, d2, ds2, p2, q2, rfl, rfl, rfl, h2, r2⟩ := trodAll_cons r1
  obtain ⟨rfl, rfl, rfl⟩ := trodAll_nil r2
  obtain rfl : args = #[v0, v1, v2] := by cases args; simp_all
  obtain ⟨rfl, rfl⟩ := trodVars_none hV
  obtain ⟨a0, rfl, rfl, rfl, w0⟩ := open_string Try.underlying9 (hval 0 9 v0 rfl rfl) h0
  obtain ⟨a1, rfl, rfl, rfl, w1⟩ := open_int Try.underlying3 (hval 1 3 v1 rfl rfl) h1
  obtain ⟨a2, len2, cap2, rfl⟩ := okWide_slice Try.underlying22 (hval 2 22 v2 rfl rfl)
  have k2 := h2
  have lt2 : ∀ x ∈ p2, x.block < W.heap.size := by obtain ⟨m, hm⟩ := k2; exact DataW.trod_lt m _ _ _ hm
  obtain ⟨L2, w2⟩ := open_secs Try.underlying22 Try.underlying41 (by kernel_rfl) rfl rfl (by kernel_rfl) (by kernel_rfl) Try.underlying3 Try.underlying9 h2
  clear hA0 hval0
  refine (walk a0 a1 a2 len2 cap2 L2 W w0 w1 w2).mono fun e W' ⟨he, bel⟩ => ?_
  subst he
  exact ⟨_, rfl, _, _, _, [], _, [], hW', trodAll_mk1 (shut_bool Try.underlying4 _), (trodAll_cons_mk (shut_string Try.underlying9 w0) (trodAll_cons_mk (shut_int Try.underlying3 w1) (trodAll_cons_mk (Below.trod laidOut (by kernel_rfl) (of_decide_eq_true (by kernel_rfl)) k2 bel lt2) trodAll_mk0))), rfl, bel.frame _, fun h => by cases h⟩

theorem over : Rows.framePutsRow.holds Try.pinned (OpenSpec.ofChange Rows.framePutsSpec) :=
  OpenClaim.holds_of_wide 3 Try.f3 rfl rfl rfl rfl rfl rfl rfl ⟨rfl, rfl, rfl, rfl, rfl⟩ rfl rfl rfl rfl rfl (by kernel_rfl) Try.func3 (by kernel_rfl)
    (of_decide_eq_true (by kernel_rfl)) (by unfold Func.isWrapper; first | (rw [if_pos (by decide +kernel)]; kernel_rfl) | (rw [if_neg (by decide +kernel)]; exact ⟨rfl, rfl⟩))
    (fun os started H enc _ => lifted os started H enc)

end Go.Proofs.Ytipljconbnaffaa.framePuts

namespace Go.Proofs.Ytipljconbnaffaa
theorem framePuts_holds : Rows.FramePutsSaid := framePuts.over
#print axioms framePuts_holds
end Go.Proofs.Ytipljconbnaffaa
