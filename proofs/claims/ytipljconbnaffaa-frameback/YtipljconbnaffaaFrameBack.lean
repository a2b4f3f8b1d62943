/- For every int64 version and every list of sections l the law FrameBack returns true: sections that are put are got as they were (more than 20 sections, and payloads of more than 1000 bytes, are let go by the law itself); no condition. -/
import Derived.Test.YtipljconbnaffaaRows
import Derived.WalkKit
import Derived.ProofKit
import Derived.OpenShut
import Derived.ShutString
import Derived.Below
import Derived.Test.YtipljconbnaffaaAwake04
import Derived.Test.YtipljconbnaffaaSecsIn
import Derived.Test.YtipljconbnaffaaFMore
import Derived.ChangeOld
namespace Go.Proofs.Ytipljconbnaffaa.frameBack
open Go.ChangeShapes Go.WideShapes Go.ChangeAt Go.RowKit
open Go.ChangeMaps (open_string shut_string)
set_option linter.unusedVariables false

theorem own : ownKnob Try.prog.godebug = none := by kernel_rfl
theorem laidOut : laidOutB Try.prog = true := by kernel_rfl

set_option maxRecDepth 10000 in
set_option maxHeartbeats 400000 in
theorem walk (a0 : Int) (a1 : Option Addr) (len1 cap1 : Nat) (L1 : List Sec) (w : World) (w0 : (Lit.int .i64 a0).wf = true) (w1 : IsSecs w a1 len1 cap1 L1) :
    Calls Try.prog 5 #[.int .i64 a0, .slice a1 len1 cap1] w fun e w' => e = .returned (.bool true) ∧ Below w.heap.size w w' := by
  obtain ⟨hlen, hcap, hmax, hnil, b, o, ha, hs⟩ := w1
  subst hlen
  have hmax' := hmax
  unfold maxLen at hmax'
  have HGr : Hid _ := fun (W : World) (hW : SecAt W b o L1) => great_any a1 L1.length cap1 b o L1 W rfl ha hW (by omega)
  by_cases hg : grt L1 = true
  · rw [hg] at HGr
    go_enter Try.func5, Try.ntmps5
    go_wp2_with fail
    refine (awake_any _).mono ?_
    rintro e w2 ⟨rfl, b2⟩
    go_wp2_with fail
    refine (HGr.out _ (hs.below b2)).mono ?_
    rintro e w3 ⟨rfl, b3⟩
    have B3 := b2.trans (b3.mono b2.size)
    go_wp2_with fail
    refine (awake_any _).mono ?_
    rintro e w4 ⟨rfl, b4⟩
    go_wp2_with fail
    go_ret
    exact ⟨rfl, B3.trans (b4.mono B3.size)⟩
  · have hg' : grt L1 = false := by simpa using hg
    rw [hg'] at HGr
    obtain ⟨h20, h1000⟩ := grt_no L1 hg'
    clear hg hg'
    have HP : Hid (∀ (W : World) (ao : Option Addr) (cap gk : Nat), (0 < L1.length → ao = some ⟨gk, 0, none⟩) → SecAt W gk 0 L1 → Calls Try.prog 11 #[.string ⟨#[68, 73, 79, 82]⟩, .int .i64 a0, .slice ao L1.length cap] W fun e w' => e = .returned (.tuple #[.string ⟨(pPut ⟨#[68, 73, 79, 82]⟩ a0 L1).1.toArray⟩, .int .i64 (pPut ⟨#[68, 73, 79, 82]⟩ a0 L1).2]) ∧ Below W.heap.size W w') := fun W ao cap gk h1 h2 => fput_any _ a0 ao cap gk 0 L1 W h20 h1 h2 (fun s hs => Nat.le_trans (h1000 s hs) (by decide))
    have hM := back_math ⟨#[68, 73, 79, 82]⟩ a0 L1
    have hN := pPut_bad ⟨#[68, 73, 79, 82]⟩ a0 L1
    have hV := fun h => (pPut_ok ⟨#[68, 73, 79, 82]⟩ a0 L1 h).2.1
    have hZ := pPut_length ⟨#[68, 73, 79, 82]⟩ a0 L1 1000 h1000
    generalize pPut ⟨#[68, 73, 79, 82]⟩ a0 L1 = R at *
    obtain ⟨bs, E⟩ := R
    dsimp only at hM hN hV hZ HP
    have hd : (ByteArray.mk bs.toArray).data.toList = bs := rfl
    have hzs : (ByteArray.mk bs.toArray).size ≤ 100000 := by rw [← list_size, hd]; omega
    have HG : Hid _ := fun W => fget_any ⟨#[68, 73, 79, 82]⟩ (ByteArray.mk bs.toArray) W hzs
    rw [hd] at HG
    have he0 : bs = [] → (ByteArray.mk bs.toArray).toList = (⟨#[]⟩ : ByteArray).toList := fun h => by rw [h]
    generalize ByteArray.mk bs.toArray = X at *
    have hE : (E = 0 ∧ Hid (∀ W, Calls Try.prog 13 #[.string ⟨#[68, 73, 79, 82]⟩, .string X] W fun e w' => FGot W w' e (0, a0.toNat, L1)) ∧ 1 ≤ a0) ∨ ((E != 0) = true ∧ X.toList = (⟨#[]⟩ : ByteArray).toList) := by
      by_cases h : E = 0
      · exact .inl ⟨h, fun W => by have := HG.out W; rw [hM h] at this; exact this, hV h⟩
      · exact .inr ⟨by simpa using h, he0 (hN h)⟩
    clear hM hN hV hZ hd hzs HG he0
    obtain ⟨i0, hi, hz0, hz1, hz2⟩ := info_parts Try.infoS
    rcases a1 with _ | y
    · obtain ⟨hl0, rfl⟩ := hnil rfl
      obtain rfl := List.length_eq_zero_iff.1 hl0
      go_enter Try.func5, Try.ntmps5
      go_wp2_with fail
      refine (awake_any _).mono ?_
      rintro e w2 ⟨rfl, b2⟩
      go_wp2_with fail
      refine (HGr.out _ (hs.below b2)).mono ?_
      rintro e w3 ⟨rfl, b3⟩
      have B3 := b2.trans (b3.mono b2.size)
      have hs3 := (hs.below b2).below b3
      clear b2 b3 HGr
      have B4 : Below w.heap.size w (w3.alloc (.cells #[] 41)) := B3.alloc B3.size _
      have hs4 : SecAt (w3.alloc (.cells #[] 41)) b o [] := hs3.below ((Below.refl _ _).alloc (Nat.le_refl _) _)
      go_wp2_with fail
      refine (HP.out _ _ _ 0 (fun h => by simp at h) (fun i hi => by simp at hi)).mono ?_
      rintro e w5 ⟨rfl, b5⟩
      have B5 := B4.trans (b5.mono B4.size)
      have hs5 := hs4.below b5
      clear B3 B4 hs3 hs4 b5 HP
      rcases hE with ⟨rfl, HG, hv1⟩ | ⟨hE1, hX⟩
      · have hv : ((a0.toNat : Nat) : Int) = a0 := by omega
        have HV : Hid (((a0.toNat : Nat) : Int) = a0) := hv
        go_wp2_with fail
        refine (HG.out _).mono ?_
        rintro e w6 ⟨a6, cap6, gk6, rfl, ha6, hs6, b6⟩
        have B6 := B5.trans (b6.mono B5.size)
        have hs7 := hs5.below b6
        clear B5 b6 hs5 HG
        dsimp only at *
        go_wp2_with fail
        refine (same_any none a6 _ _ _ cap6 b o gk6 0 [] [] _ rfl rfl (fun h => by simp at h) ha6 hs7 hs6 (by decide) (by decide)).mono ?_
        rintro e w8 ⟨rfl, b8⟩
        have B8 := B6.trans (b8.mono B6.size)
        rw [decide_eq_true rfl]
        go_wp2_with fail
        go_ret
        exact ⟨rfl, B8⟩
      · go_wp2_with fail
        go_ret
        exact ⟨by simp, B5⟩
    · have HN := fun (W : World) (hW : SecAt W b o L1) => news_in (y := y) hW ha
      have HN' : Hid _ := HN
      clear HN
      go_enter Try.func5, Try.ntmps5
      go_wp2_with fail
      refine (awake_any _).mono ?_
      rintro e w2 ⟨rfl, b2⟩
      go_wp2_with fail
      refine (HGr.out _ (hs.below b2)).mono ?_
      rintro e w3 ⟨rfl, b3⟩
      have B3 := b2.trans (b3.mono b2.size)
      have hs3 := (hs.below b2).below b3
      clear b2 b3 HGr
      have B4 : Below w.heap.size w (w3.alloc (.cells #[] 41)) := B3.alloc B3.size _
      have hs4 : SecAt (w3.alloc (.cells #[] 41)) b o L1 := hs3.below ((Below.refl _ _).alloc (Nat.le_refl _) _)
      have ho4 := own_empty w3
      have hB3 := B3.size
      go_wp2_with (at_builtin; refine wpList_append_own _ rfl _ _ 22 rfl w3.heap.size 41 i0 (.agg #[.int .i64 0, .string ⟨#[]⟩]) 2 24 Try.underlying22 hi hz0 hz1 hz2 rfl (by decide) _ _ _ rfl ho4 y L1.length cap1 (sV L1) rfl (sV_length L1) (HN'.out _ hs4) (sV_oneCell L1) ?c3 ?c4 ?c5 ?_)
      case c3 => unfold maxLen; omega
      case c4 => omega
      case c5 => simp
      intro v4 w4 hown4 hgrow4 _
      obtain ⟨ao, cap4, rfl⟩ := own_shape hown4
      obtain ⟨gk, hao, hsec⟩ := own_secs hown4 rfl
      have B4' : Below w.heap.size w w4 := B4.grown hgrow4 (by simp; omega) (fun k hk => Nat.le_trans hB3 (ho4.lt k hk).1)
      have hs4' : SecAt w4 b o L1 := fun i hi => by
        obtain ⟨q1, q2, q3⟩ := hs3 i hi
        have hk : w4.heap[b]? = w3.heap[b]? := by
          rw [hgrow4.block b (by simp; omega) (by simp [Value.ownBlock]; omega)]
          exact Lib.alloc_old w3 _ b q1
        exact ⟨by have := hgrow4.size; simp at this; omega, by rw [World.cell?_of_block hk]; exact q2, by rw [World.cell?_of_block hk]; exact q3⟩
      clear B3 B4 hs3 hs4 ho4 hown4 hgrow4
      go_wp2_with fail
      refine (HP.out _ _ _ gk hao hsec).mono ?_
      rintro e w5 ⟨rfl, b5⟩
      have B5 := B4'.trans (b5.mono B4'.size)
      have hs5 := hs4'.below b5
      clear B4' hs4' b5 HP hsec hao
      rcases hE with ⟨rfl, HG, hv1⟩ | ⟨hE1, hX⟩
      · have hv : ((a0.toNat : Nat) : Int) = a0 := by omega
        have HV : Hid (((a0.toNat : Nat) : Int) = a0) := hv
        go_wp2_with fail
        refine (HG.out _).mono ?_
        rintro e w6 ⟨a6, cap6, gk6, rfl, ha6, hs6, b6⟩
        have B6 := B5.trans (b6.mono B5.size)
        have hs7 := hs5.below b6
        clear B5 b6 hs5 HG
        dsimp only at *
        go_wp2_with fail
        refine (same_any (some y) a6 _ _ _ cap6 b o gk6 0 L1 L1 _ rfl rfl ha ha6 hs7 hs6 (by omega) (by omega)).mono ?_
        rintro e w8 ⟨rfl, b8⟩
        have B8 := B6.trans (b8.mono B6.size)
        rw [decide_eq_true rfl]
        go_wp2_with fail
        go_ret
        exact ⟨rfl, B8⟩
      · go_wp2_with fail
        go_ret
        exact ⟨by simp, B5⟩

set_option maxRecDepth 100000 in
theorem lifted (os : Os) (started : os.Started) (H : Type) (enc : TypeId × Value → H) :
    ReturnsInHanded {} Try.checked os 5 .any (Rows.frameBackSpec.pre6 enc Try.prog Try.f5 Rows.frameBackRow.domain false) (Rows.frameBackSpec.post enc Try.prog Try.f5 false true false false) := by
  refine returnsInHanded_of_change (C := Try.checked) own started (by kernel_rfl) Try.func5
    (ChangeSpec.witness6 (enc := enc) (C := Try.checked) false ⟨#[], #[.int .i64 0, .slice none 0 0], []⟩ 8 (by kernel_rfl) (by kernel_rfl) (by kernel_rfl) (by kernel_rfl)) ?_
  intro W base args ds gs before hval0 hW hcnd _
  have hval : ∀ (j : Nat) t v, Try.f5.params[j]? = some t → args[j]? = some v → Value.okWide Try.prog W .any base t v := hval0
  have hW' := hW
  obtain ⟨p, q, hA0, hV, rfl, hfz, hnd⟩ := hW
  have hA : DataW.TrodAll enc Try.prog W 0 (fun _ => true) true Try.f5.params.toList args.toList ds p := hA0
  rw [Try.params5] at hA hval
  obtain ⟨v0, vs0, d0, ds0, p0, q0, hargs, rfl, rfl, h0, r0⟩ := trodAll_cons hA
  obtain ⟨v1, vs1, d1, ds1, p1, q1, rfl, rfl, rfl, h1, r1⟩ := trodAll_cons r0
  obtain ⟨rfl, rfl, rfl⟩ := trodAll_nil r1
  obtain rfl : args = #[v0, v1] := by cases args; simp_all
  obtain ⟨rfl, rfl⟩ := trodVars_none hV
  obtain ⟨a0, rfl, rfl, rfl, w0⟩ := open_int Try.underlying3 (hval 0 3 v0 rfl rfl) h0
  obtain ⟨a1, len1, cap1, rfl⟩ := okWide_slice Try.underlying22 (hval 1 22 v1 rfl rfl)
  have k1 := h1
  have lt1 : ∀ x ∈ p1, x.block < W.heap.size := by obtain ⟨m, hm⟩ := k1; exact DataW.trod_lt m _ _ _ hm
  obtain ⟨L1, w1⟩ := open_secs Try.underlying22 Try.underlying41 (by kernel_rfl) rfl rfl (by kernel_rfl) (by kernel_rfl) Try.underlying3 Try.underlying9 h1
  clear hA0 hval0
  refine (walk a0 a1 len1 cap1 L1 W w0 w1).mono fun e W' ⟨he, bel⟩ => ?_
  subst he
  exact ⟨_, rfl, _, _, _, [], _, [], hW', trodAll_mk1 (shut_bool Try.underlying4 _), (trodAll_cons_mk (shut_int Try.underlying3 w0) (trodAll_cons_mk (Below.trod laidOut (by kernel_rfl) (of_decide_eq_true (by kernel_rfl)) k1 bel lt1) trodAll_mk0)), rfl, bel.frame _, fun h => by cases h⟩

theorem over : Rows.frameBackRow.holds Try.pinned (OpenSpec.ofChange Rows.frameBackSpec) :=
  OpenClaim.holds_of_wide 5 Try.f5 rfl rfl rfl rfl rfl rfl rfl ⟨rfl, rfl, rfl, rfl, rfl⟩ rfl rfl rfl rfl rfl (by kernel_rfl) Try.func5 (by kernel_rfl)
    (of_decide_eq_true (by kernel_rfl)) (by unfold Func.isWrapper; first | (rw [if_pos (by decide +kernel)]; kernel_rfl) | (rw [if_neg (by decide +kernel)]; exact ⟨rfl, rfl⟩))
    (fun os started H enc _ => lifted os started H enc)

end Go.Proofs.Ytipljconbnaffaa.frameBack

namespace Go.Proofs.Ytipljconbnaffaa
theorem frameBack_holds : Rows.FrameBackSaid := frameBack.over
#print axioms frameBack_holds
end Go.Proofs.Ytipljconbnaffaa
