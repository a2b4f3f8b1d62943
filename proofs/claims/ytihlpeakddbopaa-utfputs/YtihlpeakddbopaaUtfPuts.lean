/- For every slice l of int32 the law UtfPuts returns true: the numbers are the text that the document says, or one of them is no character (more than 500 numbers are let go by the law itself); no condition. -/
import Derived.Test.YtihlpeakddbopaaRows
import Derived.WalkKit
import Derived.ProofKit
import Derived.OpenShut
import Derived.ShutString
import Derived.Below
import Derived.Test.YtihlpeakddbopaaAwake05
import Derived.Test.YtihlpeakddbopaaUIn
import Derived.ChangeOld
namespace Go.Proofs.Ytihlpeakddbopaa.utfPuts
open Go.ChangeShapes Go.WideShapes Go.ChangeAt Go.RowKit
open Go.ChangeMaps (open_string shut_string)
set_option linter.unusedVariables false

theorem own : ownKnob Try.prog.godebug = none := by kernel_rfl
theorem laidOut : laidOutB Try.prog = true := by kernel_rfl

/-- WHAT THE WALK IS TOLD OF A SLICE OF INTEGERS THAT CAME IN: it is nil; or it leads to a row of 'cap' cells, the numbers 'zs' (the first 'len' are its elements, the rest its spare room), each fitting its kind. -/
def IsRow (k : IntKind) (w : World) (a : Option Addr) (len cap : Nat) (zs : List Int) : Prop :=
  (a = none ∧ len = 0 ∧ cap = 0 ∧ zs = []) ∨
  ∃ x, a = some x ∧ len ≤ cap ∧ cap ≤ maxLen ∧ zs.length = cap ∧ (∀ i, i < zs.length → w.cell? (x.add i) = some (.int k (zs.getD i 0))) ∧ ∀ n ∈ zs, (Lit.int k n).wf = true

set_option maxRecDepth 10000 in
set_option maxHeartbeats 400000 in
theorem walk (a0 : Option Addr) (len0 cap0 : Nat) (z0 : List Int) (w : World) (w0 : IsRow .i32 w a0 len0 cap0 z0) :
    Calls Try.prog 4 #[.slice a0 len0 cap0] w fun e w' => e = .returned (.bool true) ∧ Below w.heap.size w w' := by
  obtain ⟨hlen, hcap, hmax, hnil, b, o, ha, hs⟩ := runes_in w0
  generalize z0.take len0 = L at *
  clear w0
  subst hlen
  have hmax' := hmax
  unfold maxLen at hmax'
  by_cases hl : L.length ≤ 500
  · have HP : Hid (∀ (W : World) (ao : Option Addr) (cap gk : Nat), (0 < L.length → ao = some ⟨gk, 0, none⟩) → RuneAt W gk 0 L → Calls Try.prog 14 #[.slice ao L.length cap] W fun e w' => e = .returned (.tuple #[.string ⟨(pPut5 L).1.toArray⟩, .bool (pPut5 L).2]) ∧ Below W.heap.size W w') := fun W ao cap gk h1 h2 => put5_any ao cap gk 0 L W h1 h2 (by omega)
    have HR : Hid (∀ (W : World), RuneAt W b o L → Calls Try.prog 15 #[.slice a0 L.length cap0] W fun e w' => e = .returned (.tuple #[.string ⟨(pPut5 L).1.toArray⟩, .bool (pPut5 L).2]) ∧ Below W.heap.size W w') := fun W h2 => rput5_any a0 cap0 b o L W ha h2 (by omega)
    generalize pPut5 L = R at *
    obtain ⟨bs, E⟩ := R
    dsimp only at *
    generalize ByteArray.mk bs.toArray = X at *
    obtain ⟨i0, hi, hz0, hz1, hz2⟩ := info_parts Try.infoR
    rcases a0 with _ | y
    · obtain ⟨hl0, rfl⟩ := hnil rfl
      obtain rfl := List.length_eq_zero_iff.1 hl0
      go_enter Try.func4, Try.ntmps4
      go_wp2_with fail
      refine (awake_any _).mono ?_
      rintro e w3 ⟨rfl, B3⟩
      have B4 : Below w.heap.size w (w3.alloc (.cells #[] 21)) := B3.alloc B3.size _
      go_wp2_with fail
      refine (HP.out _ _ _ 0 (fun h => by simp at h) (fun i hi => by simp at hi)).mono ?_
      rintro e w5 ⟨rfl, b5⟩
      have B5 := B4.trans (b5.mono B4.size)
      clear B3 B4 b5 HP
      go_wp2_with fail
      refine (HR.out _ (fun i hi => by simp at hi)).mono ?_
      rintro e w6 ⟨rfl, b6⟩
      have B6 := B5.trans (b6.mono B5.size)
      go_wp2_with fail
      go_ret
      exact ⟨by simp, B6⟩
    · have HN : Hid _ := fun (W : World) (hW : RuneAt W b o L) => news_runes (y := y) hW ha
      go_enter Try.func4, Try.ntmps4
      go_wp2_with fail
      refine (awake_any _).mono ?_
      rintro e w3 ⟨rfl, B3⟩
      have hs3 := hs.below B3
      have B4 : Below w.heap.size w (w3.alloc (.cells #[] 21)) := B3.alloc B3.size _
      have hs4 : RuneAt (w3.alloc (.cells #[] 21)) b o L := hs3.below ((Below.refl _ _).alloc (Nat.le_refl _) _)
      have ho4 := own_empty5 w3
      have hB3 := B3.size
      go_wp2_with (at_builtin; refine wpList_append_own _ rfl _ _ 23 rfl w3.heap.size 21 i0 (.int .i32 0) 1 4 Try.underlying23 hi hz0 hz1 hz2 rfl (by decide) _ _ _ rfl ho4 y L.length cap0 (rV L) rfl (rV_len1 L) (HN.out _ hs4) (rV_oneCell L) ?c3 ?c4 ?c5 ?_)
      case c3 => unfold maxLen; omega
      case c4 => omega
      case c5 => simp
      intro v4 w4 hown4 hgrow4 _
      obtain ⟨ao, cap4, rfl⟩ := own_shape5 hown4
      obtain ⟨gk, hao, hsec⟩ := own_runes hown4 (by simp)
      have B4' : Below w.heap.size w w4 := B4.grown hgrow4 (by simp; omega) (fun k hk => Nat.le_trans hB3 (ho4.lt k hk).1)
      have hs4' : RuneAt w4 b o L := fun i hi => by
        obtain ⟨q1, q2⟩ := hs3 i hi
        have hk : w4.heap[b]? = w3.heap[b]? := by
          rw [hgrow4.block b (by simp; omega) (by simp [Value.ownBlock]; omega)]
          exact Below.heap_alloc w3 _ b q1
        exact ⟨by have := hgrow4.size; simp at this; omega, by rw [World.cell?_of_block hk]; exact q2⟩
      clear B3 B4 hs3 hs4 ho4 hown4 hgrow4
      go_wp2_with fail
      refine (HP.out _ _ _ gk hao hsec).mono ?_
      rintro e w5 ⟨rfl, b5⟩
      have B5 := B4'.trans (b5.mono B4'.size)
      have hs5 := hs4'.below b5
      clear B4' hs4' b5 HP hsec hao
      go_wp2_with fail
      refine (HR.out _ hs5).mono ?_
      rintro e w6 ⟨rfl, b6⟩
      have B6 := B5.trans (b6.mono B5.size)
      go_wp2_with fail
      go_ret
      exact ⟨by simp, B6⟩
  · have hl' : (500 : Int) < L.length := by omega
    go_enter Try.func4, Try.ntmps4
    go_wp2_with fail
    refine (awake_any _).mono ?_
    rintro e w1 ⟨rfl, hb1⟩
    go_wp2_with fail
    refine (awake_any _).mono ?_
    rintro e w2 ⟨rfl, hb2⟩
    go_wp2_with fail
    go_ret
    exact ⟨rfl, bjoin hb1 hb2 hb1.size⟩

set_option maxRecDepth 100000 in
theorem lifted (os : Os) (started : os.Started) (H : Type) (enc : TypeId × Value → H) :
    ReturnsInHanded {} Try.checked os 4 .any (Rows.utfPutsSpec.pre6 enc Try.prog Try.f4 Rows.utfPutsRow.domain false) (Rows.utfPutsSpec.post enc Try.prog Try.f4 false true false false) := by
  refine returnsInHanded_of_change (C := Try.checked) own started (by kernel_rfl) Try.func4
    (ChangeSpec.witness6 (enc := enc) (C := Try.checked) false ⟨#[], #[.slice none 0 0], []⟩ 8 (by kernel_rfl) (by kernel_rfl) (by kernel_rfl) (by kernel_rfl)) ?_
  intro W base args ds gs before hval0 hW hcnd _
  have hval : ∀ (j : Nat) t v, Try.f4.params[j]? = some t → args[j]? = some v → Value.okWide Try.prog W .any base t v := hval0
  have hW' := hW
  obtain ⟨p, q, hA0, hV, rfl, hfz, hnd⟩ := hW
  have hA : DataW.TrodAll enc Try.prog W 0 (fun _ => true) true Try.f4.params.toList args.toList ds p := hA0
  rw [Try.params4] at hA hval
  obtain ⟨v0, vs0, d0, ds0, p0, q0, hargs, rfl, rfl, h0, r0⟩ := trodAll_cons hA
  obtain ⟨rfl, rfl, rfl⟩ := trodAll_nil r0
  obtain rfl : args = #[v0] := by cases args; simp_all
  obtain ⟨rfl, rfl⟩ := trodVars_none hV
  obtain ⟨a0, len0, cap0, rfl⟩ := okWide_slice Try.underlying23 (hval 0 23 v0 rfl rfl)
  have k0 := h0
  have lt0 : ∀ x ∈ p0, x.block < W.heap.size := by obtain ⟨m, hm⟩ := k0; exact DataW.trod_lt m _ _ _ hm
  obtain ⟨z0, w0⟩ : ∃ zs, IsRow .i32 W a0 len0 cap0 zs := by
    obtain ⟨fuel, hf⟩ := h0
    rcases open_ints Try.underlying23 Try.underlying21 (by kernel_rfl) hf with ⟨hcs, _⟩ | ⟨x, l, c, zs, hcs, _, hl, hm, hz, _, hcell, hwz⟩
    · simp [Value.cells] at hcs
      obtain ⟨rfl, rfl, rfl⟩ := hcs
      exact ⟨[], .inl ⟨rfl, rfl, rfl, rfl⟩⟩
    · simp [Value.cells] at hcs
      obtain ⟨rfl, rfl, rfl⟩ := hcs
      exact ⟨zs, .inr ⟨_, rfl, hl, hm, by simpa using hz, hcell, hwz⟩⟩
  clear hA0 hval0
  refine (walk a0 len0 cap0 z0 W w0).mono fun e W' ⟨he, bel⟩ => ?_
  subst he
  exact ⟨_, rfl, _, _, _, [], _, [], hW', trodAll_mk1 (shut_bool Try.underlying4 _), (trodAll_cons_mk (Below.trod laidOut (by kernel_rfl) (of_decide_eq_true (by kernel_rfl)) k0 bel lt0) trodAll_mk0), rfl, bel.frame _, fun h => by cases h⟩

theorem over : Rows.utfPutsRow.holds Try.pinned (OpenSpec.ofChange Rows.utfPutsSpec) :=
  OpenClaim.holds_of_wide 4 Try.f4 rfl rfl rfl rfl rfl rfl rfl ⟨rfl, rfl, rfl, rfl, rfl⟩ rfl rfl rfl rfl rfl (by kernel_rfl) Try.func4 (by kernel_rfl)
    (of_decide_eq_true (by kernel_rfl)) (by unfold Func.isWrapper; first | (rw [if_pos (by decide +kernel)]; kernel_rfl) | (rw [if_neg (by decide +kernel)]; exact ⟨rfl, rfl⟩))
    (fun os started H enc _ => lifted os started H enc)

end Go.Proofs.Ytihlpeakddbopaa.utfPuts

namespace Go.Proofs.Ytihlpeakddbopaa
theorem utfPuts_holds : Rows.UtfPutsSaid := utfPuts.over
#print axioms utfPuts_holds
end Go.Proofs.Ytihlpeakddbopaa
