/- For every slice l of int32 and every text s the law UtfBack returns true: characters that are put are read as they were; a text that is UTF-8 is put as it was (more than 500 numbers, and texts of more than 1000 bytes, are let go by the law itself); no condition. -/
import Derived.Test.YtihlpeakddbopaaRows
import Derived.WalkKit
import Derived.ProofKit
import Derived.OpenShut
import Derived.ShutString
import Derived.Below
import Derived.Test.YtihlpeakddbopaaAwake05
import Derived.Test.YtihlpeakddbopaaUIn
import Derived.ChangeOld
namespace Go.Proofs.Ytihlpeakddbopaa.utfBack
open Go.ChangeShapes Go.WideShapes Go.ChangeAt Go.RowKit
open Go.ChangeMaps (open_string shut_string)
set_option linter.unusedVariables false

theorem own : ownKnob Try.prog.godebug = none := by kernel_rfl
theorem laidOut : laidOutB Try.prog = true := by kernel_rfl

/-- WHAT THE WALK IS TOLD OF A SLICE OF INTEGERS THAT CAME IN: it is nil; or it leads to a row of 'cap' cells, the numbers 'zs' (the first 'len' are its elements, the rest its spare room), each fitting its kind. -/
def IsRow (k : IntKind) (w : World) (a : Option Addr) (len cap : Nat) (zs : List Int) : Prop :=
  (a = none ∧ len = 0 ∧ cap = 0 ∧ zs = []) ∨
  ∃ x, a = some x ∧ len ≤ cap ∧ cap ≤ maxLen ∧ zs.length = cap ∧ (∀ i, i < zs.length → w.cell? (x.add i) = some (.int k (zs.getD i 0))) ∧ ∀ n ∈ zs, (Lit.int k n).wf = true

theorem z_of (L : List Int) (h : ∀ c ∈ L, okI c) : zL (L.map Int.toNat) = L ∧ ∀ c ∈ L.map Int.toNat, isC c := by
  constructor
  · unfold zL
    rw [List.map_map]
    conv => rhs; rw [← List.map_id L]
    apply List.map_congr_left
    intro c hc
    have := (h c hc).1
    simp
    omega
  · intro c hc
    rw [List.mem_map] at hc
    obtain ⟨d, hd, rfl⟩ := hc
    exact (h d hd).2
theorem runes_puts (L : List Int) (h : ∀ c ∈ L, okI c) : pRunes (putsI L) = L := by
  obtain ⟨h1, h2⟩ := z_of L h
  have h3 := putsI_z _ h2
  rw [h1] at h3
  have h4 := read_puts _ [] h2
  rw [List.append_nil, ← h3, read_nil] at h4
  unfold pRunes
  rw [h4]
  simp [h1]
theorem okI_z (M : List Nat) (h : ∀ c ∈ M, isC c) : ∀ c ∈ zL M, okI c := by
  intro c hc
  simp only [zL, List.mem_map] at hc
  obtain ⟨d, hd, rfl⟩ := hc
  exact ⟨by omega, by simpa using h d hd⟩
theorem back_put (l : List UInt8) (h : (read l).2 = l.length) : pRunes l = zL (read l).1 ∧ pPut5 (zL (read l).1) = (l, true) := by
  have h1 := read_isC l
  refine ⟨by unfold pRunes; rw [if_pos h], ?_⟩
  unfold pPut5
  rw [if_pos (okI_z _ h1), putsI_z _ h1, puts_read l h]
theorem text_len (L : List Int) : (ByteArray.mk (putsI L).toArray).size ≤ 4 * L.length := by
  have := putsI_le L
  rw [show (ByteArray.mk (putsI L).toArray).size = (putsI L).length from by simp [ByteArray.size]]
  exact this

/-- The law's second half: a text that is UTF-8 is put as it was. -/
theorem half (s : ByteArray) (h : s.size ≤ 1000) : (∃ F : Int, 0 ≤ F ∧ Hid (∀ W : World, Calls Try.prog 10 #[.string s] W fun e w' => e = .returned (.int .i64 F) ∧ Below W.heap.size W w')) ∨
    (Hid (∀ W : World, Calls Try.prog 10 #[.string s] W fun e w' => e = .returned (.int .i64 (-1)) ∧ Below W.heap.size W w') ∧ ∃ Z : List Int, Hid (∀ W : World, Calls Try.prog 12 #[.string s] W fun e w' => ROne W w' e Z) ∧
      Hid (∀ (W : World) (ao : Option Addr) (cap gk : Nat), (0 < Z.length → ao = some ⟨gk, 0, none⟩) → RuneAt W gk 0 Z → Calls Try.prog 14 #[.slice ao Z.length cap] W fun e w' => e = .returned (.tuple #[.string s, .bool true]) ∧ Below W.heap.size W w')) := by
  have hsz : s.data.toList.length = s.size := by rw [Array.length_toList]; rfl
  have HF : Hid _ := fun (W : World) => first_any s W (by omega)
  unfold pFirst at HF
  by_cases hok : (read s.data.toList).2 = s.data.toList.length
  · right
    rw [if_pos hok] at HF
    obtain ⟨h1, h2⟩ := back_put s.data.toList hok
    refine ⟨HF, zL (read s.data.toList).1, fun W => ?_, fun W ao cap gk g1 g2 => ?_⟩
    · have := runes_any s W (by omega)
      rw [h1] at this
      exact this
    · have hc := read_count s.data.toList
      have := put5_any ao cap gk 0 _ W g1 g2 (by rw [zL_length]; omega)
      rw [h2] at this
      exact this
  · left
    rw [if_neg hok] at HF
    exact ⟨_, by omega, HF⟩

set_option maxRecDepth 10000 in
set_option maxHeartbeats 400000 in
theorem walk (a0 : Option Addr) (len0 cap0 : Nat) (z0 : List Int) (a1 : ByteArray) (w : World) (w0 : IsRow .i32 w a0 len0 cap0 z0) (w1 : a1.size ≤ maxLen) :
    Calls Try.prog 5 #[.slice a0 len0 cap0, .string a1] w fun e w' => e = .returned (.bool true) ∧ Below w.heap.size w w' := by
  have w1' := w1
  unfold maxLen at w1'
  obtain ⟨hlen, hcap, hmax, hnil, b, o, ha, hs⟩ := runes_in w0
  generalize z0.take len0 = L at *
  clear w0
  subst hlen
  have hmax' := hmax
  unfold maxLen at hmax'
  by_cases hl : L.length ≤ 500 ∧ a1.size ≤ 1000
  · obtain ⟨hl0, hl1⟩ := hl
    have hE : (Hid (∀ (W : World) (ao : Option Addr) (cap gk : Nat), (0 < L.length → ao = some ⟨gk, 0, none⟩) → RuneAt W gk 0 L → Calls Try.prog 14 #[.slice ao L.length cap] W fun e w' => e = .returned (.tuple #[.string ⟨#[]⟩, .bool false]) ∧ Below W.heap.size W w')) ∨
        ∃ X : ByteArray, Hid (∀ (W : World) (ao : Option Addr) (cap gk : Nat), (0 < L.length → ao = some ⟨gk, 0, none⟩) → RuneAt W gk 0 L → Calls Try.prog 14 #[.slice ao L.length cap] W fun e w' => e = .returned (.tuple #[.string X, .bool true]) ∧ Below W.heap.size W w') ∧ Hid (∀ W : World, Calls Try.prog 12 #[.string X] W fun e w' => ROne W w' e L) := by
      have hP := fun (W : World) (ao : Option Addr) (cap gk : Nat) (h1 : 0 < L.length → ao = some ⟨gk, 0, none⟩) (h2 : RuneAt W gk 0 L) => put5_any ao cap gk 0 L W h1 h2 (by omega)
      by_cases h : ∀ c ∈ L, okI c
      · right
        refine ⟨⟨(putsI L).toArray⟩, fun W ao cap gk h1 h2 => ?_, fun W => ?_⟩
        · have := hP W ao cap gk h1 h2
          unfold pPut5 at this
          rw [if_pos h] at this
          exact this
        · have hsz := text_len L
          have := runes_any ⟨(putsI L).toArray⟩ W (by omega)
          rw [show (ByteArray.mk (putsI L).toArray).data.toList = putsI L from rfl, runes_puts L h] at this
          exact this
      · left
        intro W ao cap gk h1 h2
        have := hP W ao cap gk h1 h2
        unfold pPut5 at this
        rw [if_neg h] at this
        exact this
    have hl0' : (L.length : Int) ≤ 500 := by omega
    obtain ⟨i0, hi, hz0, hz1, hz2⟩ := info_parts Try.infoR
    rcases a0 with _ | y
    · obtain ⟨hz, rfl⟩ := hnil rfl
      obtain rfl := List.length_eq_zero_iff.1 hz
      rcases hE with HP | ⟨X, HP, HX⟩
      · go_enter Try.func5, Try.ntmps5
        go_wp2_with fail
        refine (awake_any _).mono ?_
        rintro e w3 ⟨rfl, B3⟩
        have B4 : Below w.heap.size w (w3.alloc (.cells #[] 21)) := B3.alloc B3.size _
        go_wp2_with fail
        refine (HP.out _ _ _ 0 (fun h => by simp at h) (fun i hi => by simp at hi)).mono ?_
        rintro e w5 ⟨rfl, b5⟩
        have B5 := B4.trans (b5.mono B4.size)
        clear B3 B4 b5 HP
        rcases half a1 hl1 with ⟨F, hF0, HF⟩ | ⟨HF, Z, HU, HQ⟩
        · go_wp2_with fail
          refine (HF.out _).mono ?_
          rintro e wa ⟨rfl, ba⟩
          have Ba := B5.trans (ba.mono B5.size)
          go_wp2_with fail
          go_ret
          exact ⟨rfl, Ba⟩
        · go_wp2_with fail
          refine (HF.out _).mono ?_
          rintro e wa ⟨rfl, ba⟩
          have Ba := B5.trans (ba.mono B5.size)
          go_wp2_with fail
          refine (HU.out _).mono ?_
          rintro e wb ⟨ab, capb, gb, rfl, hab, hsb, bb⟩
          have Bb := Ba.trans (bb.mono Ba.size)
          clear Ba ba bb
          go_wp2_with fail
          refine (HQ.out _ _ _ gb hab hsb).mono ?_
          rintro e wc ⟨rfl, bc⟩
          have Bc := Bb.trans (bc.mono Bb.size)
          go_wp2_with fail
          go_ret
          exact ⟨by simp, Bc⟩
      · go_enter Try.func5, Try.ntmps5
        go_wp2_with fail
        refine (awake_any _).mono ?_
        rintro e w3 ⟨rfl, B3⟩
        have B4 : Below w.heap.size w (w3.alloc (.cells #[] 21)) := B3.alloc B3.size _
        go_wp2_with fail
        refine (HP.out _ _ _ 0 (fun h => by simp at h) (fun i hi => by simp at hi)).mono ?_
        rintro e w5 ⟨rfl, b5⟩
        have B5 := B4.trans (b5.mono B4.size)
        clear B3 B4 b5 HP
        go_wp2_with fail
        refine (HX.out _).mono ?_
        rintro e w6 ⟨a6, cap6, g6, rfl, ha6, hs6, b6⟩
        have B6 := B5.trans (b6.mono B5.size)
        clear B5 b6
        go_wp2_with fail
        refine (same5_any a6 none _ _ cap6 0 g6 0 0 0 [] [] _ rfl rfl (fun h => by simp at h) (fun h => by simp at h) hs6 (fun i hi => by simp at hi) (by simp) (by simp)).mono ?_
        rintro e w7 ⟨rfl, b7⟩
        have B7 := B6.trans (b7.mono B6.size)
        clear B6 b7
        rcases half a1 hl1 with ⟨F, hF0, HF⟩ | ⟨HF, Z, HU, HQ⟩
        · go_wp2_with fail
          refine (HF.out _).mono ?_
          rintro e wa ⟨rfl, ba⟩
          have Ba := B7.trans (ba.mono B7.size)
          go_wp2_with fail
          go_ret
          exact ⟨rfl, Ba⟩
        · go_wp2_with fail
          refine (HF.out _).mono ?_
          rintro e wa ⟨rfl, ba⟩
          have Ba := B7.trans (ba.mono B7.size)
          go_wp2_with fail
          refine (HU.out _).mono ?_
          rintro e wb ⟨ab, capb, gb, rfl, hab, hsb, bb⟩
          have Bb := Ba.trans (bb.mono Ba.size)
          clear Ba ba bb
          go_wp2_with fail
          refine (HQ.out _ _ _ gb hab hsb).mono ?_
          rintro e wc ⟨rfl, bc⟩
          have Bc := Bb.trans (bc.mono Bb.size)
          go_wp2_with fail
          go_ret
          exact ⟨by simp, Bc⟩
    · have HN : Hid _ := fun (W : World) (hW : RuneAt W b o L) => news_runes (y := y) hW ha
      rcases hE with HP | ⟨X, HP, HX⟩
      · go_enter Try.func5, Try.ntmps5
        go_wp2_with fail
        refine (awake_any _).mono ?_
        rintro e w3 ⟨rfl, B3⟩
        have hs3 := hs.below B3
        have B4 : Below w.heap.size w (w3.alloc (.cells #[] 21)) := B3.alloc B3.size _
        have hs4 : RuneAt (w3.alloc (.cells #[] 21)) b o L := hs3.below ((Below.refl _ _).alloc (Nat.le_refl _) _)
        have ho4 := own_empty5 w3
        have hB3 := B3.size
        go_wp2_with (at_builtin; refine wpList_append_own _ rfl _ _ 23 rfl w3.heap.size 21 i0 (.int .i32 0) 1 4 Try.underlying23 hi hz0 hz1 hz2 rfl (by decide) _ _ _ rfl ho4 y L.length cap0 (rV L) rfl (rV_len1 L) (HN.out _ hs4) (rV_oneCell L) ?c3 ?c4 ?c5 ?_)
        case c3 => unfold maxLen; omega
        case c4 => omega
        case c5 => simp
        intro v4 w4 hown4 hgrow4 _
        obtain ⟨ao, cap4, rfl⟩ := own_shape5 hown4
        obtain ⟨gk, hao, hsec⟩ := own_runes hown4 (by simp)
        have B4' : Below w.heap.size w w4 := B4.grown hgrow4 (by simp; omega) (fun k hk => Nat.le_trans hB3 (ho4.lt k hk).1)
        have hs4' : RuneAt w4 b o L := fun i hi => by
          obtain ⟨q1, q2⟩ := hs3 i hi
          have hk : w4.heap[b]? = w3.heap[b]? := by
            rw [hgrow4.block b (by simp; omega) (by simp [Value.ownBlock]; omega)]
            exact Below.heap_alloc w3 _ b q1
          exact ⟨by have := hgrow4.size; simp at this; omega, by rw [World.cell?_of_block hk]; exact q2⟩
        clear B3 B4 hs3 hs4 ho4 hown4 hgrow4
        go_wp2_with fail
        refine (HP.out _ _ _ gk hao hsec).mono ?_
        rintro e w5 ⟨rfl, b5⟩
        have B5 := B4'.trans (b5.mono B4'.size)
        have hs5 := hs4'.below b5
        clear B4' hs4' b5 HP hsec hao
        clear hs5
        rcases half a1 hl1 with ⟨F, hF0, HF⟩ | ⟨HF, Z, HU, HQ⟩
        · go_wp2_with fail
          refine (HF.out _).mono ?_
          rintro e wa ⟨rfl, ba⟩
          have Ba := B5.trans (ba.mono B5.size)
          go_wp2_with fail
          go_ret
          exact ⟨rfl, Ba⟩
        · go_wp2_with fail
          refine (HF.out _).mono ?_
          rintro e wa ⟨rfl, ba⟩
          have Ba := B5.trans (ba.mono B5.size)
          go_wp2_with fail
          refine (HU.out _).mono ?_
          rintro e wb ⟨ab, capb, gb, rfl, hab, hsb, bb⟩
          have Bb := Ba.trans (bb.mono Ba.size)
          clear Ba ba bb
          go_wp2_with fail
          refine (HQ.out _ _ _ gb hab hsb).mono ?_
          rintro e wc ⟨rfl, bc⟩
          have Bc := Bb.trans (bc.mono Bb.size)
          go_wp2_with fail
          go_ret
          exact ⟨by simp, Bc⟩
      · go_enter Try.func5, Try.ntmps5
        go_wp2_with fail
        refine (awake_any _).mono ?_
        rintro e w3 ⟨rfl, B3⟩
        have hs3 := hs.below B3
        have B4 : Below w.heap.size w (w3.alloc (.cells #[] 21)) := B3.alloc B3.size _
        have hs4 : RuneAt (w3.alloc (.cells #[] 21)) b o L := hs3.below ((Below.refl _ _).alloc (Nat.le_refl _) _)
        have ho4 := own_empty5 w3
        have hB3 := B3.size
        go_wp2_with (at_builtin; refine wpList_append_own _ rfl _ _ 23 rfl w3.heap.size 21 i0 (.int .i32 0) 1 4 Try.underlying23 hi hz0 hz1 hz2 rfl (by decide) _ _ _ rfl ho4 y L.length cap0 (rV L) rfl (rV_len1 L) (HN.out _ hs4) (rV_oneCell L) ?c3 ?c4 ?c5 ?_)
        case c3 => unfold maxLen; omega
        case c4 => omega
        case c5 => simp
        intro v4 w4 hown4 hgrow4 _
        obtain ⟨ao, cap4, rfl⟩ := own_shape5 hown4
        obtain ⟨gk, hao, hsec⟩ := own_runes hown4 (by simp)
        have B4' : Below w.heap.size w w4 := B4.grown hgrow4 (by simp; omega) (fun k hk => Nat.le_trans hB3 (ho4.lt k hk).1)
        have hs4' : RuneAt w4 b o L := fun i hi => by
          obtain ⟨q1, q2⟩ := hs3 i hi
          have hk : w4.heap[b]? = w3.heap[b]? := by
            rw [hgrow4.block b (by simp; omega) (by simp [Value.ownBlock]; omega)]
            exact Below.heap_alloc w3 _ b q1
          exact ⟨by have := hgrow4.size; simp at this; omega, by rw [World.cell?_of_block hk]; exact q2⟩
        clear B3 B4 hs3 hs4 ho4 hown4 hgrow4
        go_wp2_with fail
        refine (HP.out _ _ _ gk hao hsec).mono ?_
        rintro e w5 ⟨rfl, b5⟩
        have B5 := B4'.trans (b5.mono B4'.size)
        have hs5 := hs4'.below b5
        clear B4' hs4' b5 HP hsec hao
        go_wp2_with fail
        refine (HX.out _).mono ?_
        rintro e w6 ⟨a6, cap6, g6, rfl, ha6, hs6, b6⟩
        have B6 := B5.trans (b6.mono B5.size)
        have hs6' := hs5.below b6
        clear B5 b6 hs5
        go_wp2_with fail
        refine (same5_any a6 (some y) _ _ cap6 _ g6 0 b o L L _ rfl rfl ha6 ha hs6 hs6' (by omega) (by omega)).mono ?_
        rintro e w7 ⟨rfl, b7⟩
        have B7 := B6.trans (b7.mono B6.size)
        rw [decide_eq_true rfl]
        clear B6 b7 hs6 hs6' ha6
        rcases half a1 hl1 with ⟨F, hF0, HF⟩ | ⟨HF, Z, HU, HQ⟩
        · go_wp2_with fail
          refine (HF.out _).mono ?_
          rintro e wa ⟨rfl, ba⟩
          have Ba := B7.trans (ba.mono B7.size)
          go_wp2_with fail
          go_ret
          exact ⟨rfl, Ba⟩
        · go_wp2_with fail
          refine (HF.out _).mono ?_
          rintro e wa ⟨rfl, ba⟩
          have Ba := B7.trans (ba.mono B7.size)
          go_wp2_with fail
          refine (HU.out _).mono ?_
          rintro e wb ⟨ab, capb, gb, rfl, hab, hsb, bb⟩
          have Bb := Ba.trans (bb.mono Ba.size)
          clear Ba ba bb
          go_wp2_with fail
          refine (HQ.out _ _ _ gb hab hsb).mono ?_
          rintro e wc ⟨rfl, bc⟩
          have Bc := Bb.trans (bc.mono Bb.size)
          go_wp2_with fail
          go_ret
          exact ⟨by simp, Bc⟩
  · have hc : 500 < L.length ∨ (L.length ≤ 500 ∧ 1000 < a1.size) := by omega
    rcases hc with h1 | ⟨h1, h2⟩
    all_goals
      go_enter Try.func5, Try.ntmps5
      go_wp2_with fail
      refine (awake_any _).mono ?_
      rintro e w1 ⟨rfl, hb1⟩
      go_wp2_with fail
      refine (awake_any _).mono ?_
      rintro e w2 ⟨rfl, hb2⟩
      go_wp2_with fail
      go_ret
      exact ⟨rfl, bjoin hb1 hb2 hb1.size⟩

set_option maxRecDepth 100000 in
theorem lifted (os : Os) (started : os.Started) (H : Type) (enc : TypeId × Value → H) :
    ReturnsInHanded {} Try.checked os 5 .any (Rows.utfBackSpec.pre6 enc Try.prog Try.f5 Rows.utfBackRow.domain false) (Rows.utfBackSpec.post enc Try.prog Try.f5 false true false false) := by
  refine returnsInHanded_of_change (C := Try.checked) own started (by kernel_rfl) Try.func5
    (ChangeSpec.witness6 (enc := enc) (C := Try.checked) false ⟨#[], #[.slice none 0 0, .string ByteArray.empty], []⟩ 8 (by kernel_rfl) (by kernel_rfl) (by kernel_rfl) (by kernel_rfl)) ?_
  intro W base args ds gs before hval0 hW hcnd _
  have hval : ∀ (j : Nat) t v, Try.f5.params[j]? = some t → args[j]? = some v → Value.okWide Try.prog W .any base t v := hval0
  have hW' := hW
  obtain ⟨p, q, hA0, hV, rfl, hfz, hnd⟩ := hW
  have hA : DataW.TrodAll enc Try.prog W 0 (fun _ => true) true Try.f5.params.toList args.toList ds p := hA0
  rw [Try.params5] at hA hval
  obtain ⟨v0, vs0, d0, ds0, p0, q0, hargs, rfl, rfl, h0, r0⟩ := trodAll_cons hA
  obtain ⟨v1, vs1, d1, ds1, p1, q1, rfl, rfl, rfl, h1, r1⟩ := trodAll_cons r0
  obtain ⟨rfl, rfl, rfl⟩ := trodAll_nil r1
  obtain rfl : args = #[v0, v1] := by cases args; simp_all
  obtain ⟨rfl, rfl⟩ := trodVars_none hV
  obtain ⟨a0, len0, cap0, rfl⟩ := okWide_slice Try.underlying23 (hval 0 23 v0 rfl rfl)
  have k0 := h0
  have lt0 : ∀ x ∈ p0, x.block < W.heap.size := by obtain ⟨m, hm⟩ := k0; exact DataW.trod_lt m _ _ _ hm
  obtain ⟨z0, w0⟩ : ∃ zs, IsRow .i32 W a0 len0 cap0 zs := by
    obtain ⟨fuel, hf⟩ := h0
    rcases open_ints Try.underlying23 Try.underlying21 (by kernel_rfl) hf with ⟨hcs, _⟩ | ⟨x, l, c, zs, hcs, _, hl, hm, hz, _, hcell, hwz⟩
    · simp [Value.cells] at hcs
      obtain ⟨rfl, rfl, rfl⟩ := hcs
      exact ⟨[], .inl ⟨rfl, rfl, rfl, rfl⟩⟩
    · simp [Value.cells] at hcs
      obtain ⟨rfl, rfl, rfl⟩ := hcs
      exact ⟨zs, .inr ⟨_, rfl, hl, hm, by simpa using hz, hcell, hwz⟩⟩
  obtain ⟨a1, rfl, rfl, rfl, w1⟩ := open_string Try.underlying9 (hval 1 9 v1 rfl rfl) h1
  clear hA0 hval0
  refine (walk a0 len0 cap0 z0 a1 W w0 w1).mono fun e W' ⟨he, bel⟩ => ?_
  subst he
  exact ⟨_, rfl, _, _, _, [], _, [], hW', trodAll_mk1 (shut_bool Try.underlying4 _), (trodAll_cons_mk (Below.trod laidOut (by kernel_rfl) (of_decide_eq_true (by kernel_rfl)) k0 bel lt0) (trodAll_cons_mk (shut_string Try.underlying9 w1) trodAll_mk0)), rfl, bel.frame _, fun h => by cases h⟩

theorem over : Rows.utfBackRow.holds Try.pinned (OpenSpec.ofChange Rows.utfBackSpec) :=
  OpenClaim.holds_of_wide 5 Try.f5 rfl rfl rfl rfl rfl rfl rfl ⟨rfl, rfl, rfl, rfl, rfl⟩ rfl rfl rfl rfl rfl (by kernel_rfl) Try.func5 (by kernel_rfl)
    (of_decide_eq_true (by kernel_rfl)) (by unfold Func.isWrapper; first | (rw [if_pos (by decide +kernel)]; kernel_rfl) | (rw [if_neg (by decide +kernel)]; exact ⟨rfl, rfl⟩))
    (fun os started H enc _ => lifted os started H enc)

end Go.Proofs.Ytihlpeakddbopaa.utfBack

namespace Go.Proofs.Ytihlpeakddbopaa
theorem utfBack_holds : Rows.UtfBackSaid := utfBack.over
#print axioms utfBack_holds
end Go.Proofs.Ytihlpeakddbopaa
