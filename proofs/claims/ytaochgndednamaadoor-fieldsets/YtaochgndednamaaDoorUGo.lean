/- The contracts of utf's First, Count, Runes and Put (over a range over a text), in the plain mathematics' words. -/
import Derived.Test.YtaochgndednamaaDoorURef3
import Derived.Test.YtaochgndednamaaDoorUDec
import Derived.Lib.OthersKept
import Derived.Laws.RangeAny
namespace Go.Proofs.YtaochgndednamaaDoor
open Go.RowKit

def pFirst (l : List UInt8) : Int := if (read l).2 = l.length then -1 else ((read l).2 : Int)
def pCount (l : List UInt8) : Int := if (read l).2 = l.length then ((read l).1.length : Int) else -1
def pRunes (l : List UInt8) : List Int := if (read l).2 = l.length then zL (read l).1 else []

theorem chr_bad : chr 65533 = [239, 191, 189] := by decide

/-- What the language's reading of the next character says of the plain one's. -/
theorem next_is (l : List UInt8) (d : Nat × Nat) (hd : d = if (dec8 l).2 = 0 then (65533, 1) else dec8 l) :
    (d.1 = 65533 ∧ ¬ l.take 3 = [239, 191, 189] ∧ (dec8 l).2 = 0) ∨ ((dec8 l).2 ≠ 0 ∧ d = dec8 l ∧ (d.1 = 65533 → l.take 3 = [239, 191, 189])) := by
  by_cases h : (dec8 l).2 = 0
  · left
    rw [if_pos h] at hd
    refine ⟨by rw [hd], fun e => ?_, h⟩
    have hl : 3 ≤ l.length := by
      have := congrArg List.length e
      simp at this
      omega
    have := dec8_take l 65533 3 (by unfold isC; omega) hl (by rw [chr_bad, e])
    rw [this] at h
    simp at h
  · right
    rw [if_neg h] at hd
    refine ⟨h, hd, fun e => ?_⟩
    obtain ⟨_, _, h3, h4⟩ := dec8_ok l h
    rw [← hd] at h3 h4
    rw [e, chr_bad] at h3 h4
    simp at h4
    rw [← h4] at h3
    exact h3.symm

/-- The text of the replacement character. -/
def badT : ByteArray := ⟨#[239, 191, 189]⟩

theorem hasp2_any (s : ByteArray) (w : World) (hs : s.size ≤ 1000000) :
    Calls Tryd.prog 35 #[.string s, .string badT] w fun e w' => e = .returned (.bool (decide (s.data.toList.take 3 = [239, 191, 189]))) ∧ w' = w := by
  have hb : badT.size = 3 := rfl
  have HB : Hid (badT.data.toList = [239, 191, 189]) := rfl
  generalize badT = p at *
  go_enter Tryd.func35, Tryd.ntmps35
  by_cases h : 3 ≤ s.size
  · go_wp2_with fail
    go_ret
    refine ⟨?_, rfl⟩
    have hx : ((s.extract 0 3).toList == p.toList) = decide (s.data.toList.take 3 = [239, 191, 189]) := by
      rw [ByteArray.toList_eq, ByteArray.toList_eq, HB.out, Lib.extract_data, List.drop_zero, Bool.beq_eq_decide_eq]
    rw [← hx]
    rfl
  · go_wp2_with fail
    go_ret
    have h : ¬ (s.data.toList.take 3 = [239, 191, 189]) := fun e => by
      have := congrArg List.length e
      rw [List.length_take, Array.length_toList] at this
      have h2 : s.data.size = s.size := rfl
      simp at this
      omega
    rw [decide_eq_false h]
    exact ⟨rfl, rfl⟩

theorem hasp_any (s : ByteArray) (w : World) (hs : s.size ≤ 1000000) :
    Calls Tryd.prog 33 #[.string s, .string badT] w fun e w' => e = .returned (.bool (decide (s.data.toList.take 3 = [239, 191, 189]))) ∧ w' = w := by
  have HS : Hid _ := fun (W : World) => hasp2_any s W hs
  generalize decide (s.data.toList.take 3 = [239, 191, 189]) = d at *
  go_enter Tryd.func33, Tryd.ntmps33
  go_wp2_with fail
  refine (HS.out _).mono ?_
  rintro e w1 ⟨rfl, rfl⟩
  go_wp2_with fail
  go_ret
  exact ⟨rfl, rfl⟩

set_option maxRecDepth 10000 in
set_option maxHeartbeats 400000 in
theorem first_any (s : ByteArray) (w : World) (hs : s.size ≤ 1000000) :
    Calls Tryd.prog 30 #[.string s] w fun e w' => e = .returned (.int .i64 (pFirst s.data.toList)) ∧ Below w.heap.size w w' := by
  have hsz : s.data.toList.length = s.size := by rw [Array.length_toList]; rfl
  obtain ⟨R, hR⟩ : ∃ R, read s.data.toList = R := ⟨_, rfl⟩
  have HR : Hid (read (s.data.toList.drop 0) = R) := by show _ = _; rw [List.drop_zero]; exact hR
  obtain ⟨V, HV⟩ : ∃ V, Hid (pFirst s.data.toList = V ∧ V = if R.2 = s.size then -1 else (R.2 : Int)) := ⟨_, rfl, by unfold pFirst; rw [hR, hsz]⟩
  rw [HV.out.1]
  clear hR
  go_enter Tryd.func30, Tryd.ntmps30
  go_wp2_with fail
  go_loopw [] (fun wr => ∃ A : Nat, wr.heap[w.heap.size]? = some (.stringIter s A) ∧ A ≤ s.size ∧ Below w.heap.size w wr ∧ Hid (R.2 = A + (read (s.data.toList.drop A)).2)) (fun wr => s.size - wr.iterPos w.heap.size)
  case atStart => exact ⟨0, World.iter_heap w s 0, by omega, (Below.refl _ _).alloc (Nat.le_refl _) _, by show _ = _; rw [HR.out]; simp⟩
  case round =>
    clear HR
    obtain ⟨A, hit, hA, hB, HX⟩ := hrel
    by_cases hlt : A < s.size
    · have hnx : ∀ ty, (Instr.next (.pointer (some ⟨w.heap.size, 0, none⟩)) true ty).run Tryd.prog wr = _ := fun ty => Lib.run_next_any_at wr w.heap.size s A ty hit hlt
      have hd := decode_is s A hlt
      have hnn := next_is _ _ hd
      have hd1 := decode_le s A
      have hgo := read_go (s.data.toList.drop A)
      have hst := read_stop (s.data.toList.drop A)
      have hok := dec8_ok (s.data.toList.drop A)
      have hl : (s.data.toList.drop A).length = s.size - A := by rw [List.length_drop, hsz]
      have hdd : ∀ k, (s.data.toList.drop A).drop k = s.data.toList.drop (A + k) := fun k => by rw [List.drop_drop]
      have hx := HX.out
      rw [hl] at hok
      rw [hdd] at hgo
      have hxl : (s.extract A s.size).data.toList = s.data.toList.drop A := by rw [Lib.extract_data, List.take_of_length_le (by rw [List.length_drop, hsz]; omega)]
      have HS : Hid _ := fun (W : World) => hasp_any (s.extract A s.size) W (by rw [ByteArray.size_extract]; omega)
      rw [hxl] at HS
      clear hxl
      generalize Utf8.decode s A = D at *
      obtain ⟨c, k⟩ := D
      have hit2 := Lib.iterAt_heap wr w.heap.size s A (A + k) hit
      have hB2 := Lib.below_iterAt hB (k := w.heap.size) (Nat.le_refl _) s (A + k)
      have HI : Hid (wr.iterPos w.heap.size = A ∧ (wr.iterAt w.heap.size s (A + k)).iterPos w.heap.size = A + k) := ⟨by simp only [World.iterPos, hit], by simp only [World.iterPos, hit2]⟩
      dsimp only at *
      clear HX hl hdd hit hd
      rcases hnn with ⟨n1, n2, n3⟩ | ⟨n1, n2, n3⟩
      · subst n1
        have HQ : Hid (R.2 = A) := by show _ = _; rw [hst n3] at hx; simpa using hx
        have HS2 : Hid _ := fun (W : World) => (decide_eq_false n2) ▸ HS.out W
        clear hst hgo hok hx n3 hB n2 HS hit2
        go_wp2_with fail
        refine (HS2.out _).mono ?_
        rintro e w1 ⟨rfl, rfl⟩
        go_wp2_with fail
        go_ret
        have hq := HQ.out
        have hv := HV.out.2
        rw [if_neg (by omega), hq] at hv
        rw [hv]
        exact ⟨rfl, hB2⟩
      · obtain ⟨d1, d2, _, _⟩ := hok n1
        rw [← n2] at d1 d2 hgo n1
        have HQ : Hid (R.2 = A + k + (read (s.data.toList.drop (A + k))).2) := by
          show _ = _
          rw [hgo n1] at hx
          simpa [Nat.add_assoc] using hx
        dsimp only at *
        unfold isC at d1
        clear hst hgo hok hx n2 hB
        by_cases hc : c = 65533
        · have HS2 : Hid _ := fun (W : World) => (decide_eq_true (n3 hc)) ▸ HS.out W
          subst hc
          clear HS n3
          go_wp2_with fail
          refine (HS2.out _).mono ?_
          rintro e w1 ⟨rfl, rfl⟩
          go_wp2_with fail
          go_roundw
          case rel => exact ⟨A + k, hit2, by omega, hB2, HQ.out⟩
          case measure => rw [HI.out.1, HI.out.2]; omega
        · have hc' : ¬ (c : Int) = 65533 := by omega
          clear HS n3
          go_wp2_with fail
          go_roundw
          case rel => exact ⟨A + k, hit2, by omega, hB2, HQ.out⟩
          case measure => rw [HI.out.1, HI.out.2]; omega
    · have hnx : ∀ ty, (Instr.next (.pointer (some ⟨w.heap.size, 0, none⟩)) true ty).run Tryd.prog wr = _ := fun ty => Lib.run_next_end_at wr w.heap.size s A ty hit hlt
      have HQ : Hid (R.2 = s.size) := by
        have h2 := HX.out
        rw [drop_end s A (by omega), read_nil] at h2
        show _ = _
        simp at h2
        omega
      clear HX hit
      go_wp2_with fail
      go_ret
      have hv := HV.out.2
      rw [if_pos HQ.out] at hv
      rw [hv]
      exact ⟨rfl, hB⟩

end Go.Proofs.YtaochgndednamaaDoor
