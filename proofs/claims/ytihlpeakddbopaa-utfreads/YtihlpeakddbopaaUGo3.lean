/- The contract of utf's Runes. -/
import Derived.Test.YtihlpeakddbopaaUGo2
import Derived.WalkSmall
namespace Go.Proofs.Ytihlpeakddbopaa
open Go.RowKit

/-- What Runes leaves. -/
def ROne (w w' : World) (e : Ending) (L : List Int) : Prop :=
  ∃ (a : Option Addr) (cap gk : Nat), e = .returned (.slice a L.length cap) ∧ (0 < L.length → a = some ⟨gk, 0, none⟩) ∧ RuneAt w' gk 0 L ∧ Below w.heap.size w w'

set_option maxRecDepth 10000 in
set_option maxHeartbeats 400000 in
theorem runes_any (s : ByteArray) (w : World) (hs : s.size ≤ 100000) :
    Calls Try.prog 12 #[.string s] w fun e w' => ROne w w' e (pRunes s.data.toList) := by
  have hsz : s.data.toList.length = s.size := by rw [Array.length_toList]; rfl
  have HF : Hid _ := fun (W : World) => first_any s W (by omega)
  have hlt := pFirst_lt s.data.toList
  obtain ⟨F, hF⟩ : ∃ F, pFirst s.data.toList = F := ⟨_, rfl⟩
  obtain ⟨V, HV⟩ : ∃ V, Hid (pRunes s.data.toList = V ∧ V = if (read s.data.toList).2 = s.size then zL (read s.data.toList).1 else []) := ⟨_, rfl, by unfold pRunes; rw [hsz]⟩
  rw [HV.out.1]
  rw [hF] at HF hlt
  rw [hsz] at hlt
  clear hF
  obtain ⟨i0, hi, hz0, hz1, hz2⟩ := info_parts Try.infoR
  go_enter Try.func12, Try.ntmps12
  by_cases hok : (read s.data.toList).2 = s.size
  · have hn := hlt.2 hok
    have hc := read_count s.data.toList
    rw [hok] at hc
    have HQ : Hid (V = zL (read s.data.toList).1) := by have := HV.out.2; rw [if_pos hok] at this; exact this
    have HX : Hid (0 + (read (s.data.toList.drop 0)).2 = s.size ∧ [] ++ (read (s.data.toList.drop 0)).1 = (read s.data.toList).1 ∧ ([] : List Nat).length = 0) := by
      rw [List.drop_zero]; exact ⟨by omega, rfl, rfl⟩
    generalize (read s.data.toList).1 = T at *
    clear HV hlt hok
    go_wp2_with fail
    refine (HF.out _).mono ?_
    rintro e w1 ⟨rfl, b1⟩
    clear HF
    have hB1 : Below w.heap.size w (w1.iter s 0) := b1.alloc b1.size _
    have hit1 : (w1.iter s 0).heap[w1.heap.size]? = some (.stringIter s 0) := World.iter_heap w1 s 0
    have hw1 := b1.size
    clear b1
    go_wp2_with fail
    go_loopw [3] (fun ov wr => ∃ (A n : Nat) (a : Option Addr) (cap : Nat) (xs : List Nat), ov = .slice a n cap ∧ n ≤ A ∧ wr.ownsRow (w1.heap.size + 1) 21 1 (.slice a n cap) n (rV (zL xs)) ∧ wr.heap[w1.heap.size]? = some (.stringIter s A) ∧ A ≤ s.size ∧ Below w.heap.size w wr ∧ Hid (A + (read (s.data.toList.drop A)).2 = s.size ∧ xs ++ (read (s.data.toList.drop A)).1 = T ∧ xs.length = n)) (fun _ wr => s.size - wr.iterPos w1.heap.size)
    case atStart => exact ⟨0, 0, none, 0, [], rfl, by omega, World.ownsRow_nil _ _ _ _, hit1, by omega, hB1, HX⟩
    case round =>
      clear HX hit1 hB1
      obtain ⟨A, n, a, cap, xs, rfl, hnA, hown, hit, hA, hB, HX⟩ := hrel
      have hwr : w1.heap.size < wr.heap.size := (Array.getElem?_eq_some_iff.1 hit).1
      by_cases hlt : A < s.size
      · have hnx : ∀ ty, (Instr.next (.pointer (some ⟨w1.heap.size, 0, none⟩)) true ty).run Try.prog wr = _ := fun ty => Lib.run_next_any_at wr w1.heap.size s A ty hit hlt
        obtain ⟨m1, m2, m3, m4, m5, m6⟩ := more_is s A hlt HX.out.1
        have hx := HX.out.2
        rw [m5] at hx
        rw [m1] at hnx
        generalize dec8 (s.data.toList.drop A) = D at *
        obtain ⟨c, k⟩ := D
        dsimp only at *
        have HQ2 : Hid (A + k + (read (s.data.toList.drop (A + k))).2 = s.size ∧ xs ++ [c] ++ (read (s.data.toList.drop (A + k))).1 = T ∧ (xs ++ [c]).length = n + 1) := ⟨m6, by rw [← hx.1]; simp, by simp [hx.2]⟩
        have hit2 := Lib.iterAt_heap wr w1.heap.size s A (A + k) hit
        have hB2 := Lib.below_iterAt hB (k := w1.heap.size) (by omega) s (A + k)
        have o1 := ownsRow_iterAt hown (k := w1.heap.size) (by omega) s (A + k)
        have HI : Hid (wr.iterPos w1.heap.size = A) := iterPos_of hit
        have hwi : w1.heap.size < (wr.iterAt w1.heap.size s (A + k)).heap.size := by rw [Lib.iterAt_size]; exact hwr
        unfold isC at m2
        generalize wr.iterAt w1.heap.size s (A + k) = wi at *
        have hbk := fun q hq => (o1.lt q hq).1
        clear HX hx m1 m5 m6 hit hB hown
        go_wp2_with (at_builtin; refine wpList_append_lies _ rfl _ _ 23 rfl (w1.heap.size + 1) 21 i0 (.int .i32 0) 1 4 Try.underlying23 hi hz0 hz1 hz2 rfl (by decide) _ n (rV (zL xs)) rfl (o1.alloc _) ⟨wi.heap.size, 0, none⟩ 1 1 [.int .i32 (c : Int)] rfl rfl (cell_one_new _ _ _) (by intro u hu; simp at hu; subst hu; rfl) (by decide) (by unfold maxLen; omega) (by omega) (by simp; omega) _ rfl ?_)
        intro g2 cap2 w2 hown2 hgrow2 _ _
        have B2 : Below w.heap.size w w2 := (hB2.alloc hB2.size _).grown hgrow2 (by have := hB2.size; simp; omega) (fun q hq => by have := hbk q hq; omega)
        have hit3 : w2.heap[w1.heap.size]? = some (.stringIter s (A + k)) := by
          rw [hgrow2.block w1.heap.size (by simp; omega) (fun e => by have := hbk _ e.symm; omega)]
          rw [Below.heap_alloc _ _ _ hwi]
          exact hit2
        clear hgrow2 hit2 hB2 o1
        go_wp2_with fail
        go_roundw
        case rel => exact ⟨A + k, n + 1, _, cap2, xs ++ [c], rfl, by omega, by simpa [zL, rV] using hown2, hit3, by omega, B2, HQ2.out⟩
        case measure => rw [HI.out, iterPos_of hit3]; omega
      · have hnx : ∀ ty, (Instr.next (.pointer (some ⟨w1.heap.size, 0, none⟩)) true ty).run Try.prog wr = _ := fun ty => Lib.run_next_end_at wr w1.heap.size s A ty hit hlt
        have HQ2 : Hid (V = zL xs ∧ xs.length = n) := by
          have h2 := HX.out.2
          rw [drop_end s A (by omega), read_nil] at h2
          exact ⟨by rw [HQ.out, ← h2.1]; simp, h2.2⟩
        clear HX hit HQ
        go_wp2_with fail
        go_ret
        obtain ⟨hq, hl⟩ := HQ2.out
        have hlz : (zL xs).length = n := by rw [zL_length]; exact hl
        obtain ⟨gk, h1, h2⟩ := own_runes hown hlz
        rw [hq]
        refine ⟨a, cap, gk, ?_, ?_, h2, hB⟩
        · rw [hlz]; rfl
        · rw [hlz]; exact h1
  · have hn : ¬ F < 0 := fun e => hok (hlt.1 e)
    have HQ : Hid (V = []) := by have := HV.out.2; rw [if_neg hok] at this; exact this
    clear HV hlt hok
    go_wp2_with fail
    refine (HF.out _).mono ?_
    rintro e w1 ⟨rfl, b1⟩
    clear HF
    go_wp2_with fail
    go_ret
    rw [HQ.out]
    exact ⟨none, 0, 0, rfl, by simp, fun i h => by simp at h, b1⟩

end Go.Proofs.Ytihlpeakddbopaa
