/- The contracts of utf's Count and Runes. -/
import Derived.Test.YtihlpeakddbopaaUGo
namespace Go.Proofs.Ytihlpeakddbopaa
open Go.RowKit

theorem pFirst_lt (l : List UInt8) : pFirst l < 0 ↔ (read l).2 = l.length := by
  unfold pFirst
  split <;> omega

/-- One character more, in a text that is UTF-8 from here on. -/
theorem more_is (s : ByteArray) (A : Nat) (h : A < s.size) (hr : A + (read (s.data.toList.drop A)).2 = s.size) :
    Utf8.decode s A = dec8 (s.data.toList.drop A) ∧ isC (dec8 (s.data.toList.drop A)).1 ∧ 0 < (dec8 (s.data.toList.drop A)).2 ∧ A + (dec8 (s.data.toList.drop A)).2 ≤ s.size ∧
    (read (s.data.toList.drop A)).1 = (dec8 (s.data.toList.drop A)).1 :: (read (s.data.toList.drop (A + (dec8 (s.data.toList.drop A)).2))).1 ∧
    A + (dec8 (s.data.toList.drop A)).2 + (read (s.data.toList.drop (A + (dec8 (s.data.toList.drop A)).2))).2 = s.size := by
  have hn : (dec8 (s.data.toList.drop A)).2 ≠ 0 := fun e => by
    rw [read_stop _ e] at hr
    simp at hr
    omega
  have hd := decode_is s A h
  rw [if_neg hn] at hd
  have hl : (s.data.toList.drop A).length = s.size - A := by rw [List.length_drop, Array.length_toList]; rfl
  obtain ⟨d1, d2, _, _⟩ := dec8_ok _ hn
  rw [hl] at d2
  have hg := read_go _ hn
  rw [List.drop_drop] at hg
  refine ⟨hd, d1, by omega, by omega, by rw [hg], ?_⟩
  rw [hg] at hr
  dsimp only at hr
  omega

set_option maxRecDepth 10000 in
set_option maxHeartbeats 400000 in
theorem count_any (s : ByteArray) (w : World) (hs : s.size ≤ 100000) :
    Calls Try.prog 11 #[.string s] w fun e w' => e = .returned (.int .i64 (pCount s.data.toList)) ∧ Below w.heap.size w w' := by
  have hsz : s.data.toList.length = s.size := by rw [Array.length_toList]; rfl
  have HF : Hid _ := fun (W : World) => first_any s W (by omega)
  have hlt := pFirst_lt s.data.toList
  have hc := read_count s.data.toList
  have hle := read_le s.data.toList
  obtain ⟨F, hF⟩ : ∃ F, pFirst s.data.toList = F := ⟨_, rfl⟩
  obtain ⟨V, HV⟩ : ∃ V, Hid (pCount s.data.toList = V ∧ V = if (read s.data.toList).2 = s.size then ((read s.data.toList).1.length : Int) else -1) := ⟨_, rfl, by unfold pCount; rw [hsz]⟩
  rw [HV.out.1]
  rw [hF] at HF hlt
  rw [hsz] at hlt hle
  clear hF
  go_enter Try.func11, Try.ntmps11
  by_cases hok : (read s.data.toList).2 = s.size
  · have hn := hlt.2 hok
    have HQ : Hid (V = ((read s.data.toList).1.length : Int)) := by have := HV.out.2; rw [if_pos hok] at this; exact this
    have HX : Hid (0 + (read (s.data.toList.drop 0)).2 = s.size ∧ 0 + (read (s.data.toList.drop 0)).1.length = (read s.data.toList).1.length) := by
      rw [List.drop_zero]; exact ⟨by omega, by omega⟩
    generalize (read s.data.toList).1.length = T at *
    clear HV hlt hok
    go_wp2_with fail
    refine (HF.out _).mono ?_
    rintro e w1 ⟨rfl, b1⟩
    clear HF
    have hB1 : Below w.heap.size w (w1.iter s 0) := b1.alloc b1.size _
    have hit1 : (w1.iter s 0).heap[w1.heap.size]? = some (.stringIter s 0) := World.iter_heap w1 s 0
    have hw1 := b1.size
    clear b1
    go_wp2_with fail
    go_loopw [3] (fun nv wr => ∃ A n : Nat, nv = .int .i64 n ∧ n ≤ 100000 ∧ wr.heap[w1.heap.size]? = some (.stringIter s A) ∧ A ≤ s.size ∧ Below w.heap.size w wr ∧ Hid (A + (read (s.data.toList.drop A)).2 = s.size ∧ n + (read (s.data.toList.drop A)).1.length = T)) (fun _ wr => s.size - wr.iterPos w1.heap.size)
    case atStart => exact ⟨0, 0, rfl, by omega, hit1, by omega, hB1, HX⟩
    case round =>
      clear HX hit1 hB1
      obtain ⟨A, n, rfl, hn2, hit, hA, hB, HX⟩ := hrel
      by_cases hlt : A < s.size
      · have hnx : ∀ ty, (Instr.next (.pointer (some ⟨w1.heap.size, 0, none⟩)) true ty).run Try.prog wr = _ := fun ty => Lib.run_next_any_at wr w1.heap.size s A ty hit hlt
        obtain ⟨m1, m2, m3, m4, m5, m6⟩ := more_is s A hlt HX.out.1
        have hx := HX.out.2
        rw [m5] at hx
        rw [m1] at hnx
        generalize dec8 (s.data.toList.drop A) = D at *
        obtain ⟨c, k⟩ := D
        dsimp only at *
        have hn3 : (n : Int) + 1 ≤ 100000 := by simp at hx; omega
        have HQ2 : Hid (A + k + (read (s.data.toList.drop (A + k))).2 = s.size ∧ n + 1 + (read (s.data.toList.drop (A + k))).1.length = T) := ⟨m6, by simp at hx; omega⟩
        have hit2 := Lib.iterAt_heap wr w1.heap.size s A (A + k) hit
        have hB2 := Lib.below_iterAt hB (k := w1.heap.size) (by omega) s (A + k)
        have HI : Hid (wr.iterPos w1.heap.size = A ∧ (wr.iterAt w1.heap.size s (A + k)).iterPos w1.heap.size = A + k) := ⟨by simp only [World.iterPos, hit], by simp only [World.iterPos, hit2]⟩
        clear HX hx m1 m2 m5 m6 hit hB
        go_wp2_with fail
        go_roundw
        case rel => exact ⟨A + k, n + 1, by go_num, by omega, hit2, by omega, hB2, HQ2.out⟩
        case measure => rw [HI.out.1, HI.out.2]; omega
      · have hnx : ∀ ty, (Instr.next (.pointer (some ⟨w1.heap.size, 0, none⟩)) true ty).run Try.prog wr = _ := fun ty => Lib.run_next_end_at wr w1.heap.size s A ty hit hlt
        have HQ2 : Hid (V = (n : Int)) := by
          have h2 := HX.out.2
          rw [drop_end s A (by omega), read_nil] at h2
          have h3 := HQ.out
          show _ = _
          simp at h2
          omega
        clear HX hit HQ
        go_wp2_with fail
        go_ret
        rw [HQ2.out]
        exact ⟨rfl, hB⟩
  · have hn : ¬ F < 0 := fun e => hok (hlt.1 e)
    have HQ : Hid (V = -1) := by have := HV.out.2; rw [if_neg hok] at this; exact this
    clear HV hlt hok
    go_wp2_with fail
    refine (HF.out _).mono ?_
    rintro e w1 ⟨rfl, b1⟩
    clear HF
    go_wp2_with fail
    go_ret
    rw [HQ.out]
    exact ⟨rfl, b1⟩

end Go.Proofs.Ytihlpeakddbopaa
