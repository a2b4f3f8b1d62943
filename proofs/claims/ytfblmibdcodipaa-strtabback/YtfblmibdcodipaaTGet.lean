/- The contract of the program's Get of a table. -/
import Derived.Test.YtfblmibdcodipaaTRead
import Derived.Deep.LoopGhost
namespace Go.Proofs.Ytfblmibdcodipaa
open Go.RowKit Go.Maps Go.WideMaps

theorem gets6_read (b : ByteArray) (M : Int) (n k : Nat) (xs : List ByteArray) : gets6 b M (n + 1) k xs = if (read6 b k (M - (sum6 xs : Nat)) xs).1 ≠ 0 then ((read6 b k (M - (sum6 xs : Nat)) xs).1, [], 0) else gets6 b M n (read6 b k (M - (sum6 xs : Nat)) xs).2.1 (read6 b k (M - (sum6 xs : Nat)) xs).2.2 := by
  rw [gets6_step b M n k xs _ rfl]
  unfold read6
  by_cases h1 : (pText b k 0 (M - (sum6 xs : Nat))).2.2 ≠ 0
  · simp only [if_pos h1]
  · simp only [if_neg h1]
    by_cases h2 : right5 (pText b k 0 (M - (sum6 xs : Nat))).1 = false
    · simp only [if_pos h2]; rfl
    · simp only [if_neg h2]
      by_cases h3 : idx6 (pText b k 0 (M - (sum6 xs : Nat))).1 xs < xs.length
      · simp only [if_pos h3]; rfl
      · simp only [if_neg h3]; rfl

theorem read6_in (b : ByteArray) (k : Nat) (m : Int) (L : List ByteArray) (hk : k ≤ b.size) (hL : sum6 L + L.length ≤ k) :
    (read6 b k m L).2.1 ≤ b.size ∧ ((read6 b k m L).1 = 0 → (read6 b k m L).2.2.length = L.length + 1) ∧ sum6 (read6 b k m L).2.2 + (read6 b k m L).2.2.length ≤ (read6 b k m L).2.1 := by
  have h0 := pText_at b k 0 m hk
  have h9 := pText_step b k m hk
  unfold read6
  generalize pText b k 0 m = X at *
  obtain ⟨s, k1, e1⟩ := X
  dsimp only at *
  split
  · rename_i h; exact ⟨h0.2, fun q => absurd q h, by dsimp only; omega⟩
  · rename_i h
    obtain ⟨h1, h2⟩ := h9 (by simpa using h)
    split
    · exact ⟨h2, fun q => by simp at q, by dsimp only; omega⟩
    · split
      · exact ⟨h2, fun q => by simp at q, by dsimp only; omega⟩
      · refine ⟨h2, fun _ => by simp, ?_⟩
        dsimp only
        rw [sum6_append]
        simp [sum6] at hL ⊢
        omega

/-- What stands behind the texts. -/
def after6 (b : ByteArray) (G : Int × List ByteArray × Nat) : Int × List ByteArray := if G.1 ≠ 0 then (G.1, []) else if G.2.2 < b.size then (8, []) else (0, G.2.1)
theorem pGet6_is (b : ByteArray) (texts bytes : Int) : pGet6 b texts bytes = if (pUint b 0 0 (max texts 0)).2.2 ≠ 0 then ((pUint b 0 0 (max texts 0)).2.2, []) else after6 b (gets6 b (max bytes 0) (pUint b 0 0 (max texts 0)).1.toNat (pUint b 0 0 (max texts 0)).2.1 []) := by
  unfold pGet6 after6
  rfl

/-- What Get leaves: an error alone, or a table. -/
def TbGot (w w' : World) (e : Ending) (R : Int × List ByteArray) : Prop :=
  Below w.heap.size w w' ∧ ((R.1 ≠ 0 ∧ e = .returned (.tuple #[.pointer none, .int .i64 R.1])) ∨ (R.1 = 0 ∧ ∃ g gm v, e = .returned (.tuple #[.pointer (some ⟨g, 0, none⟩), .int .i64 0]) ∧ Tb w' w.heap.size g gm v R.2))

set_option maxRecDepth 10000 in
set_option maxHeartbeats 1600000 in
theorem tget_any (b : ByteArray) (texts bytes : Int) (w : World) (hs : b.size ≤ 1000000) (ht : texts ≤ 9223372036854775807) (hb : bytes ≤ 9223372036854775807) :
    Calls Try.prog 21 #[.string b, .int .i64 texts, .int .i64 bytes] w fun e w' => TbGot w w' e (pGet6 b texts bytes) := by
  have hmax : b.size ≤ maxLen := by unfold maxLen; omega
  have HN : Cu (w.alloc (.cells #[.string b, .int .i64 0, .nilIface] 78)) w.heap.size b (0 : Nat) 0 := At3.new _ _ _ _ _
  have B1 : Below w.heap.size w (w.alloc (.cells #[.string b, .int .i64 0, .nilIface] 78)) := (Below.refl _ _).alloc (Nat.le_refl _) _
  obtain ⟨T, hT⟩ : ∃ T, T = max texts 0 := ⟨_, rfl⟩
  obtain ⟨M, hM⟩ : ∃ M, M = max bytes 0 := ⟨_, rfl⟩
  obtain ⟨R, HR⟩ : ∃ R, Hid (pGet6 b texts bytes = R ∧ R = if (pUint b 0 0 T).2.2 ≠ 0 then ((pUint b 0 0 T).2.2, []) else after6 b (gets6 b M (pUint b 0 0 T).1.toNat (pUint b 0 0 T).2.1 [])) := ⟨_, rfl, by rw [hT, hM, pGet6_is]⟩
  rw [HR.out.1]
  have HU : Hid (∀ W, Cu W w.heap.size b (0 : Nat) 0 → Calls Try.prog 32 #[.pointer (some ⟨w.heap.size, 0, none⟩), .int .u64 T] W fun r w' => r = .returned (.int .i64 (pUint b 0 0 T).1) ∧ Cu w' w.heap.size b ((pUint b 0 0 T).2.1 : Nat) (pUint b 0 0 T).2.2 ∧ W.grownBy w' (some w.heap.size)) := fun W hW => uint_any W w.heap.size b 0 0 T hW hmax (Nat.zero_le _)
  obtain ⟨_, hk0⟩ := pUint_at b 0 0 T (Nat.zero_le _)
  obtain ⟨hu0, hu1, hu2⟩ := pUint_val b 0 T
  have hq := HR.out.2
  clear HR
  generalize pUint b 0 0 T = U at *
  obtain ⟨u, k0, e0⟩ := U
  dsimp only at *
  obtain ⟨N, rfl⟩ := Int.eq_ofNat_of_zero_le hu0
  rw [show ((N : Int)).toNat = N from rfl] at hq
  have hT1 : (if texts < 0 then 0 else texts) = T := by split <;> omega
  have hM1 : (if bytes < 0 then 0 else bytes) = M := by split <;> omega
  have HQ : Hid (R = if e0 ≠ 0 then (e0, []) else after6 b (gets6 b M N k0 [])) := hq
  have hT0 : 0 ≤ T ∧ T ≤ 9223372036854775807 := by omega
  have hM0 : 0 ≤ M ∧ M ≤ 9223372036854775807 := by omega
  obtain ⟨hT0, hT2⟩ := hT0
  obtain ⟨hM0, hM2⟩ := hM0
  clear hT hM hq hu2 hu0
  go_enter Try.func21, Try.ntmps21
  go_wp2_with fail
  refine (new_any b w).mono ?_
  rintro e w1 ⟨rfl, rfl⟩
  go_wp2_with fail
  refine (tnew_any _).mono ?_
  rintro e w2 ⟨rfl, T2, b2⟩
  have C2 := HN.belowAll b2
  have B2 := B1.trans (b2.mono B1.size)
  have hne2 : ¬ TbS (w.heap.size + 1 + 1) (w.heap.size + 1) (.slice none 0 0) w.heap.size := by
    rintro (h | h | h)
    · omega
    · omega
    · simp [Value.ownBlock] at h
  simp only [show (w.alloc (.cells #[.string b, .int .i64 0, .nilIface] 78)).heap.size = w.heap.size + 1 by simp] at *
  have T2' := T2.mono (C := w.heap.size) (by omega)
  clear T2 HN B1 b2
  go_wp2_with fail
  refine Calls.mono (HU.out w2 C2) ?_
  rintro e w3 ⟨rfl, C3, g3⟩
  have T3 := tb_gc T2' g3 hne2
  have B3 := below_but B2 g3 (Nat.le_refl _) B2.size
  clear HU C2 T2' g3 B2
  go_wp2_with fail
  go_loopg [] (if e0 = 0 then N + 2 else 0) (fun n wr => ∃ (L : List ByteArray) (k : Nat) (e : Int) (v : Value), Tb wr w.heap.size (w.heap.size + 1 + 1) (w.heap.size + 1) v L ∧ Cu wr w.heap.size b k e ∧ ¬ TbS (w.heap.size + 1 + 1) (w.heap.size + 1) v w.heap.size ∧ k ≤ b.size ∧ sum6 L + L.length ≤ k ∧ Below w.heap.size w wr ∧ Hid (n = if e = 0 then N + 2 - L.length else 0) ∧ Hid ((e = 0 → L.length ≤ N ∧ R = after6 b (gets6 b M (N - L.length) k L)) ∧ (e ≠ 0 → R = (e, []))))
  case atStart =>
    refine ⟨[], k0, e0, _, T3, C3, hne2, hk0, by simp [sum6], B3, rfl, fun h => ⟨Nat.zero_le _, ?_⟩, fun h => ?_⟩
    · have := HQ.out
      rw [if_neg (by simpa using h)] at this
      exact this
    · have := HQ.out
      rw [if_pos h] at this
      exact this
  case round =>
    clear T3 C3 hne2 hk0 B3 HQ
    obtain ⟨L, k, e, v, hTb, hCu, hne, hk, hLk, hB, Hn, HI⟩ := hrel
    have HL : Hid _ := tlen_any hTb
    have HZ : Hid (¬ (L.length < N ∧ e = 0) → (k < b.size → ∀ e3 : Int, e3 = (if e = 0 then 8 else e) → R = (e3, [])) ∧ (¬ k < b.size → e = 0 → R = (0, L)) ∧ (e ≠ 0 → R = (e, []))) := by
      intro hno
      obtain ⟨h1, h2⟩ := HI.out
      by_cases he : e = 0
      · obtain ⟨h3, h4⟩ := h1 he
        rw [show N - L.length = 0 by omega] at h4
        have h5 : R = if k < b.size then (8, []) else (0, L) := h4
        refine ⟨fun hk e3 h3 => ?_, fun hk _ => ?_, fun h => absurd he h⟩
        · rw [if_pos he] at h3
          rw [h5, if_pos hk, h3]
        · rw [h5, if_neg hk]
      · refine ⟨fun hk e3 h3 => ?_, fun hk h => absurd h he, fun _ => h2 he⟩
        rw [if_neg he] at h3
        rw [h2 he, h3]
    by_cases hgo : L.length < N ∧ e = 0
    · obtain ⟨hlt, rfl⟩ := hgo
      have hlt' : (L.length : Int) < N := by omega
      obtain ⟨h3, h4⟩ := HI.out.1 rfl
      rw [show N - L.length = (N - L.length - 1) + 1 by omega, gets6_read] at h4
      have hin := read6_in b k (M - (sum6 L : Nat)) L hk hLk
      have HR : Hid (∀ W, Tb W w.heap.size (w.heap.size + 1 + 1) (w.heap.size + 1) v L → Cu W w.heap.size b k 0 → Calls Try.prog 34 #[.pointer (some ⟨w.heap.size + 1 + 1, 0, none⟩), .pointer (some ⟨w.heap.size, 0, none⟩), .int .i64 (M - (sum6 L : Nat))] W fun r w' => r = .returned (.tuple #[]) ∧ RdOut W w' w.heap.size (w.heap.size + 1 + 1) (w.heap.size + 1) v w.heap.size b (read6 b k (M - (sum6 L : Nat)) L)) :=
        fun W h1 h2 => tread_any h1 h2 hne hs hk (by omega) (by omega) (by omega)
      have H4 : Hid _ := h4
      have HB : Hid ((sum6 L : Int) ≤ 1000000) := by show _ ≤ _; omega
      have hsz : (sum6 L : Int) ≤ 1000000 := HB.out
      clear h4 HZ HI
      go_wp2_with fail
      refine Calls.mono HL.out ?_
      rintro r w4 ⟨rfl, rfl⟩
      clear HL
      go_wp2_with fail
      refine (err_any w4 w.heap.size b k 0 hCu).mono ?_
      rintro r w5 ⟨rfl, b5⟩
      have T5 := hTb.below b5
      have C5 := hCu.belowAll b5
      have B5 := hB.trans (b5.mono hB.size)
      have c2 := T5.cells.c2
      clear hTb hCu hB b5
      go_wp2_with fail
      refine (HR.out w5 T5 C5).mono ?_
      rintro r w6 ⟨rfl, v', T6, C6, F6, hn6⟩
      have B6 := Fr.below B5 F6 (fun i hi => by
        rcases hi with hi | hi
        · exact T5.ge i hi
        · omega) B5.size
      have hne6 : ¬ TbS (w.heap.size + 1 + 1) (w.heap.size + 1) v' w.heap.size := fun q => by
        rcases hn6 _ q with q | q
        · exact hne q
        · have := C5.lt; omega
      clear HR T5 C5 B5 F6 hn6 c2 hne
      generalize read6 b k (M - (sum6 L : Nat)) L = X at *
      obtain ⟨e', k', L'⟩ := X
      dsimp only at *
      obtain ⟨hk', hl', hs'⟩ := hin
      go_wp2_with fail
      go_roundg (if e' = 0 then N + 2 - L'.length else 0)
      case rel =>
        refine ⟨L', k', e', v', T6, C6, hne6, hk', hs', B6, rfl, fun h => ?_, fun h => ?_⟩
        · have := hl' h
          have h5 := H4.out
          rw [if_neg (by simpa using h)] at h5
          refine ⟨by omega, ?_⟩
          rw [h5, show N - L.length - 1 = N - L'.length by omega]
        · have h5 := H4.out
          rw [if_pos h] at h5
          rw [h5]
          unfold after6
          rw [if_pos h]
      case measure =>
        rw [Hn.out]
        simp only [if_true]
        split
        · rename_i h
          have := hl' h
          omega
        · omega
    · have HZ2 := HZ.out hgo
      clear HZ HI Hn
      have HZ : Hid _ := HZ2
      clear HZ2
      by_cases hlt : L.length < N
      · have he : e ≠ 0 := fun h => hgo ⟨hlt, h⟩
        have he' : (e == 0) = false := by simpa using he
        have hlt' : (L.length : Int) < N := by omega
        clear he hgo
        go_wp2_with fail
        refine Calls.mono HL.out ?_
        rintro r w4 ⟨rfl, rfl⟩
        clear HL
        go_wp2_with fail
        refine (err_any w4 w.heap.size b k e hCu).mono ?_
        rintro r w5 ⟨rfl, b5⟩
        have T5 := hTb.below b5
        have C5 := hCu.belowAll b5
        have B5 := hB.trans (b5.mono hB.size)
        clear hTb hCu hB b5
        go_wp2_with fail
        clear he' hlt'
        refine (left_any w5 w.heap.size b k e C5 hmax (by omega) (by omega)).mono ?_
        rintro r w6 ⟨rfl, n6, rfl⟩
        have C6 : Cu (w5.drewN n6) w.heap.size b k e := C5
        have T6 := T5.drewN n6
        have B6 := bdrewN B5 n6
        generalize w5.drewN n6 = w6 at *
        clear C5 T5 B5
        by_cases hkb : k < b.size
        · have hkb' : (0 : Int) < (b.size : Int) - k := by omega
          obtain ⟨e3, he3⟩ : ∃ e3 : Int, e3 = if e = 0 then 8 else e := ⟨_, rfl⟩
          have hn3 : e3 ≠ 0 := by rw [he3]; split <;> simp_all
          have hn3' : (e3 != 0) = true := by simpa using hn3
          have HQ2 : Hid (R = (e3, [])) := HZ.out.1 hkb e3 he3
          go_wp2_with fail
          refine (fail_any w6 w.heap.size b k e 8 C6).mono ?_
          rintro r w7 ⟨rfl, C7, g7⟩
          rw [← he3] at C7
          have B7 := below_but B6 g7 (Nat.le_refl _) B6.size
          clear he3
          go_wp2_with fail
          refine (err_any w7 w.heap.size b k e3 C7).mono ?_
          rintro r w8 ⟨rfl, b8⟩
          have B8 := B7.trans (b8.mono B7.size)
          go_wp2_with fail
          go_ret2
          rw [HQ2.out]
          exact ⟨B8, .inl ⟨hn3, rfl⟩⟩
        · have hkb' : ¬ (0 : Int) < (b.size : Int) - k := by omega
          by_cases he : e = 0
          · subst he
            have HQ2 : Hid (R = (0, L)) := HZ.out.2.1 hkb rfl
            go_wp2_with fail
            refine (err_any w6 w.heap.size b k 0 C6).mono ?_
            rintro r w8 ⟨rfl, b8⟩
            have B8 := B6.trans (b8.mono B6.size)
            go_wp2_with fail
            go_ret2
            rw [HQ2.out]
            exact ⟨B8, .inr ⟨rfl, _, _, v, rfl, T6.below b8⟩⟩
          · have HQ2 : Hid (R = (e, [])) := HZ.out.2.2 he
            have he' : (e != 0) = true := by simpa using he
            go_wp2_with fail
            refine (err_any w6 w.heap.size b k e C6).mono ?_
            rintro r w8 ⟨rfl, b8⟩
            have B8 := B6.trans (b8.mono B6.size)
            go_wp2_with fail
            go_ret2
            rw [HQ2.out]
            exact ⟨B8, .inl ⟨he, rfl⟩⟩
      · have hlt' : ¬ (L.length : Int) < N := by omega
        clear hgo
        go_wp2_with fail
        refine Calls.mono HL.out ?_
        rintro r w5 ⟨rfl, rfl⟩
        clear HL
        have T5 := hTb
        have C5 := hCu
        have B5 := hB
        clear hTb hCu hB
        go_wp2_with fail
        clear hlt'
        refine (left_any w5 w.heap.size b k e C5 hmax (by omega) (by omega)).mono ?_
        rintro r w6 ⟨rfl, n6, rfl⟩
        have C6 : Cu (w5.drewN n6) w.heap.size b k e := C5
        have T6 := T5.drewN n6
        have B6 := bdrewN B5 n6
        generalize w5.drewN n6 = w6 at *
        clear C5 T5 B5
        by_cases hkb : k < b.size
        · have hkb' : (0 : Int) < (b.size : Int) - k := by omega
          obtain ⟨e3, he3⟩ : ∃ e3 : Int, e3 = if e = 0 then 8 else e := ⟨_, rfl⟩
          have hn3 : e3 ≠ 0 := by rw [he3]; split <;> simp_all
          have hn3' : (e3 != 0) = true := by simpa using hn3
          have HQ2 : Hid (R = (e3, [])) := HZ.out.1 hkb e3 he3
          go_wp2_with fail
          refine (fail_any w6 w.heap.size b k e 8 C6).mono ?_
          rintro r w7 ⟨rfl, C7, g7⟩
          rw [← he3] at C7
          have B7 := below_but B6 g7 (Nat.le_refl _) B6.size
          clear he3
          go_wp2_with fail
          refine (err_any w7 w.heap.size b k e3 C7).mono ?_
          rintro r w8 ⟨rfl, b8⟩
          have B8 := B7.trans (b8.mono B7.size)
          go_wp2_with fail
          go_ret2
          rw [HQ2.out]
          exact ⟨B8, .inl ⟨hn3, rfl⟩⟩
        · have hkb' : ¬ (0 : Int) < (b.size : Int) - k := by omega
          by_cases he : e = 0
          · subst he
            have HQ2 : Hid (R = (0, L)) := HZ.out.2.1 hkb rfl
            go_wp2_with fail
            refine (err_any w6 w.heap.size b k 0 C6).mono ?_
            rintro r w8 ⟨rfl, b8⟩
            have B8 := B6.trans (b8.mono B6.size)
            go_wp2_with fail
            go_ret2
            rw [HQ2.out]
            exact ⟨B8, .inr ⟨rfl, _, _, v, rfl, T6.below b8⟩⟩
          · have HQ2 : Hid (R = (e, [])) := HZ.out.2.2 he
            have he' : (e != 0) = true := by simpa using he
            go_wp2_with fail
            refine (err_any w6 w.heap.size b k e C6).mono ?_
            rintro r w8 ⟨rfl, b8⟩
            have B8 := B6.trans (b8.mono B6.size)
            go_wp2_with fail
            go_ret2
            rw [HQ2.out]
            exact ⟨B8, .inl ⟨he, rfl⟩⟩

end Go.Proofs.Ytfblmibdcodipaa
