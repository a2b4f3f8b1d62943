/- The contract of the document's own Get of a table. -/
import Derived.Test.YtfblmibdcodipaaTRef3
namespace Go.Proofs.Ytfblmibdcodipaa
open Go.RowKit

theorem pText_step (b : ByteArray) (k : Nat) (m : Int) (hk : k ≤ b.size) (h : (pText b k 0 m).2.2 = 0) : k + 1 + (pText b k 0 m).1.size ≤ (pText b k 0 m).2.1 ∧ (pText b k 0 m).2.1 ≤ b.size := by
  unfold pText at h ⊢
  rw [if_neg (by simp)] at h ⊢
  by_cases h1 : (num b k).2.2 ≠ 0
  · rw [if_pos h1] at h
    simp at h
    omega
  · rw [if_neg h1] at h ⊢
    obtain ⟨n1, n2, n3⟩ := num_ok b k (by omega) hk
    by_cases h2 : max m 0 < (num b k).1 ∨ 16777216 < (num b k).1
    · rw [if_pos h2] at h
      simp at h
    · rw [if_neg h2] at h ⊢
      by_cases h3 : (b.size : Int) - (k + (num b k).2.1 : Nat) < (num b k).1
      · rw [if_pos h3] at h
        simp at h
      · rw [if_neg h3]
        dsimp only
        rw [ByteArray.size_extract]
        omega

theorem TGot.nil (w w' : World) (n : Int) (h : Below w.heap.size w w') : TGot w w' (.returned (.tuple #[.slice none 0 0, .int .i64 n])) [] n :=
  ⟨none, 0, 0, 0, rfl, fun h => by simp at h, fun i hi => by simp at hi, Nat.le_refl _, fun _ => rfl, h⟩

theorem pUint_val (b : ByteArray) (k : Nat) (m : Int) : 0 ≤ (pUint b k 0 m).1 ∧ (pUint b k 0 m).1 ≤ 16777216 ∧ ((pUint b k 0 m).2.2 ≠ 0 → (pUint b k 0 m).1 = 0) := by
  unfold pUint
  rw [if_neg (by simp)]
  split
  · exact ⟨Int.le_refl _, by dsimp only; omega, fun _ => rfl⟩
  · split
    · exact ⟨Int.le_refl _, by dsimp only; omega, fun _ => rfl⟩
    · dsimp only
      exact ⟨by omega, by omega, fun h => by simp at h⟩
theorem own_nil {w : World} {B : Nat} {e : TypeId} {n cap : Nat} {xs : List Value} (h : w.ownsRow B e 1 (.slice none n cap) n xs) : cap = 0 := by
  rcases h.2 with ⟨hv, h0⟩ | ⟨g, cap', cur, hv, _⟩
  · injection hv
  · injection hv with h1
    simp at h1
theorem gets6_step (b : ByteArray) (M : Int) (n k : Nat) (xs : List ByteArray) (t : ByteArray × Nat × Int) (ht : t = pText b k 0 (M - (sum6 xs : Nat))) :
    gets6 b M (n + 1) k xs = if t.2.2 ≠ 0 then (t.2.2, [], 0) else if right5 t.1 = false then (11, [], 0) else if idx6 t.1 xs < xs.length then (17, [], 0) else gets6 b M n t.2.1 (xs ++ [t.1]) := by
  rw [ht]; rfl

set_option maxRecDepth 10000 in
set_option maxHeartbeats 1600000 in
theorem rget6_pos (b : ByteArray) (texts bytes : Int) (w : World) (hs : b.size ≤ 100000) (ht : texts ≤ 9223372036854775807) (hb : bytes ≤ 9223372036854775807) (hb0 : 0 ≤ bytes) :
    Calls Try.prog 22 #[.string b, .int .i64 texts, .int .i64 bytes] w fun e w' => TGot w w' e (pGet6 b texts bytes).2 (pGet6 b texts bytes).1 := by
  have hmax : b.size ≤ maxLen := by unfold maxLen; omega
  have HN : Rf (w.alloc (.cells #[.string b, .int .i64 0, .int .i64 0] 71)) w.heap.size b (0 : Nat) 0 := At3.new _ _ _ _ _
  have B1 : Below w.heap.size w (w.alloc (.cells #[.string b, .int .i64 0, .int .i64 0] 71)) := (Below.refl _ _).alloc (Nat.le_refl _) _
  obtain ⟨i0, hi, hz0, hz1, hz2⟩ := info_parts Try.infoS6
  obtain ⟨T, hT⟩ : ∃ T, T = max texts 0 := ⟨_, rfl⟩
  obtain ⟨R, HR⟩ : ∃ R, Hid (pGet6 b texts bytes = R ∧ R = if (pUint b 0 0 T).2.2 ≠ 0 then ((pUint b 0 0 T).2.2, []) else if (gets6 b (bytes) (pUint b 0 0 T).1.toNat (pUint b 0 0 T).2.1 []).1 ≠ 0 then ((gets6 b (bytes) (pUint b 0 0 T).1.toNat (pUint b 0 0 T).2.1 []).1, []) else if (gets6 b (bytes) (pUint b 0 0 T).1.toNat (pUint b 0 0 T).2.1 []).2.2 < b.size then (8, []) else (0, (gets6 b (bytes) (pUint b 0 0 T).1.toNat (pUint b 0 0 T).2.1 []).2.1)) := ⟨_, rfl, by unfold pGet6; rw [← hT, show max bytes 0 = (bytes : Int) by omega]⟩
  rw [HR.out.1]
  have HU : Hid _ := ruint_any _ w.heap.size b 0 0 T HN hmax (Nat.zero_le _)
  obtain ⟨_, hk0⟩ := pUint_at b 0 0 T (Nat.zero_le _)
  obtain ⟨hu0, hu1, hu2⟩ := pUint_val b 0 T
  have hq := HR.out.2
  clear HR HN
  generalize pUint b 0 0 T = U at *
  obtain ⟨u, k0, e0⟩ := U
  dsimp only at *
  obtain ⟨N, rfl⟩ := Int.eq_ofNat_of_zero_le hu0
  rw [show ((N : Int)).toNat = N from rfl] at hq
  have hTc : (texts < 0 ∧ T = 0) ∨ (0 ≤ texts ∧ texts = T) := by omega
  clear hT
  by_cases he : e0 = 0
  · subst he
    rw [if_neg (by simp)] at hq
    have HQ : Hid _ := hq
    clear hq hu2
    rcases hTc with ⟨h1, rfl⟩ | ⟨h1, rfl⟩
    all_goals
      go_enter Try.func22, Try.ntmps22
      go_wp2_with fail
      refine Calls.mono HU.out ?_
      rintro e w2 ⟨rfl, hR2, g2⟩
      have B2 := below_but B1 g2 (Nat.le_refl _) (by simp)
      have hw2 : w.heap.size < w2.heap.size := hR2.lt
      clear HU B1 g2
      have ho := own_empty6 w2
      have hR3 : Rf (w2.alloc (.cells #[] 9)) w.heap.size b k0 0 := hR2.alloc _
      have B3 : Below w.heap.size w (w2.alloc (.cells #[] 9)) := B2.alloc B2.size _
      clear B2 hR2
      go_wp2_with fail
      go_loopw [10, 11] (fun ov iv wr => ∃ (i k : Nat) (a : Option Addr) (cap : Nat) (xs : List ByteArray), ov = .slice a i cap ∧ iv = .int .i64 i ∧ i ≤ N ∧ wr.ownsRow w2.heap.size 9 1 (.slice a i cap) i (tV xs) ∧ Rf wr w.heap.size b k 0 ∧ i ≤ k ∧ k ≤ b.size ∧ Below w.heap.size w wr ∧ w2.heap.size ≤ wr.heap.size ∧ Hid (xs.length = i ∧ sum6 xs ≤ k ∧ gets6 b (bytes) N k0 [] = gets6 b (bytes) (N - i) k xs)) (fun _ iv _ => N - (intOf iv).toNat)
      case atStart => exact ⟨0, k0, _, _, [], rfl, rfl, by omega, ho, hR3, by omega, hk0, B3, by simp, rfl, by simp [sum6], rfl⟩
      case round =>
        clear ho hR3 B3
        obtain ⟨i, k, a, cap, xs, rfl, rfl, hiN, hown, hRf, hik, hk, hB, hw2r, HX⟩ := hrel
        obtain ⟨hxl, hxs, hxg⟩ := HX.out
        have c1 := hRf.c1
        have c2 := hRf.c2
        have hwr : w.heap.size < wr.heap.size := hRf.lt
        have hcap := own_cap hown
        have hbk := fun q hq => (hown.lt q hq).1
        obtain ⟨gk, hga, hgt⟩ := own_texts hown hxl
        by_cases hlt : i < N
        · have hlt' : (i : Int) < N := by omega
          have cB := bytes6_any a cap gk 0 xs wr (by rw [hxl]; exact hga) hgt (by omega) (by omega)
          rw [hxl] at cB
          have HB : Hid _ := cB
          have HTx : Hid _ := rtext_any wr w.heap.size b k 0 (bytes - (sum6 xs : Nat)) hRf hmax hk (by omega)
          have hst := gets6_step b (bytes) (N - i - 1) k xs (pText b k 0 (bytes - (sum6 xs : Nat))) (rfl)
          rw [show N - i - 1 + 1 = N - i by omega, ← hxg] at hst
          have hR2w := hw2
          have hps := pText_step b k (bytes - (sum6 xs : Nat)) hk
          have hpa := (pText_at b k 0 (bytes - (sum6 xs : Nat)) hk).2
          generalize pText b k 0 (bytes - (sum6 xs : Nat)) = X at *
          obtain ⟨t, k', e'⟩ := X
          dsimp only at *
          have HS : Hid _ := hst
          clear hst hxg HX cB
          go_wp2_with fail
          refine Calls.mono HB.out ?_
          rintro e w4 ⟨rfl, rfl⟩
          go_wp2_with fail
          refine Calls.mono HTx.out ?_
          rintro e w5 ⟨rfl, hR5, g5⟩
          have B5 := below_but hB g5 (Nat.le_refl _) hB.size
          have hw45 := g5.size
          have hne : (Value.slice a i cap).ownBlock ≠ some w.heap.size := fun h => by have := hbk _ h; omega
          have o5 := hown.kept g5 (.inr hne)
          have d1 := hR5.c1
          have d2 := hR5.c2
          clear HB HTx hown hRf c1 c2 hB g5 hgt hga
          by_cases he : e' = 0
          · subst he
            have hg := HS.out
            rw [if_neg (by simp)] at hg
            obtain ⟨s1, s2⟩ := hps rfl
            have HRi : Hid _ := right_any t w5 (by omega)
            clear HS hps hpa
            go_wp2_with fail
            refine Calls.mono HRi.out ?_
            rintro e w6 ⟨rfl, b6⟩
            clear HRi
            have B6 := B5.trans (b6.mono B5.size)
            have o6 := o5.kept (gbelow (row := none) b6) (by cases h : (Value.slice a i cap).ownBlock <;> simp)
            have hR6 := hR5.belowAll b6
            have hw6 := b6.size
            have hw5 := hR5.lt
            clear b6 B5 o5 hR5 d1 d2
            by_cases hr : right5 t = false
            · have HQ2 : Hid (R = (11, [])) := by have h1 := HQ.out; rw [hg, if_pos hr] at h1; exact h1
              clear HQ hg
              go_wp2_with fail
              go_ret2
              rw [HQ2.out]
              exact TGot.nil w _ 11 B6
            · have hr' : right5 t = true := by simpa using hr
              rw [if_neg hr] at hg
              obtain ⟨gk, hga, hgt⟩ := own_texts o6 hxl
              have cF := find_any a cap gk 0 xs t w6 (by rw [hxl]; exact hga) hgt (by omega)
              rw [hxl] at cF
              by_cases hx : idx6 t xs < xs.length
              · have HQ2 : Hid (R = (17, [])) := by have h1 := HQ.out; rw [hg, if_pos hx] at h1; exact h1
                rw [show pFind xs t = (idx6 t xs : Int) from if_pos hx] at cF
                have HF : Hid _ := cF
                clear HQ hg cF hr
                generalize idx6 t xs = q at *
                go_wp2_with fail
                refine Calls.mono HF.out ?_
                rintro e w7 ⟨rfl, rfl⟩
                go_wp2_with fail
                go_ret2
                rw [HQ2.out]
                exact TGot.nil w _ 17 B6
              · rw [if_neg hx] at hg
                have HG : Hid (gets6 b (bytes) N k0 [] = gets6 b (bytes) (N - (i + 1)) k' (xs ++ [t])) := by show _ = _; rw [hg, Nat.sub_sub]
                rw [show pFind xs t = -1 from if_neg hx] at cF
                have HF : Hid _ := cF
                clear hg cF hr hx
                go_wp2_with fail
                refine Calls.mono HF.out ?_
                rintro e w7 ⟨rfl, rfl⟩
                clear HF
                go_wp2_with (at_builtin; refine wpList_append_lies _ rfl (.tmp 59) (.tmp 61) 22 rfl w2.heap.size 9 i0 (.string ⟨#[]⟩) 1 16 Try.underlying22 hi hz0 hz1 hz2 rfl (by decide) _ i (tV xs) rfl (o6.alloc _) ⟨w7.heap.size, 0, none⟩ 1 1 [.string t] rfl rfl (cell_one_new _ _ _) (by intro u hu; simp at hu; subst hu; rfl) (by decide) (by unfold maxLen; omega) (by omega) (by simp; omega) _ rfl ?_)
                intro g8 cap8 w8 hown8 hgrow8 _ _
                have B8 : Below w.heap.size w w8 := (B6.alloc B6.size _).grown hgrow8 (by simp; omega) (fun q hq => by have := hbk q hq; omega)
                have hw78 := hgrow8.size
                have hR8 := (hR6.alloc (.cells #[.string t] 9)).kept hgrow8 (fun h => hne h.symm)
                clear hgrow8 o6 hR6 B6
                go_wp2_with fail
                go_roundw
                case rel => exact ⟨i + 1, k', _, cap8, xs ++ [t], rfl, by go_num, by omega, by simpa [tV] using hown8, hR8, by omega, s2, B8, by simp at hw78; omega, by simp [hxl], by rw [sum6_append]; simp [sum6] at hxs ⊢; omega, HG.out⟩
                case measure => simp [intOf]; omega
          · have HQ2 : Hid (R = (e', [])) := by have h1 := HQ.out; rw [HS.out, if_pos he] at h1; dsimp only at h1; rw [if_pos he] at h1; exact h1
            have he' : (e' != 0) = true := by simpa using he
            clear HQ HS
            go_wp2_with fail
            go_quiet (fail)
            go_wp2_with fail
            go_ret2
            rw [HQ2.out]
            exact TGot.nil w _ e' (bdrewN6 B5 _)
        · have HQ2 : Hid (R = if k < b.size then (8, []) else (0, xs)) := by
            have h1 := HQ.out
            rw [hxg, show N - i = 0 by omega] at h1
            exact h1
          have hlt' : ¬ (i : Int) < N := by omega
          clear HX hxg HQ
          by_cases hkb : k < b.size
          · have HQ3 : Hid (R = (8, [])) := by have := HQ2.out; rw [if_pos hkb] at this; exact this
            have hkb' : (k : Int) < b.size := by omega
            clear HQ2
            go_wp2_with fail
            go_ret2
            rw [HQ3.out]
            exact TGot.nil w wr 8 hB
          · have HQ3 : Hid (R = (0, xs)) := by have := HQ2.out; rw [if_neg hkb] at this; exact this
            have hkb' : ¬ (k : Int) < b.size := by omega
            clear HQ2
            go_wp2_with fail
            go_ret2
            rw [HQ3.out]
            exact ⟨a, cap, gk, 0, by dsimp only; rw [hxl]; rfl, by dsimp only; rw [hxl]; exact hga, hgt, by dsimp only; omega, fun h => own_nil (h ▸ hown), hB⟩
  · rw [if_pos he] at hq
    have HQ : Hid _ := hq
    obtain rfl : N = 0 := by have := hu2 he; omega
    have he' : (e0 != 0) = true := by simpa using he
    have he2 : (e0 == 0) = false := by simpa using he
    clear hq hu2
    rcases hTc with ⟨h1, rfl⟩ | ⟨h1, rfl⟩
    all_goals
      go_enter Try.func22, Try.ntmps22
      go_wp2_with fail
      refine Calls.mono HU.out ?_
      rintro e w2 ⟨rfl, hR2, g2⟩
      have B2 := below_but B1 g2 (Nat.le_refl _) (by simp)
      clear HU B1 g2
      have hR3 : Rf (w2.alloc (.cells #[] 9)) w.heap.size b k0 e0 := hR2.alloc _
      have B3 : Below w.heap.size w (w2.alloc (.cells #[] 9)) := B2.alloc B2.size _
      clear B2 hR2
      go_wp2_with fail
      go_loopw [10, 11] (fun ov iv wr => iv = .int .i64 0 ∧ Rf wr w.heap.size b k0 e0 ∧ Below w.heap.size w wr) (fun _ _ _ => 0)
      case atStart => exact ⟨rfl, hR3, B3⟩
      case round =>
        clear hR3 B3
        obtain ⟨rfl, hRf, hB⟩ := hrel
        have c2 := hRf.c2
        go_wp2_with fail
        go_quiet (fail)
        go_wp2_with fail
        go_ret2
        rw [HQ.out]
        exact TGot.nil w _ e0 (bdrewN6 hB _)

set_option maxRecDepth 10000 in
set_option maxHeartbeats 1600000 in
theorem rget6_neg (b : ByteArray) (texts bytes : Int) (w : World) (hs : b.size ≤ 100000) (ht : texts ≤ 9223372036854775807) (hb0 : bytes < 0) :
    Calls Try.prog 22 #[.string b, .int .i64 texts, .int .i64 bytes] w fun e w' => TGot w w' e (pGet6 b texts bytes).2 (pGet6 b texts bytes).1 := by
  have hmax : b.size ≤ maxLen := by unfold maxLen; omega
  have HN : Rf (w.alloc (.cells #[.string b, .int .i64 0, .int .i64 0] 71)) w.heap.size b (0 : Nat) 0 := At3.new _ _ _ _ _
  have B1 : Below w.heap.size w (w.alloc (.cells #[.string b, .int .i64 0, .int .i64 0] 71)) := (Below.refl _ _).alloc (Nat.le_refl _) _
  obtain ⟨i0, hi, hz0, hz1, hz2⟩ := info_parts Try.infoS6
  obtain ⟨T, hT⟩ : ∃ T, T = max texts 0 := ⟨_, rfl⟩
  obtain ⟨R, HR⟩ : ∃ R, Hid (pGet6 b texts bytes = R ∧ R = if (pUint b 0 0 T).2.2 ≠ 0 then ((pUint b 0 0 T).2.2, []) else if (gets6 b (0) (pUint b 0 0 T).1.toNat (pUint b 0 0 T).2.1 []).1 ≠ 0 then ((gets6 b (0) (pUint b 0 0 T).1.toNat (pUint b 0 0 T).2.1 []).1, []) else if (gets6 b (0) (pUint b 0 0 T).1.toNat (pUint b 0 0 T).2.1 []).2.2 < b.size then (8, []) else (0, (gets6 b (0) (pUint b 0 0 T).1.toNat (pUint b 0 0 T).2.1 []).2.1)) := ⟨_, rfl, by unfold pGet6; rw [← hT, show max bytes 0 = (0 : Int) by omega]⟩
  rw [HR.out.1]
  have HU : Hid _ := ruint_any _ w.heap.size b 0 0 T HN hmax (Nat.zero_le _)
  obtain ⟨_, hk0⟩ := pUint_at b 0 0 T (Nat.zero_le _)
  obtain ⟨hu0, hu1, hu2⟩ := pUint_val b 0 T
  have hq := HR.out.2
  clear HR HN
  generalize pUint b 0 0 T = U at *
  obtain ⟨u, k0, e0⟩ := U
  dsimp only at *
  obtain ⟨N, rfl⟩ := Int.eq_ofNat_of_zero_le hu0
  rw [show ((N : Int)).toNat = N from rfl] at hq
  have hTc : (texts < 0 ∧ T = 0) ∨ (0 ≤ texts ∧ texts = T) := by omega
  clear hT
  by_cases he : e0 = 0
  · subst he
    rw [if_neg (by simp)] at hq
    have HQ : Hid _ := hq
    clear hq hu2
    rcases hTc with ⟨h1, rfl⟩ | ⟨h1, rfl⟩
    all_goals
      go_enter Try.func22, Try.ntmps22
      go_wp2_with fail
      refine Calls.mono HU.out ?_
      rintro e w2 ⟨rfl, hR2, g2⟩
      have B2 := below_but B1 g2 (Nat.le_refl _) (by simp)
      have hw2 : w.heap.size < w2.heap.size := hR2.lt
      clear HU B1 g2
      have ho := own_empty6 w2
      have hR3 : Rf (w2.alloc (.cells #[] 9)) w.heap.size b k0 0 := hR2.alloc _
      have B3 : Below w.heap.size w (w2.alloc (.cells #[] 9)) := B2.alloc B2.size _
      clear B2 hR2
      go_wp2_with fail
      go_loopw [10, 11] (fun ov iv wr => ∃ (i k : Nat) (a : Option Addr) (cap : Nat) (xs : List ByteArray), ov = .slice a i cap ∧ iv = .int .i64 i ∧ i ≤ N ∧ wr.ownsRow w2.heap.size 9 1 (.slice a i cap) i (tV xs) ∧ Rf wr w.heap.size b k 0 ∧ i ≤ k ∧ k ≤ b.size ∧ Below w.heap.size w wr ∧ w2.heap.size ≤ wr.heap.size ∧ Hid (xs.length = i ∧ sum6 xs ≤ k ∧ gets6 b (0) N k0 [] = gets6 b (0) (N - i) k xs)) (fun _ iv _ => N - (intOf iv).toNat)
      case atStart => exact ⟨0, k0, _, _, [], rfl, rfl, by omega, ho, hR3, by omega, hk0, B3, by simp, rfl, by simp [sum6], rfl⟩
      case round =>
        clear ho hR3 B3
        obtain ⟨i, k, a, cap, xs, rfl, rfl, hiN, hown, hRf, hik, hk, hB, hw2r, HX⟩ := hrel
        obtain ⟨hxl, hxs, hxg⟩ := HX.out
        have c1 := hRf.c1
        have c2 := hRf.c2
        have hwr : w.heap.size < wr.heap.size := hRf.lt
        have hcap := own_cap hown
        have hbk := fun q hq => (hown.lt q hq).1
        obtain ⟨gk, hga, hgt⟩ := own_texts hown hxl
        by_cases hlt : i < N
        · have hlt' : (i : Int) < N := by omega
          have cB := bytes6_any a cap gk 0 xs wr (by rw [hxl]; exact hga) hgt (by omega) (by omega)
          rw [hxl] at cB
          have HB : Hid _ := cB
          have HTx : Hid _ := rtext_any wr w.heap.size b k 0 (-((sum6 xs : Nat) : Int)) hRf hmax hk (by omega)
          have hst := gets6_step b (0) (N - i - 1) k xs (pText b k 0 (-((sum6 xs : Nat) : Int))) (by rw [Int.zero_sub])
          rw [show N - i - 1 + 1 = N - i by omega, ← hxg] at hst
          have hR2w := hw2
          have hps := pText_step b k (-((sum6 xs : Nat) : Int)) hk
          have hpa := (pText_at b k 0 (-((sum6 xs : Nat) : Int)) hk).2
          generalize pText b k 0 (-((sum6 xs : Nat) : Int)) = X at *
          obtain ⟨t, k', e'⟩ := X
          dsimp only at *
          have HS : Hid _ := hst
          clear hst hxg HX cB
          go_wp2_with fail
          refine Calls.mono HB.out ?_
          rintro e w4 ⟨rfl, rfl⟩
          go_wp2_with fail
          refine Calls.mono HTx.out ?_
          rintro e w5 ⟨rfl, hR5, g5⟩
          have B5 := below_but hB g5 (Nat.le_refl _) hB.size
          have hw45 := g5.size
          have hne : (Value.slice a i cap).ownBlock ≠ some w.heap.size := fun h => by have := hbk _ h; omega
          have o5 := hown.kept g5 (.inr hne)
          have d1 := hR5.c1
          have d2 := hR5.c2
          clear HB HTx hown hRf c1 c2 hB g5 hgt hga
          by_cases he : e' = 0
          · subst he
            have hg := HS.out
            rw [if_neg (by simp)] at hg
            obtain ⟨s1, s2⟩ := hps rfl
            have HRi : Hid _ := right_any t w5 (by omega)
            clear HS hps hpa
            go_wp2_with fail
            refine Calls.mono HRi.out ?_
            rintro e w6 ⟨rfl, b6⟩
            clear HRi
            have B6 := B5.trans (b6.mono B5.size)
            have o6 := o5.kept (gbelow (row := none) b6) (by cases h : (Value.slice a i cap).ownBlock <;> simp)
            have hR6 := hR5.belowAll b6
            have hw6 := b6.size
            have hw5 := hR5.lt
            clear b6 B5 o5 hR5 d1 d2
            by_cases hr : right5 t = false
            · have HQ2 : Hid (R = (11, [])) := by have h1 := HQ.out; rw [hg, if_pos hr] at h1; exact h1
              clear HQ hg
              go_wp2_with fail
              go_ret2
              rw [HQ2.out]
              exact TGot.nil w _ 11 B6
            · have hr' : right5 t = true := by simpa using hr
              rw [if_neg hr] at hg
              obtain ⟨gk, hga, hgt⟩ := own_texts o6 hxl
              have cF := find_any a cap gk 0 xs t w6 (by rw [hxl]; exact hga) hgt (by omega)
              rw [hxl] at cF
              by_cases hx : idx6 t xs < xs.length
              · have HQ2 : Hid (R = (17, [])) := by have h1 := HQ.out; rw [hg, if_pos hx] at h1; exact h1
                rw [show pFind xs t = (idx6 t xs : Int) from if_pos hx] at cF
                have HF : Hid _ := cF
                clear HQ hg cF hr
                generalize idx6 t xs = q at *
                go_wp2_with fail
                refine Calls.mono HF.out ?_
                rintro e w7 ⟨rfl, rfl⟩
                go_wp2_with fail
                go_ret2
                rw [HQ2.out]
                exact TGot.nil w _ 17 B6
              · rw [if_neg hx] at hg
                have HG : Hid (gets6 b (0) N k0 [] = gets6 b (0) (N - (i + 1)) k' (xs ++ [t])) := by show _ = _; rw [hg, Nat.sub_sub]
                rw [show pFind xs t = -1 from if_neg hx] at cF
                have HF : Hid _ := cF
                clear hg cF hr hx
                go_wp2_with fail
                refine Calls.mono HF.out ?_
                rintro e w7 ⟨rfl, rfl⟩
                clear HF
                go_wp2_with (at_builtin; refine wpList_append_lies _ rfl (.tmp 59) (.tmp 61) 22 rfl w2.heap.size 9 i0 (.string ⟨#[]⟩) 1 16 Try.underlying22 hi hz0 hz1 hz2 rfl (by decide) _ i (tV xs) rfl (o6.alloc _) ⟨w7.heap.size, 0, none⟩ 1 1 [.string t] rfl rfl (cell_one_new _ _ _) (by intro u hu; simp at hu; subst hu; rfl) (by decide) (by unfold maxLen; omega) (by omega) (by simp; omega) _ rfl ?_)
                intro g8 cap8 w8 hown8 hgrow8 _ _
                have B8 : Below w.heap.size w w8 := (B6.alloc B6.size _).grown hgrow8 (by simp; omega) (fun q hq => by have := hbk q hq; omega)
                have hw78 := hgrow8.size
                have hR8 := (hR6.alloc (.cells #[.string t] 9)).kept hgrow8 (fun h => hne h.symm)
                clear hgrow8 o6 hR6 B6
                go_wp2_with fail
                go_roundw
                case rel => exact ⟨i + 1, k', _, cap8, xs ++ [t], rfl, by go_num, by omega, by simpa [tV] using hown8, hR8, by omega, s2, B8, by simp at hw78; omega, by simp [hxl], by rw [sum6_append]; simp [sum6] at hxs ⊢; omega, HG.out⟩
                case measure => simp [intOf]; omega
          · have HQ2 : Hid (R = (e', [])) := by have h1 := HQ.out; rw [HS.out, if_pos he] at h1; dsimp only at h1; rw [if_pos he] at h1; exact h1
            have he' : (e' != 0) = true := by simpa using he
            clear HQ HS
            go_wp2_with fail
            go_quiet (fail)
            go_wp2_with fail
            go_ret2
            rw [HQ2.out]
            exact TGot.nil w _ e' (bdrewN6 B5 _)
        · have HQ2 : Hid (R = if k < b.size then (8, []) else (0, xs)) := by
            have h1 := HQ.out
            rw [hxg, show N - i = 0 by omega] at h1
            exact h1
          have hlt' : ¬ (i : Int) < N := by omega
          clear HX hxg HQ
          by_cases hkb : k < b.size
          · have HQ3 : Hid (R = (8, [])) := by have := HQ2.out; rw [if_pos hkb] at this; exact this
            have hkb' : (k : Int) < b.size := by omega
            clear HQ2
            go_wp2_with fail
            go_ret2
            rw [HQ3.out]
            exact TGot.nil w wr 8 hB
          · have HQ3 : Hid (R = (0, xs)) := by have := HQ2.out; rw [if_neg hkb] at this; exact this
            have hkb' : ¬ (k : Int) < b.size := by omega
            clear HQ2
            go_wp2_with fail
            go_ret2
            rw [HQ3.out]
            exact ⟨a, cap, gk, 0, by dsimp only; rw [hxl]; rfl, by dsimp only; rw [hxl]; exact hga, hgt, by dsimp only; omega, fun h => own_nil (h ▸ hown), hB⟩
  · rw [if_pos he] at hq
    have HQ : Hid _ := hq
    obtain rfl : N = 0 := by have := hu2 he; omega
    have he' : (e0 != 0) = true := by simpa using he
    have he2 : (e0 == 0) = false := by simpa using he
    clear hq hu2
    rcases hTc with ⟨h1, rfl⟩ | ⟨h1, rfl⟩
    all_goals
      go_enter Try.func22, Try.ntmps22
      go_wp2_with fail
      refine Calls.mono HU.out ?_
      rintro e w2 ⟨rfl, hR2, g2⟩
      have B2 := below_but B1 g2 (Nat.le_refl _) (by simp)
      clear HU B1 g2
      have hR3 : Rf (w2.alloc (.cells #[] 9)) w.heap.size b k0 e0 := hR2.alloc _
      have B3 : Below w.heap.size w (w2.alloc (.cells #[] 9)) := B2.alloc B2.size _
      clear B2 hR2
      go_wp2_with fail
      go_loopw [10, 11] (fun ov iv wr => iv = .int .i64 0 ∧ Rf wr w.heap.size b k0 e0 ∧ Below w.heap.size w wr) (fun _ _ _ => 0)
      case atStart => exact ⟨rfl, hR3, B3⟩
      case round =>
        clear hR3 B3
        obtain ⟨rfl, hRf, hB⟩ := hrel
        have c2 := hRf.c2
        go_wp2_with fail
        go_quiet (fail)
        go_wp2_with fail
        go_ret2
        rw [HQ.out]
        exact TGot.nil w _ e0 (bdrewN6 hB _)

theorem rget6_any (b : ByteArray) (texts bytes : Int) (w : World) (hs : b.size ≤ 100000) (ht : texts ≤ 9223372036854775807) (hb : bytes ≤ 9223372036854775807) :
    Calls Try.prog 22 #[.string b, .int .i64 texts, .int .i64 bytes] w fun e w' => TGot w w' e (pGet6 b texts bytes).2 (pGet6 b texts bytes).1 := by
  by_cases h : 0 ≤ bytes
  · exact rget6_pos b texts bytes w hs ht hb h
  · exact rget6_neg b texts bytes w hs ht (by omega)

end Go.Proofs.Ytfblmibdcodipaa
