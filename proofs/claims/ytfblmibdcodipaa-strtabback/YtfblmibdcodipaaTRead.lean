/- The contract of the table's read: one text more, or an error. -/
import Derived.Test.YtfblmibdcodipaaTGo
import Derived.Test.YtfblmibdcodipaaTRef4
import Derived.Test.YtfblmibdcodipaaReads2
import Derived.Test.YtfblmibdcodipaaUGo
namespace Go.Proofs.Ytfblmibdcodipaa
open Go.RowKit Go.Maps Go.WideMaps

/-- One text: an error, the place behind it, the texts then. -/
def read6 (b : ByteArray) (k : Nat) (m : Int) (L : List ByteArray) : Int × Nat × List ByteArray :=
  if (pText b k 0 m).2.2 ≠ 0 then ((pText b k 0 m).2.2, (pText b k 0 m).2.1, L)
  else if right5 (pText b k 0 m).1 = false then (11, (pText b k 0 m).2.1, L)
  else if idx6 (pText b k 0 m).1 L < L.length then (17, (pText b k 0 m).2.1, L)
  else (0, (pText b k 0 m).2.1, L ++ [(pText b k 0 m).1])

theorem pText_none (b : ByteArray) (k : Nat) (m : Int) (h : (pText b k 0 m).2.2 ≠ 0) : (pText b k 0 m).1 = ⟨#[]⟩ := by
  unfold pText at h ⊢
  rw [if_neg (by simp)] at h ⊢
  split
  · rfl
  · rename_i h1
    rw [if_neg h1] at h
    split
    · rfl
    · rename_i h2
      rw [if_neg h2] at h
      split
      · rfl
      · rename_i h3
        rw [if_neg h3] at h
        exact absurd rfl h
theorem pFirst_right (s : ByteArray) : (right5 s = true → pFirst s.data.toList = -1) ∧ (right5 s = false → 0 ≤ pFirst s.data.toList) := by
  unfold right5 pFirst
  rw [list_size]
  constructor
  · intro h
    rw [if_pos (of_decide_eq_true h)]
  · intro h
    rw [if_neg (of_decide_eq_false h)]
    omega

/-- The blocks that may be written. -/
def RdS (g gm : Nat) (v : Value) (gc k : Nat) : Prop := TbS g gm v k ∨ k = gc

def RdOut (w w' : World) (B g gm : Nat) (v : Value) (gc : Nat) (b : ByteArray) (R : Int × Nat × List ByteArray) : Prop :=
  ∃ v', Tb w' B g gm v' R.2.2 ∧ Cu w' gc b (R.2.1 : Nat) R.1 ∧ Fr (RdS g gm v gc) w w' ∧ ∀ i, TbS g gm v' i → TbS g gm v i ∨ w.heap.size ≤ i

theorem fr_gc {g gm gc : Nat} {v : Value} {w w' : World} (h : w.grownBy w' (some gc)) : Fr (RdS g gm v gc) w w' := Fr.of_grown h (fun k hk => by cases hk; exact .inr rfl)
theorem tb_gc {w w' : World} {B g gm gc : Nat} {v : Value} {L : List ByteArray} (h : Tb w B g gm v L) (hg : w.grownBy w' (some gc)) (hne : ¬ TbS g gm v gc) : Tb w' B g gm v L :=
  h.fr (Fr.of_grown (S := fun k => k = gc) hg (fun k hk => by cases hk; rfl)) (fun i hi e => hne (by rw [← e]; exact hi))

section
variable {w : World} {B g gm gc : Nat} {v : Value} {L : List ByteArray} {b s : ByteArray} {k k1 : Nat} {m e1 f : Int}

set_option maxRecDepth 10000 in
set_option maxHeartbeats 400000 in
/-- A text that isn't right, or is there already. -/
theorem tread_bad (ht : Tb w B g gm v L) (hne : ¬ TbS g gm v gc) (e3 : Int) (he3 : e3 ≠ 0) (hs : s.size ≤ 1000000)
    (HX : Hid (Calls Try.prog 43 #[.pointer (some ⟨gc, 0, none⟩), .int .i64 m] w fun r w' => r = .returned (.string s) ∧ Cu w' gc b (k1 : Nat) e1 ∧ w.grownBy w' (some gc)))
    (HE : Hid ((0 ≤ pFirst s.data.toList → ((idx6 s L < L.length → e3 = if (if e1 = 0 then 11 else e1) = 0 then 17 else (if e1 = 0 then 11 else e1)) ∧ (¬ idx6 s L < L.length → e3 = if e1 = 0 then 11 else e1))) ∧ (¬ 0 ≤ pFirst s.data.toList → ((idx6 s L < L.length → e3 = if e1 = 0 then 17 else e1) ∧ (¬ idx6 s L < L.length → e3 = e1))))) :
    Calls Try.prog 34 #[.pointer (some ⟨g, 0, none⟩), .pointer (some ⟨gc, 0, none⟩), .int .i64 m] w fun r w' => r = .returned (.tuple #[]) ∧ Tb w' B g gm v L ∧ Cu w' gc b (k1 : Nat) e3 ∧ Fr (RdS g gm v gc) w w' := by
  have HF : Hid _ := fun W : World => first_any s W hs
  obtain ⟨f, hf⟩ : ∃ f, f = pFirst s.data.toList := ⟨_, rfl⟩
  rw [← hf] at HE
  rw [← hf] at HF
  clear hf
  have hkey := kS_key s (by unfold maxLen; omega)
  have he3' : (e3 == 0) = false := by simpa using he3
  by_cases h1 : 0 ≤ f
  · have HE1 := HE.out.1 h1
    clear HE
    go_enter Try.func34, Try.ntmps34
    go_wp2_with fail
    refine Calls.mono HX.out ?_
    rintro e w1 ⟨rfl, C1, g1⟩
    have T1 := tb_gc ht g1 hne
    have F1 : Fr (RdS g gm v gc) w w1 := fr_gc g1
    clear HX g1
    go_wp2_with fail
    refine (HF.out w1).mono ?_
    rintro e w2 ⟨rfl, b2⟩
    have T2 := T1.below b2
    have C2 := C1.belowAll b2
    have F2 := F1.trans (Fr.of_below (S := RdS g gm v gc) b2) (fun _ q _ => q)
    clear HF b2 T1 C1 F1
    go_wp2_with fail
    refine (fail_any w2 gc b _ _ 11 C2).mono ?_
    rintro e w3 ⟨rfl, C3, g3⟩
    have T3 := tb_gc T2 g3 hne
    have F3 := F2.trans (fr_gc (g := g) (gm := gm) (v := v) g3) (fun _ q _ => q)
    clear g3 T2 C2 F2
    have c1 := T3.cells.c1
    obtain ⟨D, hmap, HD⟩ := T3.map
    obtain ⟨hh, -⟩ := HD.2 s
    clear HD
    by_cases hx : idx6 s L < L.length
    · have HE2 : Hid _ := HE1.1 hx
      rw [decide_eq_true hx] at hh
      clear HE1
      go_wp2_with (at_lookup; refine wpList_lookup_own_ok_int _ rfl _ _ 47 rfl 9 3 .i64 lawS6 Try.underlying47 Try.underlying3 (zeroI6 _) gm L.length D rfl hmap _ _ rfl hkey ?_; intro c hat hwc; clear hat hwc)
      refine (fail_any w3 gc b _ _ 17 C3).mono ?_
      rintro e w4 ⟨rfl, C4, g4⟩
      have T4 := tb_gc T3 g4 hne
      have F4 := F3.trans (fr_gc (g := g) (gm := gm) (v := v) g4) (fun _ q _ => q)
      rw [← HE2.out] at C4
      clear g4 T3 C3 F3 hmap c1 HE2
      go_wp2_with fail
      refine (err_any w4 gc b _ _ C4).mono ?_
      rintro e w5 ⟨rfl, b5⟩
      go_wp2_with fail
      go_end0
      exact ⟨rfl, T4.below b5, C4.belowAll b5, F4.trans (Fr.of_below (S := RdS g gm v gc) b5) (fun _ q _ => q)⟩
    · have HE2 : Hid _ := HE1.2 hx
      rw [decide_eq_false hx] at hh
      rw [← HE2.out] at C3
      clear HE1 HE2
      go_wp2_with (at_lookup; refine wpList_lookup_own_ok_int _ rfl _ _ 47 rfl 9 3 .i64 lawS6 Try.underlying47 Try.underlying3 (zeroI6 _) gm L.length D rfl hmap _ _ rfl hkey ?_; intro c hat hwc; clear hat hwc)
      refine (err_any w3 gc b _ _ C3).mono ?_
      rintro e w5 ⟨rfl, b5⟩
      go_wp2_with fail
      go_end0
      exact ⟨rfl, T3.below b5, C3.belowAll b5, F3.trans (Fr.of_below (S := RdS g gm v gc) b5) (fun _ q _ => q)⟩
  · have HE1 := HE.out.2 h1
    clear HE
    go_enter Try.func34, Try.ntmps34
    go_wp2_with fail
    refine Calls.mono HX.out ?_
    rintro e w1 ⟨rfl, C1, g1⟩
    have T1 := tb_gc ht g1 hne
    have F1 : Fr (RdS g gm v gc) w w1 := fr_gc g1
    clear HX g1
    go_wp2_with fail
    refine (HF.out w1).mono ?_
    rintro e w2 ⟨rfl, b2⟩
    have T3 := T1.below b2
    have C3 := C1.belowAll b2
    have F3 := F1.trans (Fr.of_below (S := RdS g gm v gc) b2) (fun _ q _ => q)
    clear HF b2 T1 C1 F1
    have c1 := T3.cells.c1
    obtain ⟨D, hmap, HD⟩ := T3.map
    obtain ⟨hh, -⟩ := HD.2 s
    clear HD
    by_cases hx : idx6 s L < L.length
    · have HE2 : Hid _ := HE1.1 hx
      rw [decide_eq_true hx] at hh
      clear HE1
      go_wp2_with (at_lookup; refine wpList_lookup_own_ok_int _ rfl _ _ 47 rfl 9 3 .i64 lawS6 Try.underlying47 Try.underlying3 (zeroI6 _) gm L.length D rfl hmap _ _ rfl hkey ?_; intro c hat hwc; clear hat hwc)
      refine (fail_any w2 gc b _ _ 17 C3).mono ?_
      rintro e w4 ⟨rfl, C4, g4⟩
      have T4 := tb_gc T3 g4 hne
      have F4 := F3.trans (fr_gc (g := g) (gm := gm) (v := v) g4) (fun _ q _ => q)
      rw [← HE2.out] at C4
      clear g4 T3 C3 F3 hmap c1 HE2
      go_wp2_with fail
      refine (err_any w4 gc b _ _ C4).mono ?_
      rintro e w5 ⟨rfl, b5⟩
      go_wp2_with fail
      go_end0
      exact ⟨rfl, T4.below b5, C4.belowAll b5, F4.trans (Fr.of_below (S := RdS g gm v gc) b5) (fun _ q _ => q)⟩
    · have HE2 : Hid _ := HE1.2 hx
      rw [decide_eq_false hx] at hh
      rw [← HE2.out] at C3
      clear HE1 HE2
      go_wp2_with (at_lookup; refine wpList_lookup_own_ok_int _ rfl _ _ 47 rfl 9 3 .i64 lawS6 Try.underlying47 Try.underlying3 (zeroI6 _) gm L.length D rfl hmap _ _ rfl hkey ?_; intro c hat hwc; clear hat hwc)
      refine (err_any w2 gc b _ _ C3).mono ?_
      rintro e w5 ⟨rfl, b5⟩
      go_wp2_with fail
      go_end0
      exact ⟨rfl, T3.below b5, C3.belowAll b5, F3.trans (Fr.of_below (S := RdS g gm v gc) b5) (fun _ q _ => q)⟩

set_option maxRecDepth 10000 in
set_option maxHeartbeats 400000 in
/-- A text that is added. -/
theorem tread_add (ht : Tb w B g gm v L) (hne : ¬ TbS g gm v gc) (hs : s.size ≤ 1000000) (hl : L.length ≤ 1000000) (hm : sum6 L ≤ 1000000000)
    (HX : Hid (Calls Try.prog 43 #[.pointer (some ⟨gc, 0, none⟩), .int .i64 m] w fun r w' => r = .returned (.string s) ∧ Cu w' gc b (k1 : Nat) 0 ∧ w.grownBy w' (some gc)))
    (hf : pFirst s.data.toList = -1) (hx : ¬ idx6 s L < L.length) :
    Calls Try.prog 34 #[.pointer (some ⟨g, 0, none⟩), .pointer (some ⟨gc, 0, none⟩), .int .i64 m] w fun r w' => r = .returned (.tuple #[]) ∧ RdOut w w' B g gm v gc b (0, k1, L ++ [s]) := by
  have HF : Hid _ := fun W : World => first_any s W hs
  rw [hf] at HF
  clear hf
  have hkey := kS_key s (by unfold maxLen; omega)
  have HA : Hid _ := fun (W : World) (h : Tb W B g gm v L) => tadd_any h s hx (by omega) hl hm
  go_enter Try.func34, Try.ntmps34
  go_wp2_with fail
  refine Calls.mono HX.out ?_
  rintro e w1 ⟨rfl, C1, g1⟩
  have T1 := tb_gc ht g1 hne
  have F1 : Fr (RdS g gm v gc) w w1 := fr_gc g1
  clear HX g1
  go_wp2_with fail
  refine (HF.out w1).mono ?_
  rintro e w2 ⟨rfl, b2⟩
  have T3 := T1.below b2
  have C3 := C1.belowAll b2
  have F3 := F1.trans (Fr.of_below (S := RdS g gm v gc) b2) (fun _ q _ => q)
  clear HF b2 T1 C1 F1
  have c1 := T3.cells.c1
  obtain ⟨D, hmap, HD⟩ := T3.map
  obtain ⟨hh, -⟩ := HD.2 s
  clear HD
  rw [decide_eq_false hx] at hh
  clear hx
  go_wp2_with (at_lookup; refine wpList_lookup_own_ok_int _ rfl _ _ 47 rfl 9 3 .i64 lawS6 Try.underlying47 Try.underlying3 (zeroI6 _) gm L.length D rfl hmap _ _ rfl hkey ?_; intro c hat hwc; clear hat hwc)
  refine (err_any w2 gc b _ _ C3).mono ?_
  rintro e w5 ⟨rfl, b5⟩
  have T5 := T3.below b5
  have C5 := C3.belowAll b5
  have F5 := F3.trans (Fr.of_below (S := RdS g gm v gc) b5) (fun _ q _ => q)
  clear T3 C3 F3 b5 hmap
  go_wp2_with fail
  refine (HA.out w5 T5).mono ?_
  rintro e w6 ⟨rfl, v', T6, F6, hn⟩
  go_wp2_with fail
  go_end0
  refine ⟨rfl, v', T6, C5.fr F6 hne, F5.trans F6 (fun _ q _ => .inl q), fun i hi => (hn i hi).imp id (fun q => Nat.le_trans F5.size q)⟩

/-- Read. -/
theorem tread_any (ht : Tb w B g gm v L) (hc : Cu w gc b k 0) (hne : ¬ TbS g gm v gc) (hb : b.size ≤ 1000000) (hk : k ≤ b.size) (hl : L.length ≤ 1000000) (hs : sum6 L ≤ 1000000000) (hm : m ≤ 9223372036854775807) :
    Calls Try.prog 34 #[.pointer (some ⟨g, 0, none⟩), .pointer (some ⟨gc, 0, none⟩), .int .i64 m] w fun r w' => r = .returned (.tuple #[]) ∧ RdOut w w' B g gm v gc b (read6 b k m L) := by
  have HX : Hid _ := text_any w gc b k 0 m hc (by omega) hk hm
  have hn := pText_none b k m
  have hst := pText_step b k m hk
  unfold read6
  generalize pText b k 0 m = X at *
  obtain ⟨s, k1, e1⟩ := X
  dsimp only at *
  have hp := pFirst_right s
  have go : ∀ e3 : Int, e3 ≠ 0 → s.size ≤ 1000000 → Hid ((0 ≤ pFirst s.data.toList → ((idx6 s L < L.length → e3 = if (if e1 = 0 then 11 else e1) = 0 then 17 else (if e1 = 0 then 11 else e1)) ∧ (¬ idx6 s L < L.length → e3 = if e1 = 0 then 11 else e1))) ∧ (¬ 0 ≤ pFirst s.data.toList → ((idx6 s L < L.length → e3 = if e1 = 0 then 17 else e1) ∧ (¬ idx6 s L < L.length → e3 = e1)))) →
      Calls Try.prog 34 #[.pointer (some ⟨g, 0, none⟩), .pointer (some ⟨gc, 0, none⟩), .int .i64 m] w fun r w' => r = .returned (.tuple #[]) ∧ RdOut w w' B g gm v gc b (e3, k1, L) := by
    intro e3 h3 hz HE
    refine (tread_bad ht hne e3 h3 hz HX HE).mono ?_
    rintro e w' ⟨rfl, h1, h2, h3⟩
    exact ⟨rfl, v, h1, h2, h3, fun i hi => .inl hi⟩
  by_cases he : e1 ≠ 0
  · rw [if_pos he]
    obtain rfl := hn he
    refine go e1 he (by decide) ⟨fun h => absurd h (by decide), fun _ => ⟨fun _ => by rw [if_neg he], fun _ => rfl⟩⟩
  · have he' : e1 = 0 := by simpa using he
    subst he'
    rw [if_neg he]
    obtain ⟨h1, h2⟩ := hst rfl
    by_cases hr : right5 s = false
    · rw [if_pos hr]
      have := hp.2 hr
      exact go 11 (by decide) (by omega) ⟨fun _ => ⟨fun _ => by simp, fun _ => by simp⟩, fun h => absurd this h⟩
    · rw [if_neg hr]
      have h3 := hp.1 (by simpa using hr)
      by_cases hx : idx6 s L < L.length
      · rw [if_pos hx]
        exact go 17 (by decide) (by omega) ⟨fun h => absurd h (by omega), fun _ => ⟨fun _ => by simp, fun h => absurd hx h⟩⟩
      · rw [if_neg hx]
        exact tread_add ht hne (by omega) hl hs HX h3 hx

end

end Go.Proofs.Ytfblmibdcodipaa
