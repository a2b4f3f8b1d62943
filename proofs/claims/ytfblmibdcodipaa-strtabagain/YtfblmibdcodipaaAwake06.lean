/- The contract of 'awake', which each of the five laws asks first: it returns true; nothing that was there before is changed. -/
import Derived.Test.YtfblmibdcodipaaTGet
import Derived.Test.YtfblmibdcodipaaTPut
import Derived.Test.YtfblmibdcodipaaTAll
namespace Go.Proofs.Ytfblmibdcodipaa
open Go.RowKit Go.Maps Go.WideMaps

theorem bjoin {B : Nat} {a b c : World} (h : Below B a b) (h2 : Below b.heap.size b c) (hs : B ≤ b.heap.size) : Below B a c := h.trans (h2.mono hs)

theorem tin_c {w : World} {B g gm : Nat} {v : Value} {L : List ByteArray} (h : Tb w B g gm v L) (s : ByteArray) (L' : List ByteArray) (n : Nat) (h1 : pIntern L s = L') (h2 : idx6 s L = n) (hs : s.size ≤ 1000) (hl : L.length ≤ 1000) (hm : sum6 L ≤ 1000) :
    Calls Try.prog 12 #[.pointer (some ⟨g, 0, none⟩), .string s] w fun e w' => e = .returned (.int .i64 (n : Int)) ∧ TIn w w' B g gm v L' := by
  have := tintern_any h s (by omega) (by omega) (by omega)
  rw [h1, h2] at this
  exact this

theorem TIn.below {w w' w0 : World} {B C g gm : Nat} {v : Value} {L L0 : List ByteArray} (h : TIn w w' B g gm v L) (h0 : Tb w B g gm v L0) (hb : Below C w0 w) (hC : C ≤ B) (hw : C ≤ w.heap.size) : (∃ v', Tb w' B g gm v' L) ∧ Below C w0 w' := by
  obtain ⟨v', h1, h2, _⟩ := h
  exact ⟨⟨v', h1⟩, Fr.below hb h2 (fun i hi => Nat.le_trans hC (h0.ge i hi)) hw⟩

def bA : ByteArray := ⟨#[97]⟩
def bB : ByteArray := ⟨#[98]⟩
theorem get_c1 : pGet6 ⟨#[2, 1, 97, 1, 98]⟩ 9 9 = (0, [⟨#[97]⟩, ⟨#[98]⟩]) := by decide +kernel
theorem get_c2 : pGet6 ⟨#[2, 1, 97, 1, 97]⟩ 9 9 = (17, []) := by decide +kernel
theorem put_c : pPut6 [⟨#[97]⟩, ⟨#[98]⟩] = [2, 1, 97, 1, 98] := by decide +kernel

set_option maxRecDepth 10000 in
set_option maxHeartbeats 400000 in
theorem awake_any (w : World) :
    Calls Try.prog 8 #[] w fun e w' => e = .returned (.bool true) ∧ Below w.heap.size w w' := by
  go_enter Try.func8, Try.ntmps8
  go_wp2_with fail
  refine (tnew_any w).mono ?_
  rintro e w1 ⟨rfl, T1, B1⟩
  go_wp2_with fail
  refine (tin_c T1 ⟨#[97]⟩ [⟨#[97]⟩] 0 (by decide +kernel) (by decide +kernel) (by decide) (by decide) (by decide)).mono ?_
  rintro e w2 ⟨rfl, I2⟩
  obtain ⟨⟨v2, T2⟩, B2⟩ := I2.below T1 B1 (Nat.le_refl _) B1.size
  clear I2 T1 B1
  go_wp2_with fail
  refine (tin_c T2 ⟨#[98]⟩ [⟨#[97]⟩, ⟨#[98]⟩] 1 (by decide +kernel) (by decide +kernel) (by decide) (by decide) (by decide)).mono ?_
  rintro e w3 ⟨rfl, I3⟩
  obtain ⟨⟨v3, T3⟩, B3⟩ := I3.below T2 B2 (Nat.le_refl _) B2.size
  clear I3 T2 B2
  go_wp2_with fail
  refine (tin_c T3 ⟨#[97]⟩ [⟨#[97]⟩, ⟨#[98]⟩] 0 (by decide +kernel) (by decide +kernel) (by decide) (by decide) (by decide +kernel)).mono ?_
  rintro e w4 ⟨rfl, I4⟩
  obtain ⟨⟨v4, T4⟩, B4⟩ := I4.below T3 B3 (Nat.le_refl _) B3.size
  clear I4 T3 B3
  go_wp2_with fail
  have G1 := tget_any ⟨#[2, 1, 97, 1, 98]⟩ 9 9 w4 (by decide) (by decide) (by decide)
  rw [get_c1] at G1
  refine G1.mono ?_
  rintro e w5 ⟨b5, h5 | ⟨-, g, gm, v, rfl, U5⟩⟩
  · exact absurd rfl h5.1
  have T5 := T4.below b5
  have B5 := bjoin B4 b5 B4.size
  clear b5 T4 B4 G1
  go_wp2_with fail
  have G2 := tget_any ⟨#[2, 1, 97, 1, 97]⟩ 9 9 w5 (by decide) (by decide) (by decide)
  rw [get_c2] at G2
  refine G2.mono ?_
  rintro e w6 ⟨b6, h6⟩
  obtain ⟨-, rfl⟩ := h6.resolve_right (fun q => absurd q.1 (by decide))
  have T6 := T5.below b6
  have U6 := U5.below b6
  have B6 := bjoin B5 b6 B5.size
  clear b6 T5 B5 G2 U5
  go_wp2_with fail
  refine (tat_in U6 1 (by decide)).mono ?_
  rintro e w7 ⟨rfl, rfl⟩
  go_wp2_with fail
  refine (tlen_any T6).mono ?_
  rintro e w8 ⟨rfl, rfl⟩
  go_wp2_with fail
  refine (tbytes_any T6).mono ?_
  rintro e w9 ⟨rfl, rfl⟩
  rw [show sum6 [⟨#[97]⟩, ⟨#[98]⟩] = 2 by decide +kernel]
  go_wp2_with fail
  have P6 := tput_any T6 (by decide) (by decide +kernel)
  rw [put_c] at P6
  refine P6.mono ?_
  rintro e w10 ⟨rfl, b10⟩
  go_wp2_with fail
  go_ret
  exact ⟨rfl, bjoin B6 b10 B6.size⟩

end Go.Proofs.Ytfblmibdcodipaa
