/- The contract of 'awake', which each of the five laws asks first: it returns true; nothing that was there before is changed. -/
import Derived.Test.YtihlpeakddbopaaUGo4
namespace Go.Proofs.Ytihlpeakddbopaa
open Go.RowKit

theorem bjoin {B : Nat} {a b c : World} (h : Below B a b) (h2 : Below b.heap.size b c) (hs : B ≤ b.heap.size) : Below B a c := h.trans (h2.mono hs)

/-- Numbers that were just laid. -/
theorem rune_new (w : World) (L : List Int) (cs : Array Value) (hc : cs.toList = rV L) : RuneAt (w.alloc (.cells cs 21)) w.heap.size 0 L := fun i hi => by
  refine ⟨by simp, ?_⟩
  rw [Nat.zero_add, cell_of_row _ w.heap.size i _ _ (0, 0) (heap_alloc_new w _), ← Array.getElem?_toList, hc]
  simp [rV, hi]

theorem put_c1 (w : World) (b cap : Nat) (hL : RuneAt w b 0 [97, 8364]) : Calls Try.prog 14 #[.slice (some ⟨b, 0, none⟩) 2 cap] w fun e w' => e = .returned (.tuple #[.string ⟨#[97, 226, 130, 172]⟩, .bool true]) ∧ Below w.heap.size w w' := by
  have h := put5_any (some ⟨b, 0, none⟩) cap b 0 [97, 8364] w (fun _ => rfl) hL (by decide)
  rw [show pPut5 [97, 8364] = ([97, 226, 130, 172], true) by decide] at h
  exact h
theorem put_c2 (w : World) (b cap : Nat) (hL : RuneAt w b 0 [55296]) : Calls Try.prog 14 #[.slice (some ⟨b, 0, none⟩) 1 cap] w fun e w' => e = .returned (.tuple #[.string ⟨#[]⟩, .bool false]) ∧ Below w.heap.size w w' := by
  have h := put5_any (some ⟨b, 0, none⟩) cap b 0 [55296] w (fun _ => rfl) hL (by decide)
  rw [show pPut5 [55296] = ([], false) by decide] at h
  exact h
theorem first_c1 (w : World) : Calls Try.prog 10 #[.string ⟨#[97, 195]⟩] w fun e w' => e = .returned (.int .i64 1) ∧ Below w.heap.size w w' := by
  have h := first_any ⟨#[97, 195]⟩ w (by decide)
  rw [show pFirst (ByteArray.mk #[97, 195]).data.toList = 1 by decide] at h
  exact h
theorem first_c2 (w : World) : Calls Try.prog 10 #[.string ⟨#[]⟩] w fun e w' => e = .returned (.int .i64 (-1)) ∧ Below w.heap.size w w' := by
  have h := first_any ⟨#[]⟩ w (by decide)
  rw [show pFirst (ByteArray.mk #[]).data.toList = -1 by decide] at h
  exact h
theorem count_c1 (w : World) : Calls Try.prog 11 #[.string ⟨#[97, 226, 130, 172]⟩] w fun e w' => e = .returned (.int .i64 2) ∧ Below w.heap.size w w' := by
  have h := count_any ⟨#[97, 226, 130, 172]⟩ w (by decide)
  rw [show pCount (ByteArray.mk #[97, 226, 130, 172]).data.toList = 2 by decide] at h
  exact h
theorem count_c2 (w : World) : Calls Try.prog 11 #[.string ⟨#[255]⟩] w fun e w' => e = .returned (.int .i64 (-1)) ∧ Below w.heap.size w w' := by
  have h := count_any ⟨#[255]⟩ w (by decide)
  rw [show pCount (ByteArray.mk #[255]).data.toList = -1 by decide] at h
  exact h
theorem runes_c (w : World) : Calls Try.prog 12 #[.string ⟨#[97, 226, 130, 172]⟩] w fun e w' => ROne w w' e [97, 8364] := by
  have h := runes_any ⟨#[97, 226, 130, 172]⟩ w (by decide)
  rw [show pRunes (ByteArray.mk #[97, 226, 130, 172]).data.toList = [97, 8364] by decide] at h
  exact h

set_option maxRecDepth 10000 in
set_option maxHeartbeats 400000 in
theorem awake_any (w : World) :
    Calls Try.prog 8 #[] w fun e w' => e = .returned (.bool true) ∧ Below w.heap.size w w' := by
  go_enter Try.func8, Try.ntmps8
  go_wp2_with fail
  refine (put_c1 _ w.heap.size 2 (rune_new w [97, 8364] _ rfl)).mono ?_
  rintro e w1 ⟨rfl, b1⟩
  have B1 : Below w.heap.size w w1 := bjoin ((Below.refl _ _).alloc (Nat.le_refl _) _) b1 (by simp)
  clear b1
  go_wp2_with fail
  refine (put_c2 _ w1.heap.size 1 (rune_new w1 [55296] _ rfl)).mono ?_
  rintro e w2 ⟨rfl, b2⟩
  have B2 : Below w.heap.size w w2 := bjoin (B1.alloc B1.size _) b2 (by have := B1.size; simp; omega)
  clear b2 B1
  go_wp2_with fail
  refine (first_c1 _).mono ?_
  rintro e w3 ⟨rfl, b3⟩
  go_wp2_with fail
  refine (count_c1 _).mono ?_
  rintro e w4 ⟨rfl, b4⟩
  go_wp2_with fail
  refine (count_c2 _).mono ?_
  rintro e w5 ⟨rfl, b5⟩
  have B3 := bjoin B2 b3 B2.size
  have B4 := bjoin B3 b4 B3.size
  have B5 := bjoin B4 b5 B4.size
  clear b3 b4 b5 B2 B3 B4
  go_wp2_with fail
  refine (runes_c _).mono ?_
  rintro e w6 ⟨a, cap, gk, rfl, ha, hL, b6⟩
  obtain rfl := ha (by decide)
  have B6 := bjoin B5 b6 B5.size
  clear b6 B5
  go_wp2_with fail
  have hL2 : RuneAt (w6.alloc (.cells #[.int .i32 97, .int .i32 8364] 21)) gk 0 [97, 8364] := hL.below ((Below.refl _ _).alloc (Nat.le_refl _) _)
  refine (same5_any _ _ 2 2 cap 2 gk 0 w6.heap.size 0 [97, 8364] [97, 8364] _ rfl rfl (fun _ => rfl) (fun _ => rfl) hL2 (rune_new w6 [97, 8364] _ rfl) (by decide) (by decide)).mono ?_
  rintro e w7 ⟨rfl, b7⟩
  have B7 : Below w.heap.size w w7 := bjoin (B6.alloc B6.size _) b7 (by have := B6.size; simp; omega)
  clear b7 B6 hL hL2 ha
  go_wp2_with fail
  refine (first_c2 _).mono ?_
  rintro e w8 ⟨rfl, b8⟩
  go_wp2_with fail
  go_ret
  exact ⟨rfl, bjoin B7 b8 B7.size⟩

end Go.Proofs.Ytihlpeakddbopaa
