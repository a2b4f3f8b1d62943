/- The contracts of the document's own answers on characters: Char, At, Read, Put, Same. -/
import Derived.Test.YtaochgndednamaaDoorRows
import Derived.Test.YtaochgndednamaaDoorUDec
import Derived.Test.YtaochgndednamaaDoorKit
namespace Go.Proofs.YtaochgndednamaaDoor
open Go.RowKit

/-- A number's bytes; none: it is no character. -/
def chrI (c : Int) : List UInt8 := if c < 0 ∨ 1114111 < c ∨ (55296 ≤ c ∧ c ≤ 57343) then [] else chr c.toNat
theorem chrI_no (c : Int) (h : c < 0 ∨ 1114111 < c ∨ (55296 ≤ c ∧ c ≤ 57343)) : chrI c = [] := if_pos h
theorem chrI_ok (c : Nat) (h : isC c) : chrI (c : Int) = chr c := by
  unfold chrI isC at *
  rw [if_neg (by omega), Int.toNat_natCast]

/-- A new row of bytes turned into a text. -/
theorem conv_new {P : Program} (w : World) (l : List UInt8) (src dst e : TypeId) (hs : P.underlying src = some (.slice e)) (he : P.underlying e = some (.int .u8)) (hd : P.underlying dst = some .string) (cs : Array Value) (hc : cs.toList = bV l) (n : Nat) (hn : l.length = n) :
    (convert src dst (.slice (some ⟨w.heap.size, 0, none⟩) n n)).run P (w.alloc (.cells cs e)) = .ok (.string ⟨l.toArray⟩) (w.alloc (.cells cs e)) := by
  subst hn
  refine run_convert_bytes_back _ src dst e ⟨w.heap.size, 0, none⟩ l.length l hs he hd ?_
  intro j hj
  have hadd : (⟨w.heap.size, 0, none⟩ : Addr).add j = ⟨w.heap.size, j, none⟩ := by unfold Addr.add; split <;> simp_all
  rw [hadd, cell_of_row _ w.heap.size j _ e (0, 0) (heap_alloc_new w _), ← Array.getElem?_toList, hc]
  simp [bV, hj]

set_option maxRecDepth 10000 in
set_option maxHeartbeats 400000 in
theorem char_no (c : Int) (w : World) (h : c < 0 ∨ 1114111 < c ∨ (55296 ≤ c ∧ c ≤ 57343)) :
    Calls Tryd.prog 36 #[.int .i32 c] w fun e w' => e = .returned (.string ⟨#[]⟩) ∧ Below w.heap.size w w' := by
  have h' : c < 0 ∨ (¬ c < 0 ∧ 1114111 < c) ∨ (¬ c < 0 ∧ ¬ 1114111 < c ∧ 55296 ≤ c ∧ c ≤ 57343) := by omega
  clear h
  rcases h' with h | ⟨h1, h⟩ | ⟨h1, h2, h3, h4⟩
  all_goals
    go_enter Tryd.func36, Tryd.ntmps36
    go_wp2_with fail
    go_ret
    exact ⟨rfl, Below.refl _ _⟩

set_option maxRecDepth 10000 in
set_option maxHeartbeats 400000 in
theorem char_one (c : Nat) (w : World) (h : c < 128) :
    Calls Tryd.prog 36 #[.int .i32 (c : Int)] w fun e w' => e = .returned (.string ⟨[b8 c].toArray⟩) ∧ Below w.heap.size w w' := by
  have h1 : ¬ (1114111 : Int) < c := by omega
  have h2 : ¬ (55296 : Int) ≤ c := by omega
  have hcv := conv_new (P := Tryd.prog) w [b8 c] 75 9 5 Tryd.underlying75 Tryd.underlying5 Tryd.underlying9 #[.int .u8 (c : Int)] (by simp [bV, b8_toNat c (by omega)]) 1 rfl
  go_enter Tryd.func36, Tryd.ntmps36
  go_wp2_with fail
  go_ret
  exact ⟨rfl, (Below.refl _ _).alloc (Nat.le_refl _) _⟩

set_option maxRecDepth 10000 in
set_option maxHeartbeats 400000 in
theorem char_two (c : Nat) (w : World) (h0 : 128 ≤ c) (h : c < 2048) :
    Calls Tryd.prog 36 #[.int .i32 (c : Int)] w fun e w' => e = .returned (.string ⟨[b8 (192 + c / 64), b8 (128 + c % 64)].toArray⟩) ∧ Below w.heap.size w w' := by
  have h1 : ¬ (1114111 : Int) < c := by omega
  have h2 : ¬ (55296 : Int) ≤ c := by omega
  have hcv := conv_new (P := Tryd.prog) w [b8 (192 + c / 64), b8 (128 + c % 64)] 75 9 5 Tryd.underlying75 Tryd.underlying5 Tryd.underlying9 #[.int .u8 (192 + (c : Int) / 64), .int .u8 (128 + (c : Int) % 64)] (by simp [bV, b8_toNat (192 + c / 64) (by omega), b8_toNat (128 + c % 64) (by omega)]) 2 rfl
  go_enter Tryd.func36, Tryd.ntmps36
  go_wp2_with fail
  go_ret
  exact ⟨rfl, (Below.refl _ _).alloc (Nat.le_refl _) _⟩

set_option maxRecDepth 10000 in
set_option maxHeartbeats 400000 in
theorem char_three (c : Nat) (w : World) (h0 : 2048 ≤ c) (h : c < 65536) (hs : c < 55296 ∨ 57343 < c) :
    Calls Tryd.prog 36 #[.int .i32 (c : Int)] w fun e w' => e = .returned (.string ⟨[b8 (224 + c / 4096), b8 (128 + c / 64 % 64), b8 (128 + c % 64)].toArray⟩) ∧ Below w.heap.size w w' := by
  have h1 : ¬ (1114111 : Int) < c := by omega
  have h2 : (¬ (55296 : Int) ≤ c) ∨ ((55296 : Int) ≤ c ∧ ¬ (c : Int) ≤ 57343) := by omega
  have hcv := conv_new (P := Tryd.prog) w [b8 (224 + c / 4096), b8 (128 + c / 64 % 64), b8 (128 + c % 64)] 75 9 5 Tryd.underlying75 Tryd.underlying5 Tryd.underlying9 #[.int .u8 (224 + (c : Int) / 4096), .int .u8 (128 + (c : Int) / 64 % 64), .int .u8 (128 + (c : Int) % 64)] (by simp [bV, b8_toNat (224 + c / 4096) (by omega), b8_toNat (128 + c / 64 % 64) (by omega), b8_toNat (128 + c % 64) (by omega)]) 3 rfl
  obtain ⟨q, hq⟩ : ∃ q : Int, (c : Int) / 64 = q := ⟨_, rfl⟩
  obtain ⟨q2, hq2⟩ : ∃ q2 : Int, (c : Int) / 4096 = q2 := ⟨_, rfl⟩
  have hqb : 0 ≤ q ∧ q ≤ 1023 := by omega
  have hq2b : 0 ≤ q2 ∧ q2 ≤ 15 := by omega
  obtain ⟨hqb1, hqb2⟩ := hqb
  obtain ⟨hq2b1, hq2b2⟩ := hq2b
  rw [hq, hq2] at hcv
  have i0 : ¬ (c : Int) < 2048 := by omega
  have i1 : (c : Int) < 65536 := by omega
  have i2 : ¬ (c : Int) < 128 := by omega
  have i3 : ¬ (c : Int) < 0 := by omega
  clear hs h0 h
  rcases h2 with h2 | ⟨h2, h3⟩
  all_goals
    go_enter Tryd.func36, Tryd.ntmps36
    go_wp2_with fail
    go_ret
    exact ⟨rfl, (Below.refl _ _).alloc (Nat.le_refl _) _⟩

set_option maxRecDepth 10000 in
set_option maxHeartbeats 400000 in
theorem char_four (c : Nat) (w : World) (h0 : 65536 ≤ c) (h : c ≤ 1114111) :
    Calls Tryd.prog 36 #[.int .i32 (c : Int)] w fun e w' => e = .returned (.string ⟨[b8 (240 + c / 262144), b8 (128 + c / 4096 % 64), b8 (128 + c / 64 % 64), b8 (128 + c % 64)].toArray⟩) ∧ Below w.heap.size w w' := by
  have h1 : ¬ (1114111 : Int) < c := by omega
  have h2 : (55296 : Int) ≤ c := by omega
  have h3 : ¬ (c : Int) ≤ 57343 := by omega
  have hcv := conv_new (P := Tryd.prog) w [b8 (240 + c / 262144), b8 (128 + c / 4096 % 64), b8 (128 + c / 64 % 64), b8 (128 + c % 64)] 75 9 5 Tryd.underlying75 Tryd.underlying5 Tryd.underlying9 #[.int .u8 (240 + (c : Int) / 262144), .int .u8 (128 + (c : Int) / 4096 % 64), .int .u8 (128 + (c : Int) / 64 % 64), .int .u8 (128 + (c : Int) % 64)] (by simp [bV, b8_toNat (240 + c / 262144) (by omega), b8_toNat (128 + c / 4096 % 64) (by omega), b8_toNat (128 + c / 64 % 64) (by omega), b8_toNat (128 + c % 64) (by omega)]) 4 rfl
  obtain ⟨q, hq⟩ : ∃ q : Int, (c : Int) / 64 = q := ⟨_, rfl⟩
  obtain ⟨q2, hq2⟩ : ∃ q2 : Int, (c : Int) / 4096 = q2 := ⟨_, rfl⟩
  obtain ⟨q3, hq3⟩ : ∃ q3 : Int, (c : Int) / 262144 = q3 := ⟨_, rfl⟩
  have hqb : 0 ≤ q ∧ q ≤ 17407 := by omega
  have hq2b : 0 ≤ q2 ∧ q2 ≤ 271 := by omega
  have hq3b : 0 ≤ q3 ∧ q3 ≤ 4 := by omega
  obtain ⟨hqb1, hqb2⟩ := hqb
  obtain ⟨hq2b1, hq2b2⟩ := hq2b
  obtain ⟨hq3b1, hq3b2⟩ := hq3b
  rw [hq, hq2, hq3] at hcv
  have i0 : ¬ (c : Int) < 2048 := by omega
  have i1 : ¬ (c : Int) < 65536 := by omega
  have i2 : ¬ (c : Int) < 128 := by omega
  have i3 : ¬ (c : Int) < 0 := by omega
  clear h0 h
  go_enter Tryd.func36, Tryd.ntmps36
  go_wp2_with fail
  go_ret
  exact ⟨rfl, (Below.refl _ _).alloc (Nat.le_refl _) _⟩

/-- Char. -/
theorem char_any (c : Int) (w : World) :
    Calls Tryd.prog 36 #[.int .i32 c] w fun e w' => e = .returned (.string ⟨(chrI c).toArray⟩) ∧ Below w.heap.size w w' := by
  by_cases h : c < 0 ∨ 1114111 < c ∨ (55296 ≤ c ∧ c ≤ 57343)
  · rw [chrI_no c h]
    exact char_no c w h
  · obtain ⟨n, rfl⟩ := Int.eq_ofNat_of_zero_le (show 0 ≤ c by omega)
    rw [chrI_ok n (by unfold isC; omega)]
    unfold chr
    by_cases c1 : n < 128
    · rw [if_pos c1]; exact char_one n w c1
    rw [if_neg c1]
    by_cases c2 : n < 2048
    · rw [if_pos c2]; exact char_two n w (by omega) c2
    rw [if_neg c2]
    by_cases c3 : n < 65536
    · rw [if_pos c3]; exact char_three n w (by omega) c3 (by omega)
    rw [if_neg c3]
    exact char_four n w (by omega) (by omega)

/-- What At reckons out of so many bytes. -/
def sub8 (size : Nat) : Int := if size = 2 then 192 else if size = 3 then 224 else if size = 4 then 240 else 0
def nn (l : List UInt8) (size : Nat) : Nat → Int
  | 0 => 0
  | 1 => (at8 l 0 : Int) - sub8 size
  | j + 2 => 64 * nn l size (j + 1) + (at8 l (j + 1) : Int) - 128

theorem nn_range (l : List UInt8) (size : Nat) : (-240 ≤ nn l size 1 ∧ nn l size 1 ≤ 255) ∧ (-20000 ≤ nn l size 2 ∧ nn l size 2 ≤ 20000) ∧ (-1300000 ≤ nn l size 3 ∧ nn l size 3 ≤ 1300000) ∧ (-90000000 ≤ nn l size 4 ∧ nn l size 4 ≤ 90000000) := by
  have b0 := at8_lt l 0
  have b1 := at8_lt l 1
  have b2 := at8_lt l 2
  have b3 := at8_lt l 3
  have hs : 0 ≤ sub8 size ∧ sub8 size ≤ 240 := by unfold sub8; repeat' split <;> omega
  have e1 : nn l size 1 = (at8 l 0 : Int) - sub8 size := rfl
  have e2 : nn l size 2 = 64 * nn l size 1 + (at8 l 1 : Int) - 128 := rfl
  have e3 : nn l size 3 = 64 * nn l size 2 + (at8 l 2 : Int) - 128 := rfl
  have e4 : nn l size 4 = 64 * nn l size 3 + (at8 l 3 : Int) - 128 := rfl
  omega

theorem nn_of (l : List UInt8) (c n : Nat) (h : isC c) (hn : n ≤ l.length) (he : chr c = l.take n) : nn l n n = (c : Int) := by
  have hl := congrArg List.length he
  rw [List.length_take, Nat.min_eq_left hn] at hl
  have hg : ∀ k (hk : k < (chr c).length), at8 l k = ((chr c)[k]).toNat := fun k hk => by
    have h2 : (chr c)[k] = (l.take n)[k]'(by rw [← he]; exact hk) := by simp [he]
    rw [h2, List.getElem_take]
    unfold at8
    rw [List.getD_eq_getElem?_getD, List.getElem?_eq_getElem (by omega)]
    rfl
  obtain ⟨h1, h2⟩ := h
  have e1 : nn l n 1 = (at8 l 0 : Int) - sub8 n := rfl
  have e2 : nn l n 2 = 64 * nn l n 1 + (at8 l 1 : Int) - 128 := rfl
  have e3 : nn l n 3 = 64 * nn l n 2 + (at8 l 2 : Int) - 128 := rfl
  have e4 : nn l n 4 = 64 * nn l n 3 + (at8 l 3 : Int) - 128 := rfl
  by_cases c1 : c < 128
  · have hc : chr c = [b8 c] := by unfold chr; rw [if_pos c1]
    simp only [hc] at hg hl
    have g0 := hg 0 (by simp)
    simp only [List.getElem_cons_zero, b8_toNat c (by omega)] at g0
    obtain rfl : n = 1 := by simp at hl; omega
    rw [e1, g0]
    rfl
  by_cases c2 : c < 2048
  · have hc : chr c = [b8 (192 + c / 64), b8 (128 + c % 64)] := by unfold chr; rw [if_neg c1, if_pos c2]
    simp only [hc] at hg hl
    have g0 := hg 0 (by simp)
    have g1 := hg 1 (by simp)
    simp only [List.getElem_cons_zero, List.getElem_cons_succ, b8_toNat (192 + c / 64) (by omega), b8_toNat (128 + c % 64) (by omega)] at g0 g1
    obtain rfl : n = 2 := by simp at hl; omega
    rw [e2, e1, g0, g1]
    show 64 * (((192 + c / 64 : Nat) : Int) - 192) + _ - 128 = _
    omega
  by_cases c3 : c < 65536
  · have hc : chr c = [b8 (224 + c / 4096), b8 (128 + c / 64 % 64), b8 (128 + c % 64)] := by unfold chr; rw [if_neg c1, if_neg c2, if_pos c3]
    simp only [hc] at hg hl
    have g0 := hg 0 (by simp)
    have g1 := hg 1 (by simp)
    have g2 := hg 2 (by simp)
    simp only [List.getElem_cons_zero, List.getElem_cons_succ, b8_toNat (224 + c / 4096) (by omega), b8_toNat (128 + c / 64 % 64) (by omega), b8_toNat (128 + c % 64) (by omega)] at g0 g1 g2
    obtain rfl : n = 3 := by simp at hl; omega
    rw [e3, e2, e1, g0, g1, g2]
    show 64 * (64 * (((224 + c / 4096 : Nat) : Int) - 224) + _ - 128) + _ - 128 = _
    omega
  · have hc : chr c = [b8 (240 + c / 262144), b8 (128 + c / 4096 % 64), b8 (128 + c / 64 % 64), b8 (128 + c % 64)] := by unfold chr; rw [if_neg c1, if_neg c2, if_neg c3]
    simp only [hc] at hg hl
    have g0 := hg 0 (by simp)
    have g1 := hg 1 (by simp)
    have g2 := hg 2 (by simp)
    have g3 := hg 3 (by simp)
    simp only [List.getElem_cons_zero, List.getElem_cons_succ, b8_toNat (240 + c / 262144) (by omega), b8_toNat (128 + c / 4096 % 64) (by omega), b8_toNat (128 + c / 64 % 64) (by omega), b8_toNat (128 + c % 64) (by omega)] at g0 g1 g2 g3
    obtain rfl : n = 4 := by simp at hl; omega
    rw [e4, e3, e2, e1, g0, g1, g2, g3]
    show 64 * (64 * (64 * (((240 + c / 262144 : Nat) : Int) - 240) + _ - 128) + _ - 128) + _ - 128 = _
    omega

/-- The question that At asks of each size. -/
theorem at_asks (l : List UInt8) (n : Nat) (h1 : 1 ≤ n) (hn : n ≤ l.length) : (0 ≤ nn l n n ∧ nn l n n ≤ 1114111 ∧ chrI (nn l n n) = l.take n) ↔ (dec8 l).2 = n := by
  constructor
  · rintro ⟨a1, a2, a3⟩
    obtain ⟨c, hc⟩ := Int.eq_ofNat_of_zero_le a1
    rw [hc] at a2 a3
    by_cases hi : isC c
    · rw [chrI_ok c hi] at a3
      rw [dec8_take l c n hi hn a3]
    · exfalso
      rw [chrI_no _ (by unfold isC at hi; omega)] at a3
      have := congrArg List.length a3
      rw [List.length_take, List.length_nil] at this
      omega
  · intro h
    obtain ⟨d1, d2, d3, _⟩ := dec8_ok l (by omega)
    rw [h] at d3
    have e := nn_of l _ n d1 hn d3
    rw [e, chrI_ok _ d1, d3]
    unfold isC at d1
    exact ⟨by omega, by omega, rfl⟩
theorem at_val (l : List UInt8) (n : Nat) (h1 : 1 ≤ n) (hn : n ≤ l.length) (h : (dec8 l).2 = n) : nn l n n = ((dec8 l).1 : Int) := by
  obtain ⟨d1, d2, d3, _⟩ := dec8_ok l (by omega)
  rw [h] at d3
  exact nn_of l _ n d1 hn d3

end Go.Proofs.YtaochgndednamaaDoor
