/- The contract of the table's Put. -/
import Derived.Test.YtfblmibdcodipaaTGo
import Derived.Test.YtfblmibdcodipaaBld
import Derived.Test.YtfblmibdcodipaaPut
namespace Go.Proofs.Ytfblmibdcodipaa
open Go.RowKit Go.Maps Go.WideMaps

theorem put_nat (n : Nat) (w : World) (hn : n ≤ 18446744073709551615) : ∃ X : ByteArray, X.data.toList = put n ∧ X.size ≤ 10 ∧
    Calls Try.prog 28 #[.int .u64 (n : Int)] w fun e w' => e = .returned (.string X) ∧ Below w.heap.size w w' := by
  refine ⟨⟨(put n).toArray⟩, by simp, ?_, ?_⟩
  · have h := (put_length n).2
    show (put n).toArray.size ≤ 10
    simpa using h
  · have h := put_any (n : Int) w (by omega) (by omega)
    rw [Int.toNat_natCast] at h
    exact h

set_option maxRecDepth 10000 in
set_option maxHeartbeats 400000 in
theorem tput_any {w : World} {B g gm : Nat} {v : Value} {L : List ByteArray} (h : Tb w B g gm v L) (hs : L.length ≤ 100000) (hm : sum6 L ≤ 1000000000) :
    Calls Try.prog 19 #[.pointer (some ⟨g, 0, none⟩)] w fun e w' => e = .returned (.string ⟨(pPut6 L).toArray⟩) ∧ Below w.heap.size w w' := by
  obtain ⟨ao, cap, rfl⟩ := own_shape6 h.own
  obtain ⟨gk, hga, hL⟩ := own_texts h.own rfl
  have hglt := h.cells.lt
  have c0 := h.cells.c0
  have HC := h.cells
  clear h
  have HT : Hid ((∀ i (h : i < L.length), body6 (L.take (i + 1)) = body6 (L.take i) ++ (put L[i].size ++ L[i].data.toList)) ∧ body6 (L.take L.length) = body6 L) := ⟨fun i h => body6_take L i h, by rw [List.take_length]⟩
  have HM : Hid (∀ i, (body6 (L.take i)).length ≤ 1001000000) := fun i => by
    have h1 : sum6 L = sum6 (L.take i) + sum6 (L.drop i) := by rw [← sum6_append, List.take_append_drop]
    have h2 := body6_le (L.take i)
    have h3 : (L.take i).length ≤ L.length := by rw [List.length_take]; omega
    omega
  have hS : ∀ i (h : i < L.length), L[i].size ≤ 1000000000 := fun i h => by
    have h1 : sum6 L = sum6 (L.take (i + 1)) + sum6 (L.drop (i + 1)) := by rw [← sum6_append, List.take_append_drop]
    rw [sum6_take L i h] at h1
    omega
  have HB0 := Bu.new w
  have B0 : Below w.heap.size w (w.alloc (.cells #[.pointer none, .slice none 0 0] 56)) := (Below.refl _ _).alloc (Nat.le_refl _) _
  have z0 := put_length L.length
  obtain ⟨X0, d0, hz0, P0⟩ := put_nat L.length (w.alloc (.cells #[.pointer none, .slice none 0 0] 56)) (by omega)
  have HP0 : Hid _ := P0
  have H0 : Hid (X0.data.toList = put L.length) := d0
  clear P0 d0
  go_enter Try.func19, Try.ntmps19
  go_wp2_with fail
  refine Calls.mono HP0.out ?_
  rintro e w1 ⟨rfl, b1⟩
  have HB1 := HB0.below b1
  have B1 : Below w.heap.size w w1 := B0.trans (b1.mono B0.size)
  clear HP0 HB0 B0 b1
  go_wp2_with fail
  refine (wstr_any w.heap.size w.heap.size [] X0 w1 HB1 (by simp; omega) B1.size).mono ?_
  rintro e w2 ⟨rfl, HB2, b2, -⟩
  have B2 := B1.trans b2
  rw [List.nil_append] at HB2
  clear HB1 B1 b2
  have c2 := (HC.below B2 hglt).c0
  go_wp2_with fail
  go_loopw [19] (fun iv wr => ∃ (i : Nat) (X : List UInt8), iv = .int .i64 i ∧ i ≤ L.length ∧ X.length ≤ 1001000010 ∧ X ≠ [] ∧ Hid (X = X0.data.toList ++ body6 (L.take i)) ∧ Bu w.heap.size w.heap.size X wr ∧ Below w.heap.size w wr) (fun iv _ => L.length - (intOf iv).toNat)
  case atStart => exact ⟨0, X0.data.toList, rfl, by omega, by rw [H0.out]; omega, by rw [H0.out]; exact fun e => by rw [e] at z0; simp at z0, by simp [Hid, body6], HB2, B2⟩
  case round =>
    clear HB2 B2 c2 c0
    obtain ⟨i, X, rfl, hi, hX, hne, HX, hBu, hB⟩ := hrel
    by_cases hlt : i < L.length
    · obtain rfl := hga (by omega)
      obtain ⟨hbl, c0⟩ := hL i hlt
      have hbr : gk < wr.heap.size := Nat.lt_of_lt_of_le hbl hB.size
      rw [← (bcell hB).1 gk _ hbl] at c0
      rw [Nat.zero_add] at c0
      have hsi := hS i hlt
      have hx := HT.out.1 i hlt
      have hle := HM.out (i + 1)
      have HQ : Hid (X ++ (put L[i].size ++ L[i].data.toList) = X0.data.toList ++ body6 (L.take (i + 1))) := by show _ = _; rw [hx, HX.out, List.append_assoc]
      clear HX
      generalize L[i] = c at *
      obtain ⟨Y, dY, zY, PY⟩ := put_nat c.size wr (by omega)
      have HP : Hid _ := PY
      rw [← dY] at HQ
      have hlen : (X ++ (Y.data.toList ++ c.data.toList)).length ≤ 1001000010 := by
        rw [HQ.out, List.length_append, list_size]
        omega
      have hq1 : X.length + Y.size ≤ 140737488355328 := by omega
      have hq2 : (X ++ Y.data.toList).length + c.size ≤ 140737488355328 := by rw [List.length_append, list_size]; omega
      have HL : Hid _ := hlen
      have hc' : (c.size : Int) ≤ 1000000000 := by omega
      clear PY dY hx hle hlen
      go_wp2_with fail
      refine Calls.mono HP.out ?_
      rintro e w3 ⟨rfl, b3⟩
      have HB3 := hBu.below b3
      have B3 := hB.trans (b3.mono hB.size)
      clear HP b3 hBu
      go_wp2_with fail
      refine (wstr_any w.heap.size w.heap.size X Y w3 HB3 hq1 B3.size).mono ?_
      rintro e w4 ⟨rfl, HB4, b4, -⟩
      have B4 := B3.trans b4
      clear HB3 B3 b4
      go_wp2_with fail
      refine (wstr_any w.heap.size w.heap.size _ c w4 HB4 hq2 B4.size).mono ?_
      rintro e w5 ⟨rfl, HB5, b5, -⟩
      have B5 := B4.trans b5
      clear HB4 B4 b5
      rw [List.append_assoc] at HB5
      go_wp2_with fail
      go_roundw
      case rel => exact ⟨i + 1, _, by go_num, by omega, HL.out, by simp [hne], HQ.out, HB5, B5⟩
      case measure => simp [intOf]; omega
    · have HQ : Hid (pPut6 L = X) := by
        have h1 := HX.out
        rw [show i = L.length by omega, HT.out.2, H0.out] at h1
        exact h1.symm
      clear HX HT
      go_wp2_with fail
      refine (bstr_any w.heap.size w.heap.size X wr hBu hne).mono ?_
      rintro e w3 ⟨rfl, b3⟩
      go_wp2_with fail
      go_ret
      rw [HQ.out]
      exact ⟨rfl, hB.trans b3⟩

end Go.Proofs.Ytfblmibdcodipaa
