/- The contract of frame.Put, whatever the sections are. -/
import Derived.Test.YtipljconbnaffaaFPut
namespace Go.Proofs.Ytipljconbnaffaa
open Go.RowKit

theorem chk_at (L : List Sec) (i : Nat) (h : i < L.length) : chk (L.drop i) = if cs L[i] ≠ 0 then cs L[i] else chk (L.drop (i + 1)) := by
  rw [List.drop_eq_getElem_cons h, chk_cons]

set_option maxRecDepth 10000 in
set_option maxHeartbeats 400000 in
theorem fput_second (m : ByteArray) (v : Int) (a : Option Addr) (cap b o : Nat) (L : List Sec) (w : World) (h : cf m.size v L.length = 0) (hL : L.length ≤ 20) (ha : 0 < L.length → a = some ⟨b, o, none⟩) (hs : SecAt w b o L) (hc : chk L ≠ 0) :
    Calls Try.prog 11 #[.string m, .int .i64 v, .slice a L.length cap] w fun e w' => e = .returned (.tuple #[.string ⟨#[]⟩, .int .i64 (chk L)]) ∧ Below w.heap.size w w' := by
  have HC : Hid (∀ W, Calls Try.prog 17 #[.string m, .int .i64 v, .int .i64 (L.length : Int)] W fun e w' => e = .returned (.int .i64 0) ∧ w' = W) := fun W => by rw [← h]; exact cf_any m v L.length W
  have HD : Hid (chk (L.drop 0) = chk L) := rfl
  generalize chk L = C at *
  clear h
  go_enter Try.func11, Try.ntmps11
  go_wp2_with fail
  refine (HC.out _).mono ?_
  rintro e w1 ⟨rfl, rfl⟩
  go_wp2_with fail
  clear HC
  go_loopw [25] (fun iv wr => ∃ i : Nat, iv = .int .i64 i ∧ i ≤ L.length ∧ Hid (chk (L.drop i) = C) ∧ Below w1.heap.size w1 wr) (fun iv _ => L.length - (intOf iv).toNat)
  case atStart => exact ⟨0, rfl, by omega, HD, Below.refl _ _⟩
  case round =>
    obtain ⟨i, rfl, hi, HI, hb⟩ := hrel
    by_cases hlt : i < L.length
    · have hI := HI.out
      rw [chk_at L i hlt] at hI
      obtain rfl := ha (by omega)
      obtain ⟨hbl, c0, c1⟩ := hs i hlt
      rw [← (bcell hb).1 b _ hbl] at c0 c1
      have HS := fun W => cs_any L[i] W
      generalize L[i] = s at *
      obtain ⟨x, p⟩ := s
      dsimp only at c0 c1 HS
      generalize cs (x, p) = k at *
      have HS' : Hid _ := HS
      clear HS HI
      by_cases hk : k = 0
      · subst hk
        have HN : Hid (chk (L.drop (i + 1)) = C) := by show _ = _; simpa using hI
        clear hI
        go_wp2_with fail
        refine (HS'.out _).mono ?_
        rintro e w2 ⟨rfl, hb2⟩
        have hb3 : Below w1.heap.size w1 w2 := (hb.alloc hb.size _).trans (hb2.mono (by have := hb.size; simp; omega))
        go_wp2_with fail
        go_roundw
        case rel => exact ⟨i + 1, by go_num, by omega, HN, hb3⟩
        case measure => simp [intOf]; omega
      · have HN : Hid (k = C) := by show _ = _; simpa [hk] using hI
        have hk' : (k != 0) = true := by simpa using hk
        clear hI hk
        go_wp2_with fail
        refine (HS'.out _).mono ?_
        rintro e w2 ⟨rfl, hb2⟩
        have hb3 : Below w1.heap.size w1 w2 := (hb.alloc hb.size _).trans (hb2.mono (by have := hb.size; simp; omega))
        go_wp2_with fail
        go_ret2
        rw [← HN.out]
        exact ⟨rfl, hb3⟩
    · exfalso
      have hI := HI.out
      rw [List.drop_of_length_le (by omega)] at hI
      exact hc hI.symm

theorem cs_ok (s : Sec) (h : okSec s) : cs s = 0 := by
  obtain ⟨h1, h2, h3⟩ := h
  unfold cs
  rw [if_neg (by omega), if_neg (by omega)]

set_option maxRecDepth 10000 in
set_option maxHeartbeats 400000 in
theorem fput_good (m : ByteArray) (v : Int) (a : Option Addr) (cap b o : Nat) (L : List Sec) (w : World) (h : cf m.size v L.length = 0) (ha : 0 < L.length → a = some ⟨b, o, none⟩) (hs : SecAt w b o L) (hok : ∀ s ∈ L, okSec s) (hp : ∀ s ∈ L, s.2.size ≤ 4000) :
    Calls Try.prog 11 #[.string m, .int .i64 v, .slice a L.length cap] w fun e w' => e = .returned (.tuple #[.string ⟨(m.data.toList ++ UInt8.ofNat v.toNat :: bodyL L).toArray⟩, .int .i64 0]) ∧ Below w.heap.size w w' := by
  have HC : Hid (∀ W, Calls Try.prog 17 #[.string m, .int .i64 v, .int .i64 (L.length : Int)] W fun e w' => e = .returned (.int .i64 0) ∧ w' = W) := fun W => by rw [← h]; exact cf_any m v L.length W
  obtain ⟨hm4, hv1, hv2, hL8, _⟩ := pPut_second m v L h
  obtain ⟨vn, rfl⟩ := Int.eq_ofNat_of_zero_le (show 0 ≤ v by omega)
  have hvw : IntKind.u8.wrap (vn : Int) = vn := by rw [IntKind.wrap_u8']; omega
  have HF : Hid (m.data.toList ++ UInt8.ofNat (vn : Int).toNat :: bodyL L = m.data.toList ++ [UInt8.ofNat vn] ++ bodyL (L.take L.length)) := by show _ = _; simp
  have HM : Hid (m.data.toList.length = 4) := by show _ = _; rw [list_size]; exact hm4
  have HB : Hid (∀ i, (bodyL (L.take i)).length ≤ 8 * 4015) := fun i => by
    have h1 := bodyL_le 4000 (L.take i) (fun s hs => hp s (List.mem_of_mem_take hs))
    have h2 : (L.take i).length ≤ 8 := by rw [List.length_take]; omega
    have h3 : (L.take i).length * (4000 + 15) ≤ 8 * 4015 := Nat.mul_le_mul h2 (Nat.le_refl _)
    omega
  generalize m.data.toList ++ UInt8.ofNat (vn : Int).toNat :: bodyL L = R at *
  have hms : m.size ≤ 100 := by omega
  clear h hm4
  go_enter Try.func11, Try.ntmps11
  go_wp2_with fail
  refine (HC.out _).mono ?_
  rintro e w1 ⟨rfl, rfl⟩
  go_wp2_with fail
  clear HC
  go_loopw [25] (fun iv wr => ∃ i : Nat, iv = .int .i64 i ∧ i ≤ L.length ∧ Below w1.heap.size w1 wr) (fun iv _ => L.length - (intOf iv).toNat)
  case atStart => exact ⟨0, rfl, by omega, Below.refl _ _⟩
  case round =>
    obtain ⟨i, rfl, hi, hb⟩ := hrel
    by_cases hlt : i < L.length
    · obtain rfl := ha (by omega)
      obtain ⟨hbl, c0, c1⟩ := hs i hlt
      rw [← (bcell hb).1 b _ hbl] at c0 c1
      have HS := fun W => cs_any L[i] W
      rw [cs_ok _ (hok _ (List.getElem_mem hlt))] at HS
      generalize L[i] = s at *
      obtain ⟨x, p⟩ := s
      dsimp only at c0 c1 HS
      have HS' : Hid _ := HS
      clear HS
      go_wp2_with fail
      refine (HS'.out _).mono ?_
      rintro e w2 ⟨rfl, hb2⟩
      have hb3 : Below w1.heap.size w1 w2 := (hb.alloc hb.size _).trans (hb2.mono (by have := hb.size; simp; omega))
      go_wp2_with fail
      go_roundw
      case rel => exact ⟨i + 1, by go_num, by omega, hb3⟩
      case measure => simp [intOf]; omega
    · clear hi
      have hBsz := hb.size
      have B0 : Bu wr.heap.size wr.heap.size [] (wr.alloc (.cells #[.pointer none, .slice none 0 0] 50)) := Bu.new wr
      have hA : Below w1.heap.size w1 (wr.alloc (.cells #[.pointer none, .slice none 0 0] 50)) := hb.alloc hb.size _
      go_wp2_with fail
      refine (wstr_any wr.heap.size wr.heap.size [] m _ B0 (by simp; omega) (by simp)).mono ?_
      rintro e w2 ⟨rfl, B2, hb2, _⟩
      have hA2 := hA.trans (hb2.mono hBsz)
      have hs2 : wr.heap.size ≤ w2.heap.size := by have := hb2.size; simp at this; omega
      generalize wr.heap.size = g at *
      clear B0 hA hb2 hb
      go_wp2_with fail
      refine (wbyte_any g g _ vn _ B2 (by omega) (by have := HM.out; simp; omega) hs2).mono ?_
      rintro e w3 ⟨rfl, B3, hb3, _⟩
      have hA3 := hA2.trans (hb3.mono hBsz)
      have hs3 := Nat.le_trans hs2 hb3.size
      rw [List.nil_append] at B3
      have HP : Hid ((m.data.toList ++ [UInt8.ofNat vn]).length = 5) := by show _ = _; rw [List.length_append, HM.out]; rfl
      generalize m.data.toList ++ [UInt8.ofNat vn] = pre at *
      clear B2 hA2 hb3
      go_wp2_with fail
      go_loopw [42] (fun iv wr => ∃ i : Nat, iv = .int .i64 i ∧ i ≤ L.length ∧ Bu g g (pre ++ bodyL (L.take i)) wr ∧ Below w1.heap.size w1 wr ∧ g ≤ wr.heap.size) (fun iv _ => L.length - (intOf iv).toNat)
      case atStart => exact ⟨0, rfl, by omega, by simpa [bodyL] using B3, hA3, hs3⟩
      case round =>
        obtain ⟨i, rfl, hi, hB, hb, hsz⟩ := hrel
        clear B3 hA3 hs3
        by_cases hlt : i < L.length
        · obtain rfl := ha (by omega)
          obtain ⟨hbl, c0, c1⟩ := hs i hlt
          rw [← (bcell hb).1 b _ hbl] at c0 c1
          have hl1 : (pre ++ bodyL (L.take i)).length ≤ 40000 := by have h1 := HB.out i; have h2 := HP.out; rw [List.length_append]; omega
          have hpi := hp _ (List.getElem_mem hlt)
          obtain ⟨ho1, ho2, _⟩ := hok _ (List.getElem_mem hlt)
          have HT : Hid (pre ++ bodyL (L.take (i + 1)) = pre ++ bodyL (L.take i) ++ secL L[i]) := by show _ = _; rw [bodyL_take L i hlt, List.append_assoc]
          generalize pre ++ bodyL (L.take i) = xs at *
          generalize L[i] = s at *
          obtain ⟨x, p⟩ := s
          dsimp only at c0 c1 hpi ho1 ho2
          obtain ⟨xn, rfl⟩ := Int.eq_ofNat_of_zero_le (show 0 ≤ x by omega)
          have hxw : IntKind.u8.wrap (xn : Int) = xn := by rw [IntKind.wrap_u8']; omega
          have P1 := fun W => put_any (p.size : Int) W (by omega) (by omega)
          rw [Int.toNat_natCast] at P1
          have z1 := (put_length p.size).2
          have d1 : (ByteArray.mk (put p.size).toArray).data.toList = put p.size := rfl
          have P2 := fun W => sum_any p W (by omega)
          have P3 := fun W => put4_any (crc p.data.toList) W (crc_lt _)
          have d3 : (ByteArray.mk (four (crc p.data.toList)).toArray).data.toList = four (crc p.data.toList) := rfl
          have HSL : Hid (secL ((xn : Int), p) = [UInt8.ofNat xn] ++ put p.size ++ p.data.toList ++ four (crc p.data.toList)) := by show _ = _; simp [secL]
          rw [HSL.out] at HT
          rw [← d1] at z1 HT
          rw [← d3] at HT
          have z3 : (ByteArray.mk (four (crc p.data.toList)).toArray).size = 4 := rfl
          rw [list_size] at z1
          generalize ByteArray.mk (put p.size).toArray = S1 at *
          generalize ByteArray.mk (four (crc p.data.toList)).toArray = S3 at *
          generalize crc p.data.toList = C at *
          have HP1 : Hid _ := P1
          have HP2 : Hid _ := P2
          have HP3 : Hid _ := P3
          have hp0 : p.data.toList.length = p.size := list_size p
          have hq1 : S1.data.toList.length = S1.size := list_size S1
          have HL0 : Hid (p.data.toList.length = p.size ∧ S1.data.toList.length = S1.size) := ⟨hp0, hq1⟩
          clear P1 P2 P3 d1 d3 HSL hp0 hq1 HB HM hs ha hok hp
          have hB' := hB.alloc (.cells #[.int .i64 (xn : Int), .string p] 41)
          have hN : (wr.alloc (.cells #[.int .i64 (xn : Int), .string p] 41)).heap[wr.heap.size]? = some (.cells #[.int .i64 (xn : Int), .string p] 41 (0, 0)) := heap_alloc_new wr _
          have hgk : wr.heap.size ≠ g := by have := hB.lt; omega
          have hA : Below w1.heap.size w1 (wr.alloc (.cells #[.int .i64 (xn : Int), .string p] 41)) := hb.alloc hb.size _
          go_wp2_with fail
          refine (wbyte_any g g xs xn _ hB' (by omega) (by omega) (by simp; omega)).mono ?_
          rintro e w2 ⟨rfl, B2, b2, k2⟩
          have n2 := k2.two hN hgk (by decide)
          have q2 : w2.cell? ⟨wr.heap.size, 1, none⟩ = some (.string p) := by rw [Lib.cell_of_heap n2]; rfl
          have a2 := hA.trans (b2.mono hBsz)
          have s2 : g ≤ w2.heap.size := by have := B2.lt; omega
          generalize wr.heap.size = k at *
          clear hN hA b2 k2 hB' hb c0 c1
          go_wp2_with fail
          refine (HP1.out _).mono ?_
          rintro e w3 ⟨rfl, b3⟩
          have B3 := B2.below b3
          have n3 := (b3.block k (Array.getElem?_eq_some_iff.1 n2).1).trans n2
          have q3 : w3.cell? ⟨k, 1, none⟩ = some (.string p) := by rw [Lib.cell_of_heap n3]; rfl
          have a3 := a2.trans (b3.mono a2.size)
          have s3 := Nat.le_trans s2 b3.size
          clear B2 n2 q2 a2 s2 b3
          go_wp2_with fail
          refine (wstr_any g g _ S1 _ B3 (by simp; omega) s3).mono ?_
          rintro e w4 ⟨rfl, B4, b4, k4⟩
          have n4 := k4.two n3 hgk (by decide)
          have q4 : w4.cell? ⟨k, 1, none⟩ = some (.string p) := by rw [Lib.cell_of_heap n4]; rfl
          have a4 := a3.trans (b4.mono hBsz)
          have s4 := Nat.le_trans s3 b4.size
          clear B3 n3 q3 a3 s3 b4 k4
          go_wp2_with fail
          refine (wstr_any g g _ p _ B4 (by have := HL0.out.2; simp; omega) s4).mono ?_
          rintro e w5 ⟨rfl, B5, b5, k5⟩
          have n5 := k5.two n4 hgk (by decide)
          have q5 : w5.cell? ⟨k, 1, none⟩ = some (.string p) := by rw [Lib.cell_of_heap n5]; rfl
          have a5 := a4.trans (b5.mono hBsz)
          have s5 := Nat.le_trans s4 b5.size
          clear B4 n4 q4 a4 s4 b5 k5
          go_wp2_with fail
          refine (HP2.out _).mono ?_
          rintro e w6 ⟨rfl, b6⟩
          have B6 := B5.below b6
          have a6 := a5.trans (b6.mono a5.size)
          have s6 := Nat.le_trans s5 b6.size
          clear B5 a5 s5 b6 n5 q5
          go_wp2_with fail
          refine (HP3.out _).mono ?_
          rintro e w7 ⟨rfl, b7⟩
          have B7 := B6.below b7
          have a7 := a6.trans (b7.mono a6.size)
          have s7 := Nat.le_trans s6 b7.size
          clear B6 a6 s6 b7
          go_wp2_with fail
          refine (wstr_any g g _ S3 _ B7 (by have := HL0.out.1; have := HL0.out.2; simp; omega) s7).mono ?_
          rintro e w8 ⟨rfl, B8, b8, _⟩
          have a8 := a7.trans (b8.mono hBsz)
          have s8 := Nat.le_trans s7 b8.size
          clear B7 a7 s7 b8
          go_wp2_with fail
          go_roundw
          case rel => exact ⟨i + 1, by go_num, by omega, by rw [HT.out]; simpa using B8, a8, s8⟩
          case measure => simp [intOf]; omega
        · obtain rfl : i = L.length := by omega
          have HR : Hid (R = pre ++ bodyL (L.take L.length)) := HF.out
          have hne : pre ++ bodyL (L.take L.length) ≠ [] := by
            intro e
            have h1 := congrArg List.length e
            rw [List.length_append, HP.out] at h1
            simp at h1
          generalize pre ++ bodyL (L.take L.length) = xs at *
          clear HF HB hs ha hok hp
          go_wp2_with fail
          refine (bstr_any g g xs _ hB hne).mono ?_
          rintro e w2 ⟨rfl, b2⟩
          go_wp2_with fail
          go_ret2
          rw [HR.out]
          exact ⟨rfl, hb.trans (b2.mono hBsz)⟩

/-- Put, of any sections that aren't great. -/
theorem fput_any (m : ByteArray) (v : Int) (a : Option Addr) (cap b o : Nat) (L : List Sec) (w : World) (hL : L.length ≤ 20) (ha : 0 < L.length → a = some ⟨b, o, none⟩) (hs : SecAt w b o L) (hp : ∀ s ∈ L, s.2.size ≤ 4000) :
    Calls Try.prog 11 #[.string m, .int .i64 v, .slice a L.length cap] w fun e w' => e = .returned (.tuple #[.string ⟨(pPut m v L).1.toArray⟩, .int .i64 (pPut m v L).2]) ∧ Below w.heap.size w w' := by
  by_cases h : cf m.size v L.length = 0
  · obtain ⟨_, _, _, _, h5⟩ := pPut_second m v L h
    rw [h5]
    by_cases hc : chk L = 0
    · rw [if_neg (by simpa using hc)]
      exact fput_good m v a cap b o L w h ha hs ((chk_ok L).1 hc) hp
    · rw [if_pos hc]
      exact fput_second m v a cap b o L w h hL ha hs hc
  · rw [pPut_first m v L h]
    exact fput_first m v a L.length cap w h


end Go.Proofs.Ytipljconbnaffaa
