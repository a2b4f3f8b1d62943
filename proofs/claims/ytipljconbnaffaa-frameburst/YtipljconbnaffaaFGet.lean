/- The contracts of what frame.Get calls: the prefix, the version, one section. -/
import Derived.Test.YtipljconbnaffaaFPut
import Derived.Test.YtipljconbnaffaaReads2
import Derived.Test.YtipljconbnaffaaJoins
namespace Go.Proofs.Ytipljconbnaffaa
open Go.RowKit

theorem take4_eq (m b : ByteArray) : b.data.toList.take 4 = m.data.toList ↔ b.extract 0 4 = m := by
  have h : (b.extract 0 4).data.toList = b.data.toList.take 4 := by rw [Lib.extract_data]; simp
  constructor
  · intro e; exact ba_ext (by rw [h, e])
  · intro e; rw [← h, e]

set_option maxRecDepth 10000 in
set_option maxHeartbeats 400000 in
theorem hpi_any (m b : ByteArray) (w : World) (hm : m.size = 4) (hb : b.size ≤ 281474976710656) :
    Calls Try.prog 39 #[.string b, .string m] w fun e w' => e = .returned (.bool (decide (b.data.toList.take 4 = m.data.toList))) ∧ w' = w := by
  have hm' : (m.size : Int) = 4 := by omega
  by_cases h : b.size < 4
  · have hd : decide (b.data.toList.take 4 = m.data.toList) = false := by
      rw [decide_eq_false_iff_not]
      intro e
      have h1 := congrArg List.length e
      rw [List.length_take, list_size, list_size] at h1
      omega
    rw [hd]
    go_enter Try.func39, Try.ntmps39
    go_wp2_with fail
    go_ret
    exact ⟨rfl, rfl⟩
  · have hd : decide (b.data.toList.take 4 = m.data.toList) = ((b.extract 0 4).toList == m.toList) := by
      rw [ByteArray.toList_eq, ByteArray.toList_eq, Lib.extract_data]
      simp [Bool.beq_eq_decide_eq]
    rw [hd]
    go_enter Try.func39, Try.ntmps39
    go_wp2_with fail
    go_ret
    exact ⟨rfl, rfl⟩

set_option maxRecDepth 10000 in
set_option maxHeartbeats 400000 in
theorem hp_any (m b : ByteArray) (w : World) (hm : m.size = 4) (hb : b.size ≤ 281474976710656) :
    Calls Try.prog 28 #[.string b, .string m] w fun e w' => e = .returned (.bool (decide (b.data.toList.take 4 = m.data.toList))) ∧ w' = w := by
  have H : Hid _ := fun W => hpi_any m b W hm hb
  generalize decide (b.data.toList.take 4 = m.data.toList) = d at *
  go_enter Try.func28, Try.ntmps28
  go_wp2_with fail
  refine (H.out _).mono ?_
  rintro e w1 ⟨rfl, rfl⟩
  go_wp2_with fail
  go_ret
  exact ⟨rfl, rfl⟩

/-- What Fail leaves: the first error stays. -/
def fl (e d : Int) : Int := if e = 0 then d else e
theorem fl_ok (d : Int) : fl 0 d = d := rfl
theorem fl_no {e : Int} (d : Int) (h : e ≠ 0) : fl e d = e := if_neg h
theorem fail_fl (w : World) (g : Nat) (b : ByteArray) (k e d : Int) (h : Cu w g b k e) :
    Calls Try.prog 33 #[.pointer (some ⟨g, 0, none⟩), .int .i64 d] w fun r w' => r = .returned (.tuple #[]) ∧ Cu w' g b k (fl e d) ∧ w.grownBy w' (some g) := fail_any w g b k e d h

/-- The version, and the error: of a cursor at the front. -/
def ver (b : ByteArray) : Int × Nat × Int := if (pByte b 0 0).1 = 0 then (0, (pByte b 0 0).2.1, fl (pByte b 0 0).2.2 7) else pByte b 0 0

set_option maxRecDepth 10000 in
set_option maxHeartbeats 400000 in
theorem getver_any (w : World) (g : Nat) (b : ByteArray) (h : Cu w g b ((0 : Nat) : Int) 0) (hs : b.size ≤ maxLen) :
    Calls Try.prog 30 #[.pointer (some ⟨g, 0, none⟩)] w fun e w' => e = .returned (.int .i64 (ver b).1) ∧ Cu w' g b ((ver b).2.1 : Nat) (ver b).2.2 ∧ w.grownBy w' (some g) := by
  have HB : Hid _ := byte_any w g b 0 0 h hs (Nat.zero_le _)
  have hr : 0 ≤ (pByte b 0 0).1 ∧ (pByte b 0 0).1 ≤ 255 := by
    unfold pByte
    rw [if_neg (by simp)]
    split
    · have := b[0].toNat_lt; dsimp only; omega
    · dsimp only; omega
  have hv : ver b = if (pByte b 0 0).1 = 0 then (0, (pByte b 0 0).2.1, fl (pByte b 0 0).2.2 7) else pByte b 0 0 := rfl
  rw [hv]
  generalize pByte b 0 0 = r at *
  obtain ⟨x, k, e⟩ := r
  dsimp only at *
  by_cases hx : x = 0
  · subst hx
    rw [if_pos rfl]
    clear hv
    go_enter Try.func30, Try.ntmps30
    go_wp2_with fail
    refine Calls.mono HB.out ?_
    rintro r w1 ⟨rfl, h1, g1⟩
    go_wp2_with fail
    refine (fail_fl _ g b _ e 7 h1).mono ?_
    rintro r w2 ⟨rfl, h2, g2⟩
    go_wp2_with fail
    go_ret
    exact ⟨rfl, h2, gtrans g1 g2⟩
  · rw [if_neg hx]
    clear hv
    go_enter Try.func30, Try.ntmps30
    go_wp2_with fail
    refine Calls.mono HB.out ?_
    rintro r w1 ⟨rfl, h1, g1⟩
    go_wp2_with fail
    go_ret
    exact ⟨rfl, h1, g1⟩

theorem gnew {a b : World} {row : Option Nat} (h : a.grownBy b row) (p : Addr) (hp : a.heap.size ≤ p.block) (v : Value) : a.grownBy (b.setCell p v) row :=
  ⟨h.os, h.tape, h.output, by simpa [World.setCell] using h.size, fun i hi hn => (Below.heap_setCell _ _ _ _ (by omega)).trans (h.block i hi hn)⟩

/-- A section's error, behind what was read. -/
def crcE (S P : ByteArray) (e : Int) : Int := if S.size = 4 ∧ lnum S.data.toList = crc P.data.toList then e else fl e 5
/-- One section: what the cursor's calls make of it. -/
def pSec (b : ByteArray) (k : Nat) : Sec × Nat × Int :=
  let r1 := pByte b k 0
  let r2 := pUint b r1.2.1 (if r1.1 = 0 then fl r1.2.2 4 else r1.2.2) 16777216
  let r3 := pBytes b r2.2.1 r2.2.2 r2.1
  let r4 := pBytes b r3.2.1 r3.2.2 4
  ((r1.1, r3.1), r4.2.1, crcE r4.1 r3.1 r4.2.2)

theorem pByte_range (b : ByteArray) (k : Nat) (e : Int) : 0 ≤ (pByte b k e).1 ∧ (pByte b k e).1 ≤ 255 := by
  unfold pByte
  split
  · dsimp only; omega
  split
  · rename_i h; have := b[k].toNat_lt; dsimp only; omega
  · dsimp only; omega
theorem pBytes_size (b : ByteArray) (k : Nat) (e n : Int) : (pBytes b k e n).1.size ≤ b.size := by
  unfold pBytes
  split
  · exact Nat.zero_le _
  split
  · exact Nat.zero_le _
  split
  · exact Nat.zero_le _
  · dsimp only; rw [ByteArray.size_extract]; omega

set_option maxRecDepth 10000 in
set_option maxHeartbeats 400000 in
theorem getsec_any (w : World) (g : Nat) (b : ByteArray) (k : Nat) (h : Cu w g b (k : Int) 0) (hs : b.size ≤ 281474976710656) (hk : k ≤ b.size) :
    Calls Try.prog 34 #[.pointer (some ⟨g, 0, none⟩)] w fun e w' => e = .returned (.agg #[.int .i64 (pSec b k).1.1, .string (pSec b k).1.2]) ∧ Cu w' g b ((pSec b k).2.1 : Nat) (pSec b k).2.2 ∧ w.grownBy w' (some g) := by
  have hs' := Nat.le_trans hs max48
  have D : Hid (pSec b k = pSec b k) := rfl
  unfold pSec
  clear D
  dsimp only
  have C1 := fun (W : World) (hW : Cu W g b (k : Int) 0) => byte_any W g b k 0 hW hs' hk
  have q1 := pByte_range b k 0
  have hk1 := (pByte_at b k 0 hk).2
  generalize pByte b k 0 = r1 at *
  obtain ⟨x, k1, e1⟩ := r1
  dsimp only at *
  have HE : Hid ((x = 0 → (if x = 0 then fl e1 4 else e1) = fl e1 4) ∧ (x ≠ 0 → (if x = 0 then fl e1 4 else e1) = e1)) := ⟨fun h => if_pos h, fun h => if_neg h⟩
  generalize (if x = 0 then fl e1 4 else e1) = E1 at *
  have C2 := fun (W : World) (hW : Cu W g b (k1 : Int) E1) => uint_any W g b k1 E1 16777216 hW hs' hk1
  have hk2 := (pUint_at b k1 E1 16777216 hk1).2
  generalize pUint b k1 E1 16777216 = r2 at *
  obtain ⟨n, k2, e2⟩ := r2
  dsimp only at *
  have C3 := fun (W : World) (hW : Cu W g b (k2 : Int) e2) => bytes_any W g b k2 e2 n hW hs hk2
  have hk3 := (pBytes_at b k2 e2 n hk2).2
  have hP := pBytes_size b k2 e2 n
  generalize pBytes b k2 e2 n = r3 at *
  obtain ⟨P, k3, e3⟩ := r3
  dsimp only at *
  have C4 := fun (W : World) (hW : Cu W g b (k3 : Int) e3) => bytes_any W g b k3 e3 4 hW hs hk3
  generalize pBytes b k3 e3 4 = r4 at *
  obtain ⟨S, k4, e4⟩ := r4
  dsimp only at *
  have H1 : Hid _ := C1
  have H2 : Hid _ := C2
  have H3 : Hid _ := C3
  have H4 : Hid _ := C4
  have H5 : Hid _ := fun W => sum_any P W (by omega)
  have h0 : Cu (w.alloc (.cells #[.int .i64 0, .string ⟨#[]⟩] 41)) g b (k : Int) 0 := h.alloc _
  have n0 : (w.alloc (.cells #[.int .i64 0, .string ⟨#[]⟩] 41)).heap[w.heap.size]? = some (.cells #[.int .i64 0, .string ⟨#[]⟩] 41 (0, 0)) := heap_alloc_new w _
  have g0 : w.grownBy (w.alloc (.cells #[.int .i64 0, .string ⟨#[]⟩] 41)) (some g) := galloc (World.grownBy.refl _ _) _
  have hne : some w.heap.size ≠ some g := by have := h.lt; simp; omega
  have hB : Hid (∀ {a c : World}, a.heap[w.heap.size]? = some (.cells #[.int .i64 0, .string ⟨#[]⟩] 41 (0, 0)) → a.grownBy c (some g) → c.heap[w.heap.size]? = some (.cells #[.int .i64 0, .string ⟨#[]⟩] 41 (0, 0))) := fun ha hg => (hg.block _ (Array.getElem?_eq_some_iff.1 ha).1 hne).trans ha
  have hdone : Hid (∀ {c : World} {E : Int}, Cu c g b (k4 : Int) E → w.grownBy c (some g) → Cu ((c.setCell ⟨w.heap.size, 0, none⟩ (.int .i64 x)).setCell ⟨w.heap.size, 1, none⟩ (.string P)) g b (k4 : Int) E ∧ w.grownBy ((c.setCell ⟨w.heap.size, 0, none⟩ (.int .i64 x)).setCell ⟨w.heap.size, 1, none⟩ (.string P)) (some g)) :=
    fun hc hg => ⟨(At3.setOther (At3.setOther hc ⟨w.heap.size, 0, none⟩ (fun e => hne (by rw [← e])) _) ⟨w.heap.size, 1, none⟩ (fun e => hne (by rw [← e])) _), gnew (gnew hg _ (Nat.le_refl _) _) _ (Nat.le_refl _) _⟩
  clear C1 C2 C3 C4 hP hk1 hk2 hk3 h hk hs hs'
  have HQ : Hid ((S.size = 4 → lnum S.data.toList = crc P.data.toList → crcE S P e4 = e4) ∧ (S.size = 4 → lnum S.data.toList ≠ crc P.data.toList → crcE S P e4 = fl e4 5) ∧ (S.size ≠ 4 → crcE S P e4 = fl e4 5)) :=
    ⟨fun h1 h2 => if_pos ⟨h1, h2⟩, fun _ h2 => if_neg (fun h => h2 h.2), fun h1 => if_neg (fun h => h1 h.1)⟩
  generalize crcE S P e4 = E5 at *
  by_cases hx : x = 0
  · subst hx
    have hE := HE.out.1 rfl
    clear HE
    go_enter Try.func34, Try.ntmps34
    go_wp2_with fail
    refine (H1.out _ h0).mono ?_
    rintro r w1 ⟨rfl, h1, g1⟩
    have m1 := gtrans g0 g1
    have n1 := hB.out n0 g1
    clear h0 g0 n0 g1
    go_wp2_with fail
    refine (fail_fl _ g b _ e1 4 h1).mono ?_
    rintro r w2 ⟨rfl, h2, g2⟩
    have m2 := gtrans m1 g2
    have n2 := hB.out n1 g2
    rw [← hE] at h2
    clear h1 m1 n1 g2
    go_wp2_with fail
    refine (H2.out _ h2).mono ?_
    rintro r w3 ⟨rfl, h3, g3⟩
    have m3 := gtrans m2 g3
    have n3 := hB.out n2 g3
    clear h2 m2 n2 g3
    go_wp2_with fail
    refine (H3.out _ h3).mono ?_
    rintro r w4 ⟨rfl, h4, g4⟩
    have m4 := gtrans m3 g4
    have n4 := hB.out n3 g4
    clear h3 m3 n3 g4
    go_wp2_with fail
    refine (H4.out _ h4).mono ?_
    rintro r w5 ⟨rfl, h5, g5⟩
    have m5 := gtrans m4 g5
    have n5 := hB.out n4 g5
    clear h4 m4 n4 g5
    go_wp2_with fail
    by_cases hS : S.size = 4
    · refine (get4_some S _ hS).mono ?_
      rintro r w6 ⟨rfl, b6⟩
      have h6 := h5.belowAll b6
      have m6 := gtrans m5 (gbelow b6)
      have n6 := hB.out n5 (gbelow b6)
      clear h5 m5 n5 b6
      generalize lnum S.data.toList = A at *
      generalize crc P.data.toList = C at *
      by_cases hq : A = C
      · subst hq
        have hQ := HQ.out.1 hS rfl
        go_wp2_with fail
        refine (H5.out _).mono ?_
        rintro r w7 ⟨rfl, b7⟩
        have h7 := h6.belowAll b7
        have m7 := gtrans m6 (gbelow b7)
        have n7 := hB.out n6 (gbelow b7)
        clear h6 m6 n6 b7
        have c0 : w7.cell? ⟨w.heap.size, 0, none⟩ = some (.int .i64 0) := by rw [Lib.cell_of_heap n7]; rfl
        have c1 : w7.cell? ⟨w.heap.size, 1, none⟩ = some (.string ⟨#[]⟩) := by rw [Lib.cell_of_heap n7]; rfl
        have f0 : w7.frozen? ⟨w.heap.size, 0, none⟩ = false := Lib.frozen_of_heap n7 0
        have f1 : w7.frozen? ⟨w.heap.size, 1, none⟩ = false := Lib.frozen_of_heap n7 1
        go_wp2_with fail
        have hd := hdone.out h7 m7
        refine bodyPost_ret (v := .agg #[.int .i64 0, .string P]) (by simp [results, Try.results34, go_sem, *]) rfl ⟨rfl, hQ.symm ▸ hd.1, hd.2⟩
      · have hQ := HQ.out.2.1 hS hq
        have hq' : ((A : Int) != (C : Int)) = true := by simpa using (by omega : ¬ (A : Int) = C)
        clear hq
        go_wp2_with fail
        refine (H5.out _).mono ?_
        rintro r w7 ⟨rfl, b7⟩
        have h7 := h6.belowAll b7
        have m7 := gtrans m6 (gbelow b7)
        have n7 := hB.out n6 (gbelow b7)
        clear h6 m6 n6 b7
        go_wp2_with fail
        refine (fail_fl _ g b _ e4 5 h7).mono ?_
        rintro r w8 ⟨rfl, h8, g8⟩
        have m8 := gtrans m7 g8
        have n8 := hB.out n7 g8
        clear h7 m7 n7 g8
        have c0 : w8.cell? ⟨w.heap.size, 0, none⟩ = some (.int .i64 0) := by rw [Lib.cell_of_heap n8]; rfl
        have c1 : w8.cell? ⟨w.heap.size, 1, none⟩ = some (.string ⟨#[]⟩) := by rw [Lib.cell_of_heap n8]; rfl
        have f0 : w8.frozen? ⟨w.heap.size, 0, none⟩ = false := Lib.frozen_of_heap n8 0
        have f1 : w8.frozen? ⟨w.heap.size, 1, none⟩ = false := Lib.frozen_of_heap n8 1
        go_wp2_with fail
        have hd := hdone.out h8 m8
        refine bodyPost_ret (v := .agg #[.int .i64 0, .string P]) (by simp [results, Try.results34, go_sem, *]) rfl ⟨rfl, hQ.symm ▸ hd.1, hd.2⟩
    · have hQ := HQ.out.2.2 hS
      refine (get4_none S _ hS).mono ?_
      rintro r w6 ⟨rfl, b6⟩
      have h6 := h5.belowAll b6
      have m6 := gtrans m5 (gbelow b6)
      have n6 := hB.out n5 (gbelow b6)
      clear h5 m5 n5 b6
      go_wp2_with fail
      refine (fail_fl _ g b _ e4 5 h6).mono ?_
      rintro r w8 ⟨rfl, h8, g8⟩
      have m8 := gtrans m6 g8
      have n8 := hB.out n6 g8
      clear h6 m6 n6 g8
      have c0 : w8.cell? ⟨w.heap.size, 0, none⟩ = some (.int .i64 0) := by rw [Lib.cell_of_heap n8]; rfl
      have c1 : w8.cell? ⟨w.heap.size, 1, none⟩ = some (.string ⟨#[]⟩) := by rw [Lib.cell_of_heap n8]; rfl
      have f0 : w8.frozen? ⟨w.heap.size, 0, none⟩ = false := Lib.frozen_of_heap n8 0
      have f1 : w8.frozen? ⟨w.heap.size, 1, none⟩ = false := Lib.frozen_of_heap n8 1
      go_wp2_with fail
      have hd := hdone.out h8 m8
      refine bodyPost_ret (v := .agg #[.int .i64 0, .string P]) (by simp [results, Try.results34, go_sem, *]) rfl ⟨rfl, hQ.symm ▸ hd.1, hd.2⟩
  · have hE := HE.out.2 hx
    clear HE
    go_enter Try.func34, Try.ntmps34
    go_wp2_with fail
    refine (H1.out _ h0).mono ?_
    rintro r w2 ⟨rfl, h2, g2⟩
    have m2 := gtrans g0 g2
    have n2 := hB.out n0 g2
    rw [← hE] at h2
    clear h0 g0 n0 g2
    go_wp2_with fail
    refine (H2.out _ h2).mono ?_
    rintro r w3 ⟨rfl, h3, g3⟩
    have m3 := gtrans m2 g3
    have n3 := hB.out n2 g3
    clear h2 m2 n2 g3
    go_wp2_with fail
    refine (H3.out _ h3).mono ?_
    rintro r w4 ⟨rfl, h4, g4⟩
    have m4 := gtrans m3 g4
    have n4 := hB.out n3 g4
    clear h3 m3 n3 g4
    go_wp2_with fail
    refine (H4.out _ h4).mono ?_
    rintro r w5 ⟨rfl, h5, g5⟩
    have m5 := gtrans m4 g5
    have n5 := hB.out n4 g5
    clear h4 m4 n4 g5
    go_wp2_with fail
    by_cases hS : S.size = 4
    · refine (get4_some S _ hS).mono ?_
      rintro r w6 ⟨rfl, b6⟩
      have h6 := h5.belowAll b6
      have m6 := gtrans m5 (gbelow b6)
      have n6 := hB.out n5 (gbelow b6)
      clear h5 m5 n5 b6
      generalize lnum S.data.toList = A at *
      generalize crc P.data.toList = C at *
      by_cases hq : A = C
      · subst hq
        have hQ := HQ.out.1 hS rfl
        go_wp2_with fail
        refine (H5.out _).mono ?_
        rintro r w7 ⟨rfl, b7⟩
        have h7 := h6.belowAll b7
        have m7 := gtrans m6 (gbelow b7)
        have n7 := hB.out n6 (gbelow b7)
        clear h6 m6 n6 b7
        have c0 : w7.cell? ⟨w.heap.size, 0, none⟩ = some (.int .i64 0) := by rw [Lib.cell_of_heap n7]; rfl
        have c1 : w7.cell? ⟨w.heap.size, 1, none⟩ = some (.string ⟨#[]⟩) := by rw [Lib.cell_of_heap n7]; rfl
        have f0 : w7.frozen? ⟨w.heap.size, 0, none⟩ = false := Lib.frozen_of_heap n7 0
        have f1 : w7.frozen? ⟨w.heap.size, 1, none⟩ = false := Lib.frozen_of_heap n7 1
        go_wp2_with fail
        have hd := hdone.out h7 m7
        refine bodyPost_ret (v := .agg #[.int .i64 x, .string P]) (by simp [results, Try.results34, go_sem, *]) rfl ⟨rfl, hQ.symm ▸ hd.1, hd.2⟩
      · have hQ := HQ.out.2.1 hS hq
        have hq' : ((A : Int) != (C : Int)) = true := by simpa using (by omega : ¬ (A : Int) = C)
        clear hq
        go_wp2_with fail
        refine (H5.out _).mono ?_
        rintro r w7 ⟨rfl, b7⟩
        have h7 := h6.belowAll b7
        have m7 := gtrans m6 (gbelow b7)
        have n7 := hB.out n6 (gbelow b7)
        clear h6 m6 n6 b7
        go_wp2_with fail
        refine (fail_fl _ g b _ e4 5 h7).mono ?_
        rintro r w8 ⟨rfl, h8, g8⟩
        have m8 := gtrans m7 g8
        have n8 := hB.out n7 g8
        clear h7 m7 n7 g8
        have c0 : w8.cell? ⟨w.heap.size, 0, none⟩ = some (.int .i64 0) := by rw [Lib.cell_of_heap n8]; rfl
        have c1 : w8.cell? ⟨w.heap.size, 1, none⟩ = some (.string ⟨#[]⟩) := by rw [Lib.cell_of_heap n8]; rfl
        have f0 : w8.frozen? ⟨w.heap.size, 0, none⟩ = false := Lib.frozen_of_heap n8 0
        have f1 : w8.frozen? ⟨w.heap.size, 1, none⟩ = false := Lib.frozen_of_heap n8 1
        go_wp2_with fail
        have hd := hdone.out h8 m8
        refine bodyPost_ret (v := .agg #[.int .i64 x, .string P]) (by simp [results, Try.results34, go_sem, *]) rfl ⟨rfl, hQ.symm ▸ hd.1, hd.2⟩
    · have hQ := HQ.out.2.2 hS
      refine (get4_none S _ hS).mono ?_
      rintro r w6 ⟨rfl, b6⟩
      have h6 := h5.belowAll b6
      have m6 := gtrans m5 (gbelow b6)
      have n6 := hB.out n5 (gbelow b6)
      clear h5 m5 n5 b6
      go_wp2_with fail
      refine (fail_fl _ g b _ e4 5 h6).mono ?_
      rintro r w8 ⟨rfl, h8, g8⟩
      have m8 := gtrans m6 g8
      have n8 := hB.out n6 g8
      clear h6 m6 n6 g8
      have c0 : w8.cell? ⟨w.heap.size, 0, none⟩ = some (.int .i64 0) := by rw [Lib.cell_of_heap n8]; rfl
      have c1 : w8.cell? ⟨w.heap.size, 1, none⟩ = some (.string ⟨#[]⟩) := by rw [Lib.cell_of_heap n8]; rfl
      have f0 : w8.frozen? ⟨w.heap.size, 0, none⟩ = false := Lib.frozen_of_heap n8 0
      have f1 : w8.frozen? ⟨w.heap.size, 1, none⟩ = false := Lib.frozen_of_heap n8 1
      go_wp2_with fail
      have hd := hdone.out h8 m8
      refine bodyPost_ret (v := .agg #[.int .i64 x, .string P]) (by simp [results, Try.results34, go_sem, *]) rfl ⟨rfl, hQ.symm ▸ hd.1, hd.2⟩

end Go.Proofs.Ytipljconbnaffaa
