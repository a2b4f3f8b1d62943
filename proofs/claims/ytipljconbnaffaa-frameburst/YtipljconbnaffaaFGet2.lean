/- The contract of frame.Get: of any bytes the version and the sections, or the error, that the plain mathematics says. -/
import Derived.Test.YtipljconbnaffaaFGet
import Derived.Deep.AppendLies
namespace Go.Proofs.Ytipljconbnaffaa
open Go.RowKit

theorem drop_take_extract (b : ByteArray) (i n : Nat) : (b.extract i (i + n)).data.toList = (b.data.toList.drop i).take n := by
  rw [Lib.extract_data, show i + n - i = n by omega]

theorem fl_keep {e : Int} (h : e ≠ 0) (d : Int) : fl e d = e := if_neg h
theorem pUint_no (b : ByteArray) (k : Nat) (e m : Int) (h : e ≠ 0) : pUint b k e m = (0, k, e) := by unfold pUint; rw [if_pos h]
theorem pBytes_no (b : ByteArray) (k : Nat) (e n : Int) (h : e ≠ 0) : pBytes b k e n = (⟨#[]⟩, k, e) := by unfold pBytes; rw [if_pos h]
theorem crcE_no (P : ByteArray) (e : Int) (h : e ≠ 0) : crcE ⟨#[]⟩ P e = e := by
  unfold crcE
  rw [if_neg (by rintro ⟨h1, _⟩; exact absurd h1 (by decide)), fl_keep h]

/-- With an error behind the length nothing more is read. -/
theorem sec_stop (b : ByteArray) (k : Nat) (n e : Int) (h : e ≠ 0) : crcE (pBytes b (pBytes b k e n).2.1 (pBytes b k e n).2.2 4).1 (pBytes b k e n).1 (pBytes b (pBytes b k e n).2.1 (pBytes b k e n).2.2 4).2.2 = e ∧ (pBytes b (pBytes b k e n).2.1 (pBytes b k e n).2.2 4).2.1 = k := by
  rw [pBytes_no b k e n h]
  dsimp only
  rw [pBytes_no b k e 4 h]
  exact ⟨crcE_no _ e h, rfl⟩

theorem lnum_crc (S : ByteArray) (n : Nat) (hS : S.size = 4) (hn : n < 4294967296) : lnum S.data.toList = n ↔ S.data.toList = four n := by
  constructor
  · intro h; rw [← h, four_of_num S hS]
  · intro h; rw [h, num_of_four n hn]

/-- One section, by the cursor and by the mathematics. -/
theorem psec_is (b : ByteArray) (k : Nat) (hk : k < b.size) :
    ((sec1 (b.data.toList.drop k)).1 = 0 → pSec b k = ((sec1 (b.data.toList.drop k)).2.1, k + (sec1 (b.data.toList.drop k)).2.2, 0) ∧ k + (sec1 (b.data.toList.drop k)).2.2 ≤ b.size) ∧
    ((sec1 (b.data.toList.drop k)).1 ≠ 0 → (pSec b k).2.2 = ((sec1 (b.data.toList.drop k)).1 : Int) ∧ (pSec b k).2.1 ≤ b.size) := by
  have hb1 : pByte b k 0 = ((b[k].toNat : Int), k + 1, 0) := by unfold pByte; rw [if_neg (by simp), dif_pos hk]
  rw [drop_at b k hk, sec1_cons]
  have hnum : dec 0 0 (b.data.toList.drop (k + 1)) = num b (k + 1) := rfl
  have hlen : (b.data.toList.drop (k + 1)).length = b.size - (k + 1) := by rw [List.length_drop, list_size]
  rw [hnum]
  have hok := fun h => num_ok b (k + 1) h (by omega)
  have hu : pUint b (k + 1) 0 16777216 = if (num b (k + 1)).2.2 ≠ 0 then (0, k + 1, ((num b (k + 1)).2.2 : Int)) else if (16777216 : Int) < (num b (k + 1)).1 ∨ 16777216 < (num b (k + 1)).1 then (0, k + 1, 19) else (((num b (k + 1)).1 : Int), k + 1 + (num b (k + 1)).2.1, 0) := by unfold pUint; rw [if_neg (by simp)]
  unfold pSec
  rw [hb1]
  dsimp only
  generalize num b (k + 1) = d at *
  obtain ⟨n, m, e⟩ := d
  dsimp only at *
  unfold sec0
  dsimp only
  by_cases h1 : b[k].toNat = 0
  · rw [if_pos h1, if_pos (by omega : (b[k].toNat : Int) = 0), fl_ok, pUint_no b _ 4 _ (by decide)]
    dsimp only
    obtain ⟨s1, s2⟩ := sec_stop b (k + 1) 0 4 (by decide)
    exact ⟨fun h => absurd h (by decide), fun _ => ⟨s1, by rw [s2]; omega⟩⟩
  rw [if_neg h1, if_neg (by omega : ¬ (b[k].toNat : Int) = 0)]
  by_cases h2 : e ≠ 0
  · rw [if_pos h2] at hu
    rw [if_pos h2, hu]
    dsimp only
    obtain ⟨s1, s2⟩ := sec_stop b (k + 1) 0 (e : Int) (by omega)
    exact ⟨fun h => absurd h h2, fun _ => ⟨s1, by rw [s2]; omega⟩⟩
  rw [if_neg h2] at hu ⊢
  by_cases h3 : 16777216 < n
  · rw [if_pos (.inr h3)] at hu
    rw [if_pos h3, hu]
    dsimp only
    obtain ⟨s1, s2⟩ := sec_stop b (k + 1) 0 19 (by decide)
    exact ⟨fun h => absurd h (by decide), fun _ => ⟨s1, by rw [s2]; omega⟩⟩
  rw [if_neg (by omega)] at hu
  rw [if_neg h3, hu]
  dsimp only
  obtain ⟨_, o2, o3⟩ := hok (by simpa using h2)
  rw [hlen]
  by_cases h4 : (b.size : Int) - (k + 1 + m : Nat) < n
  · have hp : pBytes b (k + 1 + m) 0 (n : Int) = (⟨#[]⟩, k + 1 + m, 2) := by unfold pBytes; rw [if_neg (by simp), if_neg (by omega), if_pos h4]
    rw [if_pos (by omega), hp]
    dsimp only
    rw [pBytes_no b _ 2 4 (by decide)]
    dsimp only
    exact ⟨fun h => absurd h (by decide), fun _ => ⟨crcE_no _ 2 (by decide), by omega⟩⟩
  have hp : pBytes b (k + 1 + m) 0 (n : Int) = (b.extract (k + 1 + m) (k + 1 + m + n), k + 1 + m + n, 0) := by unfold pBytes; rw [if_neg (by simp), if_neg (by omega), if_neg h4, Int.toNat_natCast]
  rw [hp]
  dsimp only
  by_cases h5 : (b.size : Int) - (k + 1 + m + n : Nat) < 4
  · have hq : pBytes b (k + 1 + m + n) 0 4 = (⟨#[]⟩, k + 1 + m + n, 2) := by unfold pBytes; rw [if_neg (by simp), if_neg (by omega), if_pos h5]
    rw [if_pos (by omega), hq]
    dsimp only
    exact ⟨fun h => absurd h (by decide), fun _ => ⟨crcE_no _ 2 (by decide), by omega⟩⟩
  have hq : pBytes b (k + 1 + m + n) 0 4 = (b.extract (k + 1 + m + n) (k + 1 + m + n + 4), k + 1 + m + n + 4, 0) := by unfold pBytes; rw [if_neg (by simp), if_neg (by omega), if_neg h5]; rfl
  rw [if_neg (by omega), hq]
  dsimp only
  have hS : (b.extract (k + 1 + m + n) (k + 1 + m + n + 4)).size = 4 := by rw [ByteArray.size_extract]; omega
  have dS : (b.extract (k + 1 + m + n) (k + 1 + m + n + 4)).data.toList = ((b.data.toList.drop (k + 1)).drop (m + n)).take 4 := by rw [drop_take_extract, List.drop_drop, ← Nat.add_assoc]
  have dP : (b.extract (k + 1 + m) (k + 1 + m + n)).data.toList = ((b.data.toList.drop (k + 1)).drop m).take n := by rw [drop_take_extract, List.drop_drop]
  have hc := lnum_crc (b.extract (k + 1 + m + n) (k + 1 + m + n + 4)) (crc (b.extract (k + 1 + m) (k + 1 + m + n)).data.toList) hS (crc_lt _)
  rw [dS, dP] at hc
  have eP : b.extract (k + 1 + m) (k + 1 + m + n) = ⟨(((b.data.toList.drop (k + 1)).drop m).take n).toArray⟩ := ba_ext dP
  by_cases h6 : ((b.data.toList.drop (k + 1)).drop (m + n)).take 4 ≠ four (crc (((b.data.toList.drop (k + 1)).drop m).take n))
  · rw [if_pos h6]
    dsimp only
    refine ⟨fun h => absurd h (by decide), fun _ => ⟨?_, by omega⟩⟩
    unfold crcE
    rw [dS, dP, if_neg (fun h => h6 (hc.1 h.2))]
    rfl
  · rw [if_neg h6]
    dsimp only
    refine ⟨fun _ => ⟨?_, by omega⟩, fun h => absurd rfl h⟩
    have hE : crcE (b.extract (k + 1 + m + n) (k + 1 + m + n + 4)) (b.extract (k + 1 + m) (k + 1 + m + n)) 0 = 0 := by
      unfold crcE
      rw [dS, dP, if_pos ⟨hS, hc.2 (Decidable.not_not.1 h6)⟩]
    rw [hE, eP]
    simp only [Prod.mk.injEq, true_and, and_true]
    omega

end Go.Proofs.Ytipljconbnaffaa
