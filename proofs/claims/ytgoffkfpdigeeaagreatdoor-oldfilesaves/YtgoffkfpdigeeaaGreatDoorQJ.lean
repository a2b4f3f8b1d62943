/- Parts of a text, one behind the other. -/
import Derived.Lib.Strings
import Derived.Test.YtgoffkfpdigeeaaGreatDoorVB
namespace Go.Proofs.YtgoffkfpdigeeaaGreatDoor

theorem ba_ext {a b : ByteArray} (h : a.data.toList = b.data.toList) : a = b := ByteArray.ext (Array.toList_inj.1 h)

theorem ext_zero (b : ByteArray) : b.extract 0 0 = ⟨#[]⟩ := by
  apply ba_ext
  rw [Lib.extract_data]
  simp
theorem ext_all (b : ByteArray) : b.extract 0 b.size = b := by
  apply ba_ext
  rw [Lib.extract_data, List.drop_zero, Nat.sub_zero, List.take_of_length_le (by rw [list_size]; exact Nat.le_refl _)]
theorem ext_join (b : ByteArray) (k m : Nat) : b.extract 0 k ++ b.extract k (k + m) = b.extract 0 (k + m) := by
  apply ba_ext
  rw [ByteArray.data_append, Array.toList_append, Lib.extract_data, Lib.extract_data, Lib.extract_data]
  simp only [List.drop_zero, Nat.sub_zero]
  rw [show k + m - k = m by omega, ← List.take_add]
theorem ext_snoc (b : ByteArray) (k : Nat) (h : k < b.size) : b.extract 0 k ++ ⟨[b[k]].toArray⟩ = b.extract 0 (k + 1) := by
  rw [← ext_join b k 1]
  congr 1
  apply ba_ext
  rw [Lib.extract_data, show k + 1 - k = 1 by omega, drop_atB b k h]
  rfl
theorem ext_size (b : ByteArray) (k : Nat) (h : k ≤ b.size) : (b.extract 0 k).size = k := by rw [ByteArray.size_extract]; omega

end Go.Proofs.YtgoffkfpdigeeaaGreatDoor
/- What a cursor reads of numbers and texts that were put one behind the other: plain mathematics. -/
namespace Go.Proofs.YtgoffkfpdigeeaaGreatDoor

theorem data_two (a b : ByteArray) : (a ++ b).data.toList = a.data.toList ++ b.data.toList := by rw [ByteArray.data_append, Array.toList_append]

theorem num_at (front S back : ByteArray) (n : Nat) (hn : n < 18446744073709551616) (hS : S.data.toList = put n) : num (front ++ S ++ back) front.size = (n, S.size, 0) := by
  unfold num
  rw [data_two, data_two, hS, List.append_assoc, ← list_size front, List.drop_left, dec_put n hn, ← list_size S, hS]

theorem num_front (S back : ByteArray) (n : Nat) (hn : n < 18446744073709551616) (hS : S.data.toList = put n) : num (S ++ back) 0 = (n, S.size, 0) := by
  unfold num
  rw [data_two, hS, List.drop_zero, dec_put n hn, ← list_size S, hS]

theorem append_assoc3 (a b c : ByteArray) : a ++ b ++ c = a ++ (b ++ c) := by
  apply ByteArray.ext
  apply Array.toList_inj.1
  rw [data_two, data_two, data_two, data_two, List.append_assoc]

/-- Three numbers, the last one a text's length, and the text. -/
theorem three_parts (s1 s2 s3 s : ByteArray) (n z : Nat) (hz : z < 18446744073709551616) (hn : n ≤ 16777216) (hs : s.size ≤ 500) (h1 : s1.data.toList = put n) (h2 : s2.data.toList = put z) (h3 : s3.data.toList = put s.size) :
    pUint (s1 ++ s2 ++ s3 ++ s) 0 0 n = ((n : Int), s1.size, 0) ∧ pInt (s1 ++ s2 ++ s3 ++ s) s1.size 0 = (zag z, s1.size + s2.size, 0) ∧
    pText (s1 ++ s2 ++ s3 ++ s) (s1.size + s2.size) 0 s.size = (s, s1.size + s2.size + s3.size + s.size, 0) := by
  have e1 : num (s1 ++ s2 ++ s3 ++ s) 0 = (n, s1.size, 0) := by
    rw [append_assoc3, append_assoc3]; exact num_front s1 _ n (by omega) h1
  have e2 : num (s1 ++ s2 ++ s3 ++ s) s1.size = (z, s2.size, 0) := by
    rw [append_assoc3 (s1 ++ s2)]; exact num_at s1 s2 _ z hz h2
  have e3 : num (s1 ++ s2 ++ s3 ++ s) (s1.size + s2.size) = (s.size, s3.size, 0) := by
    rw [← ByteArray.size_append]; exact num_at (s1 ++ s2) s3 s s.size (by omega) h3
  refine ⟨?_, ?_, ?_⟩
  · unfold pUint
    rw [e1, if_neg (by simp), if_neg (by simp), if_neg (by dsimp only; omega)]
    simp
  · unfold pInt
    rw [e2, if_neg (by simp), if_neg (by simp)]
  · unfold pText
    rw [e3, if_neg (by simp), if_neg (by simp), if_neg (by dsimp only; omega), if_neg (by dsimp only; rw [ByteArray.size_append, ByteArray.size_append, ByteArray.size_append]; omega)]
    have : (s1 ++ s2 ++ s3 ++ s).extract (s1.size + s2.size + s3.size) (s1.size + s2.size + s3.size + s.size) = s := by
      have hz3 : (s1 ++ s2 ++ s3).size = s1.size + s2.size + s3.size := by rw [ByteArray.size_append, ByteArray.size_append]
      rw [← hz3, ByteArray.extract_append_eq_right rfl rfl]
    rw [this]

end Go.Proofs.YtgoffkfpdigeeaaGreatDoor
