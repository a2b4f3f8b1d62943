/- What a cursor reads of numbers and texts that were put one behind the other: plain mathematics. -/
import Derived.Test.YtipljconbnaffaaSpec2
namespace Go.Proofs.Ytipljconbnaffaa

theorem data_two (a b : ByteArray) : (a ++ b).data.toList = a.data.toList ++ b.data.toList := by rw [ByteArray.data_append, Array.toList_append]

theorem num_at (front S back : ByteArray) (n : Nat) (hn : n < 18446744073709551616) (hS : S.data.toList = put n) : num (front ++ S ++ back) front.size = (n, S.size, 0) := by
  unfold num
  rw [data_two, data_two, hS, List.append_assoc, ← list_size front, List.drop_left, dec_put n hn, ← list_size S, hS]

theorem num_front (S back : ByteArray) (n : Nat) (hn : n < 18446744073709551616) (hS : S.data.toList = put n) : num (S ++ back) 0 = (n, S.size, 0) := by
  unfold num
  rw [data_two, hS, List.drop_zero, dec_put n hn, ← list_size S, hS]

theorem append_assoc3 (a b c : ByteArray) : a ++ b ++ c = a ++ (b ++ c) := by
  apply ByteArray.ext
  apply Array.toList_inj.1
  rw [data_two, data_two, data_two, data_two, List.append_assoc]

/-- Three numbers, the last one a text's length, and the text. -/
theorem three_parts (s1 s2 s3 s : ByteArray) (n z : Nat) (hz : z < 18446744073709551616) (hn : n ≤ 16777216) (hs : s.size ≤ 500) (h1 : s1.data.toList = put n) (h2 : s2.data.toList = put z) (h3 : s3.data.toList = put s.size) :
    pUint (s1 ++ s2 ++ s3 ++ s) 0 0 n = ((n : Int), s1.size, 0) ∧ pInt (s1 ++ s2 ++ s3 ++ s) s1.size 0 = (zag z, s1.size + s2.size, 0) ∧
    pText (s1 ++ s2 ++ s3 ++ s) (s1.size + s2.size) 0 s.size = (s, s1.size + s2.size + s3.size + s.size, 0) := by
  have e1 : num (s1 ++ s2 ++ s3 ++ s) 0 = (n, s1.size, 0) := by
    rw [append_assoc3, append_assoc3]; exact num_front s1 _ n (by omega) h1
  have e2 : num (s1 ++ s2 ++ s3 ++ s) s1.size = (z, s2.size, 0) := by
    rw [append_assoc3 (s1 ++ s2)]; exact num_at s1 s2 _ z hz h2
  have e3 : num (s1 ++ s2 ++ s3 ++ s) (s1.size + s2.size) = (s.size, s3.size, 0) := by
    rw [← ByteArray.size_append]; exact num_at (s1 ++ s2) s3 s s.size (by omega) h3
  refine ⟨?_, ?_, ?_⟩
  · unfold pUint
    rw [e1, if_neg (by simp), if_neg (by simp), if_neg (by dsimp only; omega)]
    simp
  · unfold pInt
    rw [e2, if_neg (by simp), if_neg (by simp)]
  · unfold pText
    rw [e3, if_neg (by simp), if_neg (by simp), if_neg (by dsimp only; omega), if_neg (by dsimp only; rw [ByteArray.size_append, ByteArray.size_append, ByteArray.size_append]; omega)]
    have : (s1 ++ s2 ++ s3 ++ s).extract (s1.size + s2.size + s3.size) (s1.size + s2.size + s3.size + s.size) = s := by
      have hz3 : (s1 ++ s2 ++ s3).size = s1.size + s2.size + s3.size := by rw [ByteArray.size_append, ByteArray.size_append]
      rw [← hz3, ByteArray.extract_append_eq_right rfl rfl]
    rw [this]

end Go.Proofs.Ytipljconbnaffaa
