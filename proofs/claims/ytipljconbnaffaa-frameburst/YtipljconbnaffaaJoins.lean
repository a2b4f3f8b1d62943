/- Parts of a text, one behind the other. -/
import Derived.Test.YtipljconbnaffaaParts2
import Derived.Lib.Strings
namespace Go.Proofs.Ytipljconbnaffaa

theorem ba_ext {a b : ByteArray} (h : a.data.toList = b.data.toList) : a = b := ByteArray.ext (Array.toList_inj.1 h)

theorem ext_zero (b : ByteArray) : b.extract 0 0 = ⟨#[]⟩ := by
  apply ba_ext
  rw [Lib.extract_data]
  simp
theorem ext_all (b : ByteArray) : b.extract 0 b.size = b := by
  apply ba_ext
  rw [Lib.extract_data, List.drop_zero, Nat.sub_zero, List.take_of_length_le (by rw [list_size]; exact Nat.le_refl _)]
theorem ext_join (b : ByteArray) (k m : Nat) : b.extract 0 k ++ b.extract k (k + m) = b.extract 0 (k + m) := by
  apply ba_ext
  rw [data_two, Lib.extract_data, Lib.extract_data, Lib.extract_data]
  simp only [List.drop_zero, Nat.sub_zero]
  rw [show k + m - k = m by omega, ← List.take_add]
theorem ext_snoc (b : ByteArray) (k : Nat) (h : k < b.size) : b.extract 0 k ++ ⟨[b[k]].toArray⟩ = b.extract 0 (k + 1) := by
  rw [← ext_join b k 1]
  congr 1
  apply ba_ext
  rw [Lib.extract_data, show k + 1 - k = 1 by omega, drop_at b k h]
  rfl
theorem ext_size (b : ByteArray) (k : Nat) (h : k ≤ b.size) : (b.extract 0 k).size = k := by rw [ByteArray.size_extract]; omega

end Go.Proofs.Ytipljconbnaffaa
