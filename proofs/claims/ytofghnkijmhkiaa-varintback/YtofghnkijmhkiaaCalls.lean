/- Get at what Put has put, and Get at the front: the contracts in the words of the laws. -/
import Derived.Test.YtofghnkijmhkiaaAwake
import Derived.Test.YtofghnkijmhkiaaBack
namespace Go.Proofs.Ytofghnkijmhkiaa
open Go.RowKit

theorem size_list (s : ByteArray) : s.data.toList.length = s.size := by rw [Array.length_toList]; rfl

theorem got_put (n : Nat) (hn : n < 18446744073709551616) (front back : List UInt8) : got (front ++ put n ++ back) (front.length : Nat) = ((n : Int), ((front.length : Nat) : Int) + ((put n).length : Int), 0) := by
  rw [got_in _ _ (by simp), List.append_assoc, List.drop_left, dec_put n hn, fin_ok]

/-- What Put has put, with any text ahead and behind, is got as it was. -/
theorem get_put (n : Int) (h0 : 0 ≤ n) (h1 : n ≤ 18446744073709551615) (a S : ByteArray) (hS : S.data.toList = put n.toNat) (ha : a.size ≤ 100) (w : World) :
    Calls Try.prog 13 #[.string (a ++ S ++ a), .int .i64 a.size] w fun e w' => e = .returned (.tuple #[.int .u64 n, .int .i64 ((a.size : Int) + (S.size : Int)), .int .i64 0]) ∧ w' = w := by
  have hl := put_length n.toNat
  have hz : S.size = (put n.toNat).length := by rw [← size_list, hS]
  have h := get_any (a ++ S ++ a) a.size w (by unfold maxLen; simp only [ByteArray.size_append]; omega)
  have e : (a ++ S ++ a).data.toList = a.data.toList ++ put n.toNat ++ a.data.toList := by
    rw [ByteArray.data_append, ByteArray.data_append, Array.toList_append, Array.toList_append, hS]
  have g := got_put n.toNat (by omega) a.data.toList a.data.toList
  rw [← e, size_list, Int.toNat_of_nonneg h0, ← hz] at g
  rw [g] at h
  exact h

end Go.Proofs.Ytofghnkijmhkiaa
