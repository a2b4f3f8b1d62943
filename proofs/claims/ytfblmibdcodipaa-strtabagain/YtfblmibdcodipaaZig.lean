/- The contracts of the signed numbers' functions: Zig and Zag, of the program and of the document's answer; for every argument of its type. -/
import Derived.Test.YtfblmibdcodipaaRows
import Derived.WalkKit
import Derived.WalkSpells
import Derived.WalkLawsBesides
namespace Go.Proofs.Ytfblmibdcodipaa
open Go.RowKit

def zig (n : Int) : Int := if n < 0 then -2 * n - 1 else 2 * n
def zag (m : Int) : Int := if m % 2 = 1 then -(m / 2) - 1 else m / 2

theorem zig_range (n : Int) (h0 : -9223372036854775808 ≤ n) (h1 : n ≤ 9223372036854775807) : 0 ≤ zig n ∧ zig n ≤ 18446744073709551615 := by
  unfold zig; split <;> omega
theorem zag_range (m : Int) (h0 : 0 ≤ m) (h1 : m ≤ 18446744073709551615) : -9223372036854775808 ≤ zag m ∧ zag m ≤ 9223372036854775807 := by
  unfold zag; split <;> omega
theorem zag_zig (n : Int) : zag (zig n) = n := by
  unfold zag zig; split <;> split <;> omega
theorem zig_zag (m : Int) (h0 : 0 ≤ m) : zig (zag m) = m := by
  unfold zag zig; split <;> split <;> omega

theorem not_i64 (n : Int) (h0 : -9223372036854775808 ≤ n) (h1 : n ≤ 9223372036854775807) : bits .xor .i64 (-1) n = -1 - n := by
  show IntKind.i64.wrap ((BitVec.ofInt 64 (-1) ^^^ BitVec.ofInt 64 n).toNat : Int) = _
  have hh : BitVec.ofInt 64 (-1) = BitVec.allOnes 64 := by decide
  rw [hh, BitVec.allOnes_xor, BitVec.toNat_not, BitVec.toNat_ofInt]
  simp [IntKind.wrap, IntKind.bits, IntKind.signed]
  omega

theorem ret_num {k : IntKind} {a b : Int} (h : a = b) : Ending.returned (.int k a) = .returned (.int k b) := by rw [h]

end Go.Proofs.Ytfblmibdcodipaa
