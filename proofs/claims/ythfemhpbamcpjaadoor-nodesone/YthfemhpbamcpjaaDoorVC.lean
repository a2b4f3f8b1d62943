/- The contracts of the document's own cursor: Bytes, Uint, Int, Text, Fail. -/
import Derived.Test.YthfemhpbamcpjaaDoorVB
import Derived.Deep.RegionHeld3
namespace Go.Proofs.YthfemhpbamcpjaaDoor
open Go.RowKit

end Go.Proofs.YthfemhpbamcpjaaDoor
/- The contract of the document's own Text: it reads with a cursor of its own first. -/
namespace Go.Proofs.YthfemhpbamcpjaaDoor
open Go.RowKit

theorem pText_two (b : ByteArray) (k : Nat) (m : Int) : pText b k 0 m =
    if (pBytes b (pUint b k 0 (max m 0)).2.1 (pUint b k 0 (max m 0)).2.2 (pUint b k 0 (max m 0)).1).2.2 ≠ 0 then (⟨#[]⟩, k, (pBytes b (pUint b k 0 (max m 0)).2.1 (pUint b k 0 (max m 0)).2.2 (pUint b k 0 (max m 0)).1).2.2)
    else ((pBytes b (pUint b k 0 (max m 0)).2.1 (pUint b k 0 (max m 0)).2.2 (pUint b k 0 (max m 0)).1).1, (pBytes b (pUint b k 0 (max m 0)).2.1 (pUint b k 0 (max m 0)).2.2 (pUint b k 0 (max m 0)).1).2.1, 0) := by
  unfold pText
  rw [if_neg (by simp)]
  by_cases hd : (num b k).2.2 = 0
  · rw [if_neg (by simpa using hd)]
    by_cases hl : max m 0 < (num b k).1 ∨ 16777216 < (num b k).1
    · have hp : pUint b k 0 (max m 0) = (0, k, 19) := by unfold pUint; rw [if_neg (by simp), if_neg (by simpa using hd), if_pos hl]
      rw [if_pos hl, hp]
      rfl
    · have hp : pUint b k 0 (max m 0) = (((num b k).1 : Int), k + (num b k).2.1, 0) := by unfold pUint; rw [if_neg (by simp), if_neg (by simpa using hd), if_neg hl]
      rw [if_neg hl, hp]
      dsimp only
      by_cases hc : (b.size : Int) - (k + (num b k).2.1 : Nat) < (num b k).1
      · have hq : pBytes b (k + (num b k).2.1) 0 (num b k).1 = (⟨#[]⟩, k + (num b k).2.1, 2) := by unfold pBytes; rw [if_neg (by simp), if_neg (by omega), if_pos hc]
        rw [if_pos hc, hq]
        rfl
      · have hq : pBytes b (k + (num b k).2.1) 0 (num b k).1 = (b.extract (k + (num b k).2.1) (k + (num b k).2.1 + (num b k).1), k + (num b k).2.1 + (num b k).1, 0) := by unfold pBytes; rw [if_neg (by simp), if_neg (by omega), if_neg hc]; rfl
        rw [if_neg hc, hq]
        rfl
  · have hp : pUint b k 0 (max m 0) = (0, k, ((num b k).2.2 : Int)) := by unfold pUint; rw [if_neg (by simp), if_pos hd]
    rw [if_pos hd, hp]
    dsimp only
    have hq : pBytes b k ((num b k).2.2 : Int) 0 = (⟨#[]⟩, k, ((num b k).2.2 : Int)) := by unfold pBytes; rw [if_pos (by omega)]
    rw [hq, if_pos (by dsimp only; omega)]

end Go.Proofs.YthfemhpbamcpjaaDoor
