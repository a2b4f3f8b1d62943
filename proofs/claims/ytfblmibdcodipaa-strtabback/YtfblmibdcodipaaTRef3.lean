/- The contract of the document's own Right; and which table bytes are, in plain mathematics. -/
import Derived.Test.YtfblmibdcodipaaTRef2
import Derived.Test.YtfblmibdcodipaaURef3
namespace Go.Proofs.Ytfblmibdcodipaa
open Go.RowKit

def right5 (s : ByteArray) : Bool := decide ((read s.data.toList).2 = s.size)

set_option maxRecDepth 10000 in
set_option maxHeartbeats 400000 in
theorem right_any (s : ByteArray) (w : World) (hs : s.size ≤ 100000) :
    Calls Try.prog 23 #[.string s] w fun e w' => e = .returned (.bool (right5 s)) ∧ Below w.heap.size w w' := by
  have HR : Hid _ := read_any s w hs
  have hle := read_le s.data.toList
  rw [list_size] at hle
  obtain ⟨V, HV⟩ : ∃ V, Hid (right5 s = V ∧ V = decide ((read s.data.toList).2 = s.size)) := ⟨_, rfl, rfl⟩
  rw [HV.out.1]
  generalize read s.data.toList = R at *
  obtain ⟨L, A⟩ := R
  dsimp only at *
  by_cases h : A = s.size
  · have HQ : Hid (V = true) := HV.out.2.trans (decide_eq_true h)
    have h' : (A : Int) = s.size := by omega
    clear HV
    go_enter Try.func23, Try.ntmps23
    go_wp2_with fail
    refine Calls.mono HR.out ?_
    rintro e w1 ⟨a1, cap1, g1, rfl, _, _, b1⟩
    go_wp2_with fail
    go_ret
    rw [HQ.out]
    exact ⟨by simp, b1⟩
  · have HQ : Hid (V = false) := HV.out.2.trans (decide_eq_false h)
    have h' : ¬ (A : Int) = s.size := by omega
    clear HV
    go_enter Try.func23, Try.ntmps23
    go_wp2_with fail
    refine Calls.mono HR.out ?_
    rintro e w1 ⟨a1, cap1, g1, rfl, _, _, b1⟩
    go_wp2_with fail
    go_ret
    rw [HQ.out]
    exact ⟨by simp [h'], b1⟩

/-- Text by text: an error, the texts, and the place behind them. -/
def gets6 (b : ByteArray) (M : Int) : Nat → Nat → List ByteArray → Int × List ByteArray × Nat
  | 0, k, xs => (0, xs, k)
  | n + 1, k, xs =>
    if (pText b k 0 (M - (sum6 xs : Nat))).2.2 ≠ 0 then ((pText b k 0 (M - (sum6 xs : Nat))).2.2, [], 0)
    else if right5 (pText b k 0 (M - (sum6 xs : Nat))).1 = false then (11, [], 0)
    else if idx6 (pText b k 0 (M - (sum6 xs : Nat))).1 xs < xs.length then (17, [], 0)
    else gets6 b M n (pText b k 0 (M - (sum6 xs : Nat))).2.1 (xs ++ [(pText b k 0 (M - (sum6 xs : Nat))).1])

/-- The table that bytes are: an error, the texts. -/
def pGet6 (b : ByteArray) (texts bytes : Int) : Int × List ByteArray :=
  if (pUint b 0 0 (max texts 0)).2.2 ≠ 0 then ((pUint b 0 0 (max texts 0)).2.2, [])
  else if (gets6 b (max bytes 0) (pUint b 0 0 (max texts 0)).1.toNat (pUint b 0 0 (max texts 0)).2.1 []).1 ≠ 0 then ((gets6 b (max bytes 0) (pUint b 0 0 (max texts 0)).1.toNat (pUint b 0 0 (max texts 0)).2.1 []).1, [])
  else if (gets6 b (max bytes 0) (pUint b 0 0 (max texts 0)).1.toNat (pUint b 0 0 (max texts 0)).2.1 []).2.2 < b.size then (8, [])
  else (0, (gets6 b (max bytes 0) (pUint b 0 0 (max texts 0)).1.toNat (pUint b 0 0 (max texts 0)).2.1 []).2.1)

end Go.Proofs.Ytfblmibdcodipaa
