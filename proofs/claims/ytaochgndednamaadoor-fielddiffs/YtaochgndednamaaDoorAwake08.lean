/- The contract of 'awake', which each of the five laws asks first. -/
import Derived.Test.YtaochgndednamaaDoorFSet3
import Derived.Test.YtaochgndednamaaDoorFDiff3
import Derived.Test.YtaochgndednamaaDoorFChk3
import Derived.Test.YtaochgndednamaaDoorFGr
import Derived.Deep.RegionHeld3
namespace Go.Proofs.YtaochgndednamaaDoor
open Go.RowKit

/-- The two tables that the laws' calls read. -/
structure Tabs8 (w : World) : Prop where
  k : TabAt w 0 kindsC
  s : TabAt w 1 spansC
theorem Tabs8.below {w w' : World} (h : Tabs8 w) (hb : Below w.heap.size w w') : Tabs8 w' := ⟨h.k.below hb, h.s.below hb⟩
theorem bjoin {B : Nat} {a b c : World} (h : Below B a b) (h2 : Below b.heap.size b c) (hs : B ≤ b.heap.size) : Below B a c := h.trans (h2.mono hs)
theorem balloc {B : Nat} {a b : World} (h : Below B a b) (hs : B ≤ b.heap.size) (o : Obj) : Below B a (b.alloc o) := h.alloc hs o

theorem LsAt.new (w : World) (cs : Array Value) (T : TypeId) : LsAt (w.alloc (.cells cs T)) (some ⟨w.heap.size, 0, none⟩) cs.toList := by
  refine ⟨w.heap.size, 0, fun _ => rfl, fun i hi => ⟨by simp, ?_⟩⟩
  rw [Nat.zero_add, cell_of_row _ w.heap.size i _ _ (0, 0) (heap_alloc_new w _)]
  simp

def woodT : ByteArray := ⟨#[119, 111, 111, 100]⟩
def nA : Nd := ⟨4, [5], [woodT], []⟩
def nB : Nd := ⟨4, [6], [woodT], []⟩
def oneS : List St := [⟨false, 0, 6, noT⟩]
def badS : List St := [⟨false, 1, 0, noT⟩]

theorem diff_c (a1 a2 a3 b1 b2 b3 : Option Addr) (c1 c2 c3 d1 d2 d3 : Nat) (w : World) (hA : NdAt w nA a1 a2 a3) (hB : NdAt w nB b1 b2 b3) :
    Calls Tryd.prog 16 #[.agg #[.int .i64 4, .slice a1 1 c1, .slice a2 1 c2, .slice a3 0 c3], .agg #[.int .i64 4, .slice b1 1 d1, .slice b2 1 d2, .slice b3 0 d3]] w fun e w' =>
      ∃ a c, e = .returned (.tuple #[.slice a 1 c, .bool true]) ∧ LsAt w' a (stV oneS) ∧ Below w.heap.size w w' := by
  have h := diff_any nA nB a1 a2 a3 b1 b2 b3 c1 c2 c3 d1 d2 d3 w hA hB (by decide) (by decide)
  rw [show cmp nA nB = true by decide +kernel, show dL nA nB = oneS by rfl] at h
  refine Calls.mono h ?_
  rintro e w' ⟨a, c, rfl, ho, hb⟩
  exact ⟨a, c, rfl, LsAt.of_own4 ho, hb⟩
theorem set_c1 (a1 a2 a3 b : Option Addr) (c1 c2 c3 d : Nat) (w : World) (hA : NdAt w nA a1 a2 a3) (hL : LsAt w b (stV oneS)) :
    Calls Tryd.prog 13 #[.agg #[.int .i64 4, .slice a1 1 c1, .slice a2 1 c2, .slice a3 0 c3], .slice b 1 d] w fun e w' =>
      ∃ a1 c1 a2 c2 a3 c3, e = .returned (.tuple #[.agg #[.int .i64 4, .slice a1 1 c1, .slice a2 1 c2, .slice a3 0 c3], .int .i64 0]) ∧ NdAt w' nB a1 a2 a3 ∧ Below w.heap.size w w' := by
  have h := set_any nA oneS a1 a2 a3 b c1 c2 c3 d w hA hL (by decide) (by decide) (by decide) (by decide)
  rw [show setR nA oneS = (nB, 0) by rfl] at h
  refine Calls.mono h ?_
  rintro e w' ⟨a1, c1, a2, c2, a3, c3, rfl, ho, hb⟩
  exact ⟨a1, c1, a2, c2, a3, c3, rfl, ho.ndAt, hb⟩
theorem set_c2 (a1 a2 a3 b : Option Addr) (c1 c2 c3 d : Nat) (w : World) (hA : NdAt w nA a1 a2 a3) (hL : LsAt w b (stV badS)) :
    Calls Tryd.prog 13 #[.agg #[.int .i64 4, .slice a1 1 c1, .slice a2 1 c2, .slice a3 0 c3], .slice b 1 d] w fun e w' =>
      ∃ a1 c1 a2 c2 a3 c3, e = .returned (.tuple #[.agg #[.int .i64 0, .slice a1 0 c1, .slice a2 0 c2, .slice a3 0 c3], .int .i64 21]) ∧ Below w.heap.size w w' := by
  have h := set_any nA badS a1 a2 a3 b c1 c2 c3 d w hA hL (by decide) (by decide) (by decide) (by decide)
  rw [show setR nA badS = (zeroN, 21) by rfl] at h
  refine Calls.mono h ?_
  rintro e w' ⟨a1, c1, a2, c2, a3, c3, rfl, ho, hb⟩
  exact ⟨a1, c1, a2, c2, a3, c3, rfl, hb⟩
theorem check_c1 (a1 a2 a3 b : Option Addr) (c1 c2 c3 d : Nat) (w : World) (hA : NdAt w nA a1 a2 a3) (hC : LsAt w b (iV [3])) (hT : TabAt w 1 spansC) :
    Calls Tryd.prog 10 #[.agg #[.int .i64 4, .slice a1 1 c1, .slice a2 1 c2, .slice a3 0 c3], .agg #[.slice b 1 d, .int .i64 1, .int .i64 0, .int .i64 0]] w fun e w' => e = .returned (.int .i64 0) ∧ Below w.heap.size w w' := by
  have h := check_any nA [3] 1 0 0 a1 a2 a3 b c1 c2 c3 d w hA hC hT (fun i hi => by have : i = 0 := by simp [nA] at hi; omega
                                                                                    subst this; decide) (by decide) (by decide) (by decide)
  rw [show chk nA [3] 1 0 0 = 0 by decide +kernel] at h
  exact h
theorem check_c2 (b : Option Addr) (d : Nat) (w : World) (hC : LsAt w b (iV [3])) (hT : TabAt w 1 spansC) :
    Calls Tryd.prog 10 #[.agg #[.int .i64 0, .slice none 0 0, .slice none 0 0, .slice none 0 0], .agg #[.slice b 1 d, .int .i64 1, .int .i64 0, .int .i64 0]] w fun e w' => e = .returned (.int .i64 10) ∧ Below w.heap.size w w' := by
  have h := check_any zeroN [3] 1 0 0 none none none b 0 0 0 d w ⟨LsAt.nil _ _, LsAt.nil _ _, LsAt.nil _ _⟩ hC hT (fun i hi => by simp [zeroN] at hi) (by decide) (by decide) (by decide)
  rw [show chk zeroN [3] 1 0 0 = 10 by decide +kernel] at h
  exact h
theorem same_cB (a1 a2 a3 b1 b2 b3 : Option Addr) (c1 c2 c3 d1 d2 d3 : Nat) (w : World) (hA : NdAt w nB a1 a2 a3) (hB : NdAt w nB b1 b2 b3) :
    Calls Tryd.prog 15 #[.agg #[.int .i64 4, .slice a1 1 c1, .slice a2 1 c2, .slice a3 0 c3], .agg #[.int .i64 4, .slice b1 1 d1, .slice b2 1 d2, .slice b3 0 d3]] w fun e w' => e = .returned (.bool true) ∧ Below w.heap.size w w' :=
  same8_yes nB a1 a2 a3 b1 b2 b3 c1 c2 c3 d1 d2 d3 w hA hB (by decide) (by decide) (by decide)
theorem same_cA (a1 a2 a3 b1 b2 b3 : Option Addr) (c1 c2 c3 d1 d2 d3 : Nat) (w : World) (hA : NdAt w nA a1 a2 a3) (hB : NdAt w nA b1 b2 b3) :
    Calls Tryd.prog 15 #[.agg #[.int .i64 4, .slice a1 1 c1, .slice a2 1 c2, .slice a3 0 c3], .agg #[.int .i64 4, .slice b1 1 d1, .slice b2 1 d2, .slice b3 0 d3]] w fun e w' => e = .returned (.bool true) ∧ Below w.heap.size w w' :=
  same8_yes nA a1 a2 a3 b1 b2 b3 c1 c2 c3 d1 d2 d3 w hA hB (by decide) (by decide) (by decide)
theorem copy_c (a1 a2 a3 : Option Addr) (c1 c2 c3 : Nat) (w : World) (hA : NdAt w nA a1 a2 a3) :
    Calls Tryd.prog 20 #[.agg #[.int .i64 4, .slice a1 1 c1, .slice a2 1 c2, .slice a3 0 c3]] w fun e w' => ∃ a1 c1 a2 c2 a3 c3, e = .returned (.agg #[.int .i64 4, .slice a1 1 c1, .slice a2 1 c2, .slice a3 0 c3]) ∧ NdAt w' nA a1 a2 a3 ∧ Below w.heap.size w w' := by
  refine Calls.mono (copy_any nA a1 a2 a3 c1 c2 c3 w hA (by decide) (by decide) (by decide)) ?_
  rintro e w' ⟨a1, c1, a2, c2, a3, c3, rfl, ho, hb⟩
  exact ⟨a1, c1, a2, c2, a3, c3, rfl, ho.ndAt, hb⟩
theorem new_c4 (w : World) (hT : TabAt w 0 kindsC) : Calls Tryd.prog 21 #[.int .i64 4] w fun e w' => ∃ a c, e = .returned (.tuple #[.agg #[.slice a 1 c, .int .i64 1, .int .i64 0, .int .i64 0], .bool true]) ∧ LsAt w' a (iV [3]) ∧ Below w.heap.size w w' := by
  have h := new_any 4 w hT
  rw [show newSp 4 = ⟨true, [3], 1, 0, 0⟩ by rfl] at h
  refine Calls.mono h ?_
  rintro e w' ⟨v, rfl, hI, hB⟩
  obtain ⟨a, c, rfl⟩ := own_shape7 hI
  exact ⟨a, c, rfl, LsAt.of_own hI, hB⟩

theorem eq_set6 (W : World) : (binOp .eql 51 (.agg #[.bool false, .int .i64 0, .int .i64 6, .string ⟨#[]⟩]) (.agg #[.bool false, .int .i64 0, .int .i64 6, .string ⟨#[]⟩])).run Tryd.prog W = .ok (.bool true) W := by kernel_rfl

end Go.Proofs.YtaochgndednamaaDoor
