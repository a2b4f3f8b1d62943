/- The contract of the library's sort of numbers, on a list of the call's own. -/
import Derived.Test.YtlfibkfjklggeaaGSort
import Derived.Test.YtlfibkfjklggeaaGLoose
import Derived.Sort.OwnSortedInts
namespace Go.Proofs.Ytlfibkfjklggeaa
open Go.RowKit Go.Maps Go.WideMaps Go.Sort

/-- Sorted, with the same numbers. -/
def SortIs (l s : List Nat) : Prop := s.Perm l ∧ s.Pairwise (· ≤ ·)
theorem sort_nat (l : List Nat) : ∃ s : List Nat, SortIs l s ∧ nV s = ((l.map fun (k : Nat) => (k : Int)).mergeSort fun x y => decide (x ≤ y)).map (Value.int .i64) := by
  have hp := List.mergeSort_perm (l.map fun (k : Nat) => (k : Int)) (fun x y => decide (x ≤ y))
  have hs := List.pairwise_mergeSort (le := fun (x y : Int) => decide (x ≤ y)) (fun a b c => by simp only [decide_eq_true_eq]; omega) (fun a b => by simp only [Bool.or_eq_true, decide_eq_true_eq]; omega) (l.map fun (k : Nat) => (k : Int))
  generalize ((l.map fun (k : Nat) => (k : Int)).mergeSort fun x y => decide (x ≤ y)) = t at hp hs
  have hnn : ∀ x ∈ t, 0 ≤ x := fun x hx => by
    obtain ⟨k, _, rfl⟩ := List.mem_map.1 (hp.mem_iff.1 hx)
    omega
  refine ⟨t.map Int.toNat, ⟨?_, ?_⟩, ?_⟩
  · have := hp.map Int.toNat
    rw [List.map_map] at this
    rwa [show (Int.toNat ∘ fun (k : Nat) => (k : Int)) = id by funext k; simp, List.map_id] at this
  · rw [List.pairwise_map]
    refine hs.imp (fun {a b} h => ?_)
    simp only [decide_eq_true_eq] at h
    exact Int.toNat_le_toNat h
  · unfold nV
    rw [List.map_map]
    refine List.map_congr_left fun x hx => ?_
    simp only [Function.comp]
    rw [Int.toNat_of_nonneg (hnn x hx)]

def SortOut (l : List Nat) (B g c : Nat) (w w' : World) (e : Ending) : Prop := e = .returned (.tuple #[]) ∧ ∃ s, SortIs l s ∧ s.length = l.length ∧ w'.ownsRow B 3 1 (.slice (some ⟨g, 0, none⟩) s.length c) s.length (nV s) ∧ w.grownBy w' (some g)

theorem sort_any (l : List Nat) (B g c : Nat) (w : World) (h : w.ownsRow B 3 1 (.slice (some ⟨g, 0, none⟩) l.length c) l.length (nV l)) (hl : l.length ≤ 1000) :
    Calls Try.prog 32 #[.slice (some ⟨g, 0, none⟩) l.length c] w fun e w' => SortOut l B g c w w' e := by
  rcases h.2 with ⟨h0, _⟩ | ⟨g', cap, cur, hv, hbase, hb, h1, h2, h3, h4⟩
  · cases h0
  · cases hv
    have hH : Holds (Value.int .i64) w g 0 (l.map fun (k : Nat) => (k : Int)).toArray := holds_of_blockI hb (by
      rw [List.length_map, ← Nat.mul_one l.length, h4]
      simp [nV])
    have hc := Any.slices_Sort_int Try.lays189 g 0 c (l.map fun (k : Nat) => (k : Int)) w hH (Array.getElem?_eq_some_iff.1 hb).1 (by rw [List.length_map]; omega)
    rw [List.length_map] at hc
    refine Calls.mono hc ?_
    rintro e w' ⟨rfl, n, os, rfl⟩
    obtain ⟨s, hs, hsv⟩ := sort_nat l
    have hsl : s.length = l.length := hs.1.length_eq
    refine ⟨rfl, s, hs, hsl, ?_, grownBy_sortedI _⟩
    rw [hsv, hsl]
    have := ownsRow_sortedI (n := n) (os := os) (ss := l.map fun (k : Nat) => (k : Int)) (ts := (l.map fun (k : Nat) => (k : Int)).mergeSort fun x y => decide (x ≤ y)) (List.length_mergeSort _) hbase hb (by rw [List.length_map]; exact h1) h2 h3
    rwa [List.length_map] at this

end Go.Proofs.Ytlfibkfjklggeaa
