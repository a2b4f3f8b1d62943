/- The contract of the program's Depth. -/
import Derived.Test.YtcdpjaaiojpelaaDoorGDep
import Derived.RegionTactic
import Derived.ChangeAlike
import Derived.BigRegion
namespace Go.Proofs.YtcdpjaaiojpelaaDoor
open Go.RowKit Go.Maps Go.WideMaps Go.Sort

/-- Is nothing wrong? -/
def RightIs (X : List Nx) (r : Int) : Prop := isPb X.length r = true ∧ (∀ i, i < X.length → okAt X i) ∧ (∀ x, ¬ Lead (Ed (kX X)) x x) ∧ ∀ x, x < X.length → Rt (Ed (kX X)) r.toNat x
theorem CheckIs.right {X : List Nx} {r e z : Int} (h : CheckIs X r e z) : e = 0 ↔ RightIs X r := by
  rcases h with ⟨h1, rfl, _⟩ | ⟨h1, i, hi, rfl, _, hno, _⟩ | ⟨h1, h2, ⟨i, rfl, _, hf⟩ | ⟨h3, ⟨i, rfl, _, hi, hn, _⟩ | ⟨rfl, _, h4⟩⟩⟩
  · exact ⟨fun q => by omega, fun q => by rw [q.1] at h1; cases h1⟩
  · exact ⟨fun q => by omega, fun q => absurd (q.2.1 i hi) hno⟩
  · exact ⟨fun q => by omega, fun q => absurd hf.1 (q.2.2.1 i)⟩
  · exact ⟨fun q => by omega, fun q => absurd (q.2.2.2 i hi) hn⟩
  · exact ⟨fun _ => ⟨h1, h2, h3, h4⟩, fun _ => rfl⟩
def DepthIs (X : List Nx) (r : Int) (d : Nat) : Prop := (¬ RightIs X r → d = 0) ∧ (RightIs X r → ∃ h, HtIs (kX X) h ∧ d = h r.toNat ∧ ∀ x, x < X.length → 1 ≤ h x ∧ h x ≤ X.length)
def DepthOut (X : List Nx) (r : Int) (w w' : World) (e : Ending) : Prop := ∃ d : Nat, e = .returned (.int .i64 (d : Int)) ∧ DepthIs X r d ∧ Below w.heap.size w w'

theorem upd_upd (f : Nat → Nat) (a v v' : Nat) : upd (upd f a v) a v' = upd f a v' := by
  funext x
  unfold upd
  split <;> rfl
theorem upd_self (f : Nat → Nat) (a v : Nat) (h : f a = v) : upd f a v = f := by
  funext x
  unfold upd
  split
  · rename_i e; rw [e, h]
  · rfl

theorem hts_part (K : List (List Nat)) (order : List Nat) (hn : order.Nodup) (i x : Nat) : hts K (order.take i) x ≤ hts K order x := by
  by_cases hx : x ∈ order.take i
  · have h1 := hn
    rw [← List.take_append_drop i order, List.nodup_append] at h1
    have : x ∉ order.drop i := fun q => h1.2.2 x hx x q rfl
    have h2 := hts_app K (order.take i) (order.drop i) x this
    rw [List.take_append_drop] at h2
    omega
  · rw [hts_zero K _ x hx]
    exact Nat.zero_le _
theorem fold1_take (f : Nat → Nat) (l : List Nat) (j : Nat) (hj : j < l.length) : fold1 f (l.take (j + 1)) = max (fold1 f (l.take j)) (f (l.getD j 0)) := by
  rw [take_at hj, fold1_snoc]
theorem hts_take (K : List (List Nat)) (order : List Nat) (i : Nat) (hi : i < order.length) : hts K (order.take (i + 1)) = upd (hts K (order.take i)) (order.getD i 0) (fold1 (hts K (order.take i)) (K.getD (order.getD i 0) []) + 1) := by
  rw [take_at hi, hts_snoc]

end Go.Proofs.YtcdpjaaiojpelaaDoor
