/- A scene that is being made, while a cursor is read; limits that may be. -/
import Derived.Test.YtgoffkfpdigeeaaGreatDoorRA
import Derived.Test.YtgoffkfpdigeeaaGreatDoorLLim
import Derived.Test.YtgoffkfpdigeeaaGreatDoorGI
namespace Go.Proofs.YtgoffkfpdigeeaaGreatDoor
open Go.RowKit Go.Maps Go.WideMaps Go.Sort

/-- A cursor is read: the scene that is being made stands. -/
theorem Mkg.cur {w w' : World} {B go gc : Nat} {r : Int} {v : Value} {Y : List Nx} {x y z : Value} (h : Mkg w B go r v Y) (hg : w.grownBy w' (some gc)) (hc : At3 72 w gc x y z) : Mkg w' B go r v Y := by
  have hc' : AtN 72 w gc #[x, y, z] := hc
  have hF : Fr (fun b => b = gc) w w' := Fr.of_grown hg (fun k e => by cases e; rfl)
  have hal : Alien w (fun b => b = gc) := fun b hb _ => ⟨_, _, _, hb ▸ hc, by decide, by decide, by decide⟩
  refine ⟨h.sc.fr hF (fun e => ?_), own_fr h.row hF (fun b hb e => own_ne_at h.row hc' (by decide) b hb e), fun j hj => (h.each j hj).fr hF hal⟩
  subst e
  have h1 : w.heap[go]? = _ := h.sc
  have h2 : w.heap[go]? = _ := hc
  rw [h1] at h2
  cases h2

theorem okL_in {l : Lm} (h : okL l = true) : (0 ≤ l.b ∧ l.b ≤ 16777216) ∧ (0 ≤ l.n ∧ l.n ≤ 16777216) ∧ (0 ≤ l.e ∧ l.e ≤ 16777216) ∧ (0 ≤ l.d ∧ l.d ≤ 16777216) ∧ (0 ≤ l.x ∧ l.x ≤ 16777216) := by
  have key : ∀ i, i < 5 → 0 ≤ (lmL l).getD i 0 ∧ (lmL l).getD i 0 ≤ 16777216 := fun i hi => by
    by_cases q : (lmL l).getD i 0 < 0 ∨ 16777216 < (lmL l).getD i 0
    · have := okL_no l i hi q
      rw [h] at this; cases this
    · omega
  exact ⟨key 0 (by omega), key 1 (by omega), key 2 (by omega), key 3 (by omega), key 4 (by omega)⟩

/-- A limits' list. -/
def liC (l : Lm) : Array Value := #[.int .i64 l.b, .int .i64 l.n, .int .i64 l.e, .int .i64 l.d, .int .i64 l.x]
theorem OwnNd.frAt {S : Nat → Prop} {W W' : World} {B : Nat} {N : Nd} {a1 a2 a3 : Option Addr} {c1 c2 c3 : Nat} (h : OwnNd W B N (.slice a1 N.ints.length c1) (.slice a2 N.texts.length c2) (.slice a3 N.kids.length c3)) (k : Fr S W W') (hs : ∀ i, S i → i < B) : NdAt W' N a1 a2 a3 := by
  have key : ∀ {e n v xs}, W.ownsRow B e 1 v n xs → W'.ownsRow B e 1 v n xs := fun {e n v xs} ho => own_fr ho k (fun r hr q => by have := (ho.lt r hr).1; have := hs r q; omega)
  exact OwnNd.ndAt ⟨key h.i, key h.t, key h.k⟩
theorem Mkg.low {w w' : World} {B go c : Nat} {r : Int} {a : Option Addr} {Y : List Nx} {S : Nat → Prop} (h : Mkg w B go r (.slice a Y.length c) Y) (k : Fr S w w') (hs : ∀ i, S i → i < B) : ScAt w' a Y :=
  ⟨LsAt.of_own4' (own_fr h.row k (fun r hr q => by have := (h.row.lt r hr).1; have := hs r q; omega)), fun i hi => OwnNd.frAt (h.each i hi) k hs⟩
end Go.Proofs.YtgoffkfpdigeeaaGreatDoor
