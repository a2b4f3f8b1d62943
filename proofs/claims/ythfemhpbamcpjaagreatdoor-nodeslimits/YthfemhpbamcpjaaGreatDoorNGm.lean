/- What bytes of texts and nodes are, within limits: as plain mathematics. -/
import Derived.Test.YthfemhpbamcpjaaGreatDoorRB
import Derived.Test.YthfemhpbamcpjaaGreatDoorTC
import Derived.Test.YthfemhpbamcpjaaGreatDoorLM
import Derived.Test.YthfemhpbamcpjaaGreatDoorCIs
namespace Go.Proofs.YthfemhpbamcpjaaGreatDoor
open Go.RowKit
theorem can_same {X Y : List Nx} (h : Y.map Nx.nd = X.map Nx.nd) {r : Int} : IsCan Y r ↔ IsCan X r := by
  unfold IsCan
  rw [same_right h, same_len h, same_oX h]
theorem allT_same {X Y : List Nx} (h : Y.map Nx.nd = X.map Nx.nd) : allT Y = allT X := by
  have key : ∀ Z : List Nx, allT Z = (Z.map Nx.nd).flatMap Nd.texts := fun Z => by
    unfold allT
    rw [List.flatMap_map]
  rw [key, key, h]
def bare (P : List Nd) : List Nx := P.map fun N => ⟨N, none, 0, none, 0, none, 0⟩
theorem bare_nd (P : List Nd) : (bare P).map Nx.nd = P := by
  unfold bare
  rw [List.map_map]
  exact List.map_id' P
def GeS (X : List Nx) (r : Int) (L : List ByteArray) (l : Lm) (e : Int) : Prop :=
  ∃ n y d, CheckIs X r n y ∧ DepthIs X r d ∧ ((n ≠ 0 ∧ e = n) ∨ (n = 0 ∧ ((l.d < d ∧ e = 19) ∨ (¬ l.d < d ∧ ((¬ IsCan X r ∧ e = 16) ∨ (IsCan X r ∧ ((itn (allT X) ≠ L ∧ e = 18) ∨ (itn (allT X) = L ∧ e = 0))))))))
theorem GeS.same {X Y : List Nx} (h : Y.map Nx.nd = X.map Nx.nd) {r : Int} {L : List ByteArray} {l : Lm} {e : Int} (hg : GeS Y r L l e) : GeS X r L l e := by
  obtain ⟨n, y, d, h1, h2, h3⟩ := hg
  rw [can_same h, allT_same h] at h3
  exact ⟨n, y, d, same_check h h1, same_depth h h2, h3⟩
theorem GeS.uniq {X : List Nx} {r : Int} {L : List ByteArray} {l : Lm} {e e' : Int} (h : GeS X r L l e) (h' : GeS X r L l e') : e' = e := by
  obtain ⟨n, y, d, h1, h2, h3⟩ := h
  obtain ⟨n', y', d', g1, g2, g3⟩ := h'
  have hn : n' = n := (h1.uniq g1).1
  have hd : d' = d := h2.only g2
  subst hn hd
  rcases h3 with ⟨a, rfl⟩ | ⟨a, ⟨b, rfl⟩ | ⟨b, ⟨c, rfl⟩ | ⟨c, ⟨f, rfl⟩ | ⟨f, rfl⟩⟩⟩⟩
  all_goals
    rcases g3 with ⟨a', rfl⟩ | ⟨a', ⟨b', rfl⟩ | ⟨b', ⟨c', rfl⟩ | ⟨c', ⟨f', rfl⟩ | ⟨f', rfl⟩⟩⟩⟩
  all_goals
    first | rfl | exact absurd a' a | exact absurd a a' | exact absurd b b' | exact absurd b' b | exact absurd c c' | exact absurd c' c | exact absurd f f' | exact absurd f' f
def geK (tx nb : ByteArray) (l : Lm) : Int × List Nd × List ByteArray :=
  if okL l = false then (1, [], []) else
  if (pGet6 tx 16777216 l.x).1 ≠ 0 then ((pGet6 tx 16777216 l.x).1, [], []) else
  if (pUint nb 0 0 l.n).2.2 ≠ 0 then ((pUint nb 0 0 l.n).2.2, [], []) else
  if (pUint nb 0 0 l.n).1 = 0 then (13, [], []) else
  if (gNs nb (pGet6 tx 16777216 l.x).2 (pUint nb 0 0 l.n).1.toNat 0 (pUint nb 0 0 l.n).2.1 l.e).2.2 ≠ 0 then ((gNs nb (pGet6 tx 16777216 l.x).2 (pUint nb 0 0 l.n).1.toNat 0 (pUint nb 0 0 l.n).2.1 l.e).2.2, [], []) else
  if (gNs nb (pGet6 tx 16777216 l.x).2 (pUint nb 0 0 l.n).1.toNat 0 (pUint nb 0 0 l.n).2.1 l.e).2.1 < nb.size then (8, [], []) else
  (0, (gNs nb (pGet6 tx 16777216 l.x).2 (pUint nb 0 0 l.n).1.toNat 0 (pUint nb 0 0 l.n).2.1 l.e).1, (pGet6 tx 16777216 l.x).2)
def GeIs (tx nb : ByteArray) (l : Lm) (P : List Nd) (r e : Int) : Prop :=
  ((geK tx nb l).1 ≠ 0 ∧ e = (geK tx nb l).1 ∧ P = [] ∧ r = 0) ∨
    ((geK tx nb l).1 = 0 ∧ ∃ k, GeS (bare (geK tx nb l).2.1) (((geK tx nb l).2.1.length : Int) - 1) (geK tx nb l).2.2 l k ∧ ((k ≠ 0 ∧ e = k ∧ P = [] ∧ r = 0) ∨ (k = 0 ∧ e = 0 ∧ P = (geK tx nb l).2.1 ∧ r = ((geK tx nb l).2.1.length : Int) - 1)))
theorem GeIs.uniq {tx nb : ByteArray} {l : Lm} {P P' : List Nd} {r r' e e' : Int} (h : GeIs tx nb l P r e) (h' : GeIs tx nb l P' r' e') : P' = P ∧ r' = r ∧ e' = e := by
  rcases h with ⟨a, rfl, rfl, rfl⟩ | ⟨a, k, hk, h2⟩
  · rcases h' with ⟨_, rfl, rfl, rfl⟩ | ⟨a', _⟩
    · exact ⟨rfl, rfl, rfl⟩
    · exact absurd a' a
  · rcases h' with ⟨a', _⟩ | ⟨_, k', hk', h2'⟩
    · exact absurd a a'
    · have hkk := hk.uniq hk'
      subst hkk
      rcases h2 with ⟨b, rfl, rfl, rfl⟩ | ⟨b, rfl, rfl, rfl⟩
      · rcases h2' with ⟨_, rfl, rfl, rfl⟩ | ⟨b', _⟩
        · exact ⟨rfl, rfl, rfl⟩
        · exact absurd b' b
      · rcases h2' with ⟨b', _⟩ | ⟨_, rfl, rfl, rfl⟩
        · exact absurd b b'
        · exact ⟨rfl, rfl, rfl⟩
end Go.Proofs.YthfemhpbamcpjaaGreatDoor
