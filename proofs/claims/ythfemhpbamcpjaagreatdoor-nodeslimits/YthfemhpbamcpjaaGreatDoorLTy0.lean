/- What is wrong with a node, by its kind; the two tables that say so. -/
import Derived.Test.YthfemhpbamcpjaaGreatDoorLFch
namespace Go.Proofs.YthfemhpbamcpjaaGreatDoor
open Go.RowKit
structure Tabs12 (w : World) : Prop where
  k : TabAt w 0 kindsC
  s : TabAt w 1 spansC
theorem Tabs12.on {w w' : World} (h : Tabs12 w) (hb : Below w.heap.size w w') : Tabs12 w' := ⟨h.k.below hb, h.s.below hb⟩
def tyN (N : Nd) : Int := if (newSp N.kind).ok = false then 9 else chkN N (newSp N.kind).ints (newSp N.kind).texts (newSp N.kind).least (newSp N.kind).most
end Go.Proofs.YthfemhpbamcpjaaGreatDoor
