/- What is wrong with a node, by its kind; the two tables that say so. -/
import Derived.Test.YtgoffkfpdigeeaaGreatDoorLFch
namespace Go.Proofs.YtgoffkfpdigeeaaGreatDoor
open Go.RowKit

/-- The two tables that the calls read. -/
structure Tabs12 (w : World) : Prop where
  k : TabAt w 2 kindsC
  s : TabAt w 1 spansC
theorem Tabs12.on {w w' : World} (h : Tabs12 w) (hb : Below w.heap.size w w') : Tabs12 w' := ⟨h.k.below hb, h.s.below hb⟩

/-- What is wrong with a node, by its kind. -/
def tyN (N : Nd) : Int := if (newSp N.kind).ok = false then 9 else chkN N (newSp N.kind).ints (newSp N.kind).texts (newSp N.kind).least (newSp N.kind).most

end Go.Proofs.YtgoffkfpdigeeaaGreatDoor
