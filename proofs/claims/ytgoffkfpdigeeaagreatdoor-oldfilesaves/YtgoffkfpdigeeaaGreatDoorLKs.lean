/- Texts as keys of maps. -/
import Derived.Test.YtgoffkfpdigeeaaGreatDoorLTx
import Derived.Maps.OwnSet
import Derived.Maps.OwnOps
import Derived.Maps.Views
import Derived.StringKeys
namespace Go.Proofs.YtgoffkfpdigeeaaGreatDoor
open Go.RowKit Go.Maps Go.WideMaps

def kS (s : ByteArray) : Lit := .string s.data.toList
theorem lawS6 : Keyed Tryz.prog 9 := string_keyed Tryz.underlying9
theorem kS_key (s : ByteArray) (h : s.size ≤ maxLen) : keyOf Tryz.prog 9 (.string s) = some (kS s) := keyOf_string_mk Tryz.underlying9 h
theorem kS_ne {s t : ByteArray} (h : s ≠ t) : kS s ≠ kS t := by
  intro e
  unfold kS at e
  injection e with e
  apply h
  cases s; cases t
  simp at e
  rw [e]
theorem kS_is (s : ByteArray) : WideAt.IsKeyLit (kS s) := trivial

end Go.Proofs.YtgoffkfpdigeeaaGreatDoor
