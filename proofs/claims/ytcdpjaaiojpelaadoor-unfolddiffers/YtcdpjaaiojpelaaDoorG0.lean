/- Lists of numbers in memory, and structs of the call's own: small facts. -/
import Derived.Test.YtcdpjaaiojpelaaDoorAtn
import Derived.Test.YtcdpjaaiojpelaaDoorRows
import Derived.Deep.AppendLies
import Derived.Deep.RegionLaw
import Derived.Laws.OwnMore
namespace Go.Proofs.YtcdpjaaiojpelaaDoor
open Go.RowKit

theorem Tryd.infoI7 : (Tryd.prog.info? 3).map (fun i => (i.zero, i.size, i.bytes)) = some (some (.int .i64 0), 1, 8) := by kernel_rfl

def iV (l : List Int) : List Value := l.map fun z => Value.int .i64 z

theorem iV_snoc (l : List Int) (z : Int) : iV (l ++ [z]) = iV l ++ [.int .i64 z] := by simp [iV]

theorem mk_at {T : TypeId} {w : World} {g g' : Nat} {cs : Array Value} (h : AtN T w g cs) (e : g = g') : AtN T w g' cs := e ▸ h

theorem own_shape7 {w : World} {B : Nat} {e : TypeId} {n : Nat} {v : Value} {xs : List Value} (h : w.ownsRow B e 1 v n xs) : ∃ a cap, v = .slice a n cap := by
  rcases h.2 with ⟨rfl, h2⟩ | ⟨g, cap, cur, rfl, _⟩
  · exact ⟨none, 0, by rw [h2]⟩
  · exact ⟨_, _, rfl⟩

def noT : ByteArray := ⟨#[]⟩

end Go.Proofs.YtcdpjaaiojpelaaDoor
