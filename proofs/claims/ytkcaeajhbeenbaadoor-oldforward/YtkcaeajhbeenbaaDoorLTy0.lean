/- What is wrong with a node, by its kind; the two tables that say so. -/
import Derived.Test.YtkcaeajhbeenbaaDoorLFch
namespace Go.Proofs.YtkcaeajhbeenbaaDoor
open Go.RowKit

/-- What is wrong with a node, by its kind. -/
def tyN (N : Nd) : Int := if (newSp N.kind).ok = false then 9 else chkN N (newSp N.kind).ints (newSp N.kind).texts (newSp N.kind).least (newSp N.kind).most

end Go.Proofs.YtkcaeajhbeenbaaDoor
