/- The contract of ref's Is. -/
import Derived.Test.YthfemhpbamcpjaaDoorGB
import Derived.Test.YthfemhpbamcpjaaDoorCC
namespace Go.Proofs.YthfemhpbamcpjaaDoor
open Go.RowKit Go.Maps Go.WideMaps Go.Sort

end Go.Proofs.YthfemhpbamcpjaaDoor
