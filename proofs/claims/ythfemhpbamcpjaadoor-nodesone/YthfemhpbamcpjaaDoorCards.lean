/-
  DERIVED. GIVEN WITH THE SEED: THE CARDS: each row of YthfemhpbamcpjaaDoorRows.lean that lists a variable, with what it lists TIED to the program's text (the seventh form; the later family's looks); each row that meets fmt, with fmt's text TOLD by the authors' own Lean function (tested against real Go, not proved from fmt's source: count such statements apart). THE CARD IS WHAT COUNTS. Prove the row's statement (the work); the ties are given (YthfemhpbamcpjaaDoorTie.lean); close each card by the builder's one call (the guide's Derived/Test/ToyasCard.lean, 'card_holds'). Laid BY PROGRAM, IN A SANDBOX (cutbox-door.mjs). By AI agents, Wed Nov 11 2026. No macro, syntax, notation, axiom, sorry.
-/
import Derived.Test.YthfemhpbamcpjaaDoorRows
import GoSem.ClaimSeven
namespace Go.Proofs.YthfemhpbamcpjaaDoor
namespace Rows

/-- THE TIED CARD OF 'dioramalaw14.NodesOne'. -/
def nodesOneCard : Claim7 := { stood := { row := nodesOneRow, standIns := [], harness := (true, "c0a171c99a5e0088088d228adacfe1adda2db2296ed3fd7439e024ad28985f9f"), looks := true }, kinds := [], alts := [], laidByText := true, laidKinds := [.wider, .data], laidTests := true, laidLooks := .later }
def NodesOneCardSaid : Prop := Claim7.holds Tryd.pinned (.plain (OpenSpec.ofChange nodesOneSpec)) nodesOneCard

/-- THE SECOND FORM's CARD OF 'dioramalaw14.NodesOne'. -/
def nodesOneUptoCard : Claim7 := { stood := { row := nodesOneUptoRow, standIns := [], harness := (true, "c0a171c99a5e0088088d228adacfe1adda2db2296ed3fd7439e024ad28985f9f"), looks := true }, kinds := [], alts := [], laidByText := true, laidKinds := [.wider, .data], laidTests := true, laidLooks := .later }
def NodesOneUptoCardSaid : Prop := Claim7.holds Tryd.pinned (.plain (OpenSpec.upto nodesOneSpec)) nodesOneUptoCard
end Rows
end Go.Proofs.YthfemhpbamcpjaaDoor
