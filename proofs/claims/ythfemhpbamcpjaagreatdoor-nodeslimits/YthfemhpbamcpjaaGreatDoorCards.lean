/-
  DERIVED. GIVEN WITH THE SEED: THE CARDS: each row of YthfemhpbamcpjaaGreatDoorRows.lean that lists a variable, with what it lists TIED to the program's text (the seventh form; the later family's looks); each row that meets fmt, with fmt's text TOLD by the authors' own Lean function (tested against real Go, not proved from fmt's source: count such statements apart). THE CARD IS WHAT COUNTS. Prove the row's statement (the work); the ties are given (YthfemhpbamcpjaaGreatDoorTie.lean); close each card by the builder's one call (the guide's Derived/Test/ToyasCard.lean, 'card_holds'). Laid BY PROGRAM, IN A SANDBOX (cutbox-door.mjs). By AI agents, Wed Nov 11 2026. No macro, syntax, notation, axiom, sorry.
-/
import Derived.Test.YthfemhpbamcpjaaGreatDoorRows
import GoSem.ClaimSeven
namespace Go.Proofs.YthfemhpbamcpjaaGreatDoor
namespace Rows

/-- THE TIED CARD OF 'dioramalaw14.NodesPuts'. -/
def nodesPutsCard : Claim7 := { stood := { row := nodesPutsRow, standIns := [], harness := (true, "819d3021438830898f8d621065c520c4ad89dbc17f8d2bc30b4a58142e9efa14"), looks := true }, kinds := [], alts := [], laidByText := true, laidKinds := [.wider, .data], laidTests := true, laidLooks := .later }
def NodesPutsCardSaid : Prop := Claim7.holds Tryz.pinned (.plain (OpenSpec.ofChange nodesPutsSpec)) nodesPutsCard

/-- THE TIED CARD OF 'dioramalaw14.NodesGets'. -/
def nodesGetsCard : Claim7 := { stood := { row := nodesGetsRow, standIns := [], harness := (true, "819d3021438830898f8d621065c520c4ad89dbc17f8d2bc30b4a58142e9efa14"), looks := true }, kinds := [], alts := [], laidByText := true, laidKinds := [.wider, .data], laidTests := true, laidLooks := .later }
def NodesGetsCardSaid : Prop := Claim7.holds Tryz.pinned (.plain (OpenSpec.ofChange nodesGetsSpec)) nodesGetsCard

/-- THE TIED CARD OF 'dioramalaw14.NodesBack'. -/
def nodesBackCard : Claim7 := { stood := { row := nodesBackRow, standIns := [], harness := (true, "819d3021438830898f8d621065c520c4ad89dbc17f8d2bc30b4a58142e9efa14"), looks := true }, kinds := [], alts := [], laidByText := true, laidKinds := [.wider, .data], laidTests := true, laidLooks := .later }
def NodesBackCardSaid : Prop := Claim7.holds Tryz.pinned (.plain (OpenSpec.ofChange nodesBackSpec)) nodesBackCard

/-- THE TIED CARD OF 'dioramalaw14.NodesLimits'. -/
def nodesLimitsCard : Claim7 := { stood := { row := nodesLimitsRow, standIns := [], harness := (true, "819d3021438830898f8d621065c520c4ad89dbc17f8d2bc30b4a58142e9efa14"), looks := true }, kinds := [], alts := [], laidByText := true, laidKinds := [.wider, .data], laidTests := true, laidLooks := .later }
def NodesLimitsCardSaid : Prop := Claim7.holds Tryz.pinned (.plain (OpenSpec.ofChange nodesLimitsSpec)) nodesLimitsCard

/-- THE SECOND FORM's CARD OF 'dioramalaw14.NodesPuts'. -/
def nodesPutsUptoCard : Claim7 := { stood := { row := nodesPutsUptoRow, standIns := [], harness := (true, "819d3021438830898f8d621065c520c4ad89dbc17f8d2bc30b4a58142e9efa14"), looks := true }, kinds := [], alts := [], laidByText := true, laidKinds := [.wider, .data], laidTests := true, laidLooks := .later }
def NodesPutsUptoCardSaid : Prop := Claim7.holds Tryz.pinned (.plain (OpenSpec.upto nodesPutsSpec)) nodesPutsUptoCard

/-- THE SECOND FORM's CARD OF 'dioramalaw14.NodesGets'. -/
def nodesGetsUptoCard : Claim7 := { stood := { row := nodesGetsUptoRow, standIns := [], harness := (true, "819d3021438830898f8d621065c520c4ad89dbc17f8d2bc30b4a58142e9efa14"), looks := true }, kinds := [], alts := [], laidByText := true, laidKinds := [.wider, .data], laidTests := true, laidLooks := .later }
def NodesGetsUptoCardSaid : Prop := Claim7.holds Tryz.pinned (.plain (OpenSpec.upto nodesGetsSpec)) nodesGetsUptoCard

/-- THE SECOND FORM's CARD OF 'dioramalaw14.NodesBack'. -/
def nodesBackUptoCard : Claim7 := { stood := { row := nodesBackUptoRow, standIns := [], harness := (true, "819d3021438830898f8d621065c520c4ad89dbc17f8d2bc30b4a58142e9efa14"), looks := true }, kinds := [], alts := [], laidByText := true, laidKinds := [.wider, .data], laidTests := true, laidLooks := .later }
def NodesBackUptoCardSaid : Prop := Claim7.holds Tryz.pinned (.plain (OpenSpec.upto nodesBackSpec)) nodesBackUptoCard

/-- THE SECOND FORM's CARD OF 'dioramalaw14.NodesLimits'. -/
def nodesLimitsUptoCard : Claim7 := { stood := { row := nodesLimitsUptoRow, standIns := [], harness := (true, "819d3021438830898f8d621065c520c4ad89dbc17f8d2bc30b4a58142e9efa14"), looks := true }, kinds := [], alts := [], laidByText := true, laidKinds := [.wider, .data], laidTests := true, laidLooks := .later }
def NodesLimitsUptoCardSaid : Prop := Claim7.holds Tryz.pinned (.plain (OpenSpec.upto nodesLimitsSpec)) nodesLimitsUptoCard
end Rows
end Go.Proofs.YthfemhpbamcpjaaGreatDoor
