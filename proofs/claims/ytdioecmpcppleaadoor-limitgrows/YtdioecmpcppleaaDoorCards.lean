/-
  DERIVED. GIVEN WITH THE SEED: THE CARDS: each row of YtdioecmpcppleaaDoorRows.lean that lists a variable, with what it lists TIED to the program's text (the seventh form; the later family's looks); each row that meets fmt, with fmt's text TOLD by the authors' own Lean function (tested against real Go, not proved from fmt's source: count such statements apart). THE CARD IS WHAT COUNTS. Prove the row's statement (the work); the ties are given (YtdioecmpcppleaaDoorTie.lean); close each card by the builder's one call (the guide's Derived/Test/ToyasCard.lean, 'card_holds'). Laid BY PROGRAM, IN A SANDBOX (cutbox-door.mjs). By AI agents, Wed Nov 11 2026. No macro, syntax, notation, axiom, sorry.
-/
import Derived.Test.YtdioecmpcppleaaDoorRows
import GoSem.ClaimSeven
namespace Go.Proofs.YtdioecmpcppleaaDoor
namespace Rows

/-- THE TIED CARD OF 'dioramalaw12.LimitValid'. -/
def limitValidCard : Claim7 := { stood := { row := limitValidRow, standIns := [], harness := (true, "9ce0aff4c17545946c8034e0bc9390456abd4f3d45a119c73ed7e45e6ef89f93"), looks := false }, kinds := [], alts := [], laidByText := true, laidKinds := [.wider, .data], laidTests := true, laidLooks := .later }
def LimitValidCardSaid : Prop := Claim7.holds Tryd.pinned (.plain (OpenSpec.ofChange limitValidSpec)) limitValidCard

/-- THE TIED CARD OF 'dioramalaw12.LimitMeasures'. -/
def limitMeasuresCard : Claim7 := { stood := { row := limitMeasuresRow, standIns := [], harness := (true, "9ce0aff4c17545946c8034e0bc9390456abd4f3d45a119c73ed7e45e6ef89f93"), looks := false }, kinds := [], alts := [], laidByText := true, laidKinds := [.wider, .data], laidTests := true, laidLooks := .later }
def LimitMeasuresCardSaid : Prop := Claim7.holds Tryd.pinned (.plain (OpenSpec.ofChange limitMeasuresSpec)) limitMeasuresCard

/-- THE TIED CARD OF 'dioramalaw12.LimitGrows'. -/
def limitGrowsCard : Claim7 := { stood := { row := limitGrowsRow, standIns := [], harness := (true, "9ce0aff4c17545946c8034e0bc9390456abd4f3d45a119c73ed7e45e6ef89f93"), looks := false }, kinds := [], alts := [], laidByText := true, laidKinds := [.wider, .data], laidTests := true, laidLooks := .later }
def LimitGrowsCardSaid : Prop := Claim7.holds Tryd.pinned (.plain (OpenSpec.ofChange limitGrowsSpec)) limitGrowsCard

/-- THE TIED CARD OF 'dioramalaw12.LimitCanon'. -/
def limitCanonCard : Claim7 := { stood := { row := limitCanonRow, standIns := [], harness := (true, "9ce0aff4c17545946c8034e0bc9390456abd4f3d45a119c73ed7e45e6ef89f93"), looks := false }, kinds := [], alts := [], laidByText := true, laidKinds := [.wider, .data], laidTests := true, laidLooks := .later }
def LimitCanonCardSaid : Prop := Claim7.holds Tryd.pinned (.plain (OpenSpec.ofChange limitCanonSpec)) limitCanonCard

/-- THE TIED CARD OF 'dioramalaw12.LimitOrder'. -/
def limitOrderCard : Claim7 := { stood := { row := limitOrderRow, standIns := [], harness := (true, "9ce0aff4c17545946c8034e0bc9390456abd4f3d45a119c73ed7e45e6ef89f93"), looks := false }, kinds := [], alts := [], laidByText := true, laidKinds := [.wider, .data], laidTests := true, laidLooks := .later }
def LimitOrderCardSaid : Prop := Claim7.holds Tryd.pinned (.plain (OpenSpec.ofChange limitOrderSpec)) limitOrderCard

/-- THE SECOND FORM's CARD OF 'dioramalaw12.LimitValid'. -/
def limitValidUptoCard : Claim7 := { stood := { row := limitValidUptoRow, standIns := [], harness := (true, "9ce0aff4c17545946c8034e0bc9390456abd4f3d45a119c73ed7e45e6ef89f93"), looks := false }, kinds := [], alts := [], laidByText := true, laidKinds := [.wider, .data], laidTests := true, laidLooks := .later }
def LimitValidUptoCardSaid : Prop := Claim7.holds Tryd.pinned (.plain (OpenSpec.upto limitValidSpec)) limitValidUptoCard

/-- THE SECOND FORM's CARD OF 'dioramalaw12.LimitMeasures'. -/
def limitMeasuresUptoCard : Claim7 := { stood := { row := limitMeasuresUptoRow, standIns := [], harness := (true, "9ce0aff4c17545946c8034e0bc9390456abd4f3d45a119c73ed7e45e6ef89f93"), looks := false }, kinds := [], alts := [], laidByText := true, laidKinds := [.wider, .data], laidTests := true, laidLooks := .later }
def LimitMeasuresUptoCardSaid : Prop := Claim7.holds Tryd.pinned (.plain (OpenSpec.upto limitMeasuresSpec)) limitMeasuresUptoCard

/-- THE SECOND FORM's CARD OF 'dioramalaw12.LimitGrows'. -/
def limitGrowsUptoCard : Claim7 := { stood := { row := limitGrowsUptoRow, standIns := [], harness := (true, "9ce0aff4c17545946c8034e0bc9390456abd4f3d45a119c73ed7e45e6ef89f93"), looks := false }, kinds := [], alts := [], laidByText := true, laidKinds := [.wider, .data], laidTests := true, laidLooks := .later }
def LimitGrowsUptoCardSaid : Prop := Claim7.holds Tryd.pinned (.plain (OpenSpec.upto limitGrowsSpec)) limitGrowsUptoCard

/-- THE SECOND FORM's CARD OF 'dioramalaw12.LimitCanon'. -/
def limitCanonUptoCard : Claim7 := { stood := { row := limitCanonUptoRow, standIns := [], harness := (true, "9ce0aff4c17545946c8034e0bc9390456abd4f3d45a119c73ed7e45e6ef89f93"), looks := false }, kinds := [], alts := [], laidByText := true, laidKinds := [.wider, .data], laidTests := true, laidLooks := .later }
def LimitCanonUptoCardSaid : Prop := Claim7.holds Tryd.pinned (.plain (OpenSpec.upto limitCanonSpec)) limitCanonUptoCard

/-- THE SECOND FORM's CARD OF 'dioramalaw12.LimitOrder'. -/
def limitOrderUptoCard : Claim7 := { stood := { row := limitOrderUptoRow, standIns := [], harness := (true, "9ce0aff4c17545946c8034e0bc9390456abd4f3d45a119c73ed7e45e6ef89f93"), looks := false }, kinds := [], alts := [], laidByText := true, laidKinds := [.wider, .data], laidTests := true, laidLooks := .later }
def LimitOrderUptoCardSaid : Prop := Claim7.holds Tryd.pinned (.plain (OpenSpec.upto limitOrderSpec)) limitOrderUptoCard
end Rows
end Go.Proofs.YtdioecmpcppleaaDoor
