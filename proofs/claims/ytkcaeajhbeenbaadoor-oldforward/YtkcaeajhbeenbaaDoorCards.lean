/-
  DERIVED. GIVEN WITH THE SEED: THE CARDS: each row of YtkcaeajhbeenbaaDoorRows.lean that lists a variable, with what it lists TIED to the program's text (the seventh form; the later family's looks); each row that meets fmt, with fmt's text TOLD by the authors' own Lean function (tested against real Go, not proved from fmt's source: count such statements apart). THE CARD IS WHAT COUNTS. Prove the row's statement (the work); the ties are given (YtkcaeajhbeenbaaDoorTie.lean); close each card by the builder's one call (the guide's Derived/Test/ToyasCard.lean, 'card_holds'). Laid BY PROGRAM, IN A SANDBOX (cutbox-door.mjs). By AI agents, Wed Nov 11 2026. No macro, syntax, notation, axiom, sorry.
-/
import Derived.Test.YtkcaeajhbeenbaaDoorRows
import GoSem.ClaimSeven
namespace Go.Proofs.YtkcaeajhbeenbaaDoor
namespace Rows

/-- THE TIED CARD OF 'dioramalaw16.OldValid'. -/
def oldValidCard : Claim7 := { stood := { row := oldValidRow, standIns := [], harness := (true, "c6c5d793399d49c925f527895be1a207bdffdc72c87dd3e47cd8001a85f08760"), looks := false }, kinds := [], alts := [], laidByText := true, laidKinds := [.wider, .data], laidTests := true, laidLooks := .later }
def OldValidCardSaid : Prop := Claim7.holds Tryd.pinned (.plain (OpenSpec.ofChange oldValidSpec)) oldValidCard

/-- THE TIED CARD OF 'dioramalaw16.OldFlat'. -/
def oldFlatCard : Claim7 := { stood := { row := oldFlatRow, standIns := [], harness := (true, "c6c5d793399d49c925f527895be1a207bdffdc72c87dd3e47cd8001a85f08760"), looks := false }, kinds := [], alts := [], laidByText := true, laidKinds := [.wider, .data], laidTests := true, laidLooks := .later }
def OldFlatCardSaid : Prop := Claim7.holds Tryd.pinned (.plain (OpenSpec.ofChange oldFlatSpec)) oldFlatCard

/-- THE TIED CARD OF 'dioramalaw16.OldCanon'. -/
def oldCanonCard : Claim7 := { stood := { row := oldCanonRow, standIns := [], harness := (true, "c6c5d793399d49c925f527895be1a207bdffdc72c87dd3e47cd8001a85f08760"), looks := false }, kinds := [], alts := [], laidByText := true, laidKinds := [.wider, .data], laidTests := true, laidLooks := .later }
def OldCanonCardSaid : Prop := Claim7.holds Tryd.pinned (.plain (OpenSpec.ofChange oldCanonSpec)) oldCanonCard

/-- THE TIED CARD OF 'dioramalaw16.OldMeasure'. -/
def oldMeasureCard : Claim7 := { stood := { row := oldMeasureRow, standIns := [], harness := (true, "c6c5d793399d49c925f527895be1a207bdffdc72c87dd3e47cd8001a85f08760"), looks := false }, kinds := [], alts := [], laidByText := true, laidKinds := [.wider, .data], laidTests := true, laidLooks := .later }
def OldMeasureCardSaid : Prop := Claim7.holds Tryd.pinned (.plain (OpenSpec.ofChange oldMeasureSpec)) oldMeasureCard

/-- THE TIED CARD OF 'dioramalaw16.OldForward'. -/
def oldForwardCard : Claim7 := { stood := { row := oldForwardRow, standIns := [], harness := (true, "c6c5d793399d49c925f527895be1a207bdffdc72c87dd3e47cd8001a85f08760"), looks := false }, kinds := [], alts := [], laidByText := true, laidKinds := [.wider, .data], laidTests := true, laidLooks := .later }
def OldForwardCardSaid : Prop := Claim7.holds Tryd.pinned (.plain (OpenSpec.ofChange oldForwardSpec)) oldForwardCard

/-- THE SECOND FORM's CARD OF 'dioramalaw16.OldValid'. -/
def oldValidUptoCard : Claim7 := { stood := { row := oldValidUptoRow, standIns := [], harness := (true, "c6c5d793399d49c925f527895be1a207bdffdc72c87dd3e47cd8001a85f08760"), looks := false }, kinds := [], alts := [], laidByText := true, laidKinds := [.wider, .data], laidTests := true, laidLooks := .later }
def OldValidUptoCardSaid : Prop := Claim7.holds Tryd.pinned (.plain (OpenSpec.upto oldValidSpec)) oldValidUptoCard

/-- THE SECOND FORM's CARD OF 'dioramalaw16.OldFlat'. -/
def oldFlatUptoCard : Claim7 := { stood := { row := oldFlatUptoRow, standIns := [], harness := (true, "c6c5d793399d49c925f527895be1a207bdffdc72c87dd3e47cd8001a85f08760"), looks := false }, kinds := [], alts := [], laidByText := true, laidKinds := [.wider, .data], laidTests := true, laidLooks := .later }
def OldFlatUptoCardSaid : Prop := Claim7.holds Tryd.pinned (.plain (OpenSpec.upto oldFlatSpec)) oldFlatUptoCard

/-- THE SECOND FORM's CARD OF 'dioramalaw16.OldCanon'. -/
def oldCanonUptoCard : Claim7 := { stood := { row := oldCanonUptoRow, standIns := [], harness := (true, "c6c5d793399d49c925f527895be1a207bdffdc72c87dd3e47cd8001a85f08760"), looks := false }, kinds := [], alts := [], laidByText := true, laidKinds := [.wider, .data], laidTests := true, laidLooks := .later }
def OldCanonUptoCardSaid : Prop := Claim7.holds Tryd.pinned (.plain (OpenSpec.upto oldCanonSpec)) oldCanonUptoCard

/-- THE SECOND FORM's CARD OF 'dioramalaw16.OldMeasure'. -/
def oldMeasureUptoCard : Claim7 := { stood := { row := oldMeasureUptoRow, standIns := [], harness := (true, "c6c5d793399d49c925f527895be1a207bdffdc72c87dd3e47cd8001a85f08760"), looks := false }, kinds := [], alts := [], laidByText := true, laidKinds := [.wider, .data], laidTests := true, laidLooks := .later }
def OldMeasureUptoCardSaid : Prop := Claim7.holds Tryd.pinned (.plain (OpenSpec.upto oldMeasureSpec)) oldMeasureUptoCard

/-- THE SECOND FORM's CARD OF 'dioramalaw16.OldForward'. -/
def oldForwardUptoCard : Claim7 := { stood := { row := oldForwardUptoRow, standIns := [], harness := (true, "c6c5d793399d49c925f527895be1a207bdffdc72c87dd3e47cd8001a85f08760"), looks := false }, kinds := [], alts := [], laidByText := true, laidKinds := [.wider, .data], laidTests := true, laidLooks := .later }
def OldForwardUptoCardSaid : Prop := Claim7.holds Tryd.pinned (.plain (OpenSpec.upto oldForwardSpec)) oldForwardUptoCard
end Rows
end Go.Proofs.YtkcaeajhbeenbaaDoor
