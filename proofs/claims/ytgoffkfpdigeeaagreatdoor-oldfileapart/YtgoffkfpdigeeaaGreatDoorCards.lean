/-
  DERIVED. GIVEN WITH THE SEED: THE CARDS: each row of YtgoffkfpdigeeaaGreatDoorRows.lean that lists a variable, with what it lists TIED to the program's text (the seventh form; the later family's looks); each row that meets fmt, with fmt's text TOLD by the authors' own Lean function (tested against real Go, not proved from fmt's source: count such statements apart). THE CARD IS WHAT COUNTS. Prove the row's statement (the work); the ties are given (YtgoffkfpdigeeaaGreatDoorTie.lean); close each card by the builder's one call (the guide's Derived/Test/ToyasCard.lean, 'card_holds'). Laid BY PROGRAM, IN A SANDBOX (cutbox-door.mjs). By AI agents, Wed Nov 11 2026. No macro, syntax, notation, axiom, sorry.
-/
import Derived.Test.YtgoffkfpdigeeaaGreatDoorRows
import GoSem.ClaimSeven
namespace Go.Proofs.YtgoffkfpdigeeaaGreatDoor
namespace Rows

/-- THE TIED CARD OF 'dioramalaw17.OldfileSaves'. -/
def oldfileSavesCard : Claim7 := { stood := { row := oldfileSavesRow, standIns := [], harness := (true, "bc4531439019309aa5ba3ab0ffb4c42c989c5e6434b9dbc487a736a98df5cae9"), looks := true }, kinds := [], alts := [], laidByText := true, laidKinds := [.wider, .data], laidTests := true, laidLooks := .later }
def OldfileSavesCardSaid : Prop := Claim7.holds Tryz.pinned (.plain (OpenSpec.ofChange oldfileSavesSpec)) oldfileSavesCard

/-- THE TIED CARD OF 'dioramalaw17.OldfileGets'. -/
def oldfileGetsCard : Claim7 := { stood := { row := oldfileGetsRow, standIns := [], harness := (true, "bc4531439019309aa5ba3ab0ffb4c42c989c5e6434b9dbc487a736a98df5cae9"), looks := true }, kinds := [], alts := [], laidByText := true, laidKinds := [.wider, .data], laidTests := true, laidLooks := .later }
def OldfileGetsCardSaid : Prop := Claim7.holds Tryz.pinned (.plain (OpenSpec.ofChange oldfileGetsSpec)) oldfileGetsCard

/-- THE TIED CARD OF 'dioramalaw17.OldfileBack'. -/
def oldfileBackCard : Claim7 := { stood := { row := oldfileBackRow, standIns := [], harness := (true, "bc4531439019309aa5ba3ab0ffb4c42c989c5e6434b9dbc487a736a98df5cae9"), looks := true }, kinds := [], alts := [], laidByText := true, laidKinds := [.wider, .data], laidTests := true, laidLooks := .later }
def OldfileBackCardSaid : Prop := Claim7.holds Tryz.pinned (.plain (OpenSpec.ofChange oldfileBackSpec)) oldfileBackCard

/-- THE TIED CARD OF 'dioramalaw17.OldfileLimits'. -/
def oldfileLimitsCard : Claim7 := { stood := { row := oldfileLimitsRow, standIns := [], harness := (true, "bc4531439019309aa5ba3ab0ffb4c42c989c5e6434b9dbc487a736a98df5cae9"), looks := true }, kinds := [], alts := [], laidByText := true, laidKinds := [.wider, .data], laidTests := true, laidLooks := .later }
def OldfileLimitsCardSaid : Prop := Claim7.holds Tryz.pinned (.plain (OpenSpec.ofChange oldfileLimitsSpec)) oldfileLimitsCard

/-- THE TIED CARD OF 'dioramalaw17.OldfileApart'. -/
def oldfileApartCard : Claim7 := { stood := { row := oldfileApartRow, standIns := [], harness := (true, "bc4531439019309aa5ba3ab0ffb4c42c989c5e6434b9dbc487a736a98df5cae9"), looks := true }, kinds := [], alts := [], laidByText := true, laidKinds := [.wider, .wider, .data], laidTests := true, laidLooks := .later }
def OldfileApartCardSaid : Prop := Claim7.holds Tryz.pinned (.plain (OpenSpec.ofChange oldfileApartSpec)) oldfileApartCard

/-- THE SECOND FORM's CARD OF 'dioramalaw17.OldfileSaves'. -/
def oldfileSavesUptoCard : Claim7 := { stood := { row := oldfileSavesUptoRow, standIns := [], harness := (true, "bc4531439019309aa5ba3ab0ffb4c42c989c5e6434b9dbc487a736a98df5cae9"), looks := true }, kinds := [], alts := [], laidByText := true, laidKinds := [.wider, .data], laidTests := true, laidLooks := .later }
def OldfileSavesUptoCardSaid : Prop := Claim7.holds Tryz.pinned (.plain (OpenSpec.upto oldfileSavesSpec)) oldfileSavesUptoCard

/-- THE SECOND FORM's CARD OF 'dioramalaw17.OldfileGets'. -/
def oldfileGetsUptoCard : Claim7 := { stood := { row := oldfileGetsUptoRow, standIns := [], harness := (true, "bc4531439019309aa5ba3ab0ffb4c42c989c5e6434b9dbc487a736a98df5cae9"), looks := true }, kinds := [], alts := [], laidByText := true, laidKinds := [.wider, .data], laidTests := true, laidLooks := .later }
def OldfileGetsUptoCardSaid : Prop := Claim7.holds Tryz.pinned (.plain (OpenSpec.upto oldfileGetsSpec)) oldfileGetsUptoCard

/-- THE SECOND FORM's CARD OF 'dioramalaw17.OldfileBack'. -/
def oldfileBackUptoCard : Claim7 := { stood := { row := oldfileBackUptoRow, standIns := [], harness := (true, "bc4531439019309aa5ba3ab0ffb4c42c989c5e6434b9dbc487a736a98df5cae9"), looks := true }, kinds := [], alts := [], laidByText := true, laidKinds := [.wider, .data], laidTests := true, laidLooks := .later }
def OldfileBackUptoCardSaid : Prop := Claim7.holds Tryz.pinned (.plain (OpenSpec.upto oldfileBackSpec)) oldfileBackUptoCard

/-- THE SECOND FORM's CARD OF 'dioramalaw17.OldfileLimits'. -/
def oldfileLimitsUptoCard : Claim7 := { stood := { row := oldfileLimitsUptoRow, standIns := [], harness := (true, "bc4531439019309aa5ba3ab0ffb4c42c989c5e6434b9dbc487a736a98df5cae9"), looks := true }, kinds := [], alts := [], laidByText := true, laidKinds := [.wider, .data], laidTests := true, laidLooks := .later }
def OldfileLimitsUptoCardSaid : Prop := Claim7.holds Tryz.pinned (.plain (OpenSpec.upto oldfileLimitsSpec)) oldfileLimitsUptoCard

/-- THE SECOND FORM's CARD OF 'dioramalaw17.OldfileApart'. -/
def oldfileApartUptoCard : Claim7 := { stood := { row := oldfileApartUptoRow, standIns := [], harness := (true, "bc4531439019309aa5ba3ab0ffb4c42c989c5e6434b9dbc487a736a98df5cae9"), looks := true }, kinds := [], alts := [], laidByText := true, laidKinds := [.wider, .wider, .data], laidTests := true, laidLooks := .later }
def OldfileApartUptoCardSaid : Prop := Claim7.holds Tryz.pinned (.plain (OpenSpec.upto oldfileApartSpec)) oldfileApartUptoCard
end Rows
end Go.Proofs.YtgoffkfpdigeeaaGreatDoor
