/-
  DERIVED. GIVEN WITH THE SEED: THE CARDS: each row of YtknfecclijoefaaDoorRows.lean that lists a variable, with what it lists TIED to the program's text (the seventh form; the later family's looks); each row that meets fmt, with fmt's text TOLD by the authors' own Lean function (tested against real Go, not proved from fmt's source: count such statements apart). THE CARD IS WHAT COUNTS. Prove the row's statement (the work); the ties are given (YtknfecclijoefaaDoorTie.lean); close each card by the builder's one call (the guide's Derived/Test/ToyasCard.lean, 'card_holds'). Laid BY PROGRAM, IN A SANDBOX (cutbox-door.mjs). By AI agents, Wed Nov 11 2026. No macro, syntax, notation, axiom, sorry.
-/
import Derived.Test.YtknfecclijoefaaDoorRows
import GoSem.ClaimSeven
namespace Go.Proofs.YtknfecclijoefaaDoor
namespace Rows

/-- THE TIED CARD OF 'dioramalaw13.RecordPuts'. -/
def recordPutsCard : Claim7 := { stood := { row := recordPutsRow, standIns := [], harness := (true, "02b3b2ea234e78b1a30f75d99f689164888a17bc15aede6690e16850cebdfff2"), looks := true }, kinds := [], alts := [], laidByText := true, laidKinds := [.wider, .data], laidTests := true, laidLooks := .later }
def RecordPutsCardSaid : Prop := Claim7.holds Tryd.pinned (.plain (OpenSpec.ofChange recordPutsSpec)) recordPutsCard

/-- THE TIED CARD OF 'dioramalaw13.RecordGets'. -/
def recordGetsCard : Claim7 := { stood := { row := recordGetsRow, standIns := [], harness := (true, "02b3b2ea234e78b1a30f75d99f689164888a17bc15aede6690e16850cebdfff2"), looks := true }, kinds := [], alts := [], laidByText := true, laidKinds := [.wider, .data], laidTests := true, laidLooks := .later }
def RecordGetsCardSaid : Prop := Claim7.holds Tryd.pinned (.plain (OpenSpec.ofChange recordGetsSpec)) recordGetsCard

/-- THE TIED CARD OF 'dioramalaw13.RecordBack'. -/
def recordBackCard : Claim7 := { stood := { row := recordBackRow, standIns := [], harness := (true, "02b3b2ea234e78b1a30f75d99f689164888a17bc15aede6690e16850cebdfff2"), looks := true }, kinds := [], alts := [], laidByText := true, laidKinds := [.wider, .data], laidTests := true, laidLooks := .later }
def RecordBackCardSaid : Prop := Claim7.holds Tryd.pinned (.plain (OpenSpec.ofChange recordBackSpec)) recordBackCard

/-- THE TIED CARD OF 'dioramalaw13.RecordOne'. -/
def recordOneCard : Claim7 := { stood := { row := recordOneRow, standIns := [], harness := (true, "02b3b2ea234e78b1a30f75d99f689164888a17bc15aede6690e16850cebdfff2"), looks := true }, kinds := [], alts := [], laidByText := true, laidKinds := [.wider, .data], laidTests := true, laidLooks := .later }
def RecordOneCardSaid : Prop := Claim7.holds Tryd.pinned (.plain (OpenSpec.ofChange recordOneSpec)) recordOneCard

/-- THE TIED CARD OF 'dioramalaw13.RecordTable'. -/
def recordTableCard : Claim7 := { stood := { row := recordTableRow, standIns := [], harness := (true, "02b3b2ea234e78b1a30f75d99f689164888a17bc15aede6690e16850cebdfff2"), looks := true }, kinds := [], alts := [], laidByText := true, laidKinds := [.wider, .data], laidTests := true, laidLooks := .later }
def RecordTableCardSaid : Prop := Claim7.holds Tryd.pinned (.plain (OpenSpec.ofChange recordTableSpec)) recordTableCard

/-- THE TIED CARD OF 'dioramalaw13.RecordMoved'. -/
def recordMovedCard : Claim7 := { stood := { row := recordMovedRow, standIns := [], harness := (true, "02b3b2ea234e78b1a30f75d99f689164888a17bc15aede6690e16850cebdfff2"), looks := true }, kinds := [], alts := [], laidByText := true, laidKinds := [.wider, .data], laidTests := true, laidLooks := .later }
def RecordMovedCardSaid : Prop := Claim7.holds Tryd.pinned (.plain (OpenSpec.ofChange recordMovedSpec)) recordMovedCard

/-- THE SECOND FORM's CARD OF 'dioramalaw13.RecordPuts'. -/
def recordPutsUptoCard : Claim7 := { stood := { row := recordPutsUptoRow, standIns := [], harness := (true, "02b3b2ea234e78b1a30f75d99f689164888a17bc15aede6690e16850cebdfff2"), looks := true }, kinds := [], alts := [], laidByText := true, laidKinds := [.wider, .data], laidTests := true, laidLooks := .later }
def RecordPutsUptoCardSaid : Prop := Claim7.holds Tryd.pinned (.plain (OpenSpec.upto recordPutsSpec)) recordPutsUptoCard

/-- THE SECOND FORM's CARD OF 'dioramalaw13.RecordGets'. -/
def recordGetsUptoCard : Claim7 := { stood := { row := recordGetsUptoRow, standIns := [], harness := (true, "02b3b2ea234e78b1a30f75d99f689164888a17bc15aede6690e16850cebdfff2"), looks := true }, kinds := [], alts := [], laidByText := true, laidKinds := [.wider, .data], laidTests := true, laidLooks := .later }
def RecordGetsUptoCardSaid : Prop := Claim7.holds Tryd.pinned (.plain (OpenSpec.upto recordGetsSpec)) recordGetsUptoCard

/-- THE SECOND FORM's CARD OF 'dioramalaw13.RecordBack'. -/
def recordBackUptoCard : Claim7 := { stood := { row := recordBackUptoRow, standIns := [], harness := (true, "02b3b2ea234e78b1a30f75d99f689164888a17bc15aede6690e16850cebdfff2"), looks := true }, kinds := [], alts := [], laidByText := true, laidKinds := [.wider, .data], laidTests := true, laidLooks := .later }
def RecordBackUptoCardSaid : Prop := Claim7.holds Tryd.pinned (.plain (OpenSpec.upto recordBackSpec)) recordBackUptoCard

/-- THE SECOND FORM's CARD OF 'dioramalaw13.RecordOne'. -/
def recordOneUptoCard : Claim7 := { stood := { row := recordOneUptoRow, standIns := [], harness := (true, "02b3b2ea234e78b1a30f75d99f689164888a17bc15aede6690e16850cebdfff2"), looks := true }, kinds := [], alts := [], laidByText := true, laidKinds := [.wider, .data], laidTests := true, laidLooks := .later }
def RecordOneUptoCardSaid : Prop := Claim7.holds Tryd.pinned (.plain (OpenSpec.upto recordOneSpec)) recordOneUptoCard

/-- THE SECOND FORM's CARD OF 'dioramalaw13.RecordTable'. -/
def recordTableUptoCard : Claim7 := { stood := { row := recordTableUptoRow, standIns := [], harness := (true, "02b3b2ea234e78b1a30f75d99f689164888a17bc15aede6690e16850cebdfff2"), looks := true }, kinds := [], alts := [], laidByText := true, laidKinds := [.wider, .data], laidTests := true, laidLooks := .later }
def RecordTableUptoCardSaid : Prop := Claim7.holds Tryd.pinned (.plain (OpenSpec.upto recordTableSpec)) recordTableUptoCard

/-- THE SECOND FORM's CARD OF 'dioramalaw13.RecordMoved'. -/
def recordMovedUptoCard : Claim7 := { stood := { row := recordMovedUptoRow, standIns := [], harness := (true, "02b3b2ea234e78b1a30f75d99f689164888a17bc15aede6690e16850cebdfff2"), looks := true }, kinds := [], alts := [], laidByText := true, laidKinds := [.wider, .data], laidTests := true, laidLooks := .later }
def RecordMovedUptoCardSaid : Prop := Claim7.holds Tryd.pinned (.plain (OpenSpec.upto recordMovedSpec)) recordMovedUptoCard
end Rows
end Go.Proofs.YtknfecclijoefaaDoor
