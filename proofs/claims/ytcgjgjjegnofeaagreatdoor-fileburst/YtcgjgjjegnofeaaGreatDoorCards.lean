/-
  DERIVED. GIVEN WITH THE SEED: THE CARDS: each row of YtcgjgjjegnofeaaGreatDoorRows.lean that lists a variable, with what it lists TIED to the program's text (the seventh form; the later family's looks); each row that meets fmt, with fmt's text TOLD by the authors' own Lean function (tested against real Go, not proved from fmt's source: count such statements apart). THE CARD IS WHAT COUNTS. Prove the row's statement (the work); the ties are given (YtcgjgjjegnofeaaGreatDoorTie.lean); close each card by the builder's one call (the guide's Derived/Test/ToyasCard.lean, 'card_holds'). Laid BY PROGRAM, IN A SANDBOX (cutbox-door.mjs). By AI agents, Wed Nov 11 2026. No macro, syntax, notation, axiom, sorry.
-/
import Derived.Test.YtcgjgjjegnofeaaGreatDoorRows
import GoSem.ClaimSeven
namespace Go.Proofs.YtcgjgjjegnofeaaGreatDoor
namespace Rows

/-- THE TIED CARD OF 'dioramalaw15.FileSaves'. -/
def fileSavesCard : Claim7 := { stood := { row := fileSavesRow, standIns := [], harness := (true, "74ce06cf57ad3f17fd0253a6fff3f65f6d39c0635f6e35166c5b182df1e5ee04"), looks := true }, kinds := [], alts := [], laidByText := true, laidKinds := [.wider, .data], laidTests := true, laidLooks := .later }
def FileSavesCardSaid : Prop := Claim7.holds Tryz.pinned (.plain (OpenSpec.ofChange fileSavesSpec)) fileSavesCard

/-- THE TIED CARD OF 'dioramalaw15.FileLoads'. -/
def fileLoadsCard : Claim7 := { stood := { row := fileLoadsRow, standIns := [], harness := (true, "74ce06cf57ad3f17fd0253a6fff3f65f6d39c0635f6e35166c5b182df1e5ee04"), looks := true }, kinds := [], alts := [], laidByText := true, laidKinds := [.wider, .data], laidTests := true, laidLooks := .later }
def FileLoadsCardSaid : Prop := Claim7.holds Tryz.pinned (.plain (OpenSpec.ofChange fileLoadsSpec)) fileLoadsCard

/-- THE TIED CARD OF 'dioramalaw15.FileBack'. -/
def fileBackCard : Claim7 := { stood := { row := fileBackRow, standIns := [], harness := (true, "74ce06cf57ad3f17fd0253a6fff3f65f6d39c0635f6e35166c5b182df1e5ee04"), looks := true }, kinds := [], alts := [], laidByText := true, laidKinds := [.wider, .data], laidTests := true, laidLooks := .later }
def FileBackCardSaid : Prop := Claim7.holds Tryz.pinned (.plain (OpenSpec.ofChange fileBackSpec)) fileBackCard

/-- THE TIED CARD OF 'dioramalaw15.FileOne'. -/
def fileOneCard : Claim7 := { stood := { row := fileOneRow, standIns := [], harness := (true, "74ce06cf57ad3f17fd0253a6fff3f65f6d39c0635f6e35166c5b182df1e5ee04"), looks := true }, kinds := [], alts := [], laidByText := true, laidKinds := [.wider, .data], laidTests := true, laidLooks := .later }
def FileOneCardSaid : Prop := Claim7.holds Tryz.pinned (.plain (OpenSpec.ofChange fileOneSpec)) fileOneCard

/-- THE TIED CARD OF 'dioramalaw15.FileTurned'. -/
def fileTurnedCard : Claim7 := { stood := { row := fileTurnedRow, standIns := [], harness := (true, "74ce06cf57ad3f17fd0253a6fff3f65f6d39c0635f6e35166c5b182df1e5ee04"), looks := true }, kinds := [], alts := [], laidByText := true, laidKinds := [.wider, .data], laidTests := true, laidLooks := .later }
def FileTurnedCardSaid : Prop := Claim7.holds Tryz.pinned (.plain (OpenSpec.ofChange fileTurnedSpec)) fileTurnedCard

/-- THE TIED CARD OF 'dioramalaw15.FileBurst'. -/
def fileBurstCard : Claim7 := { stood := { row := fileBurstRow, standIns := [], harness := (true, "74ce06cf57ad3f17fd0253a6fff3f65f6d39c0635f6e35166c5b182df1e5ee04"), looks := true }, kinds := [], alts := [], laidByText := true, laidKinds := [.wider, .data], laidTests := true, laidLooks := .later }
def FileBurstCardSaid : Prop := Claim7.holds Tryz.pinned (.plain (OpenSpec.ofChange fileBurstSpec)) fileBurstCard

/-- THE TIED CARD OF 'dioramalaw15.FileLimits'. -/
def fileLimitsCard : Claim7 := { stood := { row := fileLimitsRow, standIns := [], harness := (true, "74ce06cf57ad3f17fd0253a6fff3f65f6d39c0635f6e35166c5b182df1e5ee04"), looks := true }, kinds := [], alts := [], laidByText := true, laidKinds := [.wider, .data], laidTests := true, laidLooks := .later }
def FileLimitsCardSaid : Prop := Claim7.holds Tryz.pinned (.plain (OpenSpec.ofChange fileLimitsSpec)) fileLimitsCard

/-- THE SECOND FORM's CARD OF 'dioramalaw15.FileSaves'. -/
def fileSavesUptoCard : Claim7 := { stood := { row := fileSavesUptoRow, standIns := [], harness := (true, "74ce06cf57ad3f17fd0253a6fff3f65f6d39c0635f6e35166c5b182df1e5ee04"), looks := true }, kinds := [], alts := [], laidByText := true, laidKinds := [.wider, .data], laidTests := true, laidLooks := .later }
def FileSavesUptoCardSaid : Prop := Claim7.holds Tryz.pinned (.plain (OpenSpec.upto fileSavesSpec)) fileSavesUptoCard

/-- THE SECOND FORM's CARD OF 'dioramalaw15.FileLoads'. -/
def fileLoadsUptoCard : Claim7 := { stood := { row := fileLoadsUptoRow, standIns := [], harness := (true, "74ce06cf57ad3f17fd0253a6fff3f65f6d39c0635f6e35166c5b182df1e5ee04"), looks := true }, kinds := [], alts := [], laidByText := true, laidKinds := [.wider, .data], laidTests := true, laidLooks := .later }
def FileLoadsUptoCardSaid : Prop := Claim7.holds Tryz.pinned (.plain (OpenSpec.upto fileLoadsSpec)) fileLoadsUptoCard

/-- THE SECOND FORM's CARD OF 'dioramalaw15.FileBack'. -/
def fileBackUptoCard : Claim7 := { stood := { row := fileBackUptoRow, standIns := [], harness := (true, "74ce06cf57ad3f17fd0253a6fff3f65f6d39c0635f6e35166c5b182df1e5ee04"), looks := true }, kinds := [], alts := [], laidByText := true, laidKinds := [.wider, .data], laidTests := true, laidLooks := .later }
def FileBackUptoCardSaid : Prop := Claim7.holds Tryz.pinned (.plain (OpenSpec.upto fileBackSpec)) fileBackUptoCard

/-- THE SECOND FORM's CARD OF 'dioramalaw15.FileOne'. -/
def fileOneUptoCard : Claim7 := { stood := { row := fileOneUptoRow, standIns := [], harness := (true, "74ce06cf57ad3f17fd0253a6fff3f65f6d39c0635f6e35166c5b182df1e5ee04"), looks := true }, kinds := [], alts := [], laidByText := true, laidKinds := [.wider, .data], laidTests := true, laidLooks := .later }
def FileOneUptoCardSaid : Prop := Claim7.holds Tryz.pinned (.plain (OpenSpec.upto fileOneSpec)) fileOneUptoCard

/-- THE SECOND FORM's CARD OF 'dioramalaw15.FileTurned'. -/
def fileTurnedUptoCard : Claim7 := { stood := { row := fileTurnedUptoRow, standIns := [], harness := (true, "74ce06cf57ad3f17fd0253a6fff3f65f6d39c0635f6e35166c5b182df1e5ee04"), looks := true }, kinds := [], alts := [], laidByText := true, laidKinds := [.wider, .data], laidTests := true, laidLooks := .later }
def FileTurnedUptoCardSaid : Prop := Claim7.holds Tryz.pinned (.plain (OpenSpec.upto fileTurnedSpec)) fileTurnedUptoCard

/-- THE SECOND FORM's CARD OF 'dioramalaw15.FileBurst'. -/
def fileBurstUptoCard : Claim7 := { stood := { row := fileBurstUptoRow, standIns := [], harness := (true, "74ce06cf57ad3f17fd0253a6fff3f65f6d39c0635f6e35166c5b182df1e5ee04"), looks := true }, kinds := [], alts := [], laidByText := true, laidKinds := [.wider, .data], laidTests := true, laidLooks := .later }
def FileBurstUptoCardSaid : Prop := Claim7.holds Tryz.pinned (.plain (OpenSpec.upto fileBurstSpec)) fileBurstUptoCard

/-- THE SECOND FORM's CARD OF 'dioramalaw15.FileLimits'. -/
def fileLimitsUptoCard : Claim7 := { stood := { row := fileLimitsUptoRow, standIns := [], harness := (true, "74ce06cf57ad3f17fd0253a6fff3f65f6d39c0635f6e35166c5b182df1e5ee04"), looks := true }, kinds := [], alts := [], laidByText := true, laidKinds := [.wider, .data], laidTests := true, laidLooks := .later }
def FileLimitsUptoCardSaid : Prop := Claim7.holds Tryz.pinned (.plain (OpenSpec.upto fileLimitsSpec)) fileLimitsUptoCard
end Rows
end Go.Proofs.YtcgjgjjegnofeaaGreatDoor
