/-
  DERIVED. GIVEN WITH THE SEED: THE CARDS: each row of YtgoffkfpdigeeaaDoorRows.lean that lists a variable, with what it lists TIED to the program's text (the seventh form; the later family's looks); each row that meets fmt, with fmt's text TOLD by the authors' own Lean function (tested against real Go, not proved from fmt's source: count such statements apart). THE CARD IS WHAT COUNTS. Prove the row's statement (the work); the ties are given (YtgoffkfpdigeeaaDoorTie.lean); close each card by the builder's one call (the guide's Derived/Test/ToyasCard.lean, 'card_holds'). Laid BY PROGRAM, IN A SANDBOX (cutbox-door.mjs). By AI agents, Wed Nov 11 2026. No macro, syntax, notation, axiom, sorry.
-/
import Derived.Test.YtgoffkfpdigeeaaDoorRows
import GoSem.ClaimSeven
namespace Go.Proofs.YtgoffkfpdigeeaaDoor
namespace Rows

/-- THE TIED CARD OF 'dioramalaw17.OldfileOne'. -/
def oldfileOneCard : Claim7 := { stood := { row := oldfileOneRow, standIns := [], harness := (true, "f8f72c5fb90fddab6c78e4b77d84a29473f361da38a776b3ed4512ba5ef54189"), looks := true }, kinds := [], alts := [], laidByText := true, laidKinds := [.wider, .data], laidTests := true, laidLooks := .later }
def OldfileOneCardSaid : Prop := Claim7.holds Tryd.pinned (.plain (OpenSpec.ofChange oldfileOneSpec)) oldfileOneCard

/-- THE SECOND FORM's CARD OF 'dioramalaw17.OldfileOne'. -/
def oldfileOneUptoCard : Claim7 := { stood := { row := oldfileOneUptoRow, standIns := [], harness := (true, "f8f72c5fb90fddab6c78e4b77d84a29473f361da38a776b3ed4512ba5ef54189"), looks := true }, kinds := [], alts := [], laidByText := true, laidKinds := [.wider, .data], laidTests := true, laidLooks := .later }
def OldfileOneUptoCardSaid : Prop := Claim7.holds Tryd.pinned (.plain (OpenSpec.upto oldfileOneSpec)) oldfileOneUptoCard
end Rows
end Go.Proofs.YtgoffkfpdigeeaaDoor
