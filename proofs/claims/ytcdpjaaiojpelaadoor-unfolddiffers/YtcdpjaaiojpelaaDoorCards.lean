/-
  DERIVED. GIVEN WITH THE SEED: THE CARDS: each row of YtcdpjaaiojpelaaDoorRows.lean that lists a variable, with what it lists TIED to the program's text (the seventh form; the later family's looks); each row that meets fmt, with fmt's text TOLD by the authors' own Lean function (tested against real Go, not proved from fmt's source: count such statements apart). THE CARD IS WHAT COUNTS. Prove the row's statement (the work); the ties are given (YtcdpjaaiojpelaaDoorTie.lean); close each card by the builder's one call (the guide's Derived/Test/ToyasCard.lean, 'card_holds'). Laid BY PROGRAM, IN A SANDBOX (cutbox-door.mjs). By AI agents, Wed Nov 11 2026. No macro, syntax, notation, axiom, sorry.
-/
import Derived.Test.YtcdpjaaiojpelaaDoorRows
import GoSem.ClaimSeven
namespace Go.Proofs.YtcdpjaaiojpelaaDoor
namespace Rows

/-- THE TIED CARD OF 'dioramalaw11.UnfoldEqual'. -/
def unfoldEqualCard : Claim7 := { stood := { row := unfoldEqualRow, standIns := [], harness := (true, "73973a8810507831c04968044de679cee6068f15a16136279de9fc0bab319be2"), looks := false }, kinds := [], alts := [], laidByText := true, laidKinds := [.data, .data, .data], laidTests := true, laidLooks := .later }
def UnfoldEqualCardSaid : Prop := Claim7.holds Tryd.pinned (.plain (OpenSpec.ofChange unfoldEqualSpec)) unfoldEqualCard

/-- THE TIED CARD OF 'dioramalaw11.UnfoldSizes'. -/
def unfoldSizesCard : Claim7 := { stood := { row := unfoldSizesRow, standIns := [], harness := (true, "73973a8810507831c04968044de679cee6068f15a16136279de9fc0bab319be2"), looks := false }, kinds := [], alts := [], laidByText := true, laidKinds := [.data, .data, .data], laidTests := true, laidLooks := .later }
def UnfoldSizesCardSaid : Prop := Claim7.holds Tryd.pinned (.plain (OpenSpec.ofChange unfoldSizesSpec)) unfoldSizesCard

/-- THE TIED CARD OF 'dioramalaw11.UnfoldShares'. -/
def unfoldSharesCard : Claim7 := { stood := { row := unfoldSharesRow, standIns := [], harness := (true, "73973a8810507831c04968044de679cee6068f15a16136279de9fc0bab319be2"), looks := false }, kinds := [], alts := [], laidByText := true, laidKinds := [.data, .data, .data], laidTests := true, laidLooks := .later }
def UnfoldSharesCardSaid : Prop := Claim7.holds Tryd.pinned (.plain (OpenSpec.ofChange unfoldSharesSpec)) unfoldSharesCard

/-- THE TIED CARD OF 'dioramalaw11.UnfoldDiffers'. -/
def unfoldDiffersCard : Claim7 := { stood := { row := unfoldDiffersRow, standIns := [], harness := (true, "73973a8810507831c04968044de679cee6068f15a16136279de9fc0bab319be2"), looks := false }, kinds := [], alts := [], laidByText := true, laidKinds := [.data, .data, .data], laidTests := true, laidLooks := .later }
def UnfoldDiffersCardSaid : Prop := Claim7.holds Tryd.pinned (.plain (OpenSpec.ofChange unfoldDiffersSpec)) unfoldDiffersCard

/-- THE TIED CARD OF 'dioramalaw11.UnfoldFields'. -/
def unfoldFieldsCard : Claim7 := { stood := { row := unfoldFieldsRow, standIns := [], harness := (true, "73973a8810507831c04968044de679cee6068f15a16136279de9fc0bab319be2"), looks := false }, kinds := [], alts := [], laidByText := true, laidKinds := [.data, .data, .data], laidTests := true, laidLooks := .later }
def UnfoldFieldsCardSaid : Prop := Claim7.holds Tryd.pinned (.plain (OpenSpec.ofChange unfoldFieldsSpec)) unfoldFieldsCard

/-- THE SECOND FORM's CARD OF 'dioramalaw11.UnfoldEqual'. -/
def unfoldEqualUptoCard : Claim7 := { stood := { row := unfoldEqualUptoRow, standIns := [], harness := (true, "73973a8810507831c04968044de679cee6068f15a16136279de9fc0bab319be2"), looks := false }, kinds := [], alts := [], laidByText := true, laidKinds := [.data, .data, .data], laidTests := true, laidLooks := .later }
def UnfoldEqualUptoCardSaid : Prop := Claim7.holds Tryd.pinned (.plain (OpenSpec.upto unfoldEqualSpec)) unfoldEqualUptoCard

/-- THE SECOND FORM's CARD OF 'dioramalaw11.UnfoldSizes'. -/
def unfoldSizesUptoCard : Claim7 := { stood := { row := unfoldSizesUptoRow, standIns := [], harness := (true, "73973a8810507831c04968044de679cee6068f15a16136279de9fc0bab319be2"), looks := false }, kinds := [], alts := [], laidByText := true, laidKinds := [.data, .data, .data], laidTests := true, laidLooks := .later }
def UnfoldSizesUptoCardSaid : Prop := Claim7.holds Tryd.pinned (.plain (OpenSpec.upto unfoldSizesSpec)) unfoldSizesUptoCard

/-- THE SECOND FORM's CARD OF 'dioramalaw11.UnfoldShares'. -/
def unfoldSharesUptoCard : Claim7 := { stood := { row := unfoldSharesUptoRow, standIns := [], harness := (true, "73973a8810507831c04968044de679cee6068f15a16136279de9fc0bab319be2"), looks := false }, kinds := [], alts := [], laidByText := true, laidKinds := [.data, .data, .data], laidTests := true, laidLooks := .later }
def UnfoldSharesUptoCardSaid : Prop := Claim7.holds Tryd.pinned (.plain (OpenSpec.upto unfoldSharesSpec)) unfoldSharesUptoCard

/-- THE SECOND FORM's CARD OF 'dioramalaw11.UnfoldDiffers'. -/
def unfoldDiffersUptoCard : Claim7 := { stood := { row := unfoldDiffersUptoRow, standIns := [], harness := (true, "73973a8810507831c04968044de679cee6068f15a16136279de9fc0bab319be2"), looks := false }, kinds := [], alts := [], laidByText := true, laidKinds := [.data, .data, .data], laidTests := true, laidLooks := .later }
def UnfoldDiffersUptoCardSaid : Prop := Claim7.holds Tryd.pinned (.plain (OpenSpec.upto unfoldDiffersSpec)) unfoldDiffersUptoCard

/-- THE SECOND FORM's CARD OF 'dioramalaw11.UnfoldFields'. -/
def unfoldFieldsUptoCard : Claim7 := { stood := { row := unfoldFieldsUptoRow, standIns := [], harness := (true, "73973a8810507831c04968044de679cee6068f15a16136279de9fc0bab319be2"), looks := false }, kinds := [], alts := [], laidByText := true, laidKinds := [.data, .data, .data], laidTests := true, laidLooks := .later }
def UnfoldFieldsUptoCardSaid : Prop := Claim7.holds Tryd.pinned (.plain (OpenSpec.upto unfoldFieldsSpec)) unfoldFieldsUptoCard
end Rows
end Go.Proofs.YtcdpjaaiojpelaaDoor
