/-
  DERIVED. GIVEN WITH THE SEED: THE CARDS: each row of YtpnclcafhalaoaaDoorRows.lean that lists a variable, with what it lists TIED to the program's text (the seventh form; the later family's looks); each row that meets fmt, with fmt's text TOLD by the authors' own Lean function (tested against real Go, not proved from fmt's source: count such statements apart). THE CARD IS WHAT COUNTS. Prove the row's statement (the work); the ties are given (YtpnclcafhalaoaaDoorTie.lean); close each card by the builder's one call (the guide's Derived/Test/ToyasCard.lean, 'card_holds'). Laid BY PROGRAM, IN A SANDBOX (cutbox-door.mjs). By AI agents, Wed Nov 11 2026. No macro, syntax, notation, axiom, sorry.
-/
import Derived.Test.YtpnclcafhalaoaaDoorRows
import GoSem.ClaimSeven
namespace Go.Proofs.YtpnclcafhalaoaaDoor
namespace Rows

/-- THE TIED CARD OF 'dioramalaw07.SchemaSpecs'. -/
def schemaSpecsCard : Claim7 := { stood := { row := schemaSpecsRow, standIns := [], harness := (true, "3b8194c1a9e3356e1084e993c61e0cf30152344aaf2f086d4fdeec149afd3627"), looks := false }, kinds := [], alts := [], laidByText := true, laidKinds := [.wider, .wider, .data, .data], laidTests := true, laidLooks := .later }
def SchemaSpecsCardSaid : Prop := Claim7.holds Tryd.pinned (.plain (OpenSpec.ofChange schemaSpecsSpec)) schemaSpecsCard

/-- THE TIED CARD OF 'dioramalaw07.SchemaClasses'. -/
def schemaClassesCard : Claim7 := { stood := { row := schemaClassesRow, standIns := [], harness := (true, "3b8194c1a9e3356e1084e993c61e0cf30152344aaf2f086d4fdeec149afd3627"), looks := false }, kinds := [], alts := [], laidByText := true, laidKinds := [.wider, .wider, .data, .data], laidTests := true, laidLooks := .later }
def SchemaClassesCardSaid : Prop := Claim7.holds Tryd.pinned (.plain (OpenSpec.ofChange schemaClassesSpec)) schemaClassesCard

/-- THE TIED CARD OF 'dioramalaw07.SchemaNested'. -/
def schemaNestedCard : Claim7 := { stood := { row := schemaNestedRow, standIns := [], harness := (true, "3b8194c1a9e3356e1084e993c61e0cf30152344aaf2f086d4fdeec149afd3627"), looks := false }, kinds := [], alts := [], laidByText := true, laidKinds := [.wider, .wider, .data, .data], laidTests := true, laidLooks := .later }
def SchemaNestedCardSaid : Prop := Claim7.holds Tryd.pinned (.plain (OpenSpec.ofChange schemaNestedSpec)) schemaNestedCard

/-- THE TIED CARD OF 'dioramalaw07.SchemaNames'. -/
def schemaNamesCard : Claim7 := { stood := { row := schemaNamesRow, standIns := [], harness := (true, "3b8194c1a9e3356e1084e993c61e0cf30152344aaf2f086d4fdeec149afd3627"), looks := false }, kinds := [], alts := [], laidByText := true, laidKinds := [.wider, .wider, .data, .data], laidTests := true, laidLooks := .later }
def SchemaNamesCardSaid : Prop := Claim7.holds Tryd.pinned (.plain (OpenSpec.ofChange schemaNamesSpec)) schemaNamesCard

/-- THE SECOND FORM's CARD OF 'dioramalaw07.SchemaSpecs'. -/
def schemaSpecsUptoCard : Claim7 := { stood := { row := schemaSpecsUptoRow, standIns := [], harness := (true, "3b8194c1a9e3356e1084e993c61e0cf30152344aaf2f086d4fdeec149afd3627"), looks := false }, kinds := [], alts := [], laidByText := true, laidKinds := [.wider, .wider, .data, .data], laidTests := true, laidLooks := .later }
def SchemaSpecsUptoCardSaid : Prop := Claim7.holds Tryd.pinned (.plain (OpenSpec.upto schemaSpecsSpec)) schemaSpecsUptoCard

/-- THE SECOND FORM's CARD OF 'dioramalaw07.SchemaClasses'. -/
def schemaClassesUptoCard : Claim7 := { stood := { row := schemaClassesUptoRow, standIns := [], harness := (true, "3b8194c1a9e3356e1084e993c61e0cf30152344aaf2f086d4fdeec149afd3627"), looks := false }, kinds := [], alts := [], laidByText := true, laidKinds := [.wider, .wider, .data, .data], laidTests := true, laidLooks := .later }
def SchemaClassesUptoCardSaid : Prop := Claim7.holds Tryd.pinned (.plain (OpenSpec.upto schemaClassesSpec)) schemaClassesUptoCard

/-- THE SECOND FORM's CARD OF 'dioramalaw07.SchemaNested'. -/
def schemaNestedUptoCard : Claim7 := { stood := { row := schemaNestedUptoRow, standIns := [], harness := (true, "3b8194c1a9e3356e1084e993c61e0cf30152344aaf2f086d4fdeec149afd3627"), looks := false }, kinds := [], alts := [], laidByText := true, laidKinds := [.wider, .wider, .data, .data], laidTests := true, laidLooks := .later }
def SchemaNestedUptoCardSaid : Prop := Claim7.holds Tryd.pinned (.plain (OpenSpec.upto schemaNestedSpec)) schemaNestedUptoCard

/-- THE SECOND FORM's CARD OF 'dioramalaw07.SchemaNames'. -/
def schemaNamesUptoCard : Claim7 := { stood := { row := schemaNamesUptoRow, standIns := [], harness := (true, "3b8194c1a9e3356e1084e993c61e0cf30152344aaf2f086d4fdeec149afd3627"), looks := false }, kinds := [], alts := [], laidByText := true, laidKinds := [.wider, .wider, .data, .data], laidTests := true, laidLooks := .later }
def SchemaNamesUptoCardSaid : Prop := Claim7.holds Tryd.pinned (.plain (OpenSpec.upto schemaNamesSpec)) schemaNamesUptoCard
end Rows
end Go.Proofs.YtpnclcafhalaoaaDoor
