/-
  DERIVED. GIVEN WITH THE SEED: THE CARDS: each row of YtikjdjfpoohieaaDoorRows.lean that lists a variable, with what it lists TIED to the program's text (the seventh form; the later family's looks); each row that meets fmt, with fmt's text TOLD by the authors' own Lean function (tested against real Go, not proved from fmt's source: count such statements apart). THE CARD IS WHAT COUNTS. Prove the row's statement (the work); the ties are given (YtikjdjfpoohieaaDoorTie.lean); close each card by the builder's one call (the guide's Derived/Test/ToyasCard.lean, 'card_holds'). Laid BY PROGRAM, IN A SANDBOX (cutbox-door.mjs). By AI agents, Wed Nov 11 2026. No macro, syntax, notation, axiom, sorry.
-/
import Derived.Test.YtikjdjfpoohieaaDoorRows
import GoSem.ClaimSeven
namespace Go.Proofs.YtikjdjfpoohieaaDoor
namespace Rows

/-- THE TIED CARD OF 'ferrysliplaw13.SchemaChecks'. -/
def schemaChecksCard : Claim7 := { stood := { row := schemaChecksRow, standIns := [], harness := (true, "5dd4da5b33af0eb0ec08d14efec5ca4feb40e599806c93fae7813b6c9c664dbe"), looks := false }, kinds := [], alts := [], laidByText := true, laidKinds := [.data], laidTests := true, laidLooks := .later }
def SchemaChecksCardSaid : Prop := Claim7.holds Tryd.pinned (.plain (OpenSpec.ofChange schemaChecksSpec)) schemaChecksCard

/-- THE TIED CARD OF 'ferrysliplaw13.SchemaTypes'. -/
def schemaTypesCard : Claim7 := { stood := { row := schemaTypesRow, standIns := [], harness := (true, "5dd4da5b33af0eb0ec08d14efec5ca4feb40e599806c93fae7813b6c9c664dbe"), looks := false }, kinds := [], alts := [], laidByText := true, laidKinds := [.data], laidTests := true, laidLooks := .later }
def SchemaTypesCardSaid : Prop := Claim7.holds Tryd.pinned (.plain (OpenSpec.ofChange schemaTypesSpec)) schemaTypesCard

/-- THE TIED CARD OF 'ferrysliplaw13.SchemaNeeds'. -/
def schemaNeedsCard : Claim7 := { stood := { row := schemaNeedsRow, standIns := [], harness := (true, "5dd4da5b33af0eb0ec08d14efec5ca4feb40e599806c93fae7813b6c9c664dbe"), looks := false }, kinds := [], alts := [], laidByText := true, laidKinds := [.data], laidTests := true, laidLooks := .later }
def SchemaNeedsCardSaid : Prop := Claim7.holds Tryd.pinned (.plain (OpenSpec.ofChange schemaNeedsSpec)) schemaNeedsCard

/-- THE TIED CARD OF 'ferrysliplaw13.SchemaMarks'. -/
def schemaMarksCard : Claim7 := { stood := { row := schemaMarksRow, standIns := [], harness := (true, "5dd4da5b33af0eb0ec08d14efec5ca4feb40e599806c93fae7813b6c9c664dbe"), looks := false }, kinds := [], alts := [], laidByText := true, laidKinds := [.data], laidTests := true, laidLooks := .later }
def SchemaMarksCardSaid : Prop := Claim7.holds Tryd.pinned (.plain (OpenSpec.ofChange schemaMarksSpec)) schemaMarksCard

/-- THE TIED CARD OF 'ferrysliplaw13.SchemaParts'. -/
def schemaPartsCard : Claim7 := { stood := { row := schemaPartsRow, standIns := [], harness := (true, "5dd4da5b33af0eb0ec08d14efec5ca4feb40e599806c93fae7813b6c9c664dbe"), looks := false }, kinds := [], alts := [], laidByText := true, laidKinds := [.data], laidTests := true, laidLooks := .later }
def SchemaPartsCardSaid : Prop := Claim7.holds Tryd.pinned (.plain (OpenSpec.ofChange schemaPartsSpec)) schemaPartsCard

/-- THE TIED CARD OF 'ferrysliplaw13.SchemaLess'. -/
def schemaLessCard : Claim7 := { stood := { row := schemaLessRow, standIns := [], harness := (true, "5dd4da5b33af0eb0ec08d14efec5ca4feb40e599806c93fae7813b6c9c664dbe"), looks := false }, kinds := [], alts := [], laidByText := true, laidKinds := [.data], laidTests := true, laidLooks := .later }
def SchemaLessCardSaid : Prop := Claim7.holds Tryd.pinned (.plain (OpenSpec.ofChange schemaLessSpec)) schemaLessCard

/-- THE TIED CARD OF 'ferrysliplaw13.SchemaWord'. -/
def schemaWordCard : Claim7 := { stood := { row := schemaWordRow, standIns := [], harness := (true, "5dd4da5b33af0eb0ec08d14efec5ca4feb40e599806c93fae7813b6c9c664dbe"), looks := false }, kinds := [], alts := [], laidByText := true, laidKinds := [.data], laidTests := true, laidLooks := .later }
def SchemaWordCardSaid : Prop := Claim7.holds Tryd.pinned (.plain (OpenSpec.ofChange schemaWordSpec)) schemaWordCard

/-- THE SECOND FORM's CARD OF 'ferrysliplaw13.SchemaChecks'. -/
def schemaChecksUptoCard : Claim7 := { stood := { row := schemaChecksUptoRow, standIns := [], harness := (true, "5dd4da5b33af0eb0ec08d14efec5ca4feb40e599806c93fae7813b6c9c664dbe"), looks := false }, kinds := [], alts := [], laidByText := true, laidKinds := [.data], laidTests := true, laidLooks := .later }
def SchemaChecksUptoCardSaid : Prop := Claim7.holds Tryd.pinned (.plain (OpenSpec.upto schemaChecksSpec)) schemaChecksUptoCard

/-- THE SECOND FORM's CARD OF 'ferrysliplaw13.SchemaTypes'. -/
def schemaTypesUptoCard : Claim7 := { stood := { row := schemaTypesUptoRow, standIns := [], harness := (true, "5dd4da5b33af0eb0ec08d14efec5ca4feb40e599806c93fae7813b6c9c664dbe"), looks := false }, kinds := [], alts := [], laidByText := true, laidKinds := [.data], laidTests := true, laidLooks := .later }
def SchemaTypesUptoCardSaid : Prop := Claim7.holds Tryd.pinned (.plain (OpenSpec.upto schemaTypesSpec)) schemaTypesUptoCard

/-- THE SECOND FORM's CARD OF 'ferrysliplaw13.SchemaNeeds'. -/
def schemaNeedsUptoCard : Claim7 := { stood := { row := schemaNeedsUptoRow, standIns := [], harness := (true, "5dd4da5b33af0eb0ec08d14efec5ca4feb40e599806c93fae7813b6c9c664dbe"), looks := false }, kinds := [], alts := [], laidByText := true, laidKinds := [.data], laidTests := true, laidLooks := .later }
def SchemaNeedsUptoCardSaid : Prop := Claim7.holds Tryd.pinned (.plain (OpenSpec.upto schemaNeedsSpec)) schemaNeedsUptoCard

/-- THE SECOND FORM's CARD OF 'ferrysliplaw13.SchemaMarks'. -/
def schemaMarksUptoCard : Claim7 := { stood := { row := schemaMarksUptoRow, standIns := [], harness := (true, "5dd4da5b33af0eb0ec08d14efec5ca4feb40e599806c93fae7813b6c9c664dbe"), looks := false }, kinds := [], alts := [], laidByText := true, laidKinds := [.data], laidTests := true, laidLooks := .later }
def SchemaMarksUptoCardSaid : Prop := Claim7.holds Tryd.pinned (.plain (OpenSpec.upto schemaMarksSpec)) schemaMarksUptoCard

/-- THE SECOND FORM's CARD OF 'ferrysliplaw13.SchemaParts'. -/
def schemaPartsUptoCard : Claim7 := { stood := { row := schemaPartsUptoRow, standIns := [], harness := (true, "5dd4da5b33af0eb0ec08d14efec5ca4feb40e599806c93fae7813b6c9c664dbe"), looks := false }, kinds := [], alts := [], laidByText := true, laidKinds := [.data], laidTests := true, laidLooks := .later }
def SchemaPartsUptoCardSaid : Prop := Claim7.holds Tryd.pinned (.plain (OpenSpec.upto schemaPartsSpec)) schemaPartsUptoCard

/-- THE SECOND FORM's CARD OF 'ferrysliplaw13.SchemaLess'. -/
def schemaLessUptoCard : Claim7 := { stood := { row := schemaLessUptoRow, standIns := [], harness := (true, "5dd4da5b33af0eb0ec08d14efec5ca4feb40e599806c93fae7813b6c9c664dbe"), looks := false }, kinds := [], alts := [], laidByText := true, laidKinds := [.data], laidTests := true, laidLooks := .later }
def SchemaLessUptoCardSaid : Prop := Claim7.holds Tryd.pinned (.plain (OpenSpec.upto schemaLessSpec)) schemaLessUptoCard

/-- THE SECOND FORM's CARD OF 'ferrysliplaw13.SchemaWord'. -/
def schemaWordUptoCard : Claim7 := { stood := { row := schemaWordUptoRow, standIns := [], harness := (true, "5dd4da5b33af0eb0ec08d14efec5ca4feb40e599806c93fae7813b6c9c664dbe"), looks := false }, kinds := [], alts := [], laidByText := true, laidKinds := [.data], laidTests := true, laidLooks := .later }
def SchemaWordUptoCardSaid : Prop := Claim7.holds Tryd.pinned (.plain (OpenSpec.upto schemaWordSpec)) schemaWordUptoCard
end Rows
end Go.Proofs.YtikjdjfpoohieaaDoor
