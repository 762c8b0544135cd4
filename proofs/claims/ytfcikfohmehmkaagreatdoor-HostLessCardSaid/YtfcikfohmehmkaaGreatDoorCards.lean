/-
  DERIVED. GIVEN WITH THE SEED: THE CARDS: each row of YtfcikfohmehmkaaGreatDoorRows.lean that lists a variable, with what it lists TIED to the program's text (the seventh form; the later family's looks); each row that meets fmt, with fmt's text TOLD by the authors' own Lean function (tested against real Go, not proved from fmt's source: count such statements apart). THE CARD IS WHAT COUNTS. Prove the row's statement (the work); the ties are given (YtfcikfohmehmkaaGreatDoorTie.lean); close each card by the builder's one call (the guide's Derived/Test/ToyasCard.lean, 'card_holds'). Laid BY PROGRAM, IN A SANDBOX (cutbox-door.mjs). By AI agents, Wed Nov 11 2026. No macro, syntax, notation, axiom, sorry.
-/
import Derived.Test.YtfcikfohmehmkaaGreatDoorRows
import GoSem.ClaimSeven
namespace Go.Proofs.YtfcikfohmehmkaaGreatDoor
namespace Rows

/-- THE TIED CARD OF 'ferrysliplaw14.HostTables'. -/
def hostTablesCard : Claim7 := { stood := { row := hostTablesRow, standIns := [], harness := (true, "7d18a057058cee008ca96b721be86fae6b4f41bcf0e5c9b7d3dfeed17d94f009"), looks := false }, kinds := [], alts := [], laidByText := true, laidKinds := [.data], laidTests := true, laidLooks := .later }
def HostTablesCardSaid : Prop := Claim7.holds Tryz.pinned (.plain (OpenSpec.ofChange hostTablesSpec)) hostTablesCard

/-- THE TIED CARD OF 'ferrysliplaw14.HostSet'. -/
def hostSetCard : Claim7 := { stood := { row := hostSetRow, standIns := [], harness := (true, "7d18a057058cee008ca96b721be86fae6b4f41bcf0e5c9b7d3dfeed17d94f009"), looks := false }, kinds := [], alts := [], laidByText := true, laidKinds := [.data], laidTests := true, laidLooks := .later }
def HostSetCardSaid : Prop := Claim7.holds Tryz.pinned (.plain (OpenSpec.ofChange hostSetSpec)) hostSetCard

/-- THE TIED CARD OF 'ferrysliplaw14.HostBoth'. -/
def hostBothCard : Claim7 := { stood := { row := hostBothRow, standIns := [], harness := (true, "7d18a057058cee008ca96b721be86fae6b4f41bcf0e5c9b7d3dfeed17d94f009"), looks := false }, kinds := [], alts := [], laidByText := true, laidKinds := [.data], laidTests := true, laidLooks := .later }
def HostBothCardSaid : Prop := Claim7.holds Tryz.pinned (.plain (OpenSpec.ofChange hostBothSpec)) hostBothCard

/-- THE TIED CARD OF 'ferrysliplaw14.HostMarks'. -/
def hostMarksCard : Claim7 := { stood := { row := hostMarksRow, standIns := [], harness := (true, "7d18a057058cee008ca96b721be86fae6b4f41bcf0e5c9b7d3dfeed17d94f009"), looks := false }, kinds := [], alts := [], laidByText := true, laidKinds := [.data], laidTests := true, laidLooks := .later }
def HostMarksCardSaid : Prop := Claim7.holds Tryz.pinned (.plain (OpenSpec.ofChange hostMarksSpec)) hostMarksCard

/-- THE TIED CARD OF 'ferrysliplaw14.HostCounts'. -/
def hostCountsCard : Claim7 := { stood := { row := hostCountsRow, standIns := [], harness := (true, "7d18a057058cee008ca96b721be86fae6b4f41bcf0e5c9b7d3dfeed17d94f009"), looks := false }, kinds := [], alts := [], laidByText := true, laidKinds := [.data], laidTests := true, laidLooks := .later }
def HostCountsCardSaid : Prop := Claim7.holds Tryz.pinned (.plain (OpenSpec.ofChange hostCountsSpec)) hostCountsCard

/-- THE TIED CARD OF 'ferrysliplaw14.HostLess'. -/
def hostLessCard : Claim7 := { stood := { row := hostLessRow, standIns := [], harness := (true, "7d18a057058cee008ca96b721be86fae6b4f41bcf0e5c9b7d3dfeed17d94f009"), looks := false }, kinds := [], alts := [], laidByText := true, laidKinds := [.data], laidTests := true, laidLooks := .later }
def HostLessCardSaid : Prop := Claim7.holds Tryz.pinned (.plain (OpenSpec.ofChange hostLessSpec)) hostLessCard

/-- THE SECOND FORM's CARD OF 'ferrysliplaw14.HostTables'. -/
def hostTablesUptoCard : Claim7 := { stood := { row := hostTablesUptoRow, standIns := [], harness := (true, "7d18a057058cee008ca96b721be86fae6b4f41bcf0e5c9b7d3dfeed17d94f009"), looks := false }, kinds := [], alts := [], laidByText := true, laidKinds := [.data], laidTests := true, laidLooks := .later }
def HostTablesUptoCardSaid : Prop := Claim7.holds Tryz.pinned (.plain (OpenSpec.upto hostTablesSpec)) hostTablesUptoCard

/-- THE SECOND FORM's CARD OF 'ferrysliplaw14.HostSet'. -/
def hostSetUptoCard : Claim7 := { stood := { row := hostSetUptoRow, standIns := [], harness := (true, "7d18a057058cee008ca96b721be86fae6b4f41bcf0e5c9b7d3dfeed17d94f009"), looks := false }, kinds := [], alts := [], laidByText := true, laidKinds := [.data], laidTests := true, laidLooks := .later }
def HostSetUptoCardSaid : Prop := Claim7.holds Tryz.pinned (.plain (OpenSpec.upto hostSetSpec)) hostSetUptoCard

/-- THE SECOND FORM's CARD OF 'ferrysliplaw14.HostBoth'. -/
def hostBothUptoCard : Claim7 := { stood := { row := hostBothUptoRow, standIns := [], harness := (true, "7d18a057058cee008ca96b721be86fae6b4f41bcf0e5c9b7d3dfeed17d94f009"), looks := false }, kinds := [], alts := [], laidByText := true, laidKinds := [.data], laidTests := true, laidLooks := .later }
def HostBothUptoCardSaid : Prop := Claim7.holds Tryz.pinned (.plain (OpenSpec.upto hostBothSpec)) hostBothUptoCard

/-- THE SECOND FORM's CARD OF 'ferrysliplaw14.HostMarks'. -/
def hostMarksUptoCard : Claim7 := { stood := { row := hostMarksUptoRow, standIns := [], harness := (true, "7d18a057058cee008ca96b721be86fae6b4f41bcf0e5c9b7d3dfeed17d94f009"), looks := false }, kinds := [], alts := [], laidByText := true, laidKinds := [.data], laidTests := true, laidLooks := .later }
def HostMarksUptoCardSaid : Prop := Claim7.holds Tryz.pinned (.plain (OpenSpec.upto hostMarksSpec)) hostMarksUptoCard

/-- THE SECOND FORM's CARD OF 'ferrysliplaw14.HostCounts'. -/
def hostCountsUptoCard : Claim7 := { stood := { row := hostCountsUptoRow, standIns := [], harness := (true, "7d18a057058cee008ca96b721be86fae6b4f41bcf0e5c9b7d3dfeed17d94f009"), looks := false }, kinds := [], alts := [], laidByText := true, laidKinds := [.data], laidTests := true, laidLooks := .later }
def HostCountsUptoCardSaid : Prop := Claim7.holds Tryz.pinned (.plain (OpenSpec.upto hostCountsSpec)) hostCountsUptoCard

/-- THE SECOND FORM's CARD OF 'ferrysliplaw14.HostLess'. -/
def hostLessUptoCard : Claim7 := { stood := { row := hostLessUptoRow, standIns := [], harness := (true, "7d18a057058cee008ca96b721be86fae6b4f41bcf0e5c9b7d3dfeed17d94f009"), looks := false }, kinds := [], alts := [], laidByText := true, laidKinds := [.data], laidTests := true, laidLooks := .later }
def HostLessUptoCardSaid : Prop := Claim7.holds Tryz.pinned (.plain (OpenSpec.upto hostLessSpec)) hostLessUptoCard
end Rows
end Go.Proofs.YtfcikfohmehmkaaGreatDoor
