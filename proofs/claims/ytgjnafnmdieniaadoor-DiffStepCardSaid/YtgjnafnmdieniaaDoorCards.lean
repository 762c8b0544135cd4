/-
  DERIVED. GIVEN WITH THE SEED: THE CARDS: each row of YtgjnafnmdieniaaDoorRows.lean that lists a variable, with what it lists TIED to the program's text (the seventh form; the later family's looks); each row that meets fmt, with fmt's text TOLD by the authors' own Lean function (tested against real Go, not proved from fmt's source: count such statements apart). THE CARD IS WHAT COUNTS. Prove the row's statement (the work); the ties are given (YtgjnafnmdieniaaDoorTie.lean); close each card by the builder's one call (the guide's Derived/Test/ToyasCard.lean, 'card_holds'). Laid BY PROGRAM, IN A SANDBOX (cutbox-door.mjs). By AI agents, Wed Nov 11 2026. No macro, syntax, notation, axiom, sorry.
-/
import Derived.Test.YtgjnafnmdieniaaDoorRows
import GoSem.ClaimSeven
namespace Go.Proofs.YtgjnafnmdieniaaDoor
namespace Rows

/-- THE TIED CARD OF 'ferrysliplaw08.DiffOf'. -/
def diffOfCard : Claim7 := { stood := { row := diffOfRow, standIns := [], harness := (true, "da85e0b8c9a7cbebda89bcc96ab79acd3123cef58ccea0cca79320a18442a515"), looks := false }, kinds := [], alts := [], laidByText := true, laidKinds := [.data, .data, .data], laidTests := true, laidLooks := .later }
def DiffOfCardSaid : Prop := Claim7.holds Tryd.pinned (.plain (OpenSpec.ofChange diffOfSpec)) diffOfCard

/-- THE TIED CARD OF 'ferrysliplaw08.DiffMakes'. -/
def diffMakesCard : Claim7 := { stood := { row := diffMakesRow, standIns := [], harness := (true, "da85e0b8c9a7cbebda89bcc96ab79acd3123cef58ccea0cca79320a18442a515"), looks := false }, kinds := [], alts := [], laidByText := true, laidKinds := [.data, .data, .data], laidTests := true, laidLooks := .later }
def DiffMakesCardSaid : Prop := Claim7.holds Tryd.pinned (.plain (OpenSpec.ofChange diffMakesSpec)) diffMakesCard

/-- THE TIED CARD OF 'ferrysliplaw08.DiffBack'. -/
def diffBackCard : Claim7 := { stood := { row := diffBackRow, standIns := [], harness := (true, "da85e0b8c9a7cbebda89bcc96ab79acd3123cef58ccea0cca79320a18442a515"), looks := false }, kinds := [], alts := [], laidByText := true, laidKinds := [.data, .data, .data], laidTests := true, laidLooks := .later }
def DiffBackCardSaid : Prop := Claim7.holds Tryd.pinned (.plain (OpenSpec.ofChange diffBackSpec)) diffBackCard

/-- THE TIED CARD OF 'ferrysliplaw08.DiffText'. -/
def diffTextCard : Claim7 := { stood := { row := diffTextRow, standIns := [], harness := (true, "da85e0b8c9a7cbebda89bcc96ab79acd3123cef58ccea0cca79320a18442a515"), looks := false }, kinds := [], alts := [], laidByText := true, laidKinds := [.data, .data, .data], laidTests := true, laidLooks := .later }
def DiffTextCardSaid : Prop := Claim7.holds Tryd.pinned (.plain (OpenSpec.ofChange diffTextSpec)) diffTextCard

/-- THE TIED CARD OF 'ferrysliplaw08.DiffOnce'. -/
def diffOnceCard : Claim7 := { stood := { row := diffOnceRow, standIns := [], harness := (true, "da85e0b8c9a7cbebda89bcc96ab79acd3123cef58ccea0cca79320a18442a515"), looks := false }, kinds := [], alts := [], laidByText := true, laidKinds := [.data, .data, .data], laidTests := true, laidLooks := .later }
def DiffOnceCardSaid : Prop := Claim7.holds Tryd.pinned (.plain (OpenSpec.ofChange diffOnceSpec)) diffOnceCard

/-- THE TIED CARD OF 'ferrysliplaw08.DiffStep'. -/
def diffStepCard : Claim7 := { stood := { row := diffStepRow, standIns := [], harness := (true, "da85e0b8c9a7cbebda89bcc96ab79acd3123cef58ccea0cca79320a18442a515"), looks := false }, kinds := [], alts := [], laidByText := true, laidKinds := [.data, .data, .data], laidTests := true, laidLooks := .later }
def DiffStepCardSaid : Prop := Claim7.holds Tryd.pinned (.plain (OpenSpec.ofChange diffStepSpec)) diffStepCard

/-- THE SECOND FORM's CARD OF 'ferrysliplaw08.DiffOf'. -/
def diffOfUptoCard : Claim7 := { stood := { row := diffOfUptoRow, standIns := [], harness := (true, "da85e0b8c9a7cbebda89bcc96ab79acd3123cef58ccea0cca79320a18442a515"), looks := false }, kinds := [], alts := [], laidByText := true, laidKinds := [.data, .data, .data], laidTests := true, laidLooks := .later }
def DiffOfUptoCardSaid : Prop := Claim7.holds Tryd.pinned (.plain (OpenSpec.upto diffOfSpec)) diffOfUptoCard

/-- THE SECOND FORM's CARD OF 'ferrysliplaw08.DiffMakes'. -/
def diffMakesUptoCard : Claim7 := { stood := { row := diffMakesUptoRow, standIns := [], harness := (true, "da85e0b8c9a7cbebda89bcc96ab79acd3123cef58ccea0cca79320a18442a515"), looks := false }, kinds := [], alts := [], laidByText := true, laidKinds := [.data, .data, .data], laidTests := true, laidLooks := .later }
def DiffMakesUptoCardSaid : Prop := Claim7.holds Tryd.pinned (.plain (OpenSpec.upto diffMakesSpec)) diffMakesUptoCard

/-- THE SECOND FORM's CARD OF 'ferrysliplaw08.DiffBack'. -/
def diffBackUptoCard : Claim7 := { stood := { row := diffBackUptoRow, standIns := [], harness := (true, "da85e0b8c9a7cbebda89bcc96ab79acd3123cef58ccea0cca79320a18442a515"), looks := false }, kinds := [], alts := [], laidByText := true, laidKinds := [.data, .data, .data], laidTests := true, laidLooks := .later }
def DiffBackUptoCardSaid : Prop := Claim7.holds Tryd.pinned (.plain (OpenSpec.upto diffBackSpec)) diffBackUptoCard

/-- THE SECOND FORM's CARD OF 'ferrysliplaw08.DiffText'. -/
def diffTextUptoCard : Claim7 := { stood := { row := diffTextUptoRow, standIns := [], harness := (true, "da85e0b8c9a7cbebda89bcc96ab79acd3123cef58ccea0cca79320a18442a515"), looks := false }, kinds := [], alts := [], laidByText := true, laidKinds := [.data, .data, .data], laidTests := true, laidLooks := .later }
def DiffTextUptoCardSaid : Prop := Claim7.holds Tryd.pinned (.plain (OpenSpec.upto diffTextSpec)) diffTextUptoCard

/-- THE SECOND FORM's CARD OF 'ferrysliplaw08.DiffOnce'. -/
def diffOnceUptoCard : Claim7 := { stood := { row := diffOnceUptoRow, standIns := [], harness := (true, "da85e0b8c9a7cbebda89bcc96ab79acd3123cef58ccea0cca79320a18442a515"), looks := false }, kinds := [], alts := [], laidByText := true, laidKinds := [.data, .data, .data], laidTests := true, laidLooks := .later }
def DiffOnceUptoCardSaid : Prop := Claim7.holds Tryd.pinned (.plain (OpenSpec.upto diffOnceSpec)) diffOnceUptoCard

/-- THE SECOND FORM's CARD OF 'ferrysliplaw08.DiffStep'. -/
def diffStepUptoCard : Claim7 := { stood := { row := diffStepUptoRow, standIns := [], harness := (true, "da85e0b8c9a7cbebda89bcc96ab79acd3123cef58ccea0cca79320a18442a515"), looks := false }, kinds := [], alts := [], laidByText := true, laidKinds := [.data, .data, .data], laidTests := true, laidLooks := .later }
def DiffStepUptoCardSaid : Prop := Claim7.holds Tryd.pinned (.plain (OpenSpec.upto diffStepSpec)) diffStepUptoCard
end Rows
end Go.Proofs.YtgjnafnmdieniaaDoor
