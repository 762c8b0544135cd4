/-
  DERIVED. GIVEN WITH THE SEED: THE CARDS: each row of YtgefbdckngejdaaDoorRows.lean that lists a variable, with what it lists TIED to the program's text (the seventh form; the later family's looks); each row that meets fmt, with fmt's text TOLD by the authors' own Lean function (tested against real Go, not proved from fmt's source: count such statements apart). THE CARD IS WHAT COUNTS. Prove the row's statement (the work); the ties are given (YtgefbdckngejdaaDoorTie.lean); close each card by the builder's one call (the guide's Derived/Test/ToyasCard.lean, 'card_holds'). Laid BY PROGRAM, IN A SANDBOX (cutbox-door.mjs). By AI agents, Wed Nov 11 2026. No macro, syntax, notation, axiom, sorry.
-/
import Derived.Test.YtgefbdckngejdaaDoorRows
import GoSem.ClaimSeven
namespace Go.Proofs.YtgefbdckngejdaaDoor
namespace Rows

/-- THE TIED CARD OF 'ferrysliplaw10.AddrReads'. -/
def addrReadsCard : Claim7 := { stood := { row := addrReadsRow, standIns := [], harness := (true, "7d51d725af6138311274a28730ed78008ffd9277efa4d5015355329d1fc76b92"), looks := false }, kinds := [], alts := [], laidByText := true, laidKinds := [.data, .data, .data], laidTests := true, laidLooks := .later }
def AddrReadsCardSaid : Prop := Claim7.holds Tryd.pinned (.plain (OpenSpec.ofChange addrReadsSpec)) addrReadsCard

/-- THE TIED CARD OF 'ferrysliplaw10.AddrTexts'. -/
def addrTextsCard : Claim7 := { stood := { row := addrTextsRow, standIns := [], harness := (true, "7d51d725af6138311274a28730ed78008ffd9277efa4d5015355329d1fc76b92"), looks := false }, kinds := [], alts := [], laidByText := true, laidKinds := [.data, .data, .data], laidTests := true, laidLooks := .later }
def AddrTextsCardSaid : Prop := Claim7.holds Tryd.pinned (.plain (OpenSpec.ofChange addrTextsSpec)) addrTextsCard

/-- THE TIED CARD OF 'ferrysliplaw10.AddrBack'. -/
def addrBackCard : Claim7 := { stood := { row := addrBackRow, standIns := [], harness := (true, "7d51d725af6138311274a28730ed78008ffd9277efa4d5015355329d1fc76b92"), looks := false }, kinds := [], alts := [], laidByText := true, laidKinds := [.data, .data, .data], laidTests := true, laidLooks := .later }
def AddrBackCardSaid : Prop := Claim7.holds Tryd.pinned (.plain (OpenSpec.ofChange addrBackSpec)) addrBackCard

/-- THE TIED CARD OF 'ferrysliplaw10.AddrFore'. -/
def addrForeCard : Claim7 := { stood := { row := addrForeRow, standIns := [], harness := (true, "7d51d725af6138311274a28730ed78008ffd9277efa4d5015355329d1fc76b92"), looks := false }, kinds := [], alts := [], laidByText := true, laidKinds := [.data, .data, .data], laidTests := true, laidLooks := .later }
def AddrForeCardSaid : Prop := Claim7.holds Tryd.pinned (.plain (OpenSpec.ofChange addrForeSpec)) addrForeCard

/-- THE TIED CARD OF 'ferrysliplaw10.AddrIn'. -/
def addrInCard : Claim7 := { stood := { row := addrInRow, standIns := [], harness := (true, "7d51d725af6138311274a28730ed78008ffd9277efa4d5015355329d1fc76b92"), looks := false }, kinds := [], alts := [], laidByText := true, laidKinds := [.data, .data, .data], laidTests := true, laidLooks := .later }
def AddrInCardSaid : Prop := Claim7.holds Tryd.pinned (.plain (OpenSpec.ofChange addrInSpec)) addrInCard

/-- THE TIED CARD OF 'ferrysliplaw10.AddrNums'. -/
def addrNumsCard : Claim7 := { stood := { row := addrNumsRow, standIns := [], harness := (true, "7d51d725af6138311274a28730ed78008ffd9277efa4d5015355329d1fc76b92"), looks := false }, kinds := [], alts := [], laidByText := true, laidKinds := [.data, .data, .data], laidTests := true, laidLooks := .later }
def AddrNumsCardSaid : Prop := Claim7.holds Tryd.pinned (.plain (OpenSpec.ofChange addrNumsSpec)) addrNumsCard

/-- THE TIED CARD OF 'ferrysliplaw10.AddrHalves'. -/
def addrHalvesCard : Claim7 := { stood := { row := addrHalvesRow, standIns := [], harness := (true, "7d51d725af6138311274a28730ed78008ffd9277efa4d5015355329d1fc76b92"), looks := false }, kinds := [], alts := [], laidByText := true, laidKinds := [.data, .data, .data], laidTests := true, laidLooks := .later }
def AddrHalvesCardSaid : Prop := Claim7.holds Tryd.pinned (.plain (OpenSpec.ofChange addrHalvesSpec)) addrHalvesCard

/-- THE SECOND FORM's CARD OF 'ferrysliplaw10.AddrReads'. -/
def addrReadsUptoCard : Claim7 := { stood := { row := addrReadsUptoRow, standIns := [], harness := (true, "7d51d725af6138311274a28730ed78008ffd9277efa4d5015355329d1fc76b92"), looks := false }, kinds := [], alts := [], laidByText := true, laidKinds := [.data, .data, .data], laidTests := true, laidLooks := .later }
def AddrReadsUptoCardSaid : Prop := Claim7.holds Tryd.pinned (.plain (OpenSpec.upto addrReadsSpec)) addrReadsUptoCard

/-- THE SECOND FORM's CARD OF 'ferrysliplaw10.AddrTexts'. -/
def addrTextsUptoCard : Claim7 := { stood := { row := addrTextsUptoRow, standIns := [], harness := (true, "7d51d725af6138311274a28730ed78008ffd9277efa4d5015355329d1fc76b92"), looks := false }, kinds := [], alts := [], laidByText := true, laidKinds := [.data, .data, .data], laidTests := true, laidLooks := .later }
def AddrTextsUptoCardSaid : Prop := Claim7.holds Tryd.pinned (.plain (OpenSpec.upto addrTextsSpec)) addrTextsUptoCard

/-- THE SECOND FORM's CARD OF 'ferrysliplaw10.AddrBack'. -/
def addrBackUptoCard : Claim7 := { stood := { row := addrBackUptoRow, standIns := [], harness := (true, "7d51d725af6138311274a28730ed78008ffd9277efa4d5015355329d1fc76b92"), looks := false }, kinds := [], alts := [], laidByText := true, laidKinds := [.data, .data, .data], laidTests := true, laidLooks := .later }
def AddrBackUptoCardSaid : Prop := Claim7.holds Tryd.pinned (.plain (OpenSpec.upto addrBackSpec)) addrBackUptoCard

/-- THE SECOND FORM's CARD OF 'ferrysliplaw10.AddrFore'. -/
def addrForeUptoCard : Claim7 := { stood := { row := addrForeUptoRow, standIns := [], harness := (true, "7d51d725af6138311274a28730ed78008ffd9277efa4d5015355329d1fc76b92"), looks := false }, kinds := [], alts := [], laidByText := true, laidKinds := [.data, .data, .data], laidTests := true, laidLooks := .later }
def AddrForeUptoCardSaid : Prop := Claim7.holds Tryd.pinned (.plain (OpenSpec.upto addrForeSpec)) addrForeUptoCard

/-- THE SECOND FORM's CARD OF 'ferrysliplaw10.AddrIn'. -/
def addrInUptoCard : Claim7 := { stood := { row := addrInUptoRow, standIns := [], harness := (true, "7d51d725af6138311274a28730ed78008ffd9277efa4d5015355329d1fc76b92"), looks := false }, kinds := [], alts := [], laidByText := true, laidKinds := [.data, .data, .data], laidTests := true, laidLooks := .later }
def AddrInUptoCardSaid : Prop := Claim7.holds Tryd.pinned (.plain (OpenSpec.upto addrInSpec)) addrInUptoCard

/-- THE SECOND FORM's CARD OF 'ferrysliplaw10.AddrNums'. -/
def addrNumsUptoCard : Claim7 := { stood := { row := addrNumsUptoRow, standIns := [], harness := (true, "7d51d725af6138311274a28730ed78008ffd9277efa4d5015355329d1fc76b92"), looks := false }, kinds := [], alts := [], laidByText := true, laidKinds := [.data, .data, .data], laidTests := true, laidLooks := .later }
def AddrNumsUptoCardSaid : Prop := Claim7.holds Tryd.pinned (.plain (OpenSpec.upto addrNumsSpec)) addrNumsUptoCard

/-- THE SECOND FORM's CARD OF 'ferrysliplaw10.AddrHalves'. -/
def addrHalvesUptoCard : Claim7 := { stood := { row := addrHalvesUptoRow, standIns := [], harness := (true, "7d51d725af6138311274a28730ed78008ffd9277efa4d5015355329d1fc76b92"), looks := false }, kinds := [], alts := [], laidByText := true, laidKinds := [.data, .data, .data], laidTests := true, laidLooks := .later }
def AddrHalvesUptoCardSaid : Prop := Claim7.holds Tryd.pinned (.plain (OpenSpec.upto addrHalvesSpec)) addrHalvesUptoCard
end Rows
end Go.Proofs.YtgefbdckngejdaaDoor
