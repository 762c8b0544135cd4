/-
  DERIVED. GIVEN WITH THE SEED: THE CARDS: each row of YtgjfjjdljngklaaDoorRows.lean that lists a variable, with what it lists TIED to the program's text (the seventh form; the later family's looks); each row that meets fmt, with fmt's text TOLD by the authors' own Lean function (tested against real Go, not proved from fmt's source: count such statements apart). THE CARD IS WHAT COUNTS. Prove the row's statement (the work); the ties are given (YtgjfjjdljngklaaDoorTie.lean); close each card by the builder's one call (the guide's Derived/Test/ToyasCard.lean, 'card_holds'). Laid BY PROGRAM, IN A SANDBOX (cutbox-door.mjs). By AI agents, Wed Nov 11 2026. No macro, syntax, notation, axiom, sorry.
-/
import Derived.Test.YtgjfjjdljngklaaDoorRows
import GoSem.ClaimSeven
namespace Go.Proofs.YtgjfjjdljngklaaDoor
namespace Rows

/-- THE TIED CARD OF 'ferrysliplaw11.MetricRanks'. -/
def metricRanksCard : Claim7 := { stood := { row := metricRanksRow, standIns := [], harness := (true, "24e53df81aa0f875e2139b6de6ea71f6f5ef384763c5b3ec7a1e1b89542626fc"), looks := false }, kinds := [], alts := [], laidByText := true, laidKinds := [.data, .data, .data, .data, .pinned], laidTests := true, laidLooks := .later }
def MetricRanksCardSaid : Prop := Claim7.holds Tryd.pinned (.plain (OpenSpec.ofChange metricRanksSpec)) metricRanksCard

/-- THE TIED CARD OF 'ferrysliplaw11.MetricReads'. -/
def metricReadsCard : Claim7 := { stood := { row := metricReadsRow, standIns := [], harness := (true, "24e53df81aa0f875e2139b6de6ea71f6f5ef384763c5b3ec7a1e1b89542626fc"), looks := false }, kinds := [], alts := [], laidByText := true, laidKinds := [.data, .data, .data, .data, .pinned], laidTests := true, laidLooks := .later }
def MetricReadsCardSaid : Prop := Claim7.holds Tryd.pinned (.plain (OpenSpec.ofChange metricReadsSpec)) metricReadsCard

/-- THE TIED CARD OF 'ferrysliplaw11.MetricTexts'. -/
def metricTextsCard : Claim7 := { stood := { row := metricTextsRow, standIns := [], harness := (true, "24e53df81aa0f875e2139b6de6ea71f6f5ef384763c5b3ec7a1e1b89542626fc"), looks := false }, kinds := [], alts := [], laidByText := true, laidKinds := [.data, .data, .data, .data, .pinned], laidTests := true, laidLooks := .later }
def MetricTextsCardSaid : Prop := Claim7.holds Tryd.pinned (.plain (OpenSpec.ofChange metricTextsSpec)) metricTextsCard

/-- THE TIED CARD OF 'ferrysliplaw11.MetricBack'. -/
def metricBackCard : Claim7 := { stood := { row := metricBackRow, standIns := [], harness := (true, "24e53df81aa0f875e2139b6de6ea71f6f5ef384763c5b3ec7a1e1b89542626fc"), looks := false }, kinds := [], alts := [], laidByText := true, laidKinds := [.data, .data, .data, .data, .pinned], laidTests := true, laidLooks := .later }
def MetricBackCardSaid : Prop := Claim7.holds Tryd.pinned (.plain (OpenSpec.ofChange metricBackSpec)) metricBackCard

/-- THE TIED CARD OF 'ferrysliplaw11.MetricLeast'. -/
def metricLeastCard : Claim7 := { stood := { row := metricLeastRow, standIns := [], harness := (true, "24e53df81aa0f875e2139b6de6ea71f6f5ef384763c5b3ec7a1e1b89542626fc"), looks := false }, kinds := [], alts := [], laidByText := true, laidKinds := [.data, .data, .data, .data, .pinned], laidTests := true, laidLooks := .later }
def MetricLeastCardSaid : Prop := Claim7.holds Tryd.pinned (.plain (OpenSpec.ofChange metricLeastSpec)) metricLeastCard

/-- THE TIED CARD OF 'ferrysliplaw11.MetricOrder'. -/
def metricOrderCard : Claim7 := { stood := { row := metricOrderRow, standIns := [], harness := (true, "24e53df81aa0f875e2139b6de6ea71f6f5ef384763c5b3ec7a1e1b89542626fc"), looks := false }, kinds := [], alts := [], laidByText := true, laidKinds := [.data, .data, .data, .data, .pinned], laidTests := true, laidLooks := .later }
def MetricOrderCardSaid : Prop := Claim7.holds Tryd.pinned (.plain (OpenSpec.ofChange metricOrderSpec)) metricOrderCard

/-- THE TIED CARD OF 'ferrysliplaw11.MetricSums'. -/
def metricSumsCard : Claim7 := { stood := { row := metricSumsRow, standIns := [], harness := (true, "24e53df81aa0f875e2139b6de6ea71f6f5ef384763c5b3ec7a1e1b89542626fc"), looks := false }, kinds := [], alts := [], laidByText := true, laidKinds := [.data, .data, .data, .data, .pinned], laidTests := true, laidLooks := .later }
def MetricSumsCardSaid : Prop := Claim7.holds Tryd.pinned (.plain (OpenSpec.ofChange metricSumsSpec)) metricSumsCard

/-- THE TIED CARD OF 'ferrysliplaw11.MetricThousand'. -/
def metricThousandCard : Claim7 := { stood := { row := metricThousandRow, standIns := [], harness := (true, "24e53df81aa0f875e2139b6de6ea71f6f5ef384763c5b3ec7a1e1b89542626fc"), looks := false }, kinds := [], alts := [], laidByText := true, laidKinds := [.data, .data, .data, .data, .pinned], laidTests := true, laidLooks := .later }
def MetricThousandCardSaid : Prop := Claim7.holds Tryd.pinned (.plain (OpenSpec.ofChange metricThousandSpec)) metricThousandCard

/-- THE TIED CARD OF 'ferrysliplaw11.MetricAdds'. -/
def metricAddsCard : Claim7 := { stood := { row := metricAddsRow, standIns := [], harness := (true, "24e53df81aa0f875e2139b6de6ea71f6f5ef384763c5b3ec7a1e1b89542626fc"), looks := false }, kinds := [], alts := [], laidByText := true, laidKinds := [.data, .data, .data, .data, .pinned], laidTests := true, laidLooks := .later }
def MetricAddsCardSaid : Prop := Claim7.holds Tryd.pinned (.plain (OpenSpec.ofChange metricAddsSpec)) metricAddsCard

/-- THE SECOND FORM's CARD OF 'ferrysliplaw11.MetricRanks'. -/
def metricRanksUptoCard : Claim7 := { stood := { row := metricRanksUptoRow, standIns := [], harness := (true, "24e53df81aa0f875e2139b6de6ea71f6f5ef384763c5b3ec7a1e1b89542626fc"), looks := false }, kinds := [], alts := [], laidByText := true, laidKinds := [.data, .data, .data, .data, .pinned], laidTests := true, laidLooks := .later }
def MetricRanksUptoCardSaid : Prop := Claim7.holds Tryd.pinned (.plain (OpenSpec.upto metricRanksSpec)) metricRanksUptoCard

/-- THE SECOND FORM's CARD OF 'ferrysliplaw11.MetricReads'. -/
def metricReadsUptoCard : Claim7 := { stood := { row := metricReadsUptoRow, standIns := [], harness := (true, "24e53df81aa0f875e2139b6de6ea71f6f5ef384763c5b3ec7a1e1b89542626fc"), looks := false }, kinds := [], alts := [], laidByText := true, laidKinds := [.data, .data, .data, .data, .pinned], laidTests := true, laidLooks := .later }
def MetricReadsUptoCardSaid : Prop := Claim7.holds Tryd.pinned (.plain (OpenSpec.upto metricReadsSpec)) metricReadsUptoCard

/-- THE SECOND FORM's CARD OF 'ferrysliplaw11.MetricTexts'. -/
def metricTextsUptoCard : Claim7 := { stood := { row := metricTextsUptoRow, standIns := [], harness := (true, "24e53df81aa0f875e2139b6de6ea71f6f5ef384763c5b3ec7a1e1b89542626fc"), looks := false }, kinds := [], alts := [], laidByText := true, laidKinds := [.data, .data, .data, .data, .pinned], laidTests := true, laidLooks := .later }
def MetricTextsUptoCardSaid : Prop := Claim7.holds Tryd.pinned (.plain (OpenSpec.upto metricTextsSpec)) metricTextsUptoCard

/-- THE SECOND FORM's CARD OF 'ferrysliplaw11.MetricBack'. -/
def metricBackUptoCard : Claim7 := { stood := { row := metricBackUptoRow, standIns := [], harness := (true, "24e53df81aa0f875e2139b6de6ea71f6f5ef384763c5b3ec7a1e1b89542626fc"), looks := false }, kinds := [], alts := [], laidByText := true, laidKinds := [.data, .data, .data, .data, .pinned], laidTests := true, laidLooks := .later }
def MetricBackUptoCardSaid : Prop := Claim7.holds Tryd.pinned (.plain (OpenSpec.upto metricBackSpec)) metricBackUptoCard

/-- THE SECOND FORM's CARD OF 'ferrysliplaw11.MetricLeast'. -/
def metricLeastUptoCard : Claim7 := { stood := { row := metricLeastUptoRow, standIns := [], harness := (true, "24e53df81aa0f875e2139b6de6ea71f6f5ef384763c5b3ec7a1e1b89542626fc"), looks := false }, kinds := [], alts := [], laidByText := true, laidKinds := [.data, .data, .data, .data, .pinned], laidTests := true, laidLooks := .later }
def MetricLeastUptoCardSaid : Prop := Claim7.holds Tryd.pinned (.plain (OpenSpec.upto metricLeastSpec)) metricLeastUptoCard

/-- THE SECOND FORM's CARD OF 'ferrysliplaw11.MetricOrder'. -/
def metricOrderUptoCard : Claim7 := { stood := { row := metricOrderUptoRow, standIns := [], harness := (true, "24e53df81aa0f875e2139b6de6ea71f6f5ef384763c5b3ec7a1e1b89542626fc"), looks := false }, kinds := [], alts := [], laidByText := true, laidKinds := [.data, .data, .data, .data, .pinned], laidTests := true, laidLooks := .later }
def MetricOrderUptoCardSaid : Prop := Claim7.holds Tryd.pinned (.plain (OpenSpec.upto metricOrderSpec)) metricOrderUptoCard

/-- THE SECOND FORM's CARD OF 'ferrysliplaw11.MetricSums'. -/
def metricSumsUptoCard : Claim7 := { stood := { row := metricSumsUptoRow, standIns := [], harness := (true, "24e53df81aa0f875e2139b6de6ea71f6f5ef384763c5b3ec7a1e1b89542626fc"), looks := false }, kinds := [], alts := [], laidByText := true, laidKinds := [.data, .data, .data, .data, .pinned], laidTests := true, laidLooks := .later }
def MetricSumsUptoCardSaid : Prop := Claim7.holds Tryd.pinned (.plain (OpenSpec.upto metricSumsSpec)) metricSumsUptoCard

/-- THE SECOND FORM's CARD OF 'ferrysliplaw11.MetricThousand'. -/
def metricThousandUptoCard : Claim7 := { stood := { row := metricThousandUptoRow, standIns := [], harness := (true, "24e53df81aa0f875e2139b6de6ea71f6f5ef384763c5b3ec7a1e1b89542626fc"), looks := false }, kinds := [], alts := [], laidByText := true, laidKinds := [.data, .data, .data, .data, .pinned], laidTests := true, laidLooks := .later }
def MetricThousandUptoCardSaid : Prop := Claim7.holds Tryd.pinned (.plain (OpenSpec.upto metricThousandSpec)) metricThousandUptoCard

/-- THE SECOND FORM's CARD OF 'ferrysliplaw11.MetricAdds'. -/
def metricAddsUptoCard : Claim7 := { stood := { row := metricAddsUptoRow, standIns := [], harness := (true, "24e53df81aa0f875e2139b6de6ea71f6f5ef384763c5b3ec7a1e1b89542626fc"), looks := false }, kinds := [], alts := [], laidByText := true, laidKinds := [.data, .data, .data, .data, .pinned], laidTests := true, laidLooks := .later }
def MetricAddsUptoCardSaid : Prop := Claim7.holds Tryd.pinned (.plain (OpenSpec.upto metricAddsSpec)) metricAddsUptoCard
end Rows
end Go.Proofs.YtgjfjjdljngklaaDoor
