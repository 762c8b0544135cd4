/-
  NARROWER THAN 'FOR EVERY INPUT', by the rows' own cells (each row's printed sentence says how): HostTables: laid · HostSet: laid · HostBoth: laid · HostMarks: laid · HostCounts: laid · HostLess: laid.
  DERIVED. THE GIVEN ROWS OF THIS SEAT. 6 by the template 'for every input the law returns true; each argument reads behind the call as it read before'; 0 by the template 'total and deterministic' (their statements: YtfcikfohmehmkaaGreatDoorTotals.lean).
  GIVEN WITH THE SEED: the statements are not yours to turn. If you find one false, say at which input.
  Laid BY PROGRAM, IN A SANDBOX (cutbox-rows.mjs): the forced cells as the released guide's own fill.sh prints them over the translation 5eee0f7b9f58d827… (all of the seat's roots in one cut). By AI agents, Wed Nov 11 2026. No macro, syntax, notation, axiom, sorry.
-/
import Derived.Test.YtfcikfohmehmkaaGreatDoorChecked
import GoSem.Claim
import GoSem.ClaimJoined
import GoSem.ClaimMapViews
import Derived.JoinedTies
import Derived.KernelRfl
namespace Go.Proofs.YtfcikfohmehmkaaGreatDoor
/- THE CELL 'sum', in the pinned program and in every row, IS THE sha256 OF THE DUMP (.gsa) THAT YtfcikfohmehmkaaGreatDoorProg.lean LOADS. Nothing in Lean hashes anything: it is a label: what it is worth is what the hold of that sum in a sandbox is worth. -/
noncomputable def Tryz.pinned : Pinned := { name := "ytfcikfohmehmkaagreatdoor", sum := "5eee0f7b9f58d82774363fe40261ad1f7a89655763d54a24630a0a9386873534", checked := Tryz.checked }
namespace Rows
def none {H : Type} : Left H := { results := [], args := [] }

/- WHAT THE LISTED PACKAGE-LEVEL VARIABLES READ AS WHEN THE CALL BEGINS. Each datum BY PROGRAM (the guide's laid-datum.mjs) off the statement by which the dump's own 'gosem.cut.vars' lays the variable. In a bare row this is a premise. The card (YtfcikfohmehmkaaGreatDoorCards.lean) ties it to the program's text. -/
def laid_ferryslip_schema_rows {H : Type} : DataW H := .agg [.agg [.lit (.string [104, 111, 115, 116, 115]), .lit (.string [36, 110, 97, 109, 101]), .lit (.bool false), .lit (.bool false)], .agg [.lit (.string [104, 111, 115, 116, 115, 32, 36, 110, 97, 109, 101, 32, 105, 112]), .lit (.string [36, 105, 112]), .lit (.bool true), .lit (.bool true)], .agg [.lit (.string [104, 111, 115, 116, 115, 32, 36, 110, 97, 109, 101, 32, 109, 97, 99]), .lit (.string [36, 109, 97, 99]), .lit (.bool true), .lit (.bool false)], .agg [.lit (.string [104, 111, 115, 116, 115, 32, 36, 110, 97, 109, 101, 32, 118, 110, 105, 115]), .lit (.string [36, 118, 110, 105]), .lit (.bool false), .lit (.bool false)], .agg [.lit (.string [118, 110, 105, 115]), .lit (.string [36, 118, 110, 105]), .lit (.bool false), .lit (.bool false)], .agg [.lit (.string [118, 110, 105, 115, 32, 36, 118, 110, 105, 32, 115, 117, 98, 110, 101, 116]), .lit (.string [36, 112, 114, 101, 102, 105, 120]), .lit (.bool true), .lit (.bool true)], .agg [.lit (.string [98, 105, 110, 100, 105, 110, 103, 115]), .lit (.string [36, 105, 112]), .lit (.bool false), .lit (.bool false)], .agg [.lit (.string [98, 105, 110, 100, 105, 110, 103, 115, 32, 36, 105, 112, 32, 104, 111, 115, 116]), .lit (.string [36, 110, 97, 109, 101]), .lit (.bool true), .lit (.bool true)], .agg [.lit (.string [98, 105, 110, 100, 105, 110, 103, 115, 32, 36, 105, 112, 32, 109, 97, 99]), .lit (.string [36, 109, 97, 99]), .lit (.bool true), .lit (.bool true)], .agg [.lit (.string [98, 105, 110, 100, 105, 110, 103, 115, 32, 36, 105, 112, 32, 118, 110, 105]), .lit (.string [36, 118, 110, 105]), .lit (.bool true), .lit (.bool true)], .agg [.lit (.string [114, 111, 117, 116, 101, 115]), .lit (.string [36, 112, 114, 101, 102, 105, 120]), .lit (.bool false), .lit (.bool false)], .agg [.lit (.string [114, 111, 117, 116, 101, 115, 32, 36, 112, 114, 101, 102, 105, 120, 32, 118, 105, 97]), .lit (.string [36, 110, 97, 109, 101]), .lit (.bool true), .lit (.bool true)], .agg [.lit (.string [114, 111, 117, 116, 101, 115, 32, 36, 112, 114, 101, 102, 105, 120, 32, 109, 101, 116, 114, 105, 99]), .lit (.string [36, 109, 101, 116, 114, 105, 99]), .lit (.bool true), .lit (.bool false)], .agg [.lit (.string [112, 111, 108, 105, 99, 121]), .lit (.string [36, 110, 117, 109]), .lit (.bool false), .lit (.bool false)], .agg [.lit (.string [112, 111, 108, 105, 99, 121, 32, 36, 110, 117, 109, 32, 97, 99, 116, 105, 111, 110]), .lit (.string [36, 97, 99, 116, 105, 111, 110]), .lit (.bool true), .lit (.bool true)], .agg [.lit (.string [112, 111, 108, 105, 99, 121, 32, 36, 110, 117, 109, 32, 102, 114, 111, 109]), .lit (.string [36, 112, 114, 101, 102, 105, 120]), .lit (.bool true), .lit (.bool false)], .agg [.lit (.string [112, 111, 108, 105, 99, 121, 32, 36, 110, 117, 109, 32, 116, 111]), .lit (.string [36, 112, 114, 101, 102, 105, 120]), .lit (.bool true), .lit (.bool false)]]

/-- 'ferrysliplaw14.HostTables': WHATEVER THE INPUT: true; the input reads as it did. -/
def hostTablesSpec : ChangeSpec := { name := "hostTables", fn := fun _ => fun
  | [d] => { results := [.lit (.bool true)], args := [d] }
  | _ => none }
def hostTablesRow : OpenClaim := { program := "ytfcikfohmehmkaagreatdoor", sum := "5eee0f7b9f58d82774363fe40261ad1f7a89655763d54a24630a0a9386873534", func := "ferryslip/ferrysliplaw14.HostTables", spec := "hostTables", inPlace := ["internal/bytealg.IndexByteString", "internal/bytealg.IndexString", "math.Float64frombits", "math.Float64bits", "internal/abi.NoEscape", "internal/bytealg.MakeNoZero", "internal/bytealg.abigen_runtime_cmpstring"], unfollowed := true, recurses := true, named := ["ferryslip/schema.rows", "internal/bytealg.MaxLen"], apart := false, laid := [("ferryslip/schema.rows", laid_ferryslip_schema_rows)] }
def HostTablesSaid : Prop := hostTablesRow.holds Tryz.pinned (OpenSpec.ofChange hostTablesSpec)

/-- ITS FALSE NEIGHBOUR: 'it returns false'. Refute it at one input. -/
def hostTablesWrong : ChangeSpec := { name := "hostTables", fn := fun _ => fun
  | [d] => { results := [.lit (.bool false)], args := [d] }
  | _ => none }
def HostTablesWrongFalsely : Prop := hostTablesRow.holds Tryz.pinned (OpenSpec.ofChange hostTablesWrong)

/-- 'ferrysliplaw14.HostSet': WHATEVER THE INPUT: true; the input reads as it did. -/
def hostSetSpec : ChangeSpec := { name := "hostSet", fn := fun _ => fun
  | [d1, d2, d3] => { results := [.lit (.bool true)], args := [d1, d2, d3] }
  | _ => none }
def hostSetRow : OpenClaim := { program := "ytfcikfohmehmkaagreatdoor", sum := "5eee0f7b9f58d82774363fe40261ad1f7a89655763d54a24630a0a9386873534", func := "ferryslip/ferrysliplaw14.HostSet", spec := "hostSet", inPlace := ["internal/bytealg.IndexByteString", "internal/bytealg.IndexString", "math.Float64frombits", "math.Float64bits", "internal/abi.NoEscape", "internal/bytealg.MakeNoZero", "internal/bytealg.abigen_runtime_cmpstring"], unfollowed := true, recurses := true, named := ["ferryslip/schema.rows", "internal/bytealg.MaxLen"], apart := false, laid := [("ferryslip/schema.rows", laid_ferryslip_schema_rows)] }
def HostSetSaid : Prop := hostSetRow.holds Tryz.pinned (OpenSpec.ofChange hostSetSpec)

/-- ITS FALSE NEIGHBOUR: 'it returns false'. Refute it at one input. -/
def hostSetWrong : ChangeSpec := { name := "hostSet", fn := fun _ => fun
  | [d1, d2, d3] => { results := [.lit (.bool false)], args := [d1, d2, d3] }
  | _ => none }
def HostSetWrongFalsely : Prop := hostSetRow.holds Tryz.pinned (OpenSpec.ofChange hostSetWrong)

/-- 'ferrysliplaw14.HostBoth': WHATEVER THE INPUT: true; the input reads as it did. -/
def hostBothSpec : ChangeSpec := { name := "hostBoth", fn := fun _ => fun
  | [d] => { results := [.lit (.bool true)], args := [d] }
  | _ => none }
def hostBothRow : OpenClaim := { program := "ytfcikfohmehmkaagreatdoor", sum := "5eee0f7b9f58d82774363fe40261ad1f7a89655763d54a24630a0a9386873534", func := "ferryslip/ferrysliplaw14.HostBoth", spec := "hostBoth", inPlace := ["internal/bytealg.IndexByteString", "internal/bytealg.IndexString", "math.Float64frombits", "math.Float64bits", "internal/abi.NoEscape", "internal/bytealg.MakeNoZero", "internal/bytealg.abigen_runtime_cmpstring"], unfollowed := true, recurses := true, named := ["ferryslip/schema.rows", "internal/bytealg.MaxLen"], apart := false, laid := [("ferryslip/schema.rows", laid_ferryslip_schema_rows)] }
def HostBothSaid : Prop := hostBothRow.holds Tryz.pinned (OpenSpec.ofChange hostBothSpec)

/-- ITS FALSE NEIGHBOUR: 'it returns false'. Refute it at one input. -/
def hostBothWrong : ChangeSpec := { name := "hostBoth", fn := fun _ => fun
  | [d] => { results := [.lit (.bool false)], args := [d] }
  | _ => none }
def HostBothWrongFalsely : Prop := hostBothRow.holds Tryz.pinned (OpenSpec.ofChange hostBothWrong)

/-- 'ferrysliplaw14.HostMarks': WHATEVER THE INPUT: true; the input reads as it did. -/
def hostMarksSpec : ChangeSpec := { name := "hostMarks", fn := fun _ => fun
  | [d] => { results := [.lit (.bool true)], args := [d] }
  | _ => none }
def hostMarksRow : OpenClaim := { program := "ytfcikfohmehmkaagreatdoor", sum := "5eee0f7b9f58d82774363fe40261ad1f7a89655763d54a24630a0a9386873534", func := "ferryslip/ferrysliplaw14.HostMarks", spec := "hostMarks", inPlace := ["internal/bytealg.IndexByteString", "internal/bytealg.IndexString", "math.Float64frombits", "math.Float64bits", "internal/abi.NoEscape", "internal/bytealg.MakeNoZero", "internal/bytealg.abigen_runtime_cmpstring"], unfollowed := true, recurses := true, named := ["ferryslip/schema.rows", "internal/bytealg.MaxLen"], apart := false, laid := [("ferryslip/schema.rows", laid_ferryslip_schema_rows)] }
def HostMarksSaid : Prop := hostMarksRow.holds Tryz.pinned (OpenSpec.ofChange hostMarksSpec)

/-- ITS FALSE NEIGHBOUR: 'it returns false'. Refute it at one input. -/
def hostMarksWrong : ChangeSpec := { name := "hostMarks", fn := fun _ => fun
  | [d] => { results := [.lit (.bool false)], args := [d] }
  | _ => none }
def HostMarksWrongFalsely : Prop := hostMarksRow.holds Tryz.pinned (OpenSpec.ofChange hostMarksWrong)

/-- 'ferrysliplaw14.HostCounts': WHATEVER THE INPUT: true; the input reads as it did. -/
def hostCountsSpec : ChangeSpec := { name := "hostCounts", fn := fun _ => fun
  | [d] => { results := [.lit (.bool true)], args := [d] }
  | _ => none }
def hostCountsRow : OpenClaim := { program := "ytfcikfohmehmkaagreatdoor", sum := "5eee0f7b9f58d82774363fe40261ad1f7a89655763d54a24630a0a9386873534", func := "ferryslip/ferrysliplaw14.HostCounts", spec := "hostCounts", inPlace := ["internal/bytealg.IndexByteString", "internal/bytealg.IndexString", "math.Float64frombits", "math.Float64bits", "internal/abi.NoEscape", "internal/bytealg.MakeNoZero", "internal/bytealg.abigen_runtime_cmpstring"], unfollowed := true, recurses := true, named := ["ferryslip/schema.rows", "internal/bytealg.MaxLen"], apart := false, laid := [("ferryslip/schema.rows", laid_ferryslip_schema_rows)] }
def HostCountsSaid : Prop := hostCountsRow.holds Tryz.pinned (OpenSpec.ofChange hostCountsSpec)

/-- ITS FALSE NEIGHBOUR: 'it returns false'. Refute it at one input. -/
def hostCountsWrong : ChangeSpec := { name := "hostCounts", fn := fun _ => fun
  | [d] => { results := [.lit (.bool false)], args := [d] }
  | _ => none }
def HostCountsWrongFalsely : Prop := hostCountsRow.holds Tryz.pinned (OpenSpec.ofChange hostCountsWrong)

/-- 'ferrysliplaw14.HostLess': WHATEVER THE INPUT: true; the input reads as it did. -/
def hostLessSpec : ChangeSpec := { name := "hostLess", fn := fun _ => fun
  | [d1, d2, d3] => { results := [.lit (.bool true)], args := [d1, d2, d3] }
  | _ => none }
def hostLessRow : OpenClaim := { program := "ytfcikfohmehmkaagreatdoor", sum := "5eee0f7b9f58d82774363fe40261ad1f7a89655763d54a24630a0a9386873534", func := "ferryslip/ferrysliplaw14.HostLess", spec := "hostLess", inPlace := ["internal/bytealg.IndexByteString", "internal/bytealg.IndexString", "math.Float64frombits", "math.Float64bits", "internal/abi.NoEscape", "internal/bytealg.MakeNoZero", "internal/bytealg.abigen_runtime_cmpstring"], unfollowed := true, recurses := true, named := ["ferryslip/schema.rows", "internal/bytealg.MaxLen"], apart := false, laid := [("ferryslip/schema.rows", laid_ferryslip_schema_rows)] }
def HostLessSaid : Prop := hostLessRow.holds Tryz.pinned (OpenSpec.ofChange hostLessSpec)

/-- ITS FALSE NEIGHBOUR: 'it returns false'. Refute it at one input. -/
def hostLessWrong : ChangeSpec := { name := "hostLess", fn := fun _ => fun
  | [d1, d2, d3] => { results := [.lit (.bool false)], args := [d1, d2, d3] }
  | _ => none }
def HostLessWrongFalsely : Prop := hostLessRow.holds Tryz.pinned (OpenSpec.ofChange hostLessWrong)

/- THE SECOND FORM. 'bulk': how many values and letters a reading holds, each counted each time it is reached (what is shared counts as often as it is met; a slice's spare places count too). A statement '..UptoSaid' is the law's where the arguments, and the package variables that the reading takes, are together of bulk at most 1048576: NARROWER than '..Said'. Prove '..Said' where nothing that the law and all that it calls make is longer than what came in: it says more and counts as full. Else prove '..UptoSaid'. A law counts once. -/
mutual
def uptoBulk {H : Type} : DataW H → Nat
  | .lit (.string bytes) => bytes.length + 1
  | .lit _ => 1
  | .nil => 1
  | .ptr d => uptoBulk d + 1
  | .slice elems spare => uptoBulkAll elems + uptoBulkAll spare + 1
  | .agg parts => uptoBulkAll parts + 1
  | .iface _ d => uptoBulk d + 1
  | .map entries => uptoBulkEntries entries + 1
  | .held _ => 1
def uptoBulkAll {H : Type} : List (DataW H) → Nat
  | [] => 0
  | d :: r => uptoBulk d + uptoBulkAll r
def uptoBulkEntries {H : Type} : List (Lit × DataW H) → Nat
  | [] => 0
  | x :: r => uptoBulkEntry x + uptoBulkEntries r
def uptoBulkEntry {H : Type} : Lit × DataW H → Nat
  | (.string bytes, d) => bytes.length + uptoBulk d + 1
  | (_, d) => uptoBulk d + 1
 end
def uptoSmall : (H : Type) → List (DataW H) → Bool := fun _ ds => decide (uptoBulkAll ds ≤ 1048576)
def OpenSpec.upto (s : _root_.Go.ChangeSpec) : _root_.Go.OpenSpec := { _root_.Go.OpenSpec.ofChange s with cond := some uptoSmall }

/-- 'ferrysliplaw14.HostTables', WHERE WHAT IT READS IS OF BULK AT MOST 1048576: true; the input reads as it did. -/
def hostTablesUptoRow : OpenClaim := { program := "ytfcikfohmehmkaagreatdoor", sum := "5eee0f7b9f58d82774363fe40261ad1f7a89655763d54a24630a0a9386873534", func := "ferryslip/ferrysliplaw14.HostTables", spec := "hostTables", inPlace := ["internal/bytealg.IndexByteString", "internal/bytealg.IndexString", "math.Float64frombits", "math.Float64bits", "internal/abi.NoEscape", "internal/bytealg.MakeNoZero", "internal/bytealg.abigen_runtime_cmpstring"], unfollowed := true, recurses := true, named := ["ferryslip/schema.rows", "internal/bytealg.MaxLen"], apart := false, laid := [("ferryslip/schema.rows", laid_ferryslip_schema_rows)], narrowed := true }
def HostTablesUptoSaid : Prop := hostTablesUptoRow.holds Tryz.pinned (OpenSpec.upto hostTablesSpec)

/-- 'ferrysliplaw14.HostSet', WHERE WHAT IT READS IS OF BULK AT MOST 1048576: true; the input reads as it did. -/
def hostSetUptoRow : OpenClaim := { program := "ytfcikfohmehmkaagreatdoor", sum := "5eee0f7b9f58d82774363fe40261ad1f7a89655763d54a24630a0a9386873534", func := "ferryslip/ferrysliplaw14.HostSet", spec := "hostSet", inPlace := ["internal/bytealg.IndexByteString", "internal/bytealg.IndexString", "math.Float64frombits", "math.Float64bits", "internal/abi.NoEscape", "internal/bytealg.MakeNoZero", "internal/bytealg.abigen_runtime_cmpstring"], unfollowed := true, recurses := true, named := ["ferryslip/schema.rows", "internal/bytealg.MaxLen"], apart := false, laid := [("ferryslip/schema.rows", laid_ferryslip_schema_rows)], narrowed := true }
def HostSetUptoSaid : Prop := hostSetUptoRow.holds Tryz.pinned (OpenSpec.upto hostSetSpec)

/-- 'ferrysliplaw14.HostBoth', WHERE WHAT IT READS IS OF BULK AT MOST 1048576: true; the input reads as it did. -/
def hostBothUptoRow : OpenClaim := { program := "ytfcikfohmehmkaagreatdoor", sum := "5eee0f7b9f58d82774363fe40261ad1f7a89655763d54a24630a0a9386873534", func := "ferryslip/ferrysliplaw14.HostBoth", spec := "hostBoth", inPlace := ["internal/bytealg.IndexByteString", "internal/bytealg.IndexString", "math.Float64frombits", "math.Float64bits", "internal/abi.NoEscape", "internal/bytealg.MakeNoZero", "internal/bytealg.abigen_runtime_cmpstring"], unfollowed := true, recurses := true, named := ["ferryslip/schema.rows", "internal/bytealg.MaxLen"], apart := false, laid := [("ferryslip/schema.rows", laid_ferryslip_schema_rows)], narrowed := true }
def HostBothUptoSaid : Prop := hostBothUptoRow.holds Tryz.pinned (OpenSpec.upto hostBothSpec)

/-- 'ferrysliplaw14.HostMarks', WHERE WHAT IT READS IS OF BULK AT MOST 1048576: true; the input reads as it did. -/
def hostMarksUptoRow : OpenClaim := { program := "ytfcikfohmehmkaagreatdoor", sum := "5eee0f7b9f58d82774363fe40261ad1f7a89655763d54a24630a0a9386873534", func := "ferryslip/ferrysliplaw14.HostMarks", spec := "hostMarks", inPlace := ["internal/bytealg.IndexByteString", "internal/bytealg.IndexString", "math.Float64frombits", "math.Float64bits", "internal/abi.NoEscape", "internal/bytealg.MakeNoZero", "internal/bytealg.abigen_runtime_cmpstring"], unfollowed := true, recurses := true, named := ["ferryslip/schema.rows", "internal/bytealg.MaxLen"], apart := false, laid := [("ferryslip/schema.rows", laid_ferryslip_schema_rows)], narrowed := true }
def HostMarksUptoSaid : Prop := hostMarksUptoRow.holds Tryz.pinned (OpenSpec.upto hostMarksSpec)

/-- 'ferrysliplaw14.HostCounts', WHERE WHAT IT READS IS OF BULK AT MOST 1048576: true; the input reads as it did. -/
def hostCountsUptoRow : OpenClaim := { program := "ytfcikfohmehmkaagreatdoor", sum := "5eee0f7b9f58d82774363fe40261ad1f7a89655763d54a24630a0a9386873534", func := "ferryslip/ferrysliplaw14.HostCounts", spec := "hostCounts", inPlace := ["internal/bytealg.IndexByteString", "internal/bytealg.IndexString", "math.Float64frombits", "math.Float64bits", "internal/abi.NoEscape", "internal/bytealg.MakeNoZero", "internal/bytealg.abigen_runtime_cmpstring"], unfollowed := true, recurses := true, named := ["ferryslip/schema.rows", "internal/bytealg.MaxLen"], apart := false, laid := [("ferryslip/schema.rows", laid_ferryslip_schema_rows)], narrowed := true }
def HostCountsUptoSaid : Prop := hostCountsUptoRow.holds Tryz.pinned (OpenSpec.upto hostCountsSpec)

/-- 'ferrysliplaw14.HostLess', WHERE WHAT IT READS IS OF BULK AT MOST 1048576: true; the input reads as it did. -/
def hostLessUptoRow : OpenClaim := { program := "ytfcikfohmehmkaagreatdoor", sum := "5eee0f7b9f58d82774363fe40261ad1f7a89655763d54a24630a0a9386873534", func := "ferryslip/ferrysliplaw14.HostLess", spec := "hostLess", inPlace := ["internal/bytealg.IndexByteString", "internal/bytealg.IndexString", "math.Float64frombits", "math.Float64bits", "internal/abi.NoEscape", "internal/bytealg.MakeNoZero", "internal/bytealg.abigen_runtime_cmpstring"], unfollowed := true, recurses := true, named := ["ferryslip/schema.rows", "internal/bytealg.MaxLen"], apart := false, laid := [("ferryslip/schema.rows", laid_ferryslip_schema_rows)], narrowed := true }
def HostLessUptoSaid : Prop := hostLessUptoRow.holds Tryz.pinned (OpenSpec.upto hostLessSpec)

end Rows
end Go.Proofs.YtfcikfohmehmkaaGreatDoor
