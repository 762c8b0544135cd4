/-
  NARROWER THAN 'FOR EVERY INPUT', by the rows' own cells (each row's printed sentence says how): SchemaChecks: laid · SchemaTypes: laid · SchemaNeeds: laid · SchemaMarks: laid · SchemaParts: laid · SchemaLess: laid · SchemaWord: laid.
  DERIVED. THE GIVEN ROWS OF THIS SEAT. 7 by the template 'for every input the law returns true; each argument reads behind the call as it read before'; 0 by the template 'total and deterministic' (their statements: YtikjdjfpoohieaaDoorTotals.lean).
  GIVEN WITH THE SEED: the statements are not yours to turn. If you find one false, say at which input.
  Laid BY PROGRAM, IN A SANDBOX (cutbox-rows.mjs): the forced cells as the released guide's own fill.sh prints them over the translation 99ad0c74355e5f4b… (all of the seat's roots in one cut). By AI agents, Wed Nov 11 2026. No macro, syntax, notation, axiom, sorry.
-/
import Derived.Test.YtikjdjfpoohieaaDoorChecked
import GoSem.Claim
import GoSem.ClaimJoined
import GoSem.ClaimMapViews
import Derived.JoinedTies
import Derived.KernelRfl
namespace Go.Proofs.YtikjdjfpoohieaaDoor
/- THE CELL 'sum', in the pinned program and in every row, IS THE sha256 OF THE DUMP (.gsa) THAT YtikjdjfpoohieaaDoorProg.lean LOADS. Nothing in Lean hashes anything: it is a label: what it is worth is what the hold of that sum in a sandbox is worth. -/
noncomputable def Tryd.pinned : Pinned := { name := "ytikjdjfpoohieaadoor", sum := "99ad0c74355e5f4bddfcfcc6bee69d9fc0108bfcd9a23c2e5e500d33c01a49b5", checked := Tryd.checked }
namespace Rows
def none {H : Type} : Left H := { results := [], args := [] }

/- WHAT THE LISTED PACKAGE-LEVEL VARIABLES READ AS WHEN THE CALL BEGINS. Each datum BY PROGRAM (the guide's laid-datum.mjs) off the statement by which the dump's own 'gosem.cut.vars' lays the variable. In a bare row this is a premise. The card (YtikjdjfpoohieaaDoorCards.lean) ties it to the program's text. -/
def laid_ferryslip_schema_rows {H : Type} : DataW H := .agg [.agg [.lit (.string [104, 111, 115, 116, 115]), .lit (.string [36, 110, 97, 109, 101]), .lit (.bool false), .lit (.bool false)], .agg [.lit (.string [104, 111, 115, 116, 115, 32, 36, 110, 97, 109, 101, 32, 105, 112]), .lit (.string [36, 105, 112]), .lit (.bool true), .lit (.bool true)], .agg [.lit (.string [104, 111, 115, 116, 115, 32, 36, 110, 97, 109, 101, 32, 109, 97, 99]), .lit (.string [36, 109, 97, 99]), .lit (.bool true), .lit (.bool false)], .agg [.lit (.string [104, 111, 115, 116, 115, 32, 36, 110, 97, 109, 101, 32, 118, 110, 105, 115]), .lit (.string [36, 118, 110, 105]), .lit (.bool false), .lit (.bool false)], .agg [.lit (.string [118, 110, 105, 115]), .lit (.string [36, 118, 110, 105]), .lit (.bool false), .lit (.bool false)], .agg [.lit (.string [118, 110, 105, 115, 32, 36, 118, 110, 105, 32, 115, 117, 98, 110, 101, 116]), .lit (.string [36, 112, 114, 101, 102, 105, 120]), .lit (.bool true), .lit (.bool true)], .agg [.lit (.string [98, 105, 110, 100, 105, 110, 103, 115]), .lit (.string [36, 105, 112]), .lit (.bool false), .lit (.bool false)], .agg [.lit (.string [98, 105, 110, 100, 105, 110, 103, 115, 32, 36, 105, 112, 32, 104, 111, 115, 116]), .lit (.string [36, 110, 97, 109, 101]), .lit (.bool true), .lit (.bool true)], .agg [.lit (.string [98, 105, 110, 100, 105, 110, 103, 115, 32, 36, 105, 112, 32, 109, 97, 99]), .lit (.string [36, 109, 97, 99]), .lit (.bool true), .lit (.bool true)], .agg [.lit (.string [98, 105, 110, 100, 105, 110, 103, 115, 32, 36, 105, 112, 32, 118, 110, 105]), .lit (.string [36, 118, 110, 105]), .lit (.bool true), .lit (.bool true)], .agg [.lit (.string [114, 111, 117, 116, 101, 115]), .lit (.string [36, 112, 114, 101, 102, 105, 120]), .lit (.bool false), .lit (.bool false)], .agg [.lit (.string [114, 111, 117, 116, 101, 115, 32, 36, 112, 114, 101, 102, 105, 120, 32, 118, 105, 97]), .lit (.string [36, 110, 97, 109, 101]), .lit (.bool true), .lit (.bool true)], .agg [.lit (.string [114, 111, 117, 116, 101, 115, 32, 36, 112, 114, 101, 102, 105, 120, 32, 109, 101, 116, 114, 105, 99]), .lit (.string [36, 109, 101, 116, 114, 105, 99]), .lit (.bool true), .lit (.bool false)], .agg [.lit (.string [112, 111, 108, 105, 99, 121]), .lit (.string [36, 110, 117, 109]), .lit (.bool false), .lit (.bool false)], .agg [.lit (.string [112, 111, 108, 105, 99, 121, 32, 36, 110, 117, 109, 32, 97, 99, 116, 105, 111, 110]), .lit (.string [36, 97, 99, 116, 105, 111, 110]), .lit (.bool true), .lit (.bool true)], .agg [.lit (.string [112, 111, 108, 105, 99, 121, 32, 36, 110, 117, 109, 32, 102, 114, 111, 109]), .lit (.string [36, 112, 114, 101, 102, 105, 120]), .lit (.bool true), .lit (.bool false)], .agg [.lit (.string [112, 111, 108, 105, 99, 121, 32, 36, 110, 117, 109, 32, 116, 111]), .lit (.string [36, 112, 114, 101, 102, 105, 120]), .lit (.bool true), .lit (.bool false)]]

/-- 'ferrysliplaw13.SchemaChecks': WHATEVER THE INPUT: true; the input reads as it did. -/
def schemaChecksSpec : ChangeSpec := { name := "schemaChecks", fn := fun _ => fun
  | [d] => { results := [.lit (.bool true)], args := [d] }
  | _ => none }
def schemaChecksRow : OpenClaim := { program := "ytikjdjfpoohieaadoor", sum := "99ad0c74355e5f4bddfcfcc6bee69d9fc0108bfcd9a23c2e5e500d33c01a49b5", func := "ferryslip/ferrysliplaw13.SchemaChecks", spec := "schemaChecks", inPlace := ["internal/bytealg.IndexByteString", "internal/bytealg.IndexString", "math.Float64frombits", "math.Float64bits"], named := ["ferryslip/schema.rows", "internal/bytealg.MaxLen"], apart := false, laid := [("ferryslip/schema.rows", laid_ferryslip_schema_rows)] }
def SchemaChecksSaid : Prop := schemaChecksRow.holds Tryd.pinned (OpenSpec.ofChange schemaChecksSpec)

/-- ITS FALSE NEIGHBOUR: 'it returns false'. Refute it at one input. -/
def schemaChecksWrong : ChangeSpec := { name := "schemaChecks", fn := fun _ => fun
  | [d] => { results := [.lit (.bool false)], args := [d] }
  | _ => none }
def SchemaChecksWrongFalsely : Prop := schemaChecksRow.holds Tryd.pinned (OpenSpec.ofChange schemaChecksWrong)

/-- 'ferrysliplaw13.SchemaTypes': WHATEVER THE INPUT: true; the input reads as it did. -/
def schemaTypesSpec : ChangeSpec := { name := "schemaTypes", fn := fun _ => fun
  | [d1, d2] => { results := [.lit (.bool true)], args := [d1, d2] }
  | _ => none }
def schemaTypesRow : OpenClaim := { program := "ytikjdjfpoohieaadoor", sum := "99ad0c74355e5f4bddfcfcc6bee69d9fc0108bfcd9a23c2e5e500d33c01a49b5", func := "ferryslip/ferrysliplaw13.SchemaTypes", spec := "schemaTypes", inPlace := ["internal/bytealg.IndexByteString", "internal/bytealg.IndexString", "math.Float64frombits", "math.Float64bits"], named := ["ferryslip/schema.rows", "internal/bytealg.MaxLen"], apart := false, laid := [("ferryslip/schema.rows", laid_ferryslip_schema_rows)] }
def SchemaTypesSaid : Prop := schemaTypesRow.holds Tryd.pinned (OpenSpec.ofChange schemaTypesSpec)

/-- ITS FALSE NEIGHBOUR: 'it returns false'. Refute it at one input. -/
def schemaTypesWrong : ChangeSpec := { name := "schemaTypes", fn := fun _ => fun
  | [d1, d2] => { results := [.lit (.bool false)], args := [d1, d2] }
  | _ => none }
def SchemaTypesWrongFalsely : Prop := schemaTypesRow.holds Tryd.pinned (OpenSpec.ofChange schemaTypesWrong)

/-- 'ferrysliplaw13.SchemaNeeds': WHATEVER THE INPUT: true; the input reads as it did. -/
def schemaNeedsSpec : ChangeSpec := { name := "schemaNeeds", fn := fun _ => fun
  | [d] => { results := [.lit (.bool true)], args := [d] }
  | _ => none }
def schemaNeedsRow : OpenClaim := { program := "ytikjdjfpoohieaadoor", sum := "99ad0c74355e5f4bddfcfcc6bee69d9fc0108bfcd9a23c2e5e500d33c01a49b5", func := "ferryslip/ferrysliplaw13.SchemaNeeds", spec := "schemaNeeds", inPlace := ["internal/bytealg.IndexByteString", "internal/bytealg.IndexString", "math.Float64frombits", "math.Float64bits"], named := ["ferryslip/schema.rows", "internal/bytealg.MaxLen"], apart := false, laid := [("ferryslip/schema.rows", laid_ferryslip_schema_rows)] }
def SchemaNeedsSaid : Prop := schemaNeedsRow.holds Tryd.pinned (OpenSpec.ofChange schemaNeedsSpec)

/-- ITS FALSE NEIGHBOUR: 'it returns false'. Refute it at one input. -/
def schemaNeedsWrong : ChangeSpec := { name := "schemaNeeds", fn := fun _ => fun
  | [d] => { results := [.lit (.bool false)], args := [d] }
  | _ => none }
def SchemaNeedsWrongFalsely : Prop := schemaNeedsRow.holds Tryd.pinned (OpenSpec.ofChange schemaNeedsWrong)

/-- 'ferrysliplaw13.SchemaMarks': WHATEVER THE INPUT: true; the input reads as it did. -/
def schemaMarksSpec : ChangeSpec := { name := "schemaMarks", fn := fun _ => fun
  | [d] => { results := [.lit (.bool true)], args := [d] }
  | _ => none }
def schemaMarksRow : OpenClaim := { program := "ytikjdjfpoohieaadoor", sum := "99ad0c74355e5f4bddfcfcc6bee69d9fc0108bfcd9a23c2e5e500d33c01a49b5", func := "ferryslip/ferrysliplaw13.SchemaMarks", spec := "schemaMarks", inPlace := ["internal/bytealg.IndexByteString", "internal/bytealg.IndexString", "math.Float64frombits", "math.Float64bits"], named := ["ferryslip/schema.rows", "internal/bytealg.MaxLen"], apart := false, laid := [("ferryslip/schema.rows", laid_ferryslip_schema_rows)] }
def SchemaMarksSaid : Prop := schemaMarksRow.holds Tryd.pinned (OpenSpec.ofChange schemaMarksSpec)

/-- ITS FALSE NEIGHBOUR: 'it returns false'. Refute it at one input. -/
def schemaMarksWrong : ChangeSpec := { name := "schemaMarks", fn := fun _ => fun
  | [d] => { results := [.lit (.bool false)], args := [d] }
  | _ => none }
def SchemaMarksWrongFalsely : Prop := schemaMarksRow.holds Tryd.pinned (OpenSpec.ofChange schemaMarksWrong)

/-- 'ferrysliplaw13.SchemaParts': WHATEVER THE INPUT: true; the input reads as it did. -/
def schemaPartsSpec : ChangeSpec := { name := "schemaParts", fn := fun _ => fun
  | [d] => { results := [.lit (.bool true)], args := [d] }
  | _ => none }
def schemaPartsRow : OpenClaim := { program := "ytikjdjfpoohieaadoor", sum := "99ad0c74355e5f4bddfcfcc6bee69d9fc0108bfcd9a23c2e5e500d33c01a49b5", func := "ferryslip/ferrysliplaw13.SchemaParts", spec := "schemaParts", inPlace := ["internal/bytealg.IndexByteString", "internal/bytealg.IndexString", "math.Float64frombits", "math.Float64bits"], named := ["ferryslip/schema.rows", "internal/bytealg.MaxLen"], apart := false, laid := [("ferryslip/schema.rows", laid_ferryslip_schema_rows)] }
def SchemaPartsSaid : Prop := schemaPartsRow.holds Tryd.pinned (OpenSpec.ofChange schemaPartsSpec)

/-- ITS FALSE NEIGHBOUR: 'it returns false'. Refute it at one input. -/
def schemaPartsWrong : ChangeSpec := { name := "schemaParts", fn := fun _ => fun
  | [d] => { results := [.lit (.bool false)], args := [d] }
  | _ => none }
def SchemaPartsWrongFalsely : Prop := schemaPartsRow.holds Tryd.pinned (OpenSpec.ofChange schemaPartsWrong)

/-- 'ferrysliplaw13.SchemaLess': WHATEVER THE INPUT: true; the input reads as it did. -/
def schemaLessSpec : ChangeSpec := { name := "schemaLess", fn := fun _ => fun
  | [d] => { results := [.lit (.bool true)], args := [d] }
  | _ => none }
def schemaLessRow : OpenClaim := { program := "ytikjdjfpoohieaadoor", sum := "99ad0c74355e5f4bddfcfcc6bee69d9fc0108bfcd9a23c2e5e500d33c01a49b5", func := "ferryslip/ferrysliplaw13.SchemaLess", spec := "schemaLess", inPlace := ["internal/bytealg.IndexByteString", "internal/bytealg.IndexString", "math.Float64frombits", "math.Float64bits"], named := ["ferryslip/schema.rows", "internal/bytealg.MaxLen"], apart := false, laid := [("ferryslip/schema.rows", laid_ferryslip_schema_rows)] }
def SchemaLessSaid : Prop := schemaLessRow.holds Tryd.pinned (OpenSpec.ofChange schemaLessSpec)

/-- ITS FALSE NEIGHBOUR: 'it returns false'. Refute it at one input. -/
def schemaLessWrong : ChangeSpec := { name := "schemaLess", fn := fun _ => fun
  | [d] => { results := [.lit (.bool false)], args := [d] }
  | _ => none }
def SchemaLessWrongFalsely : Prop := schemaLessRow.holds Tryd.pinned (OpenSpec.ofChange schemaLessWrong)

/-- 'ferrysliplaw13.SchemaWord': WHATEVER THE INPUT: true; the input reads as it did. -/
def schemaWordSpec : ChangeSpec := { name := "schemaWord", fn := fun _ => fun
  | [d1, d2] => { results := [.lit (.bool true)], args := [d1, d2] }
  | _ => none }
def schemaWordRow : OpenClaim := { program := "ytikjdjfpoohieaadoor", sum := "99ad0c74355e5f4bddfcfcc6bee69d9fc0108bfcd9a23c2e5e500d33c01a49b5", func := "ferryslip/ferrysliplaw13.SchemaWord", spec := "schemaWord", inPlace := ["internal/bytealg.IndexByteString", "internal/bytealg.IndexString", "math.Float64frombits", "math.Float64bits"], named := ["ferryslip/schema.rows", "internal/bytealg.MaxLen"], apart := false, laid := [("ferryslip/schema.rows", laid_ferryslip_schema_rows)] }
def SchemaWordSaid : Prop := schemaWordRow.holds Tryd.pinned (OpenSpec.ofChange schemaWordSpec)

/-- ITS FALSE NEIGHBOUR: 'it returns false'. Refute it at one input. -/
def schemaWordWrong : ChangeSpec := { name := "schemaWord", fn := fun _ => fun
  | [d1, d2] => { results := [.lit (.bool false)], args := [d1, d2] }
  | _ => none }
def SchemaWordWrongFalsely : Prop := schemaWordRow.holds Tryd.pinned (OpenSpec.ofChange schemaWordWrong)

/- THE SECOND FORM. 'bulk': how many values and letters a reading holds, each counted each time it is reached (what is shared counts as often as it is met; a slice's spare places count too). A statement '..UptoSaid' is the law's where the arguments, and the package variables that the reading takes, are together of bulk at most 1048576: NARROWER than '..Said'. Prove '..Said' where nothing that the law and all that it calls make is longer than what came in: it says more and counts as full. Else prove '..UptoSaid'. A law counts once. -/
mutual
def uptoBulk {H : Type} : DataW H → Nat
  | .lit (.string bytes) => bytes.length + 1
  | .lit _ => 1
  | .nil => 1
  | .ptr d => uptoBulk d + 1
  | .slice elems spare => uptoBulkAll elems + uptoBulkAll spare + 1
  | .agg parts => uptoBulkAll parts + 1
  | .iface _ d => uptoBulk d + 1
  | .map entries => uptoBulkEntries entries + 1
  | .held _ => 1
def uptoBulkAll {H : Type} : List (DataW H) → Nat
  | [] => 0
  | d :: r => uptoBulk d + uptoBulkAll r
def uptoBulkEntries {H : Type} : List (Lit × DataW H) → Nat
  | [] => 0
  | x :: r => uptoBulkEntry x + uptoBulkEntries r
def uptoBulkEntry {H : Type} : Lit × DataW H → Nat
  | (.string bytes, d) => bytes.length + uptoBulk d + 1
  | (_, d) => uptoBulk d + 1
 end
def uptoSmall : (H : Type) → List (DataW H) → Bool := fun _ ds => decide (uptoBulkAll ds ≤ 1048576)
def OpenSpec.upto (s : _root_.Go.ChangeSpec) : _root_.Go.OpenSpec := { _root_.Go.OpenSpec.ofChange s with cond := some uptoSmall }

/-- 'ferrysliplaw13.SchemaChecks', WHERE WHAT IT READS IS OF BULK AT MOST 1048576: true; the input reads as it did. -/
def schemaChecksUptoRow : OpenClaim := { program := "ytikjdjfpoohieaadoor", sum := "99ad0c74355e5f4bddfcfcc6bee69d9fc0108bfcd9a23c2e5e500d33c01a49b5", func := "ferryslip/ferrysliplaw13.SchemaChecks", spec := "schemaChecks", inPlace := ["internal/bytealg.IndexByteString", "internal/bytealg.IndexString", "math.Float64frombits", "math.Float64bits"], named := ["ferryslip/schema.rows", "internal/bytealg.MaxLen"], apart := false, laid := [("ferryslip/schema.rows", laid_ferryslip_schema_rows)], narrowed := true }
def SchemaChecksUptoSaid : Prop := schemaChecksUptoRow.holds Tryd.pinned (OpenSpec.upto schemaChecksSpec)

/-- 'ferrysliplaw13.SchemaTypes', WHERE WHAT IT READS IS OF BULK AT MOST 1048576: true; the input reads as it did. -/
def schemaTypesUptoRow : OpenClaim := { program := "ytikjdjfpoohieaadoor", sum := "99ad0c74355e5f4bddfcfcc6bee69d9fc0108bfcd9a23c2e5e500d33c01a49b5", func := "ferryslip/ferrysliplaw13.SchemaTypes", spec := "schemaTypes", inPlace := ["internal/bytealg.IndexByteString", "internal/bytealg.IndexString", "math.Float64frombits", "math.Float64bits"], named := ["ferryslip/schema.rows", "internal/bytealg.MaxLen"], apart := false, laid := [("ferryslip/schema.rows", laid_ferryslip_schema_rows)], narrowed := true }
def SchemaTypesUptoSaid : Prop := schemaTypesUptoRow.holds Tryd.pinned (OpenSpec.upto schemaTypesSpec)

/-- 'ferrysliplaw13.SchemaNeeds', WHERE WHAT IT READS IS OF BULK AT MOST 1048576: true; the input reads as it did. -/
def schemaNeedsUptoRow : OpenClaim := { program := "ytikjdjfpoohieaadoor", sum := "99ad0c74355e5f4bddfcfcc6bee69d9fc0108bfcd9a23c2e5e500d33c01a49b5", func := "ferryslip/ferrysliplaw13.SchemaNeeds", spec := "schemaNeeds", inPlace := ["internal/bytealg.IndexByteString", "internal/bytealg.IndexString", "math.Float64frombits", "math.Float64bits"], named := ["ferryslip/schema.rows", "internal/bytealg.MaxLen"], apart := false, laid := [("ferryslip/schema.rows", laid_ferryslip_schema_rows)], narrowed := true }
def SchemaNeedsUptoSaid : Prop := schemaNeedsUptoRow.holds Tryd.pinned (OpenSpec.upto schemaNeedsSpec)

/-- 'ferrysliplaw13.SchemaMarks', WHERE WHAT IT READS IS OF BULK AT MOST 1048576: true; the input reads as it did. -/
def schemaMarksUptoRow : OpenClaim := { program := "ytikjdjfpoohieaadoor", sum := "99ad0c74355e5f4bddfcfcc6bee69d9fc0108bfcd9a23c2e5e500d33c01a49b5", func := "ferryslip/ferrysliplaw13.SchemaMarks", spec := "schemaMarks", inPlace := ["internal/bytealg.IndexByteString", "internal/bytealg.IndexString", "math.Float64frombits", "math.Float64bits"], named := ["ferryslip/schema.rows", "internal/bytealg.MaxLen"], apart := false, laid := [("ferryslip/schema.rows", laid_ferryslip_schema_rows)], narrowed := true }
def SchemaMarksUptoSaid : Prop := schemaMarksUptoRow.holds Tryd.pinned (OpenSpec.upto schemaMarksSpec)

/-- 'ferrysliplaw13.SchemaParts', WHERE WHAT IT READS IS OF BULK AT MOST 1048576: true; the input reads as it did. -/
def schemaPartsUptoRow : OpenClaim := { program := "ytikjdjfpoohieaadoor", sum := "99ad0c74355e5f4bddfcfcc6bee69d9fc0108bfcd9a23c2e5e500d33c01a49b5", func := "ferryslip/ferrysliplaw13.SchemaParts", spec := "schemaParts", inPlace := ["internal/bytealg.IndexByteString", "internal/bytealg.IndexString", "math.Float64frombits", "math.Float64bits"], named := ["ferryslip/schema.rows", "internal/bytealg.MaxLen"], apart := false, laid := [("ferryslip/schema.rows", laid_ferryslip_schema_rows)], narrowed := true }
def SchemaPartsUptoSaid : Prop := schemaPartsUptoRow.holds Tryd.pinned (OpenSpec.upto schemaPartsSpec)

/-- 'ferrysliplaw13.SchemaLess', WHERE WHAT IT READS IS OF BULK AT MOST 1048576: true; the input reads as it did. -/
def schemaLessUptoRow : OpenClaim := { program := "ytikjdjfpoohieaadoor", sum := "99ad0c74355e5f4bddfcfcc6bee69d9fc0108bfcd9a23c2e5e500d33c01a49b5", func := "ferryslip/ferrysliplaw13.SchemaLess", spec := "schemaLess", inPlace := ["internal/bytealg.IndexByteString", "internal/bytealg.IndexString", "math.Float64frombits", "math.Float64bits"], named := ["ferryslip/schema.rows", "internal/bytealg.MaxLen"], apart := false, laid := [("ferryslip/schema.rows", laid_ferryslip_schema_rows)], narrowed := true }
def SchemaLessUptoSaid : Prop := schemaLessUptoRow.holds Tryd.pinned (OpenSpec.upto schemaLessSpec)

/-- 'ferrysliplaw13.SchemaWord', WHERE WHAT IT READS IS OF BULK AT MOST 1048576: true; the input reads as it did. -/
def schemaWordUptoRow : OpenClaim := { program := "ytikjdjfpoohieaadoor", sum := "99ad0c74355e5f4bddfcfcc6bee69d9fc0108bfcd9a23c2e5e500d33c01a49b5", func := "ferryslip/ferrysliplaw13.SchemaWord", spec := "schemaWord", inPlace := ["internal/bytealg.IndexByteString", "internal/bytealg.IndexString", "math.Float64frombits", "math.Float64bits"], named := ["ferryslip/schema.rows", "internal/bytealg.MaxLen"], apart := false, laid := [("ferryslip/schema.rows", laid_ferryslip_schema_rows)], narrowed := true }
def SchemaWordUptoSaid : Prop := schemaWordUptoRow.holds Tryd.pinned (OpenSpec.upto schemaWordSpec)

end Rows
end Go.Proofs.YtikjdjfpoohieaaDoor
