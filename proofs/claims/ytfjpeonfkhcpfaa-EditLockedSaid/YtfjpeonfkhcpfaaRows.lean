/-
  No cell of these rows narrows 'for every input' (looked for: loops, veiled, ifaces, maps, wideKeys, modest, calm, conditions, laid).
  DERIVED. THE GIVEN ROWS OF THIS SEAT. 7 by the template 'for every input the law returns true; each argument reads behind the call as it read before'; 0 by the template 'total and deterministic' (their statements: YtfjpeonfkhcpfaaTotals.lean).
  GIVEN WITH THE SEED: the statements are not yours to turn. If you find one false, say at which input.
  Laid BY PROGRAM, IN A SANDBOX (cutbox-rows.mjs): the forced cells as the released guide's own fill.sh prints them over the translation 617595a61e385f6b… (all of the seat's roots in one cut). By AI agents, Wed Nov 11 2026. No macro, syntax, notation, axiom, sorry.
-/
import Derived.Test.YtfjpeonfkhcpfaaChecked
import GoSem.Claim
import GoSem.ClaimJoined
import GoSem.ClaimMapViews
import Derived.JoinedTies
import Derived.KernelRfl
namespace Go.Proofs.Ytfjpeonfkhcpfaa
/- THE CELL 'sum', in the pinned program and in every row, IS THE sha256 OF THE DUMP (.gsa) THAT YtfjpeonfkhcpfaaProg.lean LOADS. Nothing in Lean hashes anything: it is a label: what it is worth is what the hold of that sum in a sandbox is worth. -/
noncomputable def Try.pinned : Pinned := { name := "ytfjpeonfkhcpfaa", sum := "617595a61e385f6bd9e3c5ff3b06f106f098da5e92db467d2f09277f9187cb7a", checked := Try.checked }
namespace Rows
def none {H : Type} : Left H := { results := [], args := [] }

/-- 'ferrysliplaw07.EditExact': WHATEVER THE INPUT: true; the input reads as it did. -/
def editExactSpec : ChangeSpec := { name := "editExact", fn := fun _ => fun
  | [d1, d2] => { results := [.lit (.bool true)], args := [d1, d2] }
  | _ => none }
def editExactRow : OpenClaim := { program := "ytfjpeonfkhcpfaa", sum := "617595a61e385f6bd9e3c5ff3b06f106f098da5e92db467d2f09277f9187cb7a", func := "ferryslip/ferrysliplaw07.EditExact", spec := "editExact", unfollowed := true, recurses := true, apart := false }
def EditExactSaid : Prop := editExactRow.holds Try.pinned (OpenSpec.ofChange editExactSpec)

/-- ITS FALSE NEIGHBOUR: 'it returns false'. Refute it at one input. -/
def editExactWrong : ChangeSpec := { name := "editExact", fn := fun _ => fun
  | [d1, d2] => { results := [.lit (.bool false)], args := [d1, d2] }
  | _ => none }
def EditExactWrongFalsely : Prop := editExactRow.holds Try.pinned (OpenSpec.ofChange editExactWrong)

/-- 'ferrysliplaw07.EditTree': WHATEVER THE INPUT: true; the input reads as it did. -/
def editTreeSpec : ChangeSpec := { name := "editTree", fn := fun _ => fun
  | [d] => { results := [.lit (.bool true)], args := [d] }
  | _ => none }
def editTreeRow : OpenClaim := { program := "ytfjpeonfkhcpfaa", sum := "617595a61e385f6bd9e3c5ff3b06f106f098da5e92db467d2f09277f9187cb7a", func := "ferryslip/ferrysliplaw07.EditTree", spec := "editTree", unfollowed := true, recurses := true, apart := false }
def EditTreeSaid : Prop := editTreeRow.holds Try.pinned (OpenSpec.ofChange editTreeSpec)

/-- ITS FALSE NEIGHBOUR: 'it returns false'. Refute it at one input. -/
def editTreeWrong : ChangeSpec := { name := "editTree", fn := fun _ => fun
  | [d] => { results := [.lit (.bool false)], args := [d] }
  | _ => none }
def EditTreeWrongFalsely : Prop := editTreeRow.holds Try.pinned (OpenSpec.ofChange editTreeWrong)

/-- 'ferrysliplaw07.EditLocked': WHATEVER THE INPUT: true; the input reads as it did. -/
def editLockedSpec : ChangeSpec := { name := "editLocked", fn := fun _ => fun
  | [d1, d2] => { results := [.lit (.bool true)], args := [d1, d2] }
  | _ => none }
def editLockedRow : OpenClaim := { program := "ytfjpeonfkhcpfaa", sum := "617595a61e385f6bd9e3c5ff3b06f106f098da5e92db467d2f09277f9187cb7a", func := "ferryslip/ferrysliplaw07.EditLocked", spec := "editLocked", unfollowed := true, recurses := true, apart := false }
def EditLockedSaid : Prop := editLockedRow.holds Try.pinned (OpenSpec.ofChange editLockedSpec)

/-- ITS FALSE NEIGHBOUR: 'it returns false'. Refute it at one input. -/
def editLockedWrong : ChangeSpec := { name := "editLocked", fn := fun _ => fun
  | [d1, d2] => { results := [.lit (.bool false)], args := [d1, d2] }
  | _ => none }
def EditLockedWrongFalsely : Prop := editLockedRow.holds Try.pinned (OpenSpec.ofChange editLockedWrong)

/-- 'ferrysliplaw07.EditBack': WHATEVER THE INPUT: true; the input reads as it did. -/
def editBackSpec : ChangeSpec := { name := "editBack", fn := fun _ => fun
  | [d1, d2, d3] => { results := [.lit (.bool true)], args := [d1, d2, d3] }
  | _ => none }
def editBackRow : OpenClaim := { program := "ytfjpeonfkhcpfaa", sum := "617595a61e385f6bd9e3c5ff3b06f106f098da5e92db467d2f09277f9187cb7a", func := "ferryslip/ferrysliplaw07.EditBack", spec := "editBack", unfollowed := true, recurses := true, apart := false }
def EditBackSaid : Prop := editBackRow.holds Try.pinned (OpenSpec.ofChange editBackSpec)

/-- ITS FALSE NEIGHBOUR: 'it returns false'. Refute it at one input. -/
def editBackWrong : ChangeSpec := { name := "editBack", fn := fun _ => fun
  | [d1, d2, d3] => { results := [.lit (.bool false)], args := [d1, d2, d3] }
  | _ => none }
def EditBackWrongFalsely : Prop := editBackRow.holds Try.pinned (OpenSpec.ofChange editBackWrong)

/-- 'ferrysliplaw07.EditGone': WHATEVER THE INPUT: true; the input reads as it did. -/
def editGoneSpec : ChangeSpec := { name := "editGone", fn := fun _ => fun
  | [d1, d2] => { results := [.lit (.bool true)], args := [d1, d2] }
  | _ => none }
def editGoneRow : OpenClaim := { program := "ytfjpeonfkhcpfaa", sum := "617595a61e385f6bd9e3c5ff3b06f106f098da5e92db467d2f09277f9187cb7a", func := "ferryslip/ferrysliplaw07.EditGone", spec := "editGone", unfollowed := true, recurses := true, apart := false }
def EditGoneSaid : Prop := editGoneRow.holds Try.pinned (OpenSpec.ofChange editGoneSpec)

/-- ITS FALSE NEIGHBOUR: 'it returns false'. Refute it at one input. -/
def editGoneWrong : ChangeSpec := { name := "editGone", fn := fun _ => fun
  | [d1, d2] => { results := [.lit (.bool false)], args := [d1, d2] }
  | _ => none }
def EditGoneWrongFalsely : Prop := editGoneRow.holds Try.pinned (OpenSpec.ofChange editGoneWrong)

/-- 'ferrysliplaw07.EditMarks': WHATEVER THE INPUT: true; the input reads as it did. -/
def editMarksSpec : ChangeSpec := { name := "editMarks", fn := fun _ => fun
  | [d1, d2, d3] => { results := [.lit (.bool true)], args := [d1, d2, d3] }
  | _ => none }
def editMarksRow : OpenClaim := { program := "ytfjpeonfkhcpfaa", sum := "617595a61e385f6bd9e3c5ff3b06f106f098da5e92db467d2f09277f9187cb7a", func := "ferryslip/ferrysliplaw07.EditMarks", spec := "editMarks", unfollowed := true, recurses := true, apart := false }
def EditMarksSaid : Prop := editMarksRow.holds Try.pinned (OpenSpec.ofChange editMarksSpec)

/-- ITS FALSE NEIGHBOUR: 'it returns false'. Refute it at one input. -/
def editMarksWrong : ChangeSpec := { name := "editMarks", fn := fun _ => fun
  | [d1, d2, d3] => { results := [.lit (.bool false)], args := [d1, d2, d3] }
  | _ => none }
def EditMarksWrongFalsely : Prop := editMarksRow.holds Try.pinned (OpenSpec.ofChange editMarksWrong)

/-- 'ferrysliplaw07.EditSets': WHATEVER THE INPUT: true; the input reads as it did. -/
def editSetsSpec : ChangeSpec := { name := "editSets", fn := fun _ => fun
  | [d1, d2] => { results := [.lit (.bool true)], args := [d1, d2] }
  | _ => none }
def editSetsRow : OpenClaim := { program := "ytfjpeonfkhcpfaa", sum := "617595a61e385f6bd9e3c5ff3b06f106f098da5e92db467d2f09277f9187cb7a", func := "ferryslip/ferrysliplaw07.EditSets", spec := "editSets", unfollowed := true, recurses := true, apart := false }
def EditSetsSaid : Prop := editSetsRow.holds Try.pinned (OpenSpec.ofChange editSetsSpec)

/-- ITS FALSE NEIGHBOUR: 'it returns false'. Refute it at one input. -/
def editSetsWrong : ChangeSpec := { name := "editSets", fn := fun _ => fun
  | [d1, d2] => { results := [.lit (.bool false)], args := [d1, d2] }
  | _ => none }
def EditSetsWrongFalsely : Prop := editSetsRow.holds Try.pinned (OpenSpec.ofChange editSetsWrong)

/- THE SECOND FORM. 'bulk': how many values and letters a reading holds, each counted each time it is reached (what is shared counts as often as it is met; a slice's spare places count too). A statement '..UptoSaid' is the law's where the arguments, and the package variables that the reading takes, are together of bulk at most 1048576: NARROWER than '..Said'. Prove '..Said' where nothing that the law and all that it calls make is longer than what came in: it says more and counts as full. Else prove '..UptoSaid'. A law counts once. -/
mutual
def uptoBulk {H : Type} : DataW H → Nat
  | .lit (.string bytes) => bytes.length + 1
  | .lit _ => 1
  | .nil => 1
  | .ptr d => uptoBulk d + 1
  | .slice elems spare => uptoBulkAll elems + uptoBulkAll spare + 1
  | .agg parts => uptoBulkAll parts + 1
  | .iface _ d => uptoBulk d + 1
  | .map entries => uptoBulkEntries entries + 1
  | .held _ => 1
def uptoBulkAll {H : Type} : List (DataW H) → Nat
  | [] => 0
  | d :: r => uptoBulk d + uptoBulkAll r
def uptoBulkEntries {H : Type} : List (Lit × DataW H) → Nat
  | [] => 0
  | x :: r => uptoBulkEntry x + uptoBulkEntries r
def uptoBulkEntry {H : Type} : Lit × DataW H → Nat
  | (.string bytes, d) => bytes.length + uptoBulk d + 1
  | (_, d) => uptoBulk d + 1
 end
def uptoSmall : (H : Type) → List (DataW H) → Bool := fun _ ds => decide (uptoBulkAll ds ≤ 1048576)
def OpenSpec.upto (s : _root_.Go.ChangeSpec) : _root_.Go.OpenSpec := { _root_.Go.OpenSpec.ofChange s with cond := some uptoSmall }

/-- 'ferrysliplaw07.EditExact', WHERE WHAT IT READS IS OF BULK AT MOST 1048576: true; the input reads as it did. -/
def editExactUptoRow : OpenClaim := { program := "ytfjpeonfkhcpfaa", sum := "617595a61e385f6bd9e3c5ff3b06f106f098da5e92db467d2f09277f9187cb7a", func := "ferryslip/ferrysliplaw07.EditExact", spec := "editExact", unfollowed := true, recurses := true, apart := false, narrowed := true }
def EditExactUptoSaid : Prop := editExactUptoRow.holds Try.pinned (OpenSpec.upto editExactSpec)

/-- 'ferrysliplaw07.EditTree', WHERE WHAT IT READS IS OF BULK AT MOST 1048576: true; the input reads as it did. -/
def editTreeUptoRow : OpenClaim := { program := "ytfjpeonfkhcpfaa", sum := "617595a61e385f6bd9e3c5ff3b06f106f098da5e92db467d2f09277f9187cb7a", func := "ferryslip/ferrysliplaw07.EditTree", spec := "editTree", unfollowed := true, recurses := true, apart := false, narrowed := true }
def EditTreeUptoSaid : Prop := editTreeUptoRow.holds Try.pinned (OpenSpec.upto editTreeSpec)

/-- 'ferrysliplaw07.EditLocked', WHERE WHAT IT READS IS OF BULK AT MOST 1048576: true; the input reads as it did. -/
def editLockedUptoRow : OpenClaim := { program := "ytfjpeonfkhcpfaa", sum := "617595a61e385f6bd9e3c5ff3b06f106f098da5e92db467d2f09277f9187cb7a", func := "ferryslip/ferrysliplaw07.EditLocked", spec := "editLocked", unfollowed := true, recurses := true, apart := false, narrowed := true }
def EditLockedUptoSaid : Prop := editLockedUptoRow.holds Try.pinned (OpenSpec.upto editLockedSpec)

/-- 'ferrysliplaw07.EditBack', WHERE WHAT IT READS IS OF BULK AT MOST 1048576: true; the input reads as it did. -/
def editBackUptoRow : OpenClaim := { program := "ytfjpeonfkhcpfaa", sum := "617595a61e385f6bd9e3c5ff3b06f106f098da5e92db467d2f09277f9187cb7a", func := "ferryslip/ferrysliplaw07.EditBack", spec := "editBack", unfollowed := true, recurses := true, apart := false, narrowed := true }
def EditBackUptoSaid : Prop := editBackUptoRow.holds Try.pinned (OpenSpec.upto editBackSpec)

/-- 'ferrysliplaw07.EditGone', WHERE WHAT IT READS IS OF BULK AT MOST 1048576: true; the input reads as it did. -/
def editGoneUptoRow : OpenClaim := { program := "ytfjpeonfkhcpfaa", sum := "617595a61e385f6bd9e3c5ff3b06f106f098da5e92db467d2f09277f9187cb7a", func := "ferryslip/ferrysliplaw07.EditGone", spec := "editGone", unfollowed := true, recurses := true, apart := false, narrowed := true }
def EditGoneUptoSaid : Prop := editGoneUptoRow.holds Try.pinned (OpenSpec.upto editGoneSpec)

/-- 'ferrysliplaw07.EditMarks', WHERE WHAT IT READS IS OF BULK AT MOST 1048576: true; the input reads as it did. -/
def editMarksUptoRow : OpenClaim := { program := "ytfjpeonfkhcpfaa", sum := "617595a61e385f6bd9e3c5ff3b06f106f098da5e92db467d2f09277f9187cb7a", func := "ferryslip/ferrysliplaw07.EditMarks", spec := "editMarks", unfollowed := true, recurses := true, apart := false, narrowed := true }
def EditMarksUptoSaid : Prop := editMarksUptoRow.holds Try.pinned (OpenSpec.upto editMarksSpec)

/-- 'ferrysliplaw07.EditSets', WHERE WHAT IT READS IS OF BULK AT MOST 1048576: true; the input reads as it did. -/
def editSetsUptoRow : OpenClaim := { program := "ytfjpeonfkhcpfaa", sum := "617595a61e385f6bd9e3c5ff3b06f106f098da5e92db467d2f09277f9187cb7a", func := "ferryslip/ferrysliplaw07.EditSets", spec := "editSets", unfollowed := true, recurses := true, apart := false, narrowed := true }
def EditSetsUptoSaid : Prop := editSetsUptoRow.holds Try.pinned (OpenSpec.upto editSetsSpec)

end Rows
end Go.Proofs.Ytfjpeonfkhcpfaa
