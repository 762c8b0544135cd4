/-
  No cell of these rows narrows 'for every input' (looked for: loops, veiled, ifaces, maps, wideKeys, modest, calm, conditions, laid).
  DERIVED. THE GIVEN ROWS OF THIS SEAT. 7 by the template 'for every input the law returns true; each argument reads behind the call as it read before'; 0 by the template 'total and deterministic' (their statements: YtpkhnchbamjgjaaTotals.lean).
  GIVEN WITH THE SEED: the statements are not yours to turn. If you find one false, say at which input.
  Laid BY PROGRAM, IN A SANDBOX (cutbox-rows.mjs): the forced cells as the released guide's own fill.sh prints them over the translation fb4c920e5b4cc957… (all of the seat's roots in one cut). By AI agents, Wed Nov 11 2026. No macro, syntax, notation, axiom, sorry.
-/
import Derived.Test.YtpkhnchbamjgjaaChecked
import GoSem.Claim
import GoSem.ClaimJoined
import GoSem.ClaimMapViews
import Derived.JoinedTies
import Derived.KernelRfl
namespace Go.Proofs.Ytpkhnchbamjgjaa
/- THE CELL 'sum', in the pinned program and in every row, IS THE sha256 OF THE DUMP (.gsa) THAT YtpkhnchbamjgjaaProg.lean LOADS. Nothing in Lean hashes anything: it is a label: what it is worth is what the hold of that sum in a sandbox is worth. -/
noncomputable def Try.pinned : Pinned := { name := "ytpkhnchbamjgjaa", sum := "fb4c920e5b4cc957d3c7ba2447fd30fff9ed255a6c45bf85689538ed24572dc9", checked := Try.checked }
namespace Rows
def none {H : Type} : Left H := { results := [], args := [] }

/-- 'ferrysliplaw16.PatchExact': WHATEVER THE INPUT: true; the input reads as it did. -/
def patchExactSpec : ChangeSpec := { name := "patchExact", fn := fun _ => fun
  | [d1, d2, d3, d4] => { results := [.lit (.bool true)], args := [d1, d2, d3, d4] }
  | _ => none }
def patchExactRow : OpenClaim := { program := "ytpkhnchbamjgjaa", sum := "fb4c920e5b4cc957d3c7ba2447fd30fff9ed255a6c45bf85689538ed24572dc9", func := "ferryslip/ferrysliplaw16.PatchExact", spec := "patchExact", inPlace := ["internal/bytealg.abigen_runtime_cmpstring"], unfollowed := true, recurses := true, apart := false }
def PatchExactSaid : Prop := patchExactRow.holds Try.pinned (OpenSpec.ofChange patchExactSpec)

/-- ITS FALSE NEIGHBOUR: 'it returns false'. Refute it at one input. -/
def patchExactWrong : ChangeSpec := { name := "patchExact", fn := fun _ => fun
  | [d1, d2, d3, d4] => { results := [.lit (.bool false)], args := [d1, d2, d3, d4] }
  | _ => none }
def PatchExactWrongFalsely : Prop := patchExactRow.holds Try.pinned (OpenSpec.ofChange patchExactWrong)

/-- 'ferrysliplaw16.PatchMakes': WHATEVER THE INPUT: true; the input reads as it did. -/
def patchMakesSpec : ChangeSpec := { name := "patchMakes", fn := fun _ => fun
  | [d1, d2] => { results := [.lit (.bool true)], args := [d1, d2] }
  | _ => none }
def patchMakesRow : OpenClaim := { program := "ytpkhnchbamjgjaa", sum := "fb4c920e5b4cc957d3c7ba2447fd30fff9ed255a6c45bf85689538ed24572dc9", func := "ferryslip/ferrysliplaw16.PatchMakes", spec := "patchMakes", inPlace := ["internal/bytealg.abigen_runtime_cmpstring"], unfollowed := true, recurses := true, apart := false }
def PatchMakesSaid : Prop := patchMakesRow.holds Try.pinned (OpenSpec.ofChange patchMakesSpec)

/-- ITS FALSE NEIGHBOUR: 'it returns false'. Refute it at one input. -/
def patchMakesWrong : ChangeSpec := { name := "patchMakes", fn := fun _ => fun
  | [d1, d2] => { results := [.lit (.bool false)], args := [d1, d2] }
  | _ => none }
def PatchMakesWrongFalsely : Prop := patchMakesRow.holds Try.pinned (OpenSpec.ofChange patchMakesWrong)

/-- 'ferrysliplaw16.PatchLeast': WHATEVER THE INPUT: true; the input reads as it did. -/
def patchLeastSpec : ChangeSpec := { name := "patchLeast", fn := fun _ => fun
  | [d1, d2, d3] => { results := [.lit (.bool true)], args := [d1, d2, d3] }
  | _ => none }
def patchLeastRow : OpenClaim := { program := "ytpkhnchbamjgjaa", sum := "fb4c920e5b4cc957d3c7ba2447fd30fff9ed255a6c45bf85689538ed24572dc9", func := "ferryslip/ferrysliplaw16.PatchLeast", spec := "patchLeast", inPlace := ["internal/bytealg.abigen_runtime_cmpstring"], unfollowed := true, recurses := true, apart := false }
def PatchLeastSaid : Prop := patchLeastRow.holds Try.pinned (OpenSpec.ofChange patchLeastSpec)

/-- ITS FALSE NEIGHBOUR: 'it returns false'. Refute it at one input. -/
def patchLeastWrong : ChangeSpec := { name := "patchLeast", fn := fun _ => fun
  | [d1, d2, d3] => { results := [.lit (.bool false)], args := [d1, d2, d3] }
  | _ => none }
def PatchLeastWrongFalsely : Prop := patchLeastRow.holds Try.pinned (OpenSpec.ofChange patchLeastWrong)

/-- 'ferrysliplaw16.PatchHosts': WHATEVER THE INPUT: true; the input reads as it did. -/
def patchHostsSpec : ChangeSpec := { name := "patchHosts", fn := fun _ => fun
  | [d1, d2, d3] => { results := [.lit (.bool true)], args := [d1, d2, d3] }
  | _ => none }
def patchHostsRow : OpenClaim := { program := "ytpkhnchbamjgjaa", sum := "fb4c920e5b4cc957d3c7ba2447fd30fff9ed255a6c45bf85689538ed24572dc9", func := "ferryslip/ferrysliplaw16.PatchHosts", spec := "patchHosts", inPlace := ["internal/bytealg.abigen_runtime_cmpstring"], unfollowed := true, recurses := true, apart := false }
def PatchHostsSaid : Prop := patchHostsRow.holds Try.pinned (OpenSpec.ofChange patchHostsSpec)

/-- ITS FALSE NEIGHBOUR: 'it returns false'. Refute it at one input. -/
def patchHostsWrong : ChangeSpec := { name := "patchHosts", fn := fun _ => fun
  | [d1, d2, d3] => { results := [.lit (.bool false)], args := [d1, d2, d3] }
  | _ => none }
def PatchHostsWrongFalsely : Prop := patchHostsRow.holds Try.pinned (OpenSpec.ofChange patchHostsWrong)

/-- 'ferrysliplaw16.PatchTwice': WHATEVER THE INPUT: true; the input reads as it did. -/
def patchTwiceSpec : ChangeSpec := { name := "patchTwice", fn := fun _ => fun
  | [d1, d2] => { results := [.lit (.bool true)], args := [d1, d2] }
  | _ => none }
def patchTwiceRow : OpenClaim := { program := "ytpkhnchbamjgjaa", sum := "fb4c920e5b4cc957d3c7ba2447fd30fff9ed255a6c45bf85689538ed24572dc9", func := "ferryslip/ferrysliplaw16.PatchTwice", spec := "patchTwice", inPlace := ["internal/bytealg.abigen_runtime_cmpstring"], unfollowed := true, recurses := true, apart := false }
def PatchTwiceSaid : Prop := patchTwiceRow.holds Try.pinned (OpenSpec.ofChange patchTwiceSpec)

/-- ITS FALSE NEIGHBOUR: 'it returns false'. Refute it at one input. -/
def patchTwiceWrong : ChangeSpec := { name := "patchTwice", fn := fun _ => fun
  | [d1, d2] => { results := [.lit (.bool false)], args := [d1, d2] }
  | _ => none }
def PatchTwiceWrongFalsely : Prop := patchTwiceRow.holds Try.pinned (OpenSpec.ofChange patchTwiceWrong)

/-- 'ferrysliplaw16.PatchChain': WHATEVER THE INPUT: true; the input reads as it did. -/
def patchChainSpec : ChangeSpec := { name := "patchChain", fn := fun _ => fun
  | [d1, d2, d3] => { results := [.lit (.bool true)], args := [d1, d2, d3] }
  | _ => none }
def patchChainRow : OpenClaim := { program := "ytpkhnchbamjgjaa", sum := "fb4c920e5b4cc957d3c7ba2447fd30fff9ed255a6c45bf85689538ed24572dc9", func := "ferryslip/ferrysliplaw16.PatchChain", spec := "patchChain", inPlace := ["internal/bytealg.abigen_runtime_cmpstring"], unfollowed := true, recurses := true, apart := false }
def PatchChainSaid : Prop := patchChainRow.holds Try.pinned (OpenSpec.ofChange patchChainSpec)

/-- ITS FALSE NEIGHBOUR: 'it returns false'. Refute it at one input. -/
def patchChainWrong : ChangeSpec := { name := "patchChain", fn := fun _ => fun
  | [d1, d2, d3] => { results := [.lit (.bool false)], args := [d1, d2, d3] }
  | _ => none }
def PatchChainWrongFalsely : Prop := patchChainRow.holds Try.pinned (OpenSpec.ofChange patchChainWrong)

/-- 'ferrysliplaw16.PatchParts': WHATEVER THE INPUT: true; the input reads as it did. -/
def patchPartsSpec : ChangeSpec := { name := "patchParts", fn := fun _ => fun
  | [d] => { results := [.lit (.bool true)], args := [d] }
  | _ => none }
def patchPartsRow : OpenClaim := { program := "ytpkhnchbamjgjaa", sum := "fb4c920e5b4cc957d3c7ba2447fd30fff9ed255a6c45bf85689538ed24572dc9", func := "ferryslip/ferrysliplaw16.PatchParts", spec := "patchParts", inPlace := ["internal/bytealg.abigen_runtime_cmpstring"], unfollowed := true, recurses := true, apart := false }
def PatchPartsSaid : Prop := patchPartsRow.holds Try.pinned (OpenSpec.ofChange patchPartsSpec)

/-- ITS FALSE NEIGHBOUR: 'it returns false'. Refute it at one input. -/
def patchPartsWrong : ChangeSpec := { name := "patchParts", fn := fun _ => fun
  | [d] => { results := [.lit (.bool false)], args := [d] }
  | _ => none }
def PatchPartsWrongFalsely : Prop := patchPartsRow.holds Try.pinned (OpenSpec.ofChange patchPartsWrong)

/- THE SECOND FORM. 'bulk': how many values and letters a reading holds, each counted each time it is reached (what is shared counts as often as it is met; a slice's spare places count too). A statement '..UptoSaid' is the law's where the arguments, and the package variables that the reading takes, are together of bulk at most 1048576: NARROWER than '..Said'. Prove '..Said' where nothing that the law and all that it calls make is longer than what came in: it says more and counts as full. Else prove '..UptoSaid'. A law counts once. -/
mutual
def uptoBulk {H : Type} : DataW H → Nat
  | .lit (.string bytes) => bytes.length + 1
  | .lit _ => 1
  | .nil => 1
  | .ptr d => uptoBulk d + 1
  | .slice elems spare => uptoBulkAll elems + uptoBulkAll spare + 1
  | .agg parts => uptoBulkAll parts + 1
  | .iface _ d => uptoBulk d + 1
  | .map entries => uptoBulkEntries entries + 1
  | .held _ => 1
def uptoBulkAll {H : Type} : List (DataW H) → Nat
  | [] => 0
  | d :: r => uptoBulk d + uptoBulkAll r
def uptoBulkEntries {H : Type} : List (Lit × DataW H) → Nat
  | [] => 0
  | x :: r => uptoBulkEntry x + uptoBulkEntries r
def uptoBulkEntry {H : Type} : Lit × DataW H → Nat
  | (.string bytes, d) => bytes.length + uptoBulk d + 1
  | (_, d) => uptoBulk d + 1
 end
def uptoSmall : (H : Type) → List (DataW H) → Bool := fun _ ds => decide (uptoBulkAll ds ≤ 1048576)
def OpenSpec.upto (s : _root_.Go.ChangeSpec) : _root_.Go.OpenSpec := { _root_.Go.OpenSpec.ofChange s with cond := some uptoSmall }

/-- 'ferrysliplaw16.PatchExact', WHERE WHAT IT READS IS OF BULK AT MOST 1048576: true; the input reads as it did. -/
def patchExactUptoRow : OpenClaim := { program := "ytpkhnchbamjgjaa", sum := "fb4c920e5b4cc957d3c7ba2447fd30fff9ed255a6c45bf85689538ed24572dc9", func := "ferryslip/ferrysliplaw16.PatchExact", spec := "patchExact", inPlace := ["internal/bytealg.abigen_runtime_cmpstring"], unfollowed := true, recurses := true, apart := false, narrowed := true }
def PatchExactUptoSaid : Prop := patchExactUptoRow.holds Try.pinned (OpenSpec.upto patchExactSpec)

/-- 'ferrysliplaw16.PatchMakes', WHERE WHAT IT READS IS OF BULK AT MOST 1048576: true; the input reads as it did. -/
def patchMakesUptoRow : OpenClaim := { program := "ytpkhnchbamjgjaa", sum := "fb4c920e5b4cc957d3c7ba2447fd30fff9ed255a6c45bf85689538ed24572dc9", func := "ferryslip/ferrysliplaw16.PatchMakes", spec := "patchMakes", inPlace := ["internal/bytealg.abigen_runtime_cmpstring"], unfollowed := true, recurses := true, apart := false, narrowed := true }
def PatchMakesUptoSaid : Prop := patchMakesUptoRow.holds Try.pinned (OpenSpec.upto patchMakesSpec)

/-- 'ferrysliplaw16.PatchLeast', WHERE WHAT IT READS IS OF BULK AT MOST 1048576: true; the input reads as it did. -/
def patchLeastUptoRow : OpenClaim := { program := "ytpkhnchbamjgjaa", sum := "fb4c920e5b4cc957d3c7ba2447fd30fff9ed255a6c45bf85689538ed24572dc9", func := "ferryslip/ferrysliplaw16.PatchLeast", spec := "patchLeast", inPlace := ["internal/bytealg.abigen_runtime_cmpstring"], unfollowed := true, recurses := true, apart := false, narrowed := true }
def PatchLeastUptoSaid : Prop := patchLeastUptoRow.holds Try.pinned (OpenSpec.upto patchLeastSpec)

/-- 'ferrysliplaw16.PatchHosts', WHERE WHAT IT READS IS OF BULK AT MOST 1048576: true; the input reads as it did. -/
def patchHostsUptoRow : OpenClaim := { program := "ytpkhnchbamjgjaa", sum := "fb4c920e5b4cc957d3c7ba2447fd30fff9ed255a6c45bf85689538ed24572dc9", func := "ferryslip/ferrysliplaw16.PatchHosts", spec := "patchHosts", inPlace := ["internal/bytealg.abigen_runtime_cmpstring"], unfollowed := true, recurses := true, apart := false, narrowed := true }
def PatchHostsUptoSaid : Prop := patchHostsUptoRow.holds Try.pinned (OpenSpec.upto patchHostsSpec)

/-- 'ferrysliplaw16.PatchTwice', WHERE WHAT IT READS IS OF BULK AT MOST 1048576: true; the input reads as it did. -/
def patchTwiceUptoRow : OpenClaim := { program := "ytpkhnchbamjgjaa", sum := "fb4c920e5b4cc957d3c7ba2447fd30fff9ed255a6c45bf85689538ed24572dc9", func := "ferryslip/ferrysliplaw16.PatchTwice", spec := "patchTwice", inPlace := ["internal/bytealg.abigen_runtime_cmpstring"], unfollowed := true, recurses := true, apart := false, narrowed := true }
def PatchTwiceUptoSaid : Prop := patchTwiceUptoRow.holds Try.pinned (OpenSpec.upto patchTwiceSpec)

/-- 'ferrysliplaw16.PatchChain', WHERE WHAT IT READS IS OF BULK AT MOST 1048576: true; the input reads as it did. -/
def patchChainUptoRow : OpenClaim := { program := "ytpkhnchbamjgjaa", sum := "fb4c920e5b4cc957d3c7ba2447fd30fff9ed255a6c45bf85689538ed24572dc9", func := "ferryslip/ferrysliplaw16.PatchChain", spec := "patchChain", inPlace := ["internal/bytealg.abigen_runtime_cmpstring"], unfollowed := true, recurses := true, apart := false, narrowed := true }
def PatchChainUptoSaid : Prop := patchChainUptoRow.holds Try.pinned (OpenSpec.upto patchChainSpec)

/-- 'ferrysliplaw16.PatchParts', WHERE WHAT IT READS IS OF BULK AT MOST 1048576: true; the input reads as it did. -/
def patchPartsUptoRow : OpenClaim := { program := "ytpkhnchbamjgjaa", sum := "fb4c920e5b4cc957d3c7ba2447fd30fff9ed255a6c45bf85689538ed24572dc9", func := "ferryslip/ferrysliplaw16.PatchParts", spec := "patchParts", inPlace := ["internal/bytealg.abigen_runtime_cmpstring"], unfollowed := true, recurses := true, apart := false, narrowed := true }
def PatchPartsUptoSaid : Prop := patchPartsUptoRow.holds Try.pinned (OpenSpec.upto patchPartsSpec)

end Rows
end Go.Proofs.Ytpkhnchbamjgjaa
