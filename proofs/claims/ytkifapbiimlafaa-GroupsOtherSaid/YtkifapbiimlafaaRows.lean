/-
  No cell of these rows narrows 'for every input' (looked for: loops, veiled, ifaces, maps, wideKeys, modest, calm, conditions, laid).
  DERIVED. THE GIVEN ROWS OF THIS SEAT. 7 by the template 'for every input the law returns true; each argument reads behind the call as it read before'; 0 by the template 'total and deterministic' (their statements: YtkifapbiimlafaaTotals.lean).
  GIVEN WITH THE SEED: the statements are not yours to turn. If you find one false, say at which input.
  Laid BY PROGRAM, IN A SANDBOX (cutbox-rows.mjs): the forced cells as the released guide's own fill.sh prints them over the translation eb1dd17931512362… (all of the seat's roots in one cut). By AI agents, Wed Nov 11 2026. No macro, syntax, notation, axiom, sorry.
-/
import Derived.Test.YtkifapbiimlafaaChecked
import GoSem.Claim
import GoSem.ClaimJoined
import GoSem.ClaimMapViews
import Derived.JoinedTies
import Derived.KernelRfl
namespace Go.Proofs.Ytkifapbiimlafaa
/- THE CELL 'sum', in the pinned program and in every row, IS THE sha256 OF THE DUMP (.gsa) THAT YtkifapbiimlafaaProg.lean LOADS. Nothing in Lean hashes anything: it is a label: what it is worth is what the hold of that sum in a sandbox is worth. -/
noncomputable def Try.pinned : Pinned := { name := "ytkifapbiimlafaa", sum := "eb1dd17931512362f7557140891ecd21ac4d0244eed1a738ed5f9c95c36d260b", checked := Try.checked }
namespace Rows
def none {H : Type} : Left H := { results := [], args := [] }

/-- 'ferrysliplaw12.GroupsActive': WHATEVER THE INPUT: true; the input reads as it did. -/
def groupsActiveSpec : ChangeSpec := { name := "groupsActive", fn := fun _ => fun
  | [d] => { results := [.lit (.bool true)], args := [d] }
  | _ => none }
def groupsActiveRow : OpenClaim := { program := "ytkifapbiimlafaa", sum := "eb1dd17931512362f7557140891ecd21ac4d0244eed1a738ed5f9c95c36d260b", func := "ferryslip/ferrysliplaw12.GroupsActive", spec := "groupsActive", unfollowed := true, recurses := true, apart := false }
def GroupsActiveSaid : Prop := groupsActiveRow.holds Try.pinned (OpenSpec.ofChange groupsActiveSpec)

/-- ITS FALSE NEIGHBOUR: 'it returns false'. Refute it at one input. -/
def groupsActiveWrong : ChangeSpec := { name := "groupsActive", fn := fun _ => fun
  | [d] => { results := [.lit (.bool false)], args := [d] }
  | _ => none }
def GroupsActiveWrongFalsely : Prop := groupsActiveRow.holds Try.pinned (OpenSpec.ofChange groupsActiveWrong)

/-- 'ferrysliplaw12.GroupsExpand': WHATEVER THE INPUT: true; the input reads as it did. -/
def groupsExpandSpec : ChangeSpec := { name := "groupsExpand", fn := fun _ => fun
  | [d1, d2] => { results := [.lit (.bool true)], args := [d1, d2] }
  | _ => none }
def groupsExpandRow : OpenClaim := { program := "ytkifapbiimlafaa", sum := "eb1dd17931512362f7557140891ecd21ac4d0244eed1a738ed5f9c95c36d260b", func := "ferryslip/ferrysliplaw12.GroupsExpand", spec := "groupsExpand", unfollowed := true, recurses := true, apart := false }
def GroupsExpandSaid : Prop := groupsExpandRow.holds Try.pinned (OpenSpec.ofChange groupsExpandSpec)

/-- ITS FALSE NEIGHBOUR: 'it returns false'. Refute it at one input. -/
def groupsExpandWrong : ChangeSpec := { name := "groupsExpand", fn := fun _ => fun
  | [d1, d2] => { results := [.lit (.bool false)], args := [d1, d2] }
  | _ => none }
def GroupsExpandWrongFalsely : Prop := groupsExpandRow.holds Try.pinned (OpenSpec.ofChange groupsExpandWrong)

/-- 'ferrysliplaw12.GroupsStay': WHATEVER THE INPUT: true; the input reads as it did. -/
def groupsStaySpec : ChangeSpec := { name := "groupsStay", fn := fun _ => fun
  | [d] => { results := [.lit (.bool true)], args := [d] }
  | _ => none }
def groupsStayRow : OpenClaim := { program := "ytkifapbiimlafaa", sum := "eb1dd17931512362f7557140891ecd21ac4d0244eed1a738ed5f9c95c36d260b", func := "ferryslip/ferrysliplaw12.GroupsStay", spec := "groupsStay", unfollowed := true, recurses := true, apart := false }
def GroupsStaySaid : Prop := groupsStayRow.holds Try.pinned (OpenSpec.ofChange groupsStaySpec)

/-- ITS FALSE NEIGHBOUR: 'it returns false'. Refute it at one input. -/
def groupsStayWrong : ChangeSpec := { name := "groupsStay", fn := fun _ => fun
  | [d] => { results := [.lit (.bool false)], args := [d] }
  | _ => none }
def GroupsStayWrongFalsely : Prop := groupsStayRow.holds Try.pinned (OpenSpec.ofChange groupsStayWrong)

/-- 'ferrysliplaw12.GroupsAgain': WHATEVER THE INPUT: true; the input reads as it did. -/
def groupsAgainSpec : ChangeSpec := { name := "groupsAgain", fn := fun _ => fun
  | [d] => { results := [.lit (.bool true)], args := [d] }
  | _ => none }
def groupsAgainRow : OpenClaim := { program := "ytkifapbiimlafaa", sum := "eb1dd17931512362f7557140891ecd21ac4d0244eed1a738ed5f9c95c36d260b", func := "ferryslip/ferrysliplaw12.GroupsAgain", spec := "groupsAgain", unfollowed := true, recurses := true, apart := false }
def GroupsAgainSaid : Prop := groupsAgainRow.holds Try.pinned (OpenSpec.ofChange groupsAgainSpec)

/-- ITS FALSE NEIGHBOUR: 'it returns false'. Refute it at one input. -/
def groupsAgainWrong : ChangeSpec := { name := "groupsAgain", fn := fun _ => fun
  | [d] => { results := [.lit (.bool false)], args := [d] }
  | _ => none }
def GroupsAgainWrongFalsely : Prop := groupsAgainRow.holds Try.pinned (OpenSpec.ofChange groupsAgainWrong)

/-- 'ferrysliplaw12.GroupsOff': WHATEVER THE INPUT: true; the input reads as it did. -/
def groupsOffSpec : ChangeSpec := { name := "groupsOff", fn := fun _ => fun
  | [d] => { results := [.lit (.bool true)], args := [d] }
  | _ => none }
def groupsOffRow : OpenClaim := { program := "ytkifapbiimlafaa", sum := "eb1dd17931512362f7557140891ecd21ac4d0244eed1a738ed5f9c95c36d260b", func := "ferryslip/ferrysliplaw12.GroupsOff", spec := "groupsOff", unfollowed := true, recurses := true, apart := false }
def GroupsOffSaid : Prop := groupsOffRow.holds Try.pinned (OpenSpec.ofChange groupsOffSpec)

/-- ITS FALSE NEIGHBOUR: 'it returns false'. Refute it at one input. -/
def groupsOffWrong : ChangeSpec := { name := "groupsOff", fn := fun _ => fun
  | [d] => { results := [.lit (.bool false)], args := [d] }
  | _ => none }
def GroupsOffWrongFalsely : Prop := groupsOffRow.holds Try.pinned (OpenSpec.ofChange groupsOffWrong)

/-- 'ferrysliplaw12.GroupsOther': WHATEVER THE INPUT: true; the input reads as it did. -/
def groupsOtherSpec : ChangeSpec := { name := "groupsOther", fn := fun _ => fun
  | [d1, d2] => { results := [.lit (.bool true)], args := [d1, d2] }
  | _ => none }
def groupsOtherRow : OpenClaim := { program := "ytkifapbiimlafaa", sum := "eb1dd17931512362f7557140891ecd21ac4d0244eed1a738ed5f9c95c36d260b", func := "ferryslip/ferrysliplaw12.GroupsOther", spec := "groupsOther", unfollowed := true, recurses := true, apart := false }
def GroupsOtherSaid : Prop := groupsOtherRow.holds Try.pinned (OpenSpec.ofChange groupsOtherSpec)

/-- ITS FALSE NEIGHBOUR: 'it returns false'. Refute it at one input. -/
def groupsOtherWrong : ChangeSpec := { name := "groupsOther", fn := fun _ => fun
  | [d1, d2] => { results := [.lit (.bool false)], args := [d1, d2] }
  | _ => none }
def GroupsOtherWrongFalsely : Prop := groupsOtherRow.holds Try.pinned (OpenSpec.ofChange groupsOtherWrong)

/-- 'ferrysliplaw12.GroupsPaths': WHATEVER THE INPUT: true; the input reads as it did. -/
def groupsPathsSpec : ChangeSpec := { name := "groupsPaths", fn := fun _ => fun
  | [d1, d2] => { results := [.lit (.bool true)], args := [d1, d2] }
  | _ => none }
def groupsPathsRow : OpenClaim := { program := "ytkifapbiimlafaa", sum := "eb1dd17931512362f7557140891ecd21ac4d0244eed1a738ed5f9c95c36d260b", func := "ferryslip/ferrysliplaw12.GroupsPaths", spec := "groupsPaths", unfollowed := true, recurses := true, apart := false }
def GroupsPathsSaid : Prop := groupsPathsRow.holds Try.pinned (OpenSpec.ofChange groupsPathsSpec)

/-- ITS FALSE NEIGHBOUR: 'it returns false'. Refute it at one input. -/
def groupsPathsWrong : ChangeSpec := { name := "groupsPaths", fn := fun _ => fun
  | [d1, d2] => { results := [.lit (.bool false)], args := [d1, d2] }
  | _ => none }
def GroupsPathsWrongFalsely : Prop := groupsPathsRow.holds Try.pinned (OpenSpec.ofChange groupsPathsWrong)

/- THE SECOND FORM. 'bulk': how many values and letters a reading holds, each counted each time it is reached (what is shared counts as often as it is met; a slice's spare places count too). A statement '..UptoSaid' is the law's where the arguments, and the package variables that the reading takes, are together of bulk at most 1048576: NARROWER than '..Said'. Prove '..Said' where nothing that the law and all that it calls make is longer than what came in: it says more and counts as full. Else prove '..UptoSaid'. A law counts once. -/
mutual
def uptoBulk {H : Type} : DataW H → Nat
  | .lit (.string bytes) => bytes.length + 1
  | .lit _ => 1
  | .nil => 1
  | .ptr d => uptoBulk d + 1
  | .slice elems spare => uptoBulkAll elems + uptoBulkAll spare + 1
  | .agg parts => uptoBulkAll parts + 1
  | .iface _ d => uptoBulk d + 1
  | .map entries => uptoBulkEntries entries + 1
  | .held _ => 1
def uptoBulkAll {H : Type} : List (DataW H) → Nat
  | [] => 0
  | d :: r => uptoBulk d + uptoBulkAll r
def uptoBulkEntries {H : Type} : List (Lit × DataW H) → Nat
  | [] => 0
  | x :: r => uptoBulkEntry x + uptoBulkEntries r
def uptoBulkEntry {H : Type} : Lit × DataW H → Nat
  | (.string bytes, d) => bytes.length + uptoBulk d + 1
  | (_, d) => uptoBulk d + 1
 end
def uptoSmall : (H : Type) → List (DataW H) → Bool := fun _ ds => decide (uptoBulkAll ds ≤ 1048576)
def OpenSpec.upto (s : _root_.Go.ChangeSpec) : _root_.Go.OpenSpec := { _root_.Go.OpenSpec.ofChange s with cond := some uptoSmall }

/-- 'ferrysliplaw12.GroupsActive', WHERE WHAT IT READS IS OF BULK AT MOST 1048576: true; the input reads as it did. -/
def groupsActiveUptoRow : OpenClaim := { program := "ytkifapbiimlafaa", sum := "eb1dd17931512362f7557140891ecd21ac4d0244eed1a738ed5f9c95c36d260b", func := "ferryslip/ferrysliplaw12.GroupsActive", spec := "groupsActive", unfollowed := true, recurses := true, apart := false, narrowed := true }
def GroupsActiveUptoSaid : Prop := groupsActiveUptoRow.holds Try.pinned (OpenSpec.upto groupsActiveSpec)

/-- 'ferrysliplaw12.GroupsExpand', WHERE WHAT IT READS IS OF BULK AT MOST 1048576: true; the input reads as it did. -/
def groupsExpandUptoRow : OpenClaim := { program := "ytkifapbiimlafaa", sum := "eb1dd17931512362f7557140891ecd21ac4d0244eed1a738ed5f9c95c36d260b", func := "ferryslip/ferrysliplaw12.GroupsExpand", spec := "groupsExpand", unfollowed := true, recurses := true, apart := false, narrowed := true }
def GroupsExpandUptoSaid : Prop := groupsExpandUptoRow.holds Try.pinned (OpenSpec.upto groupsExpandSpec)

/-- 'ferrysliplaw12.GroupsStay', WHERE WHAT IT READS IS OF BULK AT MOST 1048576: true; the input reads as it did. -/
def groupsStayUptoRow : OpenClaim := { program := "ytkifapbiimlafaa", sum := "eb1dd17931512362f7557140891ecd21ac4d0244eed1a738ed5f9c95c36d260b", func := "ferryslip/ferrysliplaw12.GroupsStay", spec := "groupsStay", unfollowed := true, recurses := true, apart := false, narrowed := true }
def GroupsStayUptoSaid : Prop := groupsStayUptoRow.holds Try.pinned (OpenSpec.upto groupsStaySpec)

/-- 'ferrysliplaw12.GroupsAgain', WHERE WHAT IT READS IS OF BULK AT MOST 1048576: true; the input reads as it did. -/
def groupsAgainUptoRow : OpenClaim := { program := "ytkifapbiimlafaa", sum := "eb1dd17931512362f7557140891ecd21ac4d0244eed1a738ed5f9c95c36d260b", func := "ferryslip/ferrysliplaw12.GroupsAgain", spec := "groupsAgain", unfollowed := true, recurses := true, apart := false, narrowed := true }
def GroupsAgainUptoSaid : Prop := groupsAgainUptoRow.holds Try.pinned (OpenSpec.upto groupsAgainSpec)

/-- 'ferrysliplaw12.GroupsOff', WHERE WHAT IT READS IS OF BULK AT MOST 1048576: true; the input reads as it did. -/
def groupsOffUptoRow : OpenClaim := { program := "ytkifapbiimlafaa", sum := "eb1dd17931512362f7557140891ecd21ac4d0244eed1a738ed5f9c95c36d260b", func := "ferryslip/ferrysliplaw12.GroupsOff", spec := "groupsOff", unfollowed := true, recurses := true, apart := false, narrowed := true }
def GroupsOffUptoSaid : Prop := groupsOffUptoRow.holds Try.pinned (OpenSpec.upto groupsOffSpec)

/-- 'ferrysliplaw12.GroupsOther', WHERE WHAT IT READS IS OF BULK AT MOST 1048576: true; the input reads as it did. -/
def groupsOtherUptoRow : OpenClaim := { program := "ytkifapbiimlafaa", sum := "eb1dd17931512362f7557140891ecd21ac4d0244eed1a738ed5f9c95c36d260b", func := "ferryslip/ferrysliplaw12.GroupsOther", spec := "groupsOther", unfollowed := true, recurses := true, apart := false, narrowed := true }
def GroupsOtherUptoSaid : Prop := groupsOtherUptoRow.holds Try.pinned (OpenSpec.upto groupsOtherSpec)

/-- 'ferrysliplaw12.GroupsPaths', WHERE WHAT IT READS IS OF BULK AT MOST 1048576: true; the input reads as it did. -/
def groupsPathsUptoRow : OpenClaim := { program := "ytkifapbiimlafaa", sum := "eb1dd17931512362f7557140891ecd21ac4d0244eed1a738ed5f9c95c36d260b", func := "ferryslip/ferrysliplaw12.GroupsPaths", spec := "groupsPaths", unfollowed := true, recurses := true, apart := false, narrowed := true }
def GroupsPathsUptoSaid : Prop := groupsPathsUptoRow.holds Try.pinned (OpenSpec.upto groupsPathsSpec)

end Rows
end Go.Proofs.Ytkifapbiimlafaa
