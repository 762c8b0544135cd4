/-
  Layer 12's statement GroupsOther holds: a group that is not applied makes no difference. No conditions.
-/
import Derived.Test.YtkifapbiimlafaaLawFrame
import Derived.Test.YtkifapbiimlafaaGroupA
import Derived.Test.YtkifapbiimlafaaGroupY
import Derived.Test.YtkifapbiimlafaaGroupsOtherWalk
namespace Go.Proofs.Ytkifapbiimlafaa
open Go.ChangeShapes Go.WideShapes Go.ChangeAt Go.RowKit
open Go.ChangeMaps (open_string shut_string)
set_option linter.unusedVariables false

set_option maxRecDepth 100000 in
theorem groupsOther_lifted (os : Os) (started : os.Started) (H : Type) (enc : TypeId × Value → H) :
    ReturnsInHanded {} Try.checked os 8 .any (Rows.groupsOtherSpec.pre6 enc Try.prog Try.f8 Rows.groupsOtherRow.domain false) (Rows.groupsOtherSpec.post enc Try.prog Try.f8 false true false false) := by
  refine returnsInHanded_of_change (C := Try.checked) Try.own started (by kernel_rfl) Try.func8
    (ChangeSpec.witness6 (enc := enc) (C := Try.checked) false ⟨#[], #[.slice none 0 0, .slice none 0 0], []⟩ 8 (by kernel_rfl) (by kernel_rfl) (by kernel_rfl) (by kernel_rfl)) ?_
  intro W base args ds gs before hval0 hW hcnd _
  have hval : ∀ (j : Nat) t v, Try.f8.params[j]? = some t → args[j]? = some v → Value.okWide Try.prog W .any base t v := hval0
  have hW' := hW
  obtain ⟨p, q, hA0, hV, rfl, hfz, hnd⟩ := hW
  have hA : DataW.TrodAll enc Try.prog W 0 (fun _ => true) true Try.f8.params.toList args.toList ds p := hA0
  rw [Try.params8] at hA hval
  obtain ⟨v0, vs0, d0, ds0, p0, q0, hargs, rfl, rfl, h0, r0⟩ := trodAll_cons hA
  obtain ⟨v1, vs1, d1, ds1, p1, q1, rfl, rfl, rfl, h1, r1⟩ := trodAll_cons r0
  obtain ⟨rfl, rfl, rfl⟩ := trodAll_nil r1
  obtain rfl : args = #[v0, v1] := by cases args; simp_all
  obtain ⟨rfl, rfl⟩ := trodVars_none hV
  obtain ⟨A0, c0, t0, rfl, gc0, g0, gn0, gs0⟩ := open_lines (hval 0 22 v0 rfl rfl) h0
  obtain ⟨A1, c1, t1, rfl, gc1, g1, gn1, gs1⟩ := open_lines (hval 1 22 v1 rfl rfl) h1
  clear hA0 hval0
  refine (groupsOther_walk groups_ok (awake12 groups_ok) W A0 c0 t0 gc0 g0 gn0 (fun e => ((slice_ok Try.underlying22 (hval 0 22 _ rfl rfl)).1 e).2) A1 c1 t1 gc1 g1 gn1 (fun e => ((slice_ok Try.underlying22 (hval 1 22 _ rfl rfl)).1 e).2)).mono fun e W' ⟨he, hb⟩ => ?_
  subst he
  exact ⟨_, rfl, law_post (by kernel_rfl) rfl rfl rfl rfl rfl hW' hb⟩

theorem groupsOther_over : Rows.groupsOtherRow.holds Try.pinned (OpenSpec.ofChange Rows.groupsOtherSpec) :=
  OpenClaim.holds_of_wide 8 Try.f8 rfl rfl rfl rfl rfl rfl rfl ⟨rfl, rfl, rfl, rfl, rfl⟩ rfl rfl rfl rfl rfl (by kernel_rfl) Try.func8 (by kernel_rfl)
    (of_decide_eq_true (by kernel_rfl)) (by unfold Func.isWrapper; first | (rw [if_pos (by decide +kernel)]; kernel_rfl) | (rw [if_neg (by decide +kernel)]; exact ⟨rfl, rfl⟩))
    (fun os started H enc _ => groupsOther_lifted os started H enc)

theorem groupsOther_holds : Rows.GroupsOtherSaid := groupsOther_over
end Go.Proofs.Ytkifapbiimlafaa
