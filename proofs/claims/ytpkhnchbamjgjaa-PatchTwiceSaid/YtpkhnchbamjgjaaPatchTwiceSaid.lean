/-
  Layer 16's statement PatchTwice holds: what is applied twice is as if it were applied once. No conditions.
-/
import Derived.Test.YtpkhnchbamjgjaaBase5
import Derived.Test.YtpkhnchbamjgjaaPatchTwiceWalk
namespace Go.Proofs.Ytpkhnchbamjgjaa
open Go.ChangeShapes Go.WideShapes Go.ChangeAt Go.RowKit
open Go.ChangeMaps (open_string shut_string)
set_option linter.unusedVariables false

set_option maxRecDepth 100000 in
theorem patchTwice_lifted (os : Os) (started : os.Started) (H : Type) (enc : TypeId × Value → H) :
    ReturnsInHanded {} Try.checked os 7 .any (Rows.patchTwiceSpec.pre6 enc Try.prog Try.f7 Rows.patchTwiceRow.domain false) (Rows.patchTwiceSpec.post enc Try.prog Try.f7 false true false false) := by
  refine returnsInHanded_of_change (C := Try.checked) Try.own started (by kernel_rfl) Try.func7
    (ChangeSpec.witness6 (enc := enc) (C := Try.checked) false ⟨#[], #[.slice none 0 0, .agg #[.slice none 0 0, .slice none 0 0]], []⟩ 8 (by kernel_rfl) (by kernel_rfl) (by kernel_rfl) (by kernel_rfl)) ?_
  intro W base args ds gs before hval0 hW hcnd _
  have hval : ∀ (j : Nat) t v, Try.f7.params[j]? = some t → args[j]? = some v → Value.okWide Try.prog W .any base t v := hval0
  have hW' := hW
  obtain ⟨p, q, hA0, hV, rfl, hfz, hnd⟩ := hW
  have hA : DataW.TrodAll enc Try.prog W 0 (fun _ => true) true Try.f7.params.toList args.toList ds p := hA0
  rw [Try.params7] at hA hval
  obtain ⟨v0, vs0, d0, ds0, p0, q0, hargs, rfl, rfl, h0, r0⟩ := trodAll_cons hA
  obtain ⟨v1, vs1, d1, ds1, p1, q1, rfl, rfl, rfl, h1, r1⟩ := trodAll_cons r0
  obtain ⟨rfl, rfl, rfl⟩ := trodAll_nil r1
  obtain rfl : args = #[v0, v1] := by cases args; simp_all
  obtain ⟨rfl, rfl⟩ := trodVars_none hV
  obtain ⟨A0, c0, l0, rfl, gc0, _, g0, gn0, _⟩ := open_entries (hval 0 22 v0 rfl rfl) h0
  obtain ⟨D1, dc1, d1, P1, pc1, u1, rfl, gd1, gD1, gm1, gp1, gP1, gq1⟩ := open_patch (hval 1 24 v1 rfl rfl) h1
  clear hA0 hval0
  refine (patchTwice_walk patch_ok (awake16 patch_ok) W A0 c0 l0 gc0 g0 gn0 D1 dc1 d1 gd1 gD1 gm1 P1 pc1 u1 gp1 gP1 gq1).mono fun e W' ⟨he, hb⟩ => ?_
  subst he
  exact ⟨_, rfl, law_post (by kernel_rfl) rfl rfl rfl rfl rfl hW' hb⟩

theorem patchTwice_over : Rows.patchTwiceRow.holds Try.pinned (OpenSpec.ofChange Rows.patchTwiceSpec) :=
  OpenClaim.holds_of_wide 7 Try.f7 rfl rfl rfl rfl rfl rfl rfl ⟨rfl, rfl, rfl, rfl, rfl⟩ rfl rfl rfl rfl rfl (by kernel_rfl) Try.func7 (by kernel_rfl)
    (of_decide_eq_true (by kernel_rfl)) (by unfold Func.isWrapper; first | (rw [if_pos (by decide +kernel)]; kernel_rfl) | (rw [if_neg (by decide +kernel)]; exact ⟨rfl, rfl⟩))
    (fun os started H enc _ => patchTwice_lifted os started H enc)

theorem patchTwice_holds : Rows.PatchTwiceSaid := patchTwice_over
end Go.Proofs.Ytpkhnchbamjgjaa
