/-
  Layer 9's statement MergeSides holds: sides may change places. No conditions.
-/
import Derived.Test.YtfajfjocpgbmeaaLawFrame
import Derived.Test.YtfajfjocpgbmeaaLinesC
import Derived.Test.YtfajfjocpgbmeaaMergeA
import Derived.Test.YtfajfjocpgbmeaaMergeY
import Derived.Test.YtfajfjocpgbmeaaMergeSidesWalk
namespace Go.Proofs.Ytfajfjocpgbmeaa
open Go.ChangeShapes Go.WideShapes Go.ChangeAt Go.RowKit
open Go.ChangeMaps (open_string shut_string)
set_option linter.unusedVariables false

set_option maxRecDepth 100000 in
theorem mergeSides_lifted (os : Os) (started : os.Started) (H : Type) (enc : TypeId × Value → H) :
    ReturnsInHanded {} Try.checked os 4 .any (Rows.mergeSidesSpec.pre6 enc Try.prog Try.f4 Rows.mergeSidesRow.domain false) (Rows.mergeSidesSpec.post enc Try.prog Try.f4 false true false false) := by
  refine returnsInHanded_of_change (C := Try.checked) Try.own started (by kernel_rfl) Try.func4
    (ChangeSpec.witness6 (enc := enc) (C := Try.checked) false ⟨#[], #[.slice none 0 0, .slice none 0 0, .slice none 0 0], []⟩ 8 (by kernel_rfl) (by kernel_rfl) (by kernel_rfl) (by kernel_rfl)) ?_
  intro W base args ds gs before hval0 hW hcnd _
  have hval : ∀ (j : Nat) t v, Try.f4.params[j]? = some t → args[j]? = some v → Value.okWide Try.prog W .any base t v := hval0
  have hW' := hW
  obtain ⟨p, q, hA0, hV, rfl, hfz, hnd⟩ := hW
  have hA : DataW.TrodAll enc Try.prog W 0 (fun _ => true) true Try.f4.params.toList args.toList ds p := hA0
  rw [Try.params4] at hA hval
  obtain ⟨v0, vs0, d0, ds0, p0, q0, hargs, rfl, rfl, h0, r0⟩ := trodAll_cons hA
  obtain ⟨v1, vs1, d1, ds1, p1, q1, rfl, rfl, rfl, h1, r1⟩ := trodAll_cons r0
  obtain ⟨v2, vs2, d2, ds2, p2, q2, rfl, rfl, rfl, h2, r2⟩ := trodAll_cons r1
  obtain ⟨rfl, rfl, rfl⟩ := trodAll_nil r2
  obtain rfl : args = #[v0, v1, v2] := by cases args; simp_all
  obtain ⟨rfl, rfl⟩ := trodVars_none hV
  obtain ⟨A0, c0, t0, rfl, gc0, g0, gn0, gs0⟩ := open_lines (hval 0 22 v0 rfl rfl) h0
  obtain ⟨A1, c1, t1, rfl, gc1, g1, gn1, gs1⟩ := open_lines (hval 1 22 v1 rfl rfl) h1
  obtain ⟨A2, c2, t2, rfl, gc2, g2, gn2, gs2⟩ := open_lines (hval 2 22 v2 rfl rfl) h2
  clear hA0 hval0
  refine (mergeSides_walk merge_ok (awake_of9 merge_ok) W A0 c0 t0 gc0 g0 gn0 (fun e => ((slice_ok Try.underlying22 (hval 0 22 _ rfl rfl)).1 e).2) A1 c1 t1 gc1 g1 gn1 (fun e => ((slice_ok Try.underlying22 (hval 1 22 _ rfl rfl)).1 e).2) A2 c2 t2 gc2 g2 gn2 (fun e => ((slice_ok Try.underlying22 (hval 2 22 _ rfl rfl)).1 e).2)).mono fun e W' ⟨he, hb⟩ => ?_
  subst he
  exact ⟨_, rfl, law_post (by kernel_rfl) rfl rfl rfl rfl rfl hW' hb⟩

theorem mergeSides_over : Rows.mergeSidesRow.holds Try.pinned (OpenSpec.ofChange Rows.mergeSidesSpec) :=
  OpenClaim.holds_of_wide 4 Try.f4 rfl rfl rfl rfl rfl rfl rfl ⟨rfl, rfl, rfl, rfl, rfl⟩ rfl rfl rfl rfl rfl (by kernel_rfl) Try.func4 (by kernel_rfl)
    (of_decide_eq_true (by kernel_rfl)) (by unfold Func.isWrapper; first | (rw [if_pos (by decide +kernel)]; kernel_rfl) | (rw [if_neg (by decide +kernel)]; exact ⟨rfl, rfl⟩))
    (fun os started H enc _ => mergeSides_lifted os started H enc)

theorem mergeSides_holds : Rows.MergeSidesSaid := mergeSides_over
end Go.Proofs.Ytfajfjocpgbmeaa
