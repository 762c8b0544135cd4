/-
  The walk of layer 11's statement MetricTexts, from what metric does: it returns true whatever the input is. No conditions.
-/
import Derived.Test.YtgjfjjdljngklaaDoorMetricA
import Derived.Test.YtgjfjjdljngklaaDoorMetricJ
namespace Go.Proofs.YtgjfjjdljngklaaDoor
open Go.RowKit
open F
set_option linter.unusedVariables false

set_option maxRecDepth 100000 in
set_option maxHeartbeats 4000000 in
theorem metricTexts_walk (E : MetricOk) (AW : ∀ w, TabOk w → Calls Tryd.prog 16 #[] w (TrueS w)) (w : World) (HTAB : TabOk w) (f : Nat) (hf : f < 18446744073709551616) :
    Calls Tryd.prog 5 #[.float .f64 f] w (TrueS w) := by
  have TAB := Lib.hid HTAB
  clear HTAB
  have HF := Lib.hid hf
  obtain ⟨o, ho⟩ := text_ex f
  obtain ⟨q, hq⟩ : ∃ q, sB (o.getD []) = q := ⟨_, rfl⟩
  obtain ⟨ok, hok⟩ : ∃ ok, o.isSome = ok := ⟨_, rfl⟩
  have HO := Lib.hid ho
  have HQ := Lib.hid hq
  have HK := Lib.hid hok
  clear hf ho hq hok
  have hb : Below w.heap.size w w := Below.refl _ _
  go_enter Tryd.func5, Tryd.ntmps5
  go_wp2_with fail
  refine (E.textOf f o q ok _ HF.out (tabAt11 TAB (by first | assumption | exact Below.refl _ _ | exact below_drawn11 (by first | assumption | exact Below.refl _ _) _)) HO.out HQ.out HK.out).mono ?_
  rintro e w1 ⟨rfl, hx⟩
  replace hb := bthen hb hx
  clear hx
  go_wp2_with fail
  refine (textR11 f o q ok _ HF.out HO.out HQ.out HK.out).mono ?_
  rintro e w2 ⟨rfl, hx⟩
  replace hb := bthen hb hx
  clear hx
  go_wp2_with fail
  refine (AW _ (tabAt11 TAB (by first | assumption | exact Below.refl _ _ | exact below_drawn11 (by first | assumption | exact Below.refl _ _) _))).mono ?_
  rintro e w3 ⟨rfl, hx⟩
  replace hb := bthen hb hx
  clear hx
  go_wp2
  go_ret
  exact ⟨rfl, hb⟩
end Go.Proofs.YtgjfjjdljngklaaDoor
