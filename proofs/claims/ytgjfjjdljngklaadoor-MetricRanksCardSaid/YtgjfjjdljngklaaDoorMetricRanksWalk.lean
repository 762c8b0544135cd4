/-
  The walk of layer 11's statement MetricRanks, from what metric does: it returns true whatever the input is. No conditions.
-/
import Derived.Test.YtgjfjjdljngklaaDoorMetricA
namespace Go.Proofs.YtgjfjjdljngklaaDoor
open Go.RowKit
open F
set_option linter.unusedVariables false

set_option maxRecDepth 100000 in
set_option maxHeartbeats 4000000 in
theorem metricRanks_walk (E : MetricOk) (AW : ∀ w, TabOk w → Calls Tryd.prog 16 #[] w (TrueS w)) (w : World) (HTAB : TabOk w) (a : Nat) (ha : a < 18446744073709551616) (b : Nat) (hb0 : b < 18446744073709551616) :
    Calls Tryd.prog 3 #[.float .f64 a, .float .f64 b] w (TrueS w) := by
  have TAB := Lib.hid HTAB
  clear HTAB
  have HA := Lib.hid ha
  have HB := Lib.hid hb0
  obtain ⟨ra, hra⟩ : ∃ r, rankF a = r := ⟨_, rfl⟩
  obtain ⟨rb, hrb⟩ : ∃ r, rankF b = r := ⟨_, rfl⟩
  obtain ⟨ab, hab⟩ : ∃ r, aheadB a b = r := ⟨_, rfl⟩
  have d1 : decide (ra < rb) = ab := by rw [← hra, ← hrb]; exact hab
  have HRA := Lib.hid hra
  have HRB := Lib.hid hrb
  have HAB := Lib.hid hab
  clear ha hb0 hra hrb hab
  have hb : Below w.heap.size w w := Below.refl _ _
  go_enter Tryd.func3, Tryd.ntmps3
  go_wp2_with fail
  refine (E.rankOf a ra _ HA.out HRA.out).mono ?_
  rintro e w1 ⟨rfl, hx⟩
  replace hb := bthen hb hx
  clear hx
  go_wp2_with fail
  refine (rankR a ra _ HA.out HRA.out).mono ?_
  rintro e w2 ⟨rfl, rfl⟩
  go_wp2_with fail
  refine (E.lessOf a b ab _ HA.out HB.out HAB.out).mono ?_
  rintro e w3 ⟨rfl, hx⟩
  replace hb := bthen hb hx
  clear hx
  go_wp2_with fail
  refine (aheadR11 a b ab _ HA.out HB.out HAB.out).mono ?_
  rintro e w4 ⟨rfl, rfl⟩
  go_wp2_with fail
  refine (E.rankOf a ra _ HA.out HRA.out).mono ?_
  rintro e w5 ⟨rfl, hx⟩
  replace hb := bthen hb hx
  clear hx
  go_wp2_with fail
  refine (E.rankOf b rb _ HB.out HRB.out).mono ?_
  rintro e w6 ⟨rfl, hx⟩
  replace hb := bthen hb hx
  clear hx
  go_wp2_with fail
  refine (aheadR11 a b ab _ HA.out HB.out HAB.out).mono ?_
  rintro e w7 ⟨rfl, rfl⟩
  go_wp2_with fail
  refine (AW _ (tabAt11 TAB (by first | assumption | exact Below.refl _ _ | exact below_drawn11 (by first | assumption | exact Below.refl _ _) _))).mono ?_
  rintro e w8 ⟨rfl, hx⟩
  replace hb := bthen hb hx
  clear hx
  go_wp2
  go_ret
  exact ⟨rfl, hb⟩
end Go.Proofs.YtgjfjjdljngklaaDoor
