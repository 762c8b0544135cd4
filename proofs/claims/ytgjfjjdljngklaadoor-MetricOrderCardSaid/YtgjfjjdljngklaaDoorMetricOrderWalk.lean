/-
  The walk of layer 11's statement MetricOrder, from what metric does: it returns true whatever the input is. No conditions.
-/
import Derived.Test.YtgjfjjdljngklaaDoorMetricA
namespace Go.Proofs.YtgjfjjdljngklaaDoor
open Go.RowKit
open F
set_option linter.unusedVariables false

set_option maxRecDepth 100000 in
set_option maxHeartbeats 4000000 in
theorem metricOrder_walk (E : MetricOk) (AW : ∀ w, TabOk w → Calls Tryd.prog 16 #[] w (TrueS w)) (w : World) (HTAB : TabOk w) (a : Nat) (ha : a < 18446744073709551616) (b : Nat) (hb0 : b < 18446744073709551616) (c : Nat) (hc : c < 18446744073709551616) :
    Calls Tryd.prog 8 #[.float .f64 a, .float .f64 b, .float .f64 c] w (TrueS w) := by
  have TAB := Lib.hid HTAB
  clear HTAB
  have HA := Lib.hid ha
  have HB := Lib.hid hb0
  have HC := Lib.hid hc
  obtain ⟨ra, hra⟩ : ∃ r, rankF a = r := ⟨_, rfl⟩
  obtain ⟨rb, hrb⟩ : ∃ r, rankF b = r := ⟨_, rfl⟩
  obtain ⟨rc, hrc⟩ : ∃ r, rankF c = r := ⟨_, rfl⟩
  obtain ⟨ab, hab⟩ : ∃ r, aheadB a b = r := ⟨_, rfl⟩
  obtain ⟨ba, hba⟩ : ∃ r, aheadB b a = r := ⟨_, rfl⟩
  obtain ⟨bc, hbc⟩ : ∃ r, aheadB b c = r := ⟨_, rfl⟩
  obtain ⟨ac, hac⟩ : ∃ r, aheadB a c = r := ⟨_, rfl⟩
  have dab : decide (ra < rb) = ab := by rw [← hra, ← hrb]; exact hab
  have dba : decide (rb < ra) = ba := by rw [← hra, ← hrb]; exact hba
  have dbc : decide (rb < rc) = bc := by rw [← hrb, ← hrc]; exact hbc
  have dac : decide (ra < rc) = ac := by rw [← hra, ← hrc]; exact hac
  have HAA := Lib.hid (show aheadB a a = false from decide_eq_false (by omega))
  have HRA := Lib.hid hra
  have HRB := Lib.hid hrb
  have HAB := Lib.hid hab
  have HBA := Lib.hid hba
  have HBC := Lib.hid hbc
  have HAC := Lib.hid hac
  clear ha hb0 hc hra hrb hrc hab hba hbc hac
  cases ab <;> cases ba <;> cases bc <;> cases ac
  · have d1 : (ra == rb) = true := beq_iff_eq.2 (by have kab := of_decide_eq_false dab; have kba := of_decide_eq_false dba; have kbc := of_decide_eq_false dbc; have kac := of_decide_eq_false dac; omega)
    clear dab dba dbc dac
    have hb : Below w.heap.size w w := Below.refl _ _
    go_enter Tryd.func8, Tryd.ntmps8
    go_wp2_with fail
    refine (E.lessOf a b false _ HA.out HB.out HAB.out).mono ?_
    rintro e w1 ⟨rfl, hx⟩
    replace hb := bthen hb hx
    clear hx
    go_wp2_with fail
    refine (E.lessOf b a false _ HB.out HA.out HBA.out).mono ?_
    rintro e w2 ⟨rfl, hx⟩
    replace hb := bthen hb hx
    clear hx
    go_wp2_with fail
    refine (E.lessOf b c false _ HB.out HC.out HBC.out).mono ?_
    rintro e w3 ⟨rfl, hx⟩
    replace hb := bthen hb hx
    clear hx
    go_wp2_with fail
    refine (E.lessOf a c false _ HA.out HC.out HAC.out).mono ?_
    rintro e w4 ⟨rfl, hx⟩
    replace hb := bthen hb hx
    clear hx
    go_wp2_with fail
    refine (E.rankOf a ra _ HA.out HRA.out).mono ?_
    rintro e w5 ⟨rfl, hx⟩
    replace hb := bthen hb hx
    clear hx
    go_wp2_with fail
    refine (E.rankOf b rb _ HB.out HRB.out).mono ?_
    rintro e w6 ⟨rfl, hx⟩
    replace hb := bthen hb hx
    clear hx
    go_wp2_with fail
    refine (E.lessOf a a false _ HA.out HA.out HAA.out).mono ?_
    rintro e w7 ⟨rfl, hx⟩
    replace hb := bthen hb hx
    clear hx
    go_wp2_with fail
    refine (AW _ (tabAt11 TAB (by first | assumption | exact Below.refl _ _ | exact below_drawn11 (by first | assumption | exact Below.refl _ _) _))).mono ?_
    rintro e w8 ⟨rfl, hx⟩
    replace hb := bthen hb hx
    clear hx
    go_wp2
    go_ret
    exact ⟨rfl, hb⟩
  · have d1 : (ra == rb) = true := beq_iff_eq.2 (by have kab := of_decide_eq_false dab; have kba := of_decide_eq_false dba; have kbc := of_decide_eq_false dbc; have kac := of_decide_eq_true dac; omega)
    clear dab dba dbc dac
    have hb : Below w.heap.size w w := Below.refl _ _
    go_enter Tryd.func8, Tryd.ntmps8
    go_wp2_with fail
    refine (E.lessOf a b false _ HA.out HB.out HAB.out).mono ?_
    rintro e w1 ⟨rfl, hx⟩
    replace hb := bthen hb hx
    clear hx
    go_wp2_with fail
    refine (E.lessOf b a false _ HB.out HA.out HBA.out).mono ?_
    rintro e w2 ⟨rfl, hx⟩
    replace hb := bthen hb hx
    clear hx
    go_wp2_with fail
    refine (E.lessOf b c false _ HB.out HC.out HBC.out).mono ?_
    rintro e w3 ⟨rfl, hx⟩
    replace hb := bthen hb hx
    clear hx
    go_wp2_with fail
    refine (E.lessOf a c true _ HA.out HC.out HAC.out).mono ?_
    rintro e w4 ⟨rfl, hx⟩
    replace hb := bthen hb hx
    clear hx
    go_wp2_with fail
    refine (E.rankOf a ra _ HA.out HRA.out).mono ?_
    rintro e w5 ⟨rfl, hx⟩
    replace hb := bthen hb hx
    clear hx
    go_wp2_with fail
    refine (E.rankOf b rb _ HB.out HRB.out).mono ?_
    rintro e w6 ⟨rfl, hx⟩
    replace hb := bthen hb hx
    clear hx
    go_wp2_with fail
    refine (E.lessOf a a false _ HA.out HA.out HAA.out).mono ?_
    rintro e w7 ⟨rfl, hx⟩
    replace hb := bthen hb hx
    clear hx
    go_wp2_with fail
    refine (AW _ (tabAt11 TAB (by first | assumption | exact Below.refl _ _ | exact below_drawn11 (by first | assumption | exact Below.refl _ _) _))).mono ?_
    rintro e w8 ⟨rfl, hx⟩
    replace hb := bthen hb hx
    clear hx
    go_wp2
    go_ret
    exact ⟨rfl, hb⟩
  · have d1 : (ra == rb) = true := beq_iff_eq.2 (by have kab := of_decide_eq_false dab; have kba := of_decide_eq_false dba; have kbc := of_decide_eq_true dbc; have kac := of_decide_eq_false dac; omega)
    clear dab dba dbc dac
    have hb : Below w.heap.size w w := Below.refl _ _
    go_enter Tryd.func8, Tryd.ntmps8
    go_wp2_with fail
    refine (E.lessOf a b false _ HA.out HB.out HAB.out).mono ?_
    rintro e w1 ⟨rfl, hx⟩
    replace hb := bthen hb hx
    clear hx
    go_wp2_with fail
    refine (E.lessOf b a false _ HB.out HA.out HBA.out).mono ?_
    rintro e w2 ⟨rfl, hx⟩
    replace hb := bthen hb hx
    clear hx
    go_wp2_with fail
    refine (E.lessOf b c true _ HB.out HC.out HBC.out).mono ?_
    rintro e w3 ⟨rfl, hx⟩
    replace hb := bthen hb hx
    clear hx
    go_wp2_with fail
    refine (E.lessOf a c false _ HA.out HC.out HAC.out).mono ?_
    rintro e w4 ⟨rfl, hx⟩
    replace hb := bthen hb hx
    clear hx
    go_wp2_with fail
    refine (E.rankOf a ra _ HA.out HRA.out).mono ?_
    rintro e w5 ⟨rfl, hx⟩
    replace hb := bthen hb hx
    clear hx
    go_wp2_with fail
    refine (E.rankOf b rb _ HB.out HRB.out).mono ?_
    rintro e w6 ⟨rfl, hx⟩
    replace hb := bthen hb hx
    clear hx
    go_wp2_with fail
    refine (E.lessOf a a false _ HA.out HA.out HAA.out).mono ?_
    rintro e w7 ⟨rfl, hx⟩
    replace hb := bthen hb hx
    clear hx
    go_wp2_with fail
    refine (AW _ (tabAt11 TAB (by first | assumption | exact Below.refl _ _ | exact below_drawn11 (by first | assumption | exact Below.refl _ _) _))).mono ?_
    rintro e w8 ⟨rfl, hx⟩
    replace hb := bthen hb hx
    clear hx
    go_wp2
    go_ret
    exact ⟨rfl, hb⟩
  · have d1 : (ra == rb) = true := beq_iff_eq.2 (by have kab := of_decide_eq_false dab; have kba := of_decide_eq_false dba; have kbc := of_decide_eq_true dbc; have kac := of_decide_eq_true dac; omega)
    clear dab dba dbc dac
    have hb : Below w.heap.size w w := Below.refl _ _
    go_enter Tryd.func8, Tryd.ntmps8
    go_wp2_with fail
    refine (E.lessOf a b false _ HA.out HB.out HAB.out).mono ?_
    rintro e w1 ⟨rfl, hx⟩
    replace hb := bthen hb hx
    clear hx
    go_wp2_with fail
    refine (E.lessOf b a false _ HB.out HA.out HBA.out).mono ?_
    rintro e w2 ⟨rfl, hx⟩
    replace hb := bthen hb hx
    clear hx
    go_wp2_with fail
    refine (E.lessOf b c true _ HB.out HC.out HBC.out).mono ?_
    rintro e w3 ⟨rfl, hx⟩
    replace hb := bthen hb hx
    clear hx
    go_wp2_with fail
    refine (E.lessOf a c true _ HA.out HC.out HAC.out).mono ?_
    rintro e w4 ⟨rfl, hx⟩
    replace hb := bthen hb hx
    clear hx
    go_wp2_with fail
    refine (E.rankOf a ra _ HA.out HRA.out).mono ?_
    rintro e w5 ⟨rfl, hx⟩
    replace hb := bthen hb hx
    clear hx
    go_wp2_with fail
    refine (E.rankOf b rb _ HB.out HRB.out).mono ?_
    rintro e w6 ⟨rfl, hx⟩
    replace hb := bthen hb hx
    clear hx
    go_wp2_with fail
    refine (E.lessOf a a false _ HA.out HA.out HAA.out).mono ?_
    rintro e w7 ⟨rfl, hx⟩
    replace hb := bthen hb hx
    clear hx
    go_wp2_with fail
    refine (AW _ (tabAt11 TAB (by first | assumption | exact Below.refl _ _ | exact below_drawn11 (by first | assumption | exact Below.refl _ _) _))).mono ?_
    rintro e w8 ⟨rfl, hx⟩
    replace hb := bthen hb hx
    clear hx
    go_wp2
    go_ret
    exact ⟨rfl, hb⟩
  · have d1 : (ra == rb) = false := beq_eq_false_iff_ne.2 (by have kab := of_decide_eq_false dab; have kba := of_decide_eq_true dba; have kbc := of_decide_eq_false dbc; have kac := of_decide_eq_false dac; omega)
    clear dab dba dbc dac
    have hb : Below w.heap.size w w := Below.refl _ _
    go_enter Tryd.func8, Tryd.ntmps8
    go_wp2_with fail
    refine (E.lessOf a b false _ HA.out HB.out HAB.out).mono ?_
    rintro e w1 ⟨rfl, hx⟩
    replace hb := bthen hb hx
    clear hx
    go_wp2_with fail
    refine (E.lessOf b a true _ HB.out HA.out HBA.out).mono ?_
    rintro e w2 ⟨rfl, hx⟩
    replace hb := bthen hb hx
    clear hx
    go_wp2_with fail
    refine (E.lessOf b c false _ HB.out HC.out HBC.out).mono ?_
    rintro e w3 ⟨rfl, hx⟩
    replace hb := bthen hb hx
    clear hx
    go_wp2_with fail
    refine (E.lessOf a c false _ HA.out HC.out HAC.out).mono ?_
    rintro e w4 ⟨rfl, hx⟩
    replace hb := bthen hb hx
    clear hx
    go_wp2_with fail
    refine (E.rankOf a ra _ HA.out HRA.out).mono ?_
    rintro e w5 ⟨rfl, hx⟩
    replace hb := bthen hb hx
    clear hx
    go_wp2_with fail
    refine (E.rankOf b rb _ HB.out HRB.out).mono ?_
    rintro e w6 ⟨rfl, hx⟩
    replace hb := bthen hb hx
    clear hx
    go_wp2_with fail
    refine (E.lessOf a a false _ HA.out HA.out HAA.out).mono ?_
    rintro e w7 ⟨rfl, hx⟩
    replace hb := bthen hb hx
    clear hx
    go_wp2_with fail
    refine (AW _ (tabAt11 TAB (by first | assumption | exact Below.refl _ _ | exact below_drawn11 (by first | assumption | exact Below.refl _ _) _))).mono ?_
    rintro e w8 ⟨rfl, hx⟩
    replace hb := bthen hb hx
    clear hx
    go_wp2
    go_ret
    exact ⟨rfl, hb⟩
  · have d1 : (ra == rb) = false := beq_eq_false_iff_ne.2 (by have kab := of_decide_eq_false dab; have kba := of_decide_eq_true dba; have kbc := of_decide_eq_false dbc; have kac := of_decide_eq_true dac; omega)
    clear dab dba dbc dac
    have hb : Below w.heap.size w w := Below.refl _ _
    go_enter Tryd.func8, Tryd.ntmps8
    go_wp2_with fail
    refine (E.lessOf a b false _ HA.out HB.out HAB.out).mono ?_
    rintro e w1 ⟨rfl, hx⟩
    replace hb := bthen hb hx
    clear hx
    go_wp2_with fail
    refine (E.lessOf b a true _ HB.out HA.out HBA.out).mono ?_
    rintro e w2 ⟨rfl, hx⟩
    replace hb := bthen hb hx
    clear hx
    go_wp2_with fail
    refine (E.lessOf b c false _ HB.out HC.out HBC.out).mono ?_
    rintro e w3 ⟨rfl, hx⟩
    replace hb := bthen hb hx
    clear hx
    go_wp2_with fail
    refine (E.lessOf a c true _ HA.out HC.out HAC.out).mono ?_
    rintro e w4 ⟨rfl, hx⟩
    replace hb := bthen hb hx
    clear hx
    go_wp2_with fail
    refine (E.rankOf a ra _ HA.out HRA.out).mono ?_
    rintro e w5 ⟨rfl, hx⟩
    replace hb := bthen hb hx
    clear hx
    go_wp2_with fail
    refine (E.rankOf b rb _ HB.out HRB.out).mono ?_
    rintro e w6 ⟨rfl, hx⟩
    replace hb := bthen hb hx
    clear hx
    go_wp2_with fail
    refine (E.lessOf a a false _ HA.out HA.out HAA.out).mono ?_
    rintro e w7 ⟨rfl, hx⟩
    replace hb := bthen hb hx
    clear hx
    go_wp2_with fail
    refine (AW _ (tabAt11 TAB (by first | assumption | exact Below.refl _ _ | exact below_drawn11 (by first | assumption | exact Below.refl _ _) _))).mono ?_
    rintro e w8 ⟨rfl, hx⟩
    replace hb := bthen hb hx
    clear hx
    go_wp2
    go_ret
    exact ⟨rfl, hb⟩
  · have d1 : (ra == rb) = false := beq_eq_false_iff_ne.2 (by have kab := of_decide_eq_false dab; have kba := of_decide_eq_true dba; have kbc := of_decide_eq_true dbc; have kac := of_decide_eq_false dac; omega)
    clear dab dba dbc dac
    have hb : Below w.heap.size w w := Below.refl _ _
    go_enter Tryd.func8, Tryd.ntmps8
    go_wp2_with fail
    refine (E.lessOf a b false _ HA.out HB.out HAB.out).mono ?_
    rintro e w1 ⟨rfl, hx⟩
    replace hb := bthen hb hx
    clear hx
    go_wp2_with fail
    refine (E.lessOf b a true _ HB.out HA.out HBA.out).mono ?_
    rintro e w2 ⟨rfl, hx⟩
    replace hb := bthen hb hx
    clear hx
    go_wp2_with fail
    refine (E.lessOf b c true _ HB.out HC.out HBC.out).mono ?_
    rintro e w3 ⟨rfl, hx⟩
    replace hb := bthen hb hx
    clear hx
    go_wp2_with fail
    refine (E.lessOf a c false _ HA.out HC.out HAC.out).mono ?_
    rintro e w4 ⟨rfl, hx⟩
    replace hb := bthen hb hx
    clear hx
    go_wp2_with fail
    refine (E.rankOf a ra _ HA.out HRA.out).mono ?_
    rintro e w5 ⟨rfl, hx⟩
    replace hb := bthen hb hx
    clear hx
    go_wp2_with fail
    refine (E.rankOf b rb _ HB.out HRB.out).mono ?_
    rintro e w6 ⟨rfl, hx⟩
    replace hb := bthen hb hx
    clear hx
    go_wp2_with fail
    refine (E.lessOf a a false _ HA.out HA.out HAA.out).mono ?_
    rintro e w7 ⟨rfl, hx⟩
    replace hb := bthen hb hx
    clear hx
    go_wp2_with fail
    refine (AW _ (tabAt11 TAB (by first | assumption | exact Below.refl _ _ | exact below_drawn11 (by first | assumption | exact Below.refl _ _) _))).mono ?_
    rintro e w8 ⟨rfl, hx⟩
    replace hb := bthen hb hx
    clear hx
    go_wp2
    go_ret
    exact ⟨rfl, hb⟩
  · have d1 : (ra == rb) = false := beq_eq_false_iff_ne.2 (by have kab := of_decide_eq_false dab; have kba := of_decide_eq_true dba; have kbc := of_decide_eq_true dbc; have kac := of_decide_eq_true dac; omega)
    clear dab dba dbc dac
    have hb : Below w.heap.size w w := Below.refl _ _
    go_enter Tryd.func8, Tryd.ntmps8
    go_wp2_with fail
    refine (E.lessOf a b false _ HA.out HB.out HAB.out).mono ?_
    rintro e w1 ⟨rfl, hx⟩
    replace hb := bthen hb hx
    clear hx
    go_wp2_with fail
    refine (E.lessOf b a true _ HB.out HA.out HBA.out).mono ?_
    rintro e w2 ⟨rfl, hx⟩
    replace hb := bthen hb hx
    clear hx
    go_wp2_with fail
    refine (E.lessOf b c true _ HB.out HC.out HBC.out).mono ?_
    rintro e w3 ⟨rfl, hx⟩
    replace hb := bthen hb hx
    clear hx
    go_wp2_with fail
    refine (E.lessOf a c true _ HA.out HC.out HAC.out).mono ?_
    rintro e w4 ⟨rfl, hx⟩
    replace hb := bthen hb hx
    clear hx
    go_wp2_with fail
    refine (E.rankOf a ra _ HA.out HRA.out).mono ?_
    rintro e w5 ⟨rfl, hx⟩
    replace hb := bthen hb hx
    clear hx
    go_wp2_with fail
    refine (E.rankOf b rb _ HB.out HRB.out).mono ?_
    rintro e w6 ⟨rfl, hx⟩
    replace hb := bthen hb hx
    clear hx
    go_wp2_with fail
    refine (E.lessOf a a false _ HA.out HA.out HAA.out).mono ?_
    rintro e w7 ⟨rfl, hx⟩
    replace hb := bthen hb hx
    clear hx
    go_wp2_with fail
    refine (AW _ (tabAt11 TAB (by first | assumption | exact Below.refl _ _ | exact below_drawn11 (by first | assumption | exact Below.refl _ _) _))).mono ?_
    rintro e w8 ⟨rfl, hx⟩
    replace hb := bthen hb hx
    clear hx
    go_wp2
    go_ret
    exact ⟨rfl, hb⟩
  · have d1 : (ra == rb) = false := beq_eq_false_iff_ne.2 (by have kab := of_decide_eq_true dab; have kba := of_decide_eq_false dba; have kbc := of_decide_eq_false dbc; have kac := of_decide_eq_false dac; omega)
    clear dab dba dbc dac
    have hb : Below w.heap.size w w := Below.refl _ _
    go_enter Tryd.func8, Tryd.ntmps8
    go_wp2_with fail
    refine (E.lessOf a b true _ HA.out HB.out HAB.out).mono ?_
    rintro e w1 ⟨rfl, hx⟩
    replace hb := bthen hb hx
    clear hx
    go_wp2_with fail
    refine (E.lessOf b a false _ HB.out HA.out HBA.out).mono ?_
    rintro e w2 ⟨rfl, hx⟩
    replace hb := bthen hb hx
    clear hx
    go_wp2_with fail
    refine (E.lessOf b c false _ HB.out HC.out HBC.out).mono ?_
    rintro e w3 ⟨rfl, hx⟩
    replace hb := bthen hb hx
    clear hx
    go_wp2_with fail
    refine (E.lessOf a c false _ HA.out HC.out HAC.out).mono ?_
    rintro e w4 ⟨rfl, hx⟩
    replace hb := bthen hb hx
    clear hx
    go_wp2_with fail
    refine (E.rankOf a ra _ HA.out HRA.out).mono ?_
    rintro e w5 ⟨rfl, hx⟩
    replace hb := bthen hb hx
    clear hx
    go_wp2_with fail
    refine (E.rankOf b rb _ HB.out HRB.out).mono ?_
    rintro e w6 ⟨rfl, hx⟩
    replace hb := bthen hb hx
    clear hx
    go_wp2_with fail
    refine (E.lessOf a a false _ HA.out HA.out HAA.out).mono ?_
    rintro e w7 ⟨rfl, hx⟩
    replace hb := bthen hb hx
    clear hx
    go_wp2_with fail
    refine (AW _ (tabAt11 TAB (by first | assumption | exact Below.refl _ _ | exact below_drawn11 (by first | assumption | exact Below.refl _ _) _))).mono ?_
    rintro e w8 ⟨rfl, hx⟩
    replace hb := bthen hb hx
    clear hx
    go_wp2
    go_ret
    exact ⟨rfl, hb⟩
  · have d1 : (ra == rb) = false := beq_eq_false_iff_ne.2 (by have kab := of_decide_eq_true dab; have kba := of_decide_eq_false dba; have kbc := of_decide_eq_false dbc; have kac := of_decide_eq_true dac; omega)
    clear dab dba dbc dac
    have hb : Below w.heap.size w w := Below.refl _ _
    go_enter Tryd.func8, Tryd.ntmps8
    go_wp2_with fail
    refine (E.lessOf a b true _ HA.out HB.out HAB.out).mono ?_
    rintro e w1 ⟨rfl, hx⟩
    replace hb := bthen hb hx
    clear hx
    go_wp2_with fail
    refine (E.lessOf b a false _ HB.out HA.out HBA.out).mono ?_
    rintro e w2 ⟨rfl, hx⟩
    replace hb := bthen hb hx
    clear hx
    go_wp2_with fail
    refine (E.lessOf b c false _ HB.out HC.out HBC.out).mono ?_
    rintro e w3 ⟨rfl, hx⟩
    replace hb := bthen hb hx
    clear hx
    go_wp2_with fail
    refine (E.lessOf a c true _ HA.out HC.out HAC.out).mono ?_
    rintro e w4 ⟨rfl, hx⟩
    replace hb := bthen hb hx
    clear hx
    go_wp2_with fail
    refine (E.rankOf a ra _ HA.out HRA.out).mono ?_
    rintro e w5 ⟨rfl, hx⟩
    replace hb := bthen hb hx
    clear hx
    go_wp2_with fail
    refine (E.rankOf b rb _ HB.out HRB.out).mono ?_
    rintro e w6 ⟨rfl, hx⟩
    replace hb := bthen hb hx
    clear hx
    go_wp2_with fail
    refine (E.lessOf a a false _ HA.out HA.out HAA.out).mono ?_
    rintro e w7 ⟨rfl, hx⟩
    replace hb := bthen hb hx
    clear hx
    go_wp2_with fail
    refine (AW _ (tabAt11 TAB (by first | assumption | exact Below.refl _ _ | exact below_drawn11 (by first | assumption | exact Below.refl _ _) _))).mono ?_
    rintro e w8 ⟨rfl, hx⟩
    replace hb := bthen hb hx
    clear hx
    go_wp2
    go_ret
    exact ⟨rfl, hb⟩
  · exfalso; have kab := of_decide_eq_true dab; have kba := of_decide_eq_false dba; have kbc := of_decide_eq_true dbc; have kac := of_decide_eq_false dac; omega
  · have d1 : (ra == rb) = false := beq_eq_false_iff_ne.2 (by have kab := of_decide_eq_true dab; have kba := of_decide_eq_false dba; have kbc := of_decide_eq_true dbc; have kac := of_decide_eq_true dac; omega)
    clear dab dba dbc dac
    have hb : Below w.heap.size w w := Below.refl _ _
    go_enter Tryd.func8, Tryd.ntmps8
    go_wp2_with fail
    refine (E.lessOf a b true _ HA.out HB.out HAB.out).mono ?_
    rintro e w1 ⟨rfl, hx⟩
    replace hb := bthen hb hx
    clear hx
    go_wp2_with fail
    refine (E.lessOf b a false _ HB.out HA.out HBA.out).mono ?_
    rintro e w2 ⟨rfl, hx⟩
    replace hb := bthen hb hx
    clear hx
    go_wp2_with fail
    refine (E.lessOf b c true _ HB.out HC.out HBC.out).mono ?_
    rintro e w3 ⟨rfl, hx⟩
    replace hb := bthen hb hx
    clear hx
    go_wp2_with fail
    refine (E.lessOf a c true _ HA.out HC.out HAC.out).mono ?_
    rintro e w4 ⟨rfl, hx⟩
    replace hb := bthen hb hx
    clear hx
    go_wp2_with fail
    refine (E.rankOf a ra _ HA.out HRA.out).mono ?_
    rintro e w5 ⟨rfl, hx⟩
    replace hb := bthen hb hx
    clear hx
    go_wp2_with fail
    refine (E.rankOf b rb _ HB.out HRB.out).mono ?_
    rintro e w6 ⟨rfl, hx⟩
    replace hb := bthen hb hx
    clear hx
    go_wp2_with fail
    refine (E.lessOf a a false _ HA.out HA.out HAA.out).mono ?_
    rintro e w7 ⟨rfl, hx⟩
    replace hb := bthen hb hx
    clear hx
    go_wp2_with fail
    refine (AW _ (tabAt11 TAB (by first | assumption | exact Below.refl _ _ | exact below_drawn11 (by first | assumption | exact Below.refl _ _) _))).mono ?_
    rintro e w8 ⟨rfl, hx⟩
    replace hb := bthen hb hx
    clear hx
    go_wp2
    go_ret
    exact ⟨rfl, hb⟩
  · exfalso; have kab := of_decide_eq_true dab; have kba := of_decide_eq_true dba; have kbc := of_decide_eq_false dbc; have kac := of_decide_eq_false dac; omega
  · exfalso; have kab := of_decide_eq_true dab; have kba := of_decide_eq_true dba; have kbc := of_decide_eq_false dbc; have kac := of_decide_eq_true dac; omega
  · exfalso; have kab := of_decide_eq_true dab; have kba := of_decide_eq_true dba; have kbc := of_decide_eq_true dbc; have kac := of_decide_eq_false dac; omega
  · exfalso; have kab := of_decide_eq_true dab; have kba := of_decide_eq_true dba; have kbc := of_decide_eq_true dbc; have kac := of_decide_eq_true dac; omega
end Go.Proofs.YtgjfjjdljngklaaDoor
