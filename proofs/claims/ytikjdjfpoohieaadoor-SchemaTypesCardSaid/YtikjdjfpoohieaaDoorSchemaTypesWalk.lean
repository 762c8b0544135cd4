/-
  The walk of layer 13's statement SchemaTypes, from what schema does: it returns true whatever comes in. No conditions.
-/
import Derived.Test.YtikjdjfpoohieaaDoorBase11
namespace Go.Proofs.YtikjdjfpoohieaaDoor
open Go.RowKit
set_option linter.unusedVariables false

set_option maxRecDepth 100000 in
set_option maxHeartbeats 8000000 in
theorem schemaTypes_walk (E : SchemaOk) (AW : ∀ w, RowsOk w → Calls Tryd.prog 11 #[] w (TrueS w)) (w : World) (HTAB : RowsOk w) (ks : ByteArray) (hks : ks.size ≤ maxLen) (ss : ByteArray) (hss : ss.size ≤ maxLen) :
    Calls Tryd.prog 4 #[.string ks, .string ss] w (TrueS w) := by
  have TAB := Lib.hid HTAB
  clear HTAB
  obtain ⟨k, hk⟩ : ∃ k, ks.data.toList = k := ⟨_, rfl⟩
  obtain rfl : ks = sB k := by rw [← hk]; exact (sB_of ks).symm
  obtain ⟨s, hs⟩ : ∃ s, ss.data.toList = s := ⟨_, rfl⟩
  obtain rfl : ss = sB s := by rw [← hs]; exact (sB_of ss).symm
  have hb : Below w.heap.size w w := Below.refl _ _
  rw [sB_size] at hks hss
  have zk := sB_size k
  have zs := sB_size s
  clear hk hs hks hss
  by_cases h1 : 100 < k.length
  · have b1 : decide (((sB k).size : Int) > 100) = true := decide_eq_true (by omega)
    have b1a : decide ((100 : Int) < ((sB k).size : Int)) = true := decide_eq_true (by omega)
    have b1b : decide (100 < (sB k).size) = true := decide_eq_true (by omega)
    clear zk zs h1
    go_enter Tryd.func4, Tryd.ntmps4
    go_wp2_with fail
    refine (AW _ (rowsAt TAB (by first | assumption | exact Below.refl _ _ | exact bthen (by assumption) (by assumption) | exact below_drawn13 (by first | assumption | exact Below.refl _ _) _))).mono ?_
    rintro e wz ⟨rfl, hx⟩
    go_wp2
    go_ret
    exact ⟨rfl, bthen hb hx⟩
  have b1 : decide (((sB k).size : Int) > 100) = false := decide_eq_false (by omega)
  have b1a : decide ((100 : Int) < ((sB k).size : Int)) = false := decide_eq_false (by omega)
  have b1b : decide (100 < (sB k).size) = false := decide_eq_false (by omega)
  by_cases h2 : 100 < s.length
  · have b2 : decide (((sB s).size : Int) > 100) = true := decide_eq_true (by omega)
    have b2a : decide ((100 : Int) < ((sB s).size : Int)) = true := decide_eq_true (by omega)
    have b2b : decide (100 < (sB s).size) = true := decide_eq_true (by omega)
    clear zk zs h1 h2
    go_enter Tryd.func4, Tryd.ntmps4
    go_wp2_with fail
    refine (AW _ (rowsAt TAB (by first | assumption | exact Below.refl _ _ | exact bthen (by assumption) (by assumption) | exact below_drawn13 (by first | assumption | exact Below.refl _ _) _))).mono ?_
    rintro e wz ⟨rfl, hx⟩
    go_wp2
    go_ret
    exact ⟨rfl, bthen hb hx⟩
  have b2 : decide (((sB s).size : Int) > 100) = false := decide_eq_false (by omega)
  have b2a : decide ((100 : Int) < ((sB s).size : Int)) = false := decide_eq_false (by omega)
  have b2b : decide (100 < (sB s).size) = false := decide_eq_false (by omega)
  obtain ⟨r, hr⟩ : ∃ r, C.typeB k s = r := ⟨_, rfl⟩
  have HR := Lib.hid hr
  have HK := Lib.hid (show (sB k).size ≤ 100 by omega)
  have HS := Lib.hid (show (sB s).size ≤ 100 by omega)
  have HSL := Lib.hid (show s.length ≤ 100 by omega)
  clear hr zk zs h1 h2
  go_enter Tryd.func4, Tryd.ntmps4
  go_wp2_with fail
  refine (E.typeOf (sB k) (sB s) r _ HK.out HS.out (by rw [sB_data, sB_data]; exact HR.out)).mono ?_
  rintro e w1 ⟨rfl, hx⟩
  replace hb := bthen hb hx
  clear hx
  go_wp2_with fail
  refine (typeR k s r _ HSL.out HR.out).mono ?_
  rintro e w2 ⟨rfl, hx⟩
  replace hb := bthen hb hx
  clear hx
  cases r
  all_goals
    go_wp2_with fail
    refine (AW _ (rowsAt TAB (by first | assumption | exact Below.refl _ _ | exact bthen (by assumption) (by assumption) | exact below_drawn13 (by first | assumption | exact Below.refl _ _) _))).mono ?_
    rintro e wz ⟨rfl, hx⟩
    go_wp2
    go_ret
    exact ⟨rfl, bthen hb hx⟩
end Go.Proofs.YtikjdjfpoohieaaDoor
