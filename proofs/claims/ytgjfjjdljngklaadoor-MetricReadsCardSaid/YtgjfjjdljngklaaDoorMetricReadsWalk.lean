/-
  The walk of layer 11's statement MetricReads, from what metric does: it returns true whatever the input is. No conditions.
-/
import Derived.Test.YtgjfjjdljngklaaDoorMetricA
import Derived.Test.YtgjfjjdljngklaaDoorMetricS
namespace Go.Proofs.YtgjfjjdljngklaaDoor
open Go.RowKit
open F
set_option linter.unusedVariables false

theorem F.read_same {s : List UInt8} {x y : Nat} {ok ok2 : Bool} (h : ReadIs s x ok) (h2 : ReadIs s y ok2) : sameB x y = true ∧ ok2 = ok := by
  obtain ⟨_, h⟩ := h
  obtain ⟨_, h2⟩ := h2
  unfold sameB
  cases e : readM s with
  | no => rw [e] at h h2; obtain ⟨rfl, rfl⟩ := h; obtain ⟨rfl, rfl⟩ := h2; exact ⟨decide_eq_true rfl, rfl⟩
  | nan => rw [e] at h h2; obtain ⟨h, rfl⟩ := h; obtain ⟨h2, rfl⟩ := h2; exact ⟨by rw [rank_nan h, rank_nan h2]; exact decide_eq_true rfl, rfl⟩
  | wd z => rw [e] at h h2; obtain ⟨rfl, rfl⟩ := h; obtain ⟨rfl, rfl⟩ := h2; exact ⟨decide_eq_true rfl, rfl⟩
set_option maxRecDepth 100000 in
set_option maxHeartbeats 4000000 in
theorem metricReads_walk (E : MetricOk) (AW : ∀ w, TabOk w → Calls Tryd.prog 16 #[] w (TrueS w)) (w : World) (HTAB : TabOk w) (s : ByteArray) (ws : s.size ≤ maxLen) :
    Calls Tryd.prog 4 #[.string s] w (TrueS w) := by
  have TAB := Lib.hid HTAB
  clear HTAB
  obtain ⟨n, hn⟩ : ∃ n, s.size = n := ⟨_, rfl⟩
  by_cases h1 : 100 < n
  · have b1 : decide ((n : Int) > 100) = true := decide_eq_true (by omega)
    have b2 : decide ((100 : Int) < (n : Int)) = true := decide_eq_true (by omega)
    have b3 : decide (100 < n) = true := decide_eq_true h1
    clear ws
    go_enter Tryd.func4, Tryd.ntmps4
    go_wp2_with fail
    refine (AW _ (tabAt11 TAB (by first | assumption | exact Below.refl _ _ | exact below_drawn11 (by first | assumption | exact Below.refl _ _) _))).mono ?_
    rintro e w1 ⟨rfl, hx⟩
    go_wp2
    go_ret
    exact ⟨rfl, hx⟩
  have b1 : decide ((n : Int) > 100) = false := decide_eq_false (by omega)
  have b2 : decide ((100 : Int) < (n : Int)) = false := decide_eq_false (by omega)
  have b3 : decide (100 < n) = false := decide_eq_false h1
  have HS := Lib.hid (show s.size ≤ 100 by omega)
  clear ws h1
  have hb : Below w.heap.size w w := Below.refl _ _
  go_enter Tryd.func4, Tryd.ntmps4
  go_wp2_with fail
  refine (E.readOf s _ HS.out).mono ?_
  rintro e w1 ⟨x, ok, rfl, hr, hx⟩
  replace hb := bthen hb hx
  clear hx
  have HX := Lib.hid hr.1
  go_wp2_with fail
  refine (readR11 s _ HS.out).mono ?_
  rintro e w2 ⟨y, ok2, rfl, hr2, rfl⟩
  obtain ⟨hsm, rfl⟩ := read_same hr hr2
  have HY := Lib.hid hr2.1
  have HSM := Lib.hid hsm
  clear hr hr2 hsm
  go_wp2_with fail
  refine (sameR11 x y true _ HX.out HY.out HSM.out).mono ?_
  rintro e w3 ⟨rfl, rfl⟩
  go_wp2_with fail
  refine (AW _ (tabAt11 TAB (by first | assumption | exact Below.refl _ _ | exact below_drawn11 (by first | assumption | exact Below.refl _ _) _))).mono ?_
  rintro e w4 ⟨rfl, hx⟩
  replace hb := bthen hb hx
  clear hx
  go_wp2
  go_ret
  exact ⟨rfl, hb⟩
end Go.Proofs.YtgjfjjdljngklaaDoor
