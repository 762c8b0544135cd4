/-
  The walk of layer 11's statement MetricBack, from what metric does: it returns true whatever the input is. No conditions.
-/
import Derived.Test.YtgjfjjdljngklaaDoorMetricA
namespace Go.Proofs.YtgjfjjdljngklaaDoor
open Go.RowKit
open F
set_option linter.unusedVariables false

theorem F.same_read {x y : Nat} (h : y = x ∨ nanB x = true ∧ nanB y = true) : sameB x y = true := by
  unfold sameB
  rcases h with rfl | ⟨h1, h2⟩
  · exact decide_eq_true rfl
  · rw [rank_nan h1, rank_nan h2]; exact decide_eq_true rfl
set_option maxRecDepth 100000 in
set_option maxHeartbeats 4000000 in
theorem metricBack_walk (E : MetricOk) (AW : ∀ w, TabOk w → Calls Tryd.prog 16 #[] w (TrueS w)) (w : World) (HTAB : TabOk w) (s : ByteArray) (ws : s.size ≤ maxLen) (f : Nat) (hf : f < 18446744073709551616) :
    Calls Tryd.prog 6 #[.string s, .float .f64 f] w (TrueS w) := by
  have TAB := Lib.hid HTAB
  clear HTAB
  have HF := Lib.hid hf
  obtain ⟨n, hn⟩ : ∃ n, s.size = n := ⟨_, rfl⟩
  have hb : Below w.heap.size w w := Below.refl _ _
  by_cases h1 : 100 < n
  · have b1 : decide ((n : Int) > 100) = true := decide_eq_true (by omega)
    have b2 : decide ((100 : Int) < (n : Int)) = true := decide_eq_true (by omega)
    have b3 : decide (100 < n) = true := decide_eq_true h1
    clear hf ws
    go_enter Tryd.func6, Tryd.ntmps6
    go_wp2_with fail
    refine (AW _ (tabAt11 TAB (by first | assumption | exact Below.refl _ _ | exact below_drawn11 (by first | assumption | exact Below.refl _ _) _))).mono ?_
    rintro e w1 ⟨rfl, hx⟩
    go_wp2
    go_ret
    exact ⟨rfl, hx⟩
  have b1 : decide ((n : Int) > 100) = false := decide_eq_false (by omega)
  have b2 : decide ((100 : Int) < (n : Int)) = false := decide_eq_false (by omega)
  have b3 : decide (100 < n) = false := decide_eq_false h1
  have HS := Lib.hid (show s.size ≤ 100 by omega)
  obtain ⟨o, ho⟩ := text_ex f
  have HSS := Lib.hid (show sB s.data.toList = s from sB_of s)
  clear hf ws h1
  cases o with
  | none =>
    have HO := Lib.hid ho
    clear ho
    go_enter Tryd.func6, Tryd.ntmps6
    go_wp2_with fail
    refine (E.readOf s _ HS.out).mono ?_
    rintro e w1 ⟨g, ok, rfl, hr, hx⟩
    replace hb := bthen hb hx
    clear hx
    cases ok with
    | true =>
      have HG := Lib.hid hr.1
      have HTG := Lib.hid (read_text hr)
      clear hr
      go_wp2_with fail
      refine (E.textOf g _ s true _ HG.out (tabAt11 TAB (by first | assumption | exact Below.refl _ _ | exact below_drawn11 (by first | assumption | exact Below.refl _ _) _)) HTG.out HSS.out rfl).mono ?_
      rintro e w1 ⟨rfl, hx⟩
      replace hb := bthen hb hx
      clear hx
      go_wp2_with fail
      refine (E.textOf f _ (sB []) false _ HF.out (tabAt11 TAB (by first | assumption | exact Below.refl _ _ | exact below_drawn11 (by first | assumption | exact Below.refl _ _) _)) HO.out rfl rfl).mono ?_
      rintro e w1 ⟨rfl, hx⟩
      replace hb := bthen hb hx
      clear hx
      go_wp2_with fail
      refine (AW _ (tabAt11 TAB (by first | assumption | exact Below.refl _ _ | exact below_drawn11 (by first | assumption | exact Below.refl _ _) _))).mono ?_
      rintro e w2 ⟨rfl, hx⟩
      replace hb := bthen hb hx
      clear hx
      go_wp2
      go_ret
      exact ⟨rfl, hb⟩
    | false =>
      clear hr
      go_wp2_with fail
      refine (E.textOf f _ (sB []) false _ HF.out (tabAt11 TAB (by first | assumption | exact Below.refl _ _ | exact below_drawn11 (by first | assumption | exact Below.refl _ _) _)) HO.out rfl rfl).mono ?_
      rintro e w1 ⟨rfl, hx⟩
      replace hb := bthen hb hx
      clear hx
      go_wp2_with fail
      refine (AW _ (tabAt11 TAB (by first | assumption | exact Below.refl _ _ | exact below_drawn11 (by first | assumption | exact Below.refl _ _) _))).mono ?_
      rintro e w2 ⟨rfl, hx⟩
      replace hb := bthen hb hx
      clear hx
      go_wp2
      go_ret
      exact ⟨rfl, hb⟩
  | some tl =>
    have HO := Lib.hid ho
    obtain ⟨tq, htq⟩ : ∃ tq, sB tl = tq := ⟨_, rfl⟩
    have HTQ := Lib.hid (show sB ((some tl).getD []) = tq from htq)
    have HTS := Lib.hid (show tq.size ≤ 100 by rw [← htq, sB_size]; have := text_len ho; omega)
    have HTD := Lib.hid (show tq.data.toList = tl by rw [← htq, sB_data])
    clear ho htq
    go_enter Tryd.func6, Tryd.ntmps6
    go_wp2_with fail
    refine (E.readOf s _ HS.out).mono ?_
    rintro e w1 ⟨g, ok, rfl, hr, hx⟩
    replace hb := bthen hb hx
    clear hx
    cases ok with
    | true =>
      have HG := Lib.hid hr.1
      have HTG := Lib.hid (read_text hr)
      clear hr
      go_wp2_with fail
      refine (E.textOf g _ s true _ HG.out (tabAt11 TAB (by first | assumption | exact Below.refl _ _ | exact below_drawn11 (by first | assumption | exact Below.refl _ _) _)) HTG.out HSS.out rfl).mono ?_
      rintro e w1 ⟨rfl, hx⟩
      replace hb := bthen hb hx
      clear hx
      go_wp2_with fail
      refine (E.textOf f _ tq true _ HF.out (tabAt11 TAB (by first | assumption | exact Below.refl _ _ | exact below_drawn11 (by first | assumption | exact Below.refl _ _) _)) HO.out HTQ.out rfl).mono ?_
      rintro e w1 ⟨rfl, hx⟩
      replace hb := bthen hb hx
      clear hx
      go_wp2_with fail
      refine (E.readOf tq _ HTS.out).mono ?_
      rintro e w2 ⟨y, ok2, rfl, hr2, hx⟩
      replace hb := bthen hb hx
      clear hx
      rw [HTD.out] at hr2
      obtain ⟨rfl, h5⟩ := text_read HF.out HO.out hr2
      have HY := Lib.hid hr2.1
      have HSM := Lib.hid (same_read h5)
      clear hr2 h5
      go_wp2_with fail
      refine (sameR11 f y true _ HF.out HY.out HSM.out).mono ?_
      rintro e w3 ⟨rfl, rfl⟩
      go_wp2_with fail
      refine (AW _ (tabAt11 TAB (by first | assumption | exact Below.refl _ _ | exact below_drawn11 (by first | assumption | exact Below.refl _ _) _))).mono ?_
      rintro e w4 ⟨rfl, hx⟩
      replace hb := bthen hb hx
      clear hx
      go_wp2
      go_ret
      exact ⟨rfl, hb⟩
    | false =>
      clear hr
      go_wp2_with fail
      refine (E.textOf f _ tq true _ HF.out (tabAt11 TAB (by first | assumption | exact Below.refl _ _ | exact below_drawn11 (by first | assumption | exact Below.refl _ _) _)) HO.out HTQ.out rfl).mono ?_
      rintro e w1 ⟨rfl, hx⟩
      replace hb := bthen hb hx
      clear hx
      go_wp2_with fail
      refine (E.readOf tq _ HTS.out).mono ?_
      rintro e w2 ⟨y, ok2, rfl, hr2, hx⟩
      replace hb := bthen hb hx
      clear hx
      rw [HTD.out] at hr2
      obtain ⟨rfl, h5⟩ := text_read HF.out HO.out hr2
      have HY := Lib.hid hr2.1
      have HSM := Lib.hid (same_read h5)
      clear hr2 h5
      go_wp2_with fail
      refine (sameR11 f y true _ HF.out HY.out HSM.out).mono ?_
      rintro e w3 ⟨rfl, rfl⟩
      go_wp2_with fail
      refine (AW _ (tabAt11 TAB (by first | assumption | exact Below.refl _ _ | exact below_drawn11 (by first | assumption | exact Below.refl _ _) _))).mono ?_
      rintro e w4 ⟨rfl, hx⟩
      replace hb := bthen hb hx
      clear hx
      go_wp2
      go_ret
      exact ⟨rfl, hb⟩
end Go.Proofs.YtgjfjjdljngklaaDoor
