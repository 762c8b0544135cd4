/-
  The document's Nan, Rank, Ahead, Same of layer 11, on any words of 64 bits. No conditions.
-/
import Derived.Test.YtgjfjjdljngklaaDoorMetricU
import Derived.Test.YtgjfjjdljngklaaDoorMetricQ
import Derived.Test.YtgjfjjdljngklaaDoorRowG
import Derived.Laws.Cover2
import Derived.Laws.FloatArith
import Derived.Laws.Externs
import Derived.WalkLawsBesides
import Derived.Lib.Hide
import Derived.Deep.LoopGhost
namespace Go.Proofs.YtgjfjjdljngklaaDoor
open Go.RowKit
open F
set_option linter.unusedVariables false

/-- Does one stand ahead of another one? -/
def F.aheadB (x y : Nat) : Bool := decide (rankF x < rankF y)
theorem F.ahead_nan {x : Nat} (y : Nat) (hx : nanB x = true) : aheadB x y = false := by
  unfold aheadB
  rw [rank_nan hx]
  cases hy : nanB y with
  | true => rw [rank_nan hy]; rfl
  | false => have := rank_lt_nan hy; exact decide_eq_false (by omega)
theorem F.ahead_to_nan {x y : Nat} (hx : nanB x = false) (hy : nanB y = true) : aheadB x y = true := by
  unfold aheadB
  rw [rank_nan hy]
  exact decide_eq_true (rank_lt_nan hx)
theorem F.ahead_lt {x y : Nat} (hx : x < 18446744073709551616) (hy : y < 18446744073709551616) (nx : nanB x = false) (ny : nanB y = false) (h : ltB x y = true) : aheadB x y = true := by
  unfold ltB at h
  simp only [nx, ny, Bool.not_false, Bool.true_and, decide_eq_true_eq] at h
  exact decide_eq_true ((rank_order nx ny).2 (.inl h))
theorem F.ahead_rest {x y : Nat} (nx : nanB x = false) (ny : nanB y = false) (h : ltB x y = false) : aheadB x y = (decide (rung x = 0) && decide (rung y = 0) && negB x && !negB y) := by
  unfold ltB at h
  simp only [nx, ny, Bool.not_false, Bool.true_and, decide_eq_false_iff_not] at h
  unfold aheadB
  have key : rankF x < rankF y ↔ (rung x = 0 ∧ rung y = 0 ∧ negB x = true ∧ negB y = false) := (rank_order nx ny).trans ⟨fun k => k.elim (fun k => absurd k h) id, .inr⟩
  have key2 : decide (rankF x < rankF y) = decide (rung x = 0 ∧ rung y = 0 ∧ negB x = true ∧ negB y = false) := decide_eq_decide.2 key
  rw [key2]
  rcases Bool.eq_false_or_eq_true (negB x) with e | e <;> rcases Bool.eq_false_or_eq_true (negB y) with e2 | e2 <;> by_cases h1 : rung x = 0 <;> by_cases h2 : rung y = 0 <;> simp [h1, h2, e, e2]

theorem ext_bits (x : Nat) (w : World) : (callFunc 27 #[.float .f64 x]).run Tryd.prog w = .ok (.value (.int .u64 x)) w := by
  rw [run_callFunc_extern (fn := Tryd.f27) (e := Extern.MathFloatBits.float64bits) (by kernel_rfl) (by kernel_rfl) (by kernel_rfl) (by kernel_rfl) (by kernel_rfl)]
  rfl
theorem ext_from (x : Nat) (w : World) : (callFunc 38 #[.int .u64 (x : Int)]).run Tryd.prog w = .ok (.value (.float .f64 x)) w := by
  rw [run_callFunc_extern (fn := Tryd.f38) (e := Extern.MathFloatBits.float64frombits) (by kernel_rfl) (by kernel_rfl) (by kernel_rfl) (by kernel_rfl) (by kernel_rfl)]
  rfl
theorem cmp_eq {x y : Nat} (hx : x < 18446744073709551616) (hy : y < 18446744073709551616) : (FloatKind.f64.format.order x y == some .eq) = eqB x y := order_eq hx hy
theorem cmp_ne {x y : Nat} (hx : x < 18446744073709551616) (hy : y < 18446744073709551616) : (FloatKind.f64.format.order x y != some .eq) = !eqB x y := by unfold bne; rw [cmp_eq hx hy]
theorem cmp_lt {x y : Nat} (hx : x < 18446744073709551616) (hy : y < 18446744073709551616) : (FloatKind.f64.format.order x y == some .lt) = ltB x y := order_lt hx hy
theorem cmp_gt {x y : Nat} (hx : x < 18446744073709551616) (hy : y < 18446744073709551616) : (FloatKind.f64.format.order x y == some .gt) = ltB y x := order_gt hx hy
theorem eq_self (x : Nat) : eqB x x = !nanB x := by unfold eqB; cases nanB x <;> simp

/-- A plain answer; the world is as it was. -/
def Yes (w : World) (v : Value) (e : Ending) (w' : World) : Prop := e = .returned v ∧ w' = w
theorem nan_any (x : Nat) (r : Bool) (w : World) (hx : x < 18446744073709551616) (hr : nanB x = r) : Calls Tryd.prog 23 #[.float .f64 x] w (Yes w (.bool r)) := by
  have b1 : (FloatKind.f64.format.order x x != some .eq) = r := by rw [cmp_ne hx hx, eq_self, Bool.not_not, hr]
  clear hr
  go_enter Tryd.func23, Tryd.ntmps23
  go_wp2
  go_ret
  exact ⟨rfl, rfl⟩
theorem wrap_big {x : Nat} (h : x < 9223372036854775808) : IntKind.i64.wrap (x : Int) = (x : Int) := by rw [IntKind.wrap_i64]; omega
theorem rankR (x : Nat) (r : Int) (w : World) (hx : x < 18446744073709551616) (hr : rankF x = r) : Calls Tryd.prog 13 #[.float .f64 x] w (Yes w (.int .i64 r)) := by
  have HX := Lib.hid hx
  have HR := Lib.hid hr
  have HB := Lib.hid (ext_bits x w)
  cases hn : nanB x with
  | true =>
    have HV := Lib.hid (show r = 9223372036854775807 by rw [← hr, rank_nan hn])
    have HN := Lib.hid hn
    clear hr hn hx
    go_enter Tryd.func13, Tryd.ntmps13
    go_wp2_with fail
    refine (nan_any x true _ HX.out HN.out).mono ?_
    rintro e w1 ⟨rfl, rfl⟩
    go_wp2
    go_ret
    exact ⟨by rw [HV.out]; rfl, rfl⟩
  | false =>
    have HN := Lib.hid hn
    cases hs : negB x with
    | true =>
      have hge : 9223372036854775808 ≤ x := of_decide_eq_true hs
      obtain ⟨q, hq⟩ : ∃ q, x = 9223372036854775808 + q := ⟨x - 9223372036854775808, by omega⟩
      have HV := Lib.hid (show r = -1 - (q : Int) by rw [← hr, rank_neg hn hs]; unfold rung; rw [hq]; omega)
      have b1 : decide ((x : Int) ≥ 9223372036854775808) = true := decide_eq_true (by omega)
      have b2 : decide ((9223372036854775808 : Int) ≤ (x : Int)) = true := decide_eq_true (by omega)
      have b3 : decide (9223372036854775808 ≤ x) = true := decide_eq_true (by omega)
      have w1 : IntKind.u64.wrap ((x : Int) - 9223372036854775808) = (q : Int) := by rw [IntKind.wrap_u64]; omega
      have w2 : IntKind.i64.wrap (q : Int) = (q : Int) := wrap_big (by omega)
      have w3 : IntKind.i64.wrap (-1 - (q : Int)) = -1 - (q : Int) := by rw [IntKind.wrap_i64]; omega
      clear hr hn hx hs hq
      go_enter Tryd.func13, Tryd.ntmps13
      go_wp2_with fail
      refine (nan_any x false _ HX.out HN.out).mono ?_
      rintro e w4 ⟨rfl, rfl⟩
      have hB := HB.out
      go_wp2
      go_ret
      exact ⟨by rw [HV.out]; rfl, rfl⟩
    | false =>
      have hlt : x < 9223372036854775808 := by have := of_decide_eq_false hs; omega
      have HV := Lib.hid (show r = (x : Int) by rw [← hr, rank_pos hn hs]; unfold rung; rw [Nat.mod_eq_of_lt hlt])
      have b1 : decide ((x : Int) ≥ 9223372036854775808) = false := decide_eq_false (by omega)
      have b2 : decide ((9223372036854775808 : Int) ≤ (x : Int)) = false := decide_eq_false (by omega)
      have b3 : decide (9223372036854775808 ≤ x) = false := decide_eq_false (by omega)
      have w2 : IntKind.i64.wrap (x : Int) = (x : Int) := wrap_big hlt
      clear hr hn hx hs
      go_enter Tryd.func13, Tryd.ntmps13
      go_wp2_with fail
      refine (nan_any x false _ HX.out HN.out).mono ?_
      rintro e w4 ⟨rfl, rfl⟩
      have hB := HB.out
      go_wp2
      go_ret
      exact ⟨by rw [HV.out]; rfl, rfl⟩
theorem eq_zero {x : Nat} (hn : nanB x = false) : eqB x 0 = decide (rung x = 0) := by
  unfold eqB
  rw [hn, show nanB 0 = false from by decide, sv_zero]
  simp only [Bool.not_false, Bool.true_and]
  exact decide_eq_decide.2 sv_nil
theorem one_over {x : Nat} (hx : x < 18446744073709551616) (h : rung x = 0) : ∃ r, floatBits .quo .f64 4607182418800017408 x = some r ∧ ltB r 0 = negB x ∧ ltB 0 r = !negB x ∧ r < 18446744073709551616 := by
  refine ⟨_, one_zero hx h, ?_⟩
  cases negB x <;> decide +kernel
theorem aheadR11 (x y : Nat) (r : Bool) (w : World) (hx : x < 18446744073709551616) (hy : y < 18446744073709551616) (hr : aheadB x y = r) : Calls Tryd.prog 15 #[.float .f64 x, .float .f64 y] w (Yes w (.bool r)) := by
  have HX := Lib.hid hx
  have HY := Lib.hid hy
  cases hn : nanB x with
  | true =>
    have HN := Lib.hid hn
    have HV := Lib.hid (show r = false by rw [← hr, ahead_nan y hn])
    clear hr hn hx hy
    go_enter Tryd.func15, Tryd.ntmps15
    go_wp2_with fail
    refine (nan_any x true _ HX.out HN.out).mono ?_
    rintro e w1 ⟨rfl, rfl⟩
    go_wp2
    go_ret
    exact ⟨by rw [HV.out]; rfl, rfl⟩
  | false =>
    have HN := Lib.hid hn
    cases hn2 : nanB y with
    | true =>
      have HN2 := Lib.hid hn2
      have HV := Lib.hid (show r = true by rw [← hr, ahead_to_nan hn hn2])
      clear hr hn hx hy hn2
      go_enter Tryd.func15, Tryd.ntmps15
      go_wp2_with fail
      refine (nan_any x false _ HX.out HN.out).mono ?_
      rintro e w1 ⟨rfl, rfl⟩
      go_wp2_with fail
      refine (nan_any y true _ HY.out HN2.out).mono ?_
      rintro e w2 ⟨rfl, rfl⟩
      go_wp2
      go_ret
      exact ⟨by rw [HV.out]; rfl, rfl⟩
    | false =>
      have HN2 := Lib.hid hn2
      cases hl : ltB x y with
      | true =>
        have b1 : (FloatKind.f64.format.order x y == some .lt) = true := (cmp_lt hx hy).trans hl
        have HV := Lib.hid (show r = true by rw [← hr, ahead_lt hx hy hn hn2 hl])
        clear hr hn hx hy hn2 hl
        go_enter Tryd.func15, Tryd.ntmps15
        go_wp2_with fail
        refine (nan_any x false _ HX.out HN.out).mono ?_
        rintro e w1 ⟨rfl, rfl⟩
        go_wp2_with fail
        refine (nan_any y false _ HY.out HN2.out).mono ?_
        rintro e w2 ⟨rfl, rfl⟩
        go_wp2
        go_ret
        exact ⟨by rw [HV.out]; rfl, rfl⟩
      | false =>
        have b1 : (FloatKind.f64.format.order x y == some .lt) = false := (cmp_lt hx hy).trans hl
        have HV := Lib.hid (show r = (decide (rung x = 0) && decide (rung y = 0) && negB x && !negB y) by rw [← hr, ahead_rest hn hn2 hl])
        have b2 : (FloatKind.f64.format.order x 0 == some .eq) = decide (rung x = 0) := (cmp_eq hx (by omega)).trans (eq_zero hn)
        have b3 : (FloatKind.f64.format.order y 0 == some .eq) = decide (rung y = 0) := (cmp_eq hy (by omega)).trans (eq_zero hn2)
        by_cases h1 : rung x = 0
        · obtain ⟨d, q1, q2, q3, q4⟩ := one_over hx h1
          have b4 : (FloatKind.f64.format.order d 0 == some .lt) = negB x := (cmp_lt q4 (by omega)).trans q2
          have k1 := fun (t : TypeId) (w : World) => run_float_arith (P := Tryd.prog) w .quo t .f64 4607182418800017408 x d q1
          by_cases h2 : rung y = 0
          · obtain ⟨d2, p1, p2, p3, p4⟩ := one_over hy h2
            have b5 : (FloatKind.f64.format.order d2 0 == some .gt) = !negB y := (cmp_gt p4 (by omega)).trans p3
            have k2 := fun (t : TypeId) (w : World) => run_float_arith (P := Tryd.prog) w .quo t .f64 4607182418800017408 y d2 p1
            rw [decide_eq_true h1] at b2
            rw [decide_eq_true h2] at b3
            rw [decide_eq_true h1, decide_eq_true h2, Bool.true_and, Bool.true_and] at HV
            clear hr hn hx hy hn2 hl h1 h2 q1 q2 q3 q4 p1 p2 p3 p4
            cases e1 : negB x with
            | true =>
              rw [e1] at b4 HV
              rw [Bool.true_and] at HV
              clear e1
              go_enter Tryd.func15, Tryd.ntmps15
              go_wp2_with fail
              refine (nan_any x false _ HX.out HN.out).mono ?_
              rintro e w1 ⟨rfl, rfl⟩
              go_wp2_with fail
              refine (nan_any y false _ HY.out HN2.out).mono ?_
              rintro e w2 ⟨rfl, rfl⟩
              go_wp2
              go_ret
              exact ⟨by rw [HV.out]; rfl, rfl⟩
            | false =>
              rw [e1] at b4 HV
              rw [Bool.false_and] at HV
              clear e1
              go_enter Tryd.func15, Tryd.ntmps15
              go_wp2_with fail
              refine (nan_any x false _ HX.out HN.out).mono ?_
              rintro e w1 ⟨rfl, rfl⟩
              go_wp2_with fail
              refine (nan_any y false _ HY.out HN2.out).mono ?_
              rintro e w2 ⟨rfl, rfl⟩
              go_wp2
              go_ret
              exact ⟨by rw [HV.out]; rfl, rfl⟩
          · rw [decide_eq_true h1] at b2
            rw [decide_eq_false h2] at b3
            rw [decide_eq_true h1, decide_eq_false h2] at HV
            simp only [Bool.and_false, Bool.false_and] at HV
            clear hr hn hx hy hn2 hl h1 h2 q1 q2 q3 q4
            go_enter Tryd.func15, Tryd.ntmps15
            go_wp2_with fail
            refine (nan_any x false _ HX.out HN.out).mono ?_
            rintro e w1 ⟨rfl, rfl⟩
            go_wp2_with fail
            refine (nan_any y false _ HY.out HN2.out).mono ?_
            rintro e w2 ⟨rfl, rfl⟩
            go_wp2
            go_ret
            exact ⟨by rw [HV.out]; rfl, rfl⟩
        · rw [decide_eq_false h1] at b2
          rw [decide_eq_false h1] at HV
          simp only [Bool.false_and] at HV
          clear hr hn hx hy hn2 hl h1
          go_enter Tryd.func15, Tryd.ntmps15
          go_wp2_with fail
          refine (nan_any x false _ HX.out HN.out).mono ?_
          rintro e w1 ⟨rfl, rfl⟩
          go_wp2_with fail
          refine (nan_any y false _ HY.out HN2.out).mono ?_
          rintro e w2 ⟨rfl, rfl⟩
          go_wp2
          go_ret
          exact ⟨by rw [HV.out]; rfl, rfl⟩
/-- Are two the same metric? -/
def F.sameB (x y : Nat) : Bool := decide (rankF x = rankF y)
theorem F.same_parts (x y : Nat) : sameB x y = (!aheadB x y && !aheadB y x) := by
  unfold sameB aheadB
  rcases Int.lt_trichotomy (rankF x) (rankF y) with h | h | h
  · rw [decide_eq_false (by omega), decide_eq_true h]; rfl
  · rw [decide_eq_true h, decide_eq_false (by omega), decide_eq_false (by omega)]; rfl
  · rw [decide_eq_false (by omega), decide_eq_true h, decide_eq_false (by omega)]; rfl
theorem sameR11 (x y : Nat) (r : Bool) (w : World) (hx : x < 18446744073709551616) (hy : y < 18446744073709551616) (hr : sameB x y = r) : Calls Tryd.prog 19 #[.float .f64 x, .float .f64 y] w (Yes w (.bool r)) := by
  have HX := Lib.hid hx
  have HY := Lib.hid hy
  rw [same_parts] at hr
  obtain ⟨a, ha⟩ : ∃ a, aheadB x y = a := ⟨_, rfl⟩
  obtain ⟨b, hb⟩ : ∃ b, aheadB y x = b := ⟨_, rfl⟩
  rw [ha, hb] at hr
  have HA := Lib.hid ha
  have HB := Lib.hid hb
  have HR := Lib.hid hr
  clear hx hy ha hb hr
  cases a with
  | true =>
    go_enter Tryd.func19, Tryd.ntmps19
    go_wp2_with fail
    refine (aheadR11 x y true _ HX.out HY.out HA.out).mono ?_
    rintro e w1 ⟨rfl, rfl⟩
    go_wp2
    go_ret
    exact ⟨by rw [← HR.out]; rfl, rfl⟩
  | false =>
    go_enter Tryd.func19, Tryd.ntmps19
    go_wp2_with fail
    refine (aheadR11 x y false _ HX.out HY.out HA.out).mono ?_
    rintro e w1 ⟨rfl, rfl⟩
    go_wp2_with fail
    refine (aheadR11 y x b _ HY.out HX.out HB.out).mono ?_
    rintro e w2 ⟨rfl, rfl⟩
    go_wp2
    go_ret
    exact ⟨by rw [← HR.out]; rfl, rfl⟩
end Go.Proofs.YtgjfjjdljngklaaDoor
