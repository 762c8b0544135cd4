/-
  Layer 11's code: what math.IsNaN, Signbit, Abs, Copysign, IsInf and Round do with a word. Condition: for Round a number from 0 on, below 2^32.
-/
import Derived.Test.YtgjfjjdljngklaaDoorMetricR
import Derived.Test.YtgjfjjdljngklaaDoorMetricB
import Derived.Laws.Bits64b
import Derived.Laws.BitsAllLaws
namespace Go.Proofs.YtgjfjjdljngklaaDoor
open Go.RowKit
open F
set_option linter.unusedVariables false

theorem isNan_any (x : Nat) (r : Bool) (w : World) (hx : x < 18446744073709551616) (hr : nanB x = r) : Calls Tryd.prog 25 #[.float .f64 x] w (Yes w (.bool r)) := by
  have b1 : (FloatKind.f64.format.order x x != some .eq) = r := by rw [cmp_ne hx hx, eq_self, Bool.not_not, hr]
  clear hr
  go_enter Tryd.func25, Tryd.ntmps25
  go_wp2
  go_ret
  exact ⟨rfl, rfl⟩
theorem signbit_any (x : Nat) (r : Bool) (w : World) (hx : x < 18446744073709551616) (hr : negB x = r) : Calls Tryd.prog 26 #[.float .f64 x] w (Yes w (.bool r)) := by
  have HB := Lib.hid (ext_bits x w)
  cases r with
  | true =>
    have hge : 9223372036854775808 ≤ x := of_decide_eq_true hr
    obtain ⟨z, hz⟩ : ∃ z : Int, IntKind.i64.wrap (x : Int) = z := ⟨_, rfl⟩
    have b1 : decide (z < 0) = true := decide_eq_true (by rw [← hz, IntKind.wrap_i64]; omega)
    clear hr hge hx
    go_enter Tryd.func26, Tryd.ntmps26
    have hB := HB.out
    go_wp2
    go_ret
    exact ⟨rfl, rfl⟩
  | false =>
    have hlt : x < 9223372036854775808 := by have := of_decide_eq_false hr; omega
    obtain ⟨z, hz⟩ : ∃ z : Int, IntKind.i64.wrap (x : Int) = z := ⟨_, rfl⟩
    have b1 : decide (z < 0) = false := decide_eq_false (by rw [← hz, IntKind.wrap_i64]; omega)
    clear hr hlt hx
    go_enter Tryd.func26, Tryd.ntmps26
    have hB := HB.out
    go_wp2
    go_ret
    exact ⟨rfl, rfl⟩
theorem F.clear_sign {x : Nat} (hx : x < 18446744073709551616) : bits .andNot .u64 (x : Int) 9223372036854775808 = ((rung x : Nat) : Int) := by
  have h := u64_andNot_nat x 9223372036854775808 hx (by omega)
  have e : x &&& (18446744073709551615 - 9223372036854775808) = rung x := by
    show x &&& (2 ^ 63 - 1) = x % 2 ^ 63
    exact Nat.and_two_pow_sub_one_eq_mod x 63
  rw [e] at h
  exact h
theorem abs_any (x q : Nat) (w : World) (hx : x < 18446744073709551616) (hq : rung x = q) : Calls Tryd.prog 28 #[.float .f64 x] w (Yes w (.float .f64 q)) := by
  have HB := Lib.hid (ext_bits x w)
  have HF := Lib.hid (ext_from q w)
  have HC := Lib.hid ((clear_sign hx).trans (by rw [hq]))
  clear hq hx
  go_enter Tryd.func28, Tryd.ntmps28
  have hB := HB.out
  have hF := HF.out
  have hC := HC.out
  go_wp2
  go_ret
  exact ⟨rfl, rfl⟩
/-- The sign of -1, on a number without it. -/
theorem copysign_neg (x q : Nat) (w : World) (hx : x < 9223372036854775808) (hq : negW x = q) : Calls Tryd.prog 33 #[.float .f64 x, .float .f64 13830554455654793216] w (Yes w (.float .f64 q)) := by
  have HB := Lib.hid (ext_bits x w)
  have HB2 := Lib.hid (ext_bits 13830554455654793216 w)
  have HF := Lib.hid (ext_from q w)
  have HC := Lib.hid ((clear_sign (x := x) (by omega)).trans (show ((rung x : Nat) : Int) = (x : Int) by unfold rung; rw [Nat.mod_eq_of_lt hx]))
  have c2 : bits .and .u64 13830554455654793216 9223372036854775808 = 9223372036854775808 := by decide +kernel
  have HO : Hid (bits .or .u64 (x : Int) 9223372036854775808 = (q : Int)) := by
    refine Lib.hid ?_
    have h := bits_or_u64_nat x 9223372036854775808 (by omega) (by omega)
    refine h.trans ?_
    rw [← hq, sign_set hx]
    have e : x ||| 2 ^ 63 * 1 = 2 ^ 63 * 1 + x := by
      rw [Nat.or_comm]
      exact (Nat.two_pow_add_eq_or_of_lt hx 1).symm
    rw [show (9223372036854775808 : Nat) = 2 ^ 63 * 1 from rfl, e, Nat.add_comm]
  clear hq hx
  go_enter Tryd.func33, Tryd.ntmps33
  have hB := HB.out
  have hB2 := HB2.out
  have hF := HF.out
  have hC := HC.out
  have hO := HO.out
  go_wp2
  go_ret
  exact ⟨rfl, rfl⟩
theorem F.top_word {x : Nat} (hx : x < 18446744073709551616) : ltB 9218868437227405311 x = (infB x && !negB x) := by
  cases hn : nanB x with
  | true =>
    have := nan_yes hn
    have e : infB x = false := decide_eq_false (by omega)
    unfold ltB
    rw [hn, e]; rfl
  | false =>
    have h := ahead_rest (x := 9218868437227405311) (y := x) (by decide) hn
    cases hl : ltB 9218868437227405311 x with
    | true =>
      have h2 := ahead_lt (x := 9218868437227405311) (by omega) hx (by decide) hn hl
      have h3 : rankF 9218868437227405311 < rankF x := of_decide_eq_true h2
      rw [rank_pos (by decide) (by decide), show rung 9218868437227405311 = 9218868437227405311 from rfl] at h3
      cases hs : negB x with
      | true => rw [rank_neg hn hs] at h3; omega
      | false =>
        rw [rank_pos hn hs] at h3
        have := nan_no hn
        have e : infB x = true := decide_eq_true (by omega)
        rw [e]; rfl
    | false =>
      have h2 := h hl
      rw [show decide (rung 9218868437227405311 = 0) = false from rfl, Bool.false_and, Bool.false_and, Bool.false_and] at h2
      have h3 : ¬ rankF 9218868437227405311 < rankF x := of_decide_eq_false h2
      rw [rank_pos (by decide) (by decide), show rung 9218868437227405311 = 9218868437227405311 from rfl] at h3
      cases hs : negB x with
      | true => simp
      | false =>
        rw [rank_pos hn hs] at h3
        have e : infB x = false := decide_eq_false (by omega)
        rw [e]; rfl
theorem isInf_plus (x : Nat) (r : Bool) (w : World) (hx : x < 18446744073709551616) (hr : (infB x && !negB x) = r) : Calls Tryd.prog 34 #[.float .f64 x, .int .i64 1] w (Yes w (.bool r)) := by
  have b1 : (FloatKind.f64.format.order x 9218868437227405311 == some .gt) = r := by rw [cmp_gt hx (by omega), top_word hx, hr]
  clear hr
  go_enter Tryd.func34, Tryd.ntmps34
  go_wp2
  go_ret
  exact ⟨rfl, rfl⟩
theorem isInf_minus (x : Nat) (r : Bool) (w : World) (hx : x < 18446744073709551616) (hr : (infB x && negB x) = r) : Calls Tryd.prog 34 #[.float .f64 x, .int .i64 (-1)] w (Yes w (.bool r)) := by
  obtain ⟨n1, n2, n3⟩ := neg_parts hx
  have b1 : (FloatKind.f64.format.order (negW x) 9218868437227405311 == some .gt) = r := by
    rw [cmp_gt n3 (by omega), top_word n3, ← hr, n2, Bool.not_not]
    unfold infB
    rw [n1]
  have b2 : Sem.run Tryd.prog (Op.unary UnOp.neg (.float .f64 x)) w = .ok (.float .f64 (negW x)) w := rfl
  clear hr n1 n2 n3
  go_enter Tryd.func34, Tryd.ntmps34
  go_wp2
  go_ret
  exact ⟨rfl, rfl⟩
theorem F.no_sign {y : Nat} (hy : y < 9223372036854775808) : bits .and .u64 (y : Int) 9223372036854775808 = 0 := by
  have h := bits_and_u64_nat y 9223372036854775808 (by omega) (by omega)
  refine h.trans ?_
  have e : y &&& 2 ^ 63 = 0 := by
    refine Nat.eq_of_testBit_eq fun i => ?_
    rw [Nat.testBit_and, Nat.testBit_two_pow, Nat.zero_testBit]
    by_cases hi : 63 = i
    · subst hi
      rw [Nat.testBit_lt_two_pow hy]; rfl
    · rw [decide_eq_false hi, Bool.and_false]
  rw [show (9223372036854775808 : Nat) = 2 ^ 63 from rfl, e]; rfl
theorem F.exp_bits {y E : Nat} (hy : y ≤ 1054 * 4503599627370496) (hE : y / 4503599627370496 = E) : bits .and .u64 ((y : Int) / 4503599627370496) 2047 = (E : Int) := by
  have e1 : (y : Int) / 4503599627370496 = (E : Int) := by omega
  rw [e1]
  have h := bits_and_u64_nat E 2047 (by omega) (by omega)
  refine h.trans ?_
  rw [show (2047 : Nat) = 2 ^ 11 - 1 from rfl, Nat.and_two_pow_sub_one_eq_mod, Nat.mod_eq_of_lt (by omega)]
theorem F.shr_half {e : Nat} (h : e ≤ 51) : (2251799813685248 : Int) / 2 ^ min e 64 = ((2 ^ (51 - e) : Nat) : Int) := by
  rw [Nat.min_eq_left (by omega)]
  have h1 : (2 ^ 51 : Nat) / 2 ^ e = 2 ^ (51 - e) := Nat.pow_div (by omega) (by omega)
  rw [← h1, Int.natCast_ediv, Int.natCast_pow, Int.natCast_pow]; rfl
theorem F.shr_mask {e : Nat} (h : e ≤ 52) : (4503599627370495 : Int) / 2 ^ min e 64 = ((2 ^ (52 - e) - 1 : Nat) : Int) := by
  rw [Nat.min_eq_left (by omega)]
  have h1 : (4503599627370495 : Nat) / 2 ^ e = 2 ^ (52 - e) - 1 := by
    have e1 : 2 ^ (52 - e) * 2 ^ e = 4503599627370496 := by rw [← Nat.pow_add, Nat.sub_add_cancel h]
    have hA := pow_pos3 (52 - e)
    have hB := pow_pos3 e
    generalize 2 ^ (52 - e) = A at *
    generalize 2 ^ e = B at *
    obtain ⟨a, rfl⟩ : ∃ a, A = a + 1 := ⟨A - 1, by omega⟩
    rw [Nat.add_sub_cancel]
    rw [Nat.add_mul, Nat.one_mul] at e1
    have e2 : 4503599627370495 = (B - 1) + a * B := by omega
    rw [e2, Nat.add_mul_div_right _ _ hB, Nat.div_eq_of_lt (by omega), Nat.zero_add]
  rw [← h1, Int.natCast_ediv, Int.natCast_pow]; rfl
theorem F.clear_low {v s : Nat} (hv : v < 18446744073709551616) (hs : s ≤ 63) : bits .andNot .u64 (v : Int) ((2 ^ s - 1 : Nat) : Int) = ((v / 2 ^ s * 2 ^ s : Nat) : Int) := by
  have hp : 2 ^ s ≤ 2 ^ 63 := Nat.pow_le_pow_right (by omega) hs
  have h := u64_andNot_nat v (2 ^ s - 1) hv (by omega)
  refine h.trans ?_
  congr 1
  have e1 : 18446744073709551615 - (2 ^ s - 1) = 2 ^ 64 - ((2 ^ s - 1) + 1) := by omega
  rw [e1]
  refine Nat.eq_of_testBit_eq fun i => ?_
  rw [Nat.testBit_and, Nat.testBit_two_pow_sub_succ (by omega), Nat.testBit_two_pow_sub_one, Nat.testBit_mul_two_pow, Nat.testBit_div_two_pow]
  by_cases hi : i < s
  · rw [decide_eq_true hi, decide_eq_false (show ¬ (s ≤ i) by omega)]
    simp
  · rw [decide_eq_false hi, decide_eq_true (show s ≤ i by omega), Nat.sub_add_cancel (by omega : s ≤ i)]
    by_cases h64 : i < 64
    · rw [decide_eq_true h64]; simp
    · rw [Nat.testBit_lt_two_pow (Nat.lt_of_lt_of_le hv (show 18446744073709551616 ≤ 2 ^ i from by rw [show (18446744073709551616 : Nat) = 2 ^ 64 from rfl]; exact Nat.pow_le_pow_right (by omega) (by omega)))]
      simp
set_option maxRecDepth 100000 in
theorem round_any (y q : Nat) (w : World) (hy : y ≤ 1054 * 4503599627370496) (hq : roundW y = q) : Calls Tryd.prog 35 #[.float .f64 y] w (Yes w (.float .f64 q)) := by
  have HB := Lib.hid (ext_bits y w)
  have HF := Lib.hid (ext_from q w)
  obtain ⟨E, hE⟩ : ∃ E, y / 4503599627370496 = E := ⟨_, rfl⟩
  have HA := Lib.hid (exp_bits hy hE)
  have HS := Lib.hid (no_sign (y := y) (by omega))
  rcases Nat.lt_trichotomy E 1022 with h1 | h1 | h1
  · have HQ := Lib.hid (show q = 0 by rw [← hq]; unfold roundW; rw [hE, if_pos h1])
    have b1 : decide ((E : Int) < 1023) = true := decide_eq_true (by omega)
    have b2 : ((E : Int) == 1022) = false := by rw [beq_eq_false_iff_ne]; omega
    clear hq hE h1 hy
    go_enter Tryd.func35, Tryd.ntmps35
    have hB := HB.out
    have hA := HA.out
    have hS := HS.out
    have hF : (callFunc 38 #[.int .u64 0]).run Tryd.prog w = .ok (.value (.float .f64 0)) w := ext_from 0 w
    rw [HQ.out]
    go_wp2
    go_ret
    exact ⟨rfl, rfl⟩
  · have HQ := Lib.hid (show q = 4607182418800017408 by rw [← hq]; unfold roundW; rw [hE, if_neg (by omega), if_pos h1])
    have c1 : bits .or .u64 0 4607182418800017408 = 4607182418800017408 := by decide +kernel
    subst h1
    clear hq hE hy
    go_enter Tryd.func35, Tryd.ntmps35
    have hB := HB.out
    have hA := HA.out
    have hS := HS.out
    have hF : (callFunc 38 #[.int .u64 4607182418800017408]).run Tryd.prog w = .ok (.value (.float .f64 4607182418800017408)) w := ext_from 4607182418800017408 w
    rw [HQ.out]
    go_wp2
    go_ret
    exact ⟨rfl, rfl⟩
  · obtain ⟨e, he⟩ : ∃ e, E = 1023 + e := ⟨E - 1023, by omega⟩
    have b1 : decide ((E : Int) < 1023) = false := decide_eq_false (by omega)
    have b2 : decide ((E : Int) < 1075) = true := decide_eq_true (by omega)
    have c1 : IntKind.u64.wrap ((E : Int) - 1023) = (e : Int) := by rw [IntKind.wrap_u64]; omega
    have hel : e ≤ 31 := by omega
    have f1 := shr_half (e := e) (by omega)
    have f3 := shr_mask (e := e) (by omega)
    have hH : 2 ^ (51 - e) ≤ 2 ^ 51 := Nat.pow_le_pow_right (by omega) (by omega)
    obtain ⟨v, hv⟩ : ∃ v, y + 2 ^ (51 - e) = v := ⟨_, rfl⟩
    have f4 := clear_low (v := v) (s := 52 - e) (by omega) (by omega)
    have eq : v / 2 ^ (52 - e) * 2 ^ (52 - e) = q := by
      rw [← hv, ← hq]
      unfold roundW
      rw [hE, if_neg (by omega), if_neg (by omega), he, show 1074 - (1023 + e) = 51 - e by omega, show 1075 - (1023 + e) = 52 - e by omega]
    rw [eq] at f4
    have f2 : IntKind.u64.wrap ((y : Int) + ((2 ^ (51 - e) : Nat) : Int)) = (v : Int) := by
      rw [IntKind.wrap_u64]
      generalize 2 ^ (51 - e) = H at *
      omega
    obtain ⟨H, hHe⟩ : ∃ H : Int, ((2 ^ (51 - e) : Nat) : Int) = H := ⟨_, rfl⟩
    obtain ⟨M, hMe⟩ : ∃ M : Int, ((2 ^ (52 - e) - 1 : Nat) : Int) = M := ⟨_, rfl⟩
    rw [hHe] at f1 f2
    rw [hMe] at f3 f4
    clear hq hE h1 hy he eq hv hH hHe hMe hel
    go_enter Tryd.func35, Tryd.ntmps35
    have hB := HB.out
    have hA := HA.out
    have hS := HS.out
    have hF := HF.out
    go_wp2
    go_ret
    exact ⟨rfl, rfl⟩
end Go.Proofs.YtgjfjjdljngklaaDoor
