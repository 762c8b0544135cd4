/-
  Plain laws for layer 11: a number of at most 10^6, times 1000, and a half, cut: some whole number; if it is thousandths, that of them. No conditions.
-/
import Derived.Test.YtgjfjjdljngklaaDoorMetricX
namespace Go.Proofs.YtgjfjjdljngklaaDoor.F
set_option linter.unusedVariables false
open Ieee

theorem log_mul {m c k j : Nat} (hm : m ≠ 0) (h1 : m < 2 ^ k) (h2 : c ≤ 2 ^ j) (hc : c ≠ 0) : (m * c).log2 < k + j := by
  refine (Nat.log2_lt (Nat.mul_ne_zero hm hc)).2 ?_
  rw [Nat.pow_add]
  exact Nat.lt_of_lt_of_le (Nat.mul_lt_mul_of_pos_right h1 (by omega)) (Nat.mul_le_mul_left _ h2)
theorem bound_arith {E a c : Nat} (h7 : a ≤ (E + 1022) * 4503599627370496) (hc : c ≤ 9007199254740992) : a + c ≤ (E + 1024) * 4503599627370496 := by omega
/-- A number below 2^(E + 1), written: at most that rung. -/
theorem near_bound (mag : Nat) (place : Int) (E : Nat) (h0 : mag ≠ 0) (he : place + mag.log2 ≤ (E : Int)) (hd : -1074 - place ≤ (mag.log2 : Int) + 2) : double.nearest false mag place ≤ (E + 1024) * 4503599627370496 := by
  obtain ⟨l1, l2⟩ := log_bounds h0
  rw [nearest_pos mag place h0]
  refine Nat.le_trans (Nat.min_le_left _ _) ?_
  obtain ⟨k, hk⟩ : ∃ k, mag.log2 = k := ⟨_, rfl⟩
  rw [hk] at l1 l2 he hd ⊢
  obtain ⟨last, hl⟩ : ∃ last, max (place + (k : Int) - 52) (-1074) = last := ⟨_, rfl⟩
  rw [hl]
  have hcut : Toward.even.cut false (mag <<< (place - last).toNat) (last - place).toNat ≤ 9007199254740992 := by
    by_cases hp : last ≤ place
    · rw [show (last - place).toNat = 0 by omega, cut_zero, Nat.shiftLeft_eq]
      have ha : (place - last).toNat + k ≤ 52 := by omega
      have : mag * 2 ^ (place - last).toNat ≤ 2 ^ (k + 1) * 2 ^ (place - last).toNat := Nat.mul_le_mul_right _ (by omega)
      refine Nat.le_trans this ?_
      rw [← Nat.pow_add]
      exact Nat.le_trans (Nat.pow_le_pow_right (by omega) (show k + 1 + (place - last).toNat ≤ 53 by omega)) (by decide)
    · rw [show (place - last).toNat = 0 by omega, Nat.shiftLeft_zero]
      obtain ⟨d, hd2⟩ : ∃ d : Nat, (last - place).toNat = d := ⟨_, rfl⟩
      rw [hd2]
      have hdl : d ≤ mag.log2 + 2 := by rw [hk]; omega
      obtain ⟨_, hc⟩ := cut_near false mag d hdl
      have hk2 : k + 1 ≤ d + 53 := by omega
      have hm : mag < 2 ^ d * 9007199254740992 := by
        refine Nat.lt_of_lt_of_le l2 (Nat.le_trans (Nat.pow_le_pow_right (by omega) hk2) ?_)
        rw [Nat.pow_add]; exact Nat.le_refl _
      obtain ⟨x, hx⟩ : ∃ x, Toward.even.cut false mag d = x := ⟨_, rfl⟩
      rw [hx] at hc ⊢
      obtain ⟨P, hP⟩ : ∃ P, 2 ^ d = P := ⟨_, rfl⟩
      have hPp : 0 < P := by rw [← hP]; exact pow_pos3 d
      rw [hP] at hc hm
      rcases Nat.lt_or_ge 9007199254740992 x with hh | hh
      · exfalso
        have h5 : 9007199254740993 * P ≤ x * P := Nat.mul_le_mul_right _ hh
        generalize x * P = z at hc h5
        omega
      · exact hh
  have h6 : (last + 1074).toNat ≤ E + 1022 := by omega
  have h7 : (last + 1074).toNat * 4503599627370496 ≤ (E + 1022) * 4503599627370496 := Nat.mul_le_mul_right _ h6
  exact bound_arith h7 hcut
theorem U_top (E : Nat) : U ((E + 1) * 4503599627370496) = 4503599627370496 * 2 ^ E := by
  have h := U_rung E 4503599627370496 (by omega) (.inr (Nat.le_refl _))
  rwa [show E * 4503599627370496 + 4503599627370496 = (E + 1) * 4503599627370496 by omega] at h
theorem U_mono {r s : Nat} (h : r ≤ s) : U r ≤ U s := by
  rcases Nat.lt_or_ge r s with k | k
  · exact Nat.le_of_lt (U_lt k)
  · rw [show r = s by omega]; exact Nat.le_refl _
theorem read_plus {x : Nat} (h : x < 9218868437227405312) : ∃ (m k : Nat), double.read x = .number false m ((k : Int) - 1074) ∧ m * 2 ^ k = U x := by
  obtain ⟨h1, h2, _⟩ := plus_parts h
  obtain ⟨m, k, e1, e2⟩ := read_num (x := x) (by omega) (by omega)
  rw [h2] at e1
  rw [h1] at e2
  exact ⟨m, k, e1, e2⟩
theorem pow_small {m k E : Nat} (hm : m ≠ 0) (h : m * 2 ^ k < 2 ^ E) : m.log2 + k < E := by
  obtain ⟨l1, _⟩ := log_bounds hm
  refine pow_lt (Nat.lt_of_le_of_lt ?_ h)
  rw [Nat.pow_add]; exact Nat.mul_le_mul_right _ l1
/-- 10^6. -/
theorem word_mio : double.nearest false 1000000 0 = 4696837146684686336 := by decide +kernel
theorem U_mio : U 4696837146684686336 = 1000000 * 2 ^ unitE := by rw [← word_mio]; exact (whole_word 1000000 (by omega) (by omega)).2.2
theorem mul_some {g : Nat} (h : g ≤ 4696837146684686336) : ∃ y, double.mul g 4652007308841189376 = some y ∧ y ≤ 1054 * 4503599627370496 := by
  obtain ⟨m, k, e1, e2⟩ := read_plus (x := g) (by omega)
  have er : double.read 4652007308841189376 = .number false 8796093022208000 (-43) := by rw [← w_1000]; exact read_1000
  refine ⟨double.nearest false (m * 8796093022208000) ((k : Int) - 1074 + -43), ?_, ?_⟩
  · unfold Format.mul
    rw [e1, er]
    rfl
  · by_cases hm : m = 0
    · rw [hm, Nat.zero_mul, near_nought, word_no]; omega
    · have hU : m * 2 ^ k < 2 ^ (20 + unitE) := by
        rw [e2]
        refine Nat.lt_of_le_of_lt (U_mono h) ?_
        rw [U_mio, Nat.pow_add 2 20]
        exact Nat.mul_lt_mul_of_pos_right (by decide) (pow_pos3 _)
      have hl := pow_small hm hU
      have hE := unitE_is
      obtain ⟨a1, a2⟩ := log_bounds hm
      have h3 : (m * 8796093022208000).log2 < m.log2 + 1 + 53 := log_mul hm a2 (by decide) (by omega)
      have h4 : m.log2 + 52 ≤ (m * 8796093022208000).log2 := (Nat.le_log2 (Nat.mul_ne_zero hm (by omega))).2 (by
        rw [Nat.pow_add]; exact Nat.mul_le_mul a1 (by decide))
      exact near_bound _ _ 30 (Nat.mul_ne_zero hm (by omega)) (by omega) (by omega)
theorem half_some {y : Nat} (h : y ≤ 1054 * 4503599627370496) : ∃ z, double.add y 4602678819172646912 = some z ∧ z ≤ 1064 * 4503599627370496 := by
  obtain ⟨m, k, e1, e2⟩ := read_plus (x := y) (by omega)
  obtain ⟨u, hu⟩ : ∃ u : Nat, min ((k : Int) - 1074) (-53) = (u : Int) - 1074 := ⟨(min ((k : Int) - 1074) (-53) + 1074).toNat, by omega⟩
  obtain ⟨a, ha⟩ : ∃ a : Nat, k = u + a := ⟨k - u, by omega⟩
  obtain ⟨b, hb⟩ : ∃ b : Nat, 1021 = u + b := ⟨1021 - u, by omega⟩
  obtain ⟨T, hT⟩ : ∃ T, m * 2 ^ a + 4503599627370496 * 2 ^ b = T := ⟨_, rfl⟩
  have hTp : T ≠ 0 := by
    have : 0 < 4503599627370496 * 2 ^ b := Nat.mul_pos (by omega) (pow_pos3 b)
    omega
  refine ⟨double.nearest false T ((u : Int) - 1074), ?_, ?_⟩
  · unfold Format.add
    rw [e1, read_half]
    unfold Datum.sum
    simp only [hu]
    rw [show ((k : Int) - 1074 - ((u : Int) - 1074)).toNat = a by omega, show ((-53 : Int) - ((u : Int) - 1074)).toNat = b by omega]
    have hs : signed false m a + signed false 4503599627370496 b = (T : Int) := by
      unfold signed
      rw [if_neg (by decide), if_neg (by decide), ← hT, Nat.shiftLeft_eq, Nat.shiftLeft_eq]
      omega
    rw [hs, if_neg (by omega), decide_eq_false (by omega), Int.natAbs_natCast]
    rfl
  · have hE := unitE_is
    obtain ⟨t, ht⟩ : ∃ t, unitE = t + 53 := ⟨unitE - 53, by omega⟩
    have hU : m * 2 ^ k ≤ 2 ^ (t + 84) := by
      rw [e2]
      refine Nat.le_trans (U_mono h) ?_
      rw [show 1054 = (t + 32) + 1 by omega, U_top, show (4503599627370496 : Nat) = 2 ^ 52 from rfl, ← Nat.pow_add, show 52 + (t + 32) = t + 84 by omega]
      exact Nat.le_refl _
    have hT2 : T * 2 ^ u < 2 ^ (t + 86) := by
      rw [← hT, Nat.add_mul, Nat.mul_assoc, ← Nat.pow_add, Nat.mul_assoc 4503599627370496, ← Nat.pow_add, show a + u = k by omega, show b + u = t by omega]
      have h9 : 4503599627370496 * 2 ^ t ≤ 2 ^ (t + 84) := by
        rw [show (4503599627370496 : Nat) = 2 ^ 52 from rfl, ← Nat.pow_add]
        exact Nat.pow_le_pow_right (by omega) (by omega)
      rw [show t + 86 = 2 + (t + 84) by omega, Nat.pow_add 2 2]
      have := pow_pos3 (t + 84)
      generalize 2 ^ (t + 84) = p at *
      generalize m * 2 ^ k = z at hU ⊢
      generalize 4503599627370496 * 2 ^ t = z2 at h9 ⊢
      omega
    have hl := pow_small hTp hT2
    exact near_bound _ _ 40 hTp (by omega) (by omega)
/-- Any number from 0 on that is not too great, cut. -/
theorem int_some {z : Nat} (h : z ≤ 1064 * 4503599627370496) : ∃ q : Nat, floatToIntVal .f64 z .i64 = some (q : Int) ∧ q < 4503599627370496 := by
  by_cases h1 : 4503599627370496 ≤ z
  · obtain ⟨q, hq⟩ : ∃ q, U z / 2 ^ unitE = q := ⟨_, rfl⟩
    have hlt : q < 4503599627370496 := by
      rw [← hq, Nat.div_lt_iff_lt_mul (pow_pos3 _)]
      refine Nat.lt_of_le_of_lt (U_mono h) ?_
      have hE := unitE_is
      obtain ⟨t, ht⟩ : ∃ t, unitE = t + 11 := ⟨unitE - 11, by omega⟩
      rw [show 1064 = t + 1 by omega, U_top, ht]
      exact Nat.mul_lt_mul_of_pos_left (Nat.pow_lt_pow_right (by omega) (by omega)) (by omega)
    exact ⟨q, int_of z h1 (by omega) q hq hlt, hlt⟩
  · refine ⟨0, ?_, by omega⟩
    have hrd : double.read z = .number false z (-1074) := by
      obtain ⟨p1, p2, _⟩ := plus_parts (show z < 9218868437227405312 by omega)
      unfold Format.read
      simp only [lit_sign, lit_binade, lit_inf, lit_least, neg_bit (show z < 18446744073709551616 by omega), p2]
      show (if rung z < 4503599627370496 then Datum.number false (rung z) (-1074) else _) = _
      rw [p1, if_pos (by omega)]
    have hval : (Datum.number false z (-1074)).toInt .zero = some ((0 : Nat) : Int) := by
      unfold Datum.toInt Datum.integral
      have z1 : ((-1074 : Int)).toNat = 0 := rfl
      have z2 : (-(-1074 : Int)).toNat = 1074 := rfl
      simp only [z1, z2, Nat.shiftLeft_zero, cut_down]
      have hd : z / 2 ^ min 1074 (z.log2 + 2) = 0 := by
        by_cases h0 : z = 0
        · rw [h0, Nat.zero_div]
        · obtain ⟨_, l2⟩ := log_bounds h0
          have hlog : z.log2 < 52 := (Nat.log2_lt h0).2 (by show z < 4503599627370496; omega)
          rw [Nat.min_eq_right (by omega)]
          exact Nat.div_eq_of_lt (Nat.lt_trans l2 (Nat.pow_lt_pow_right (by omega) (by omega)))
      rw [hd]
      unfold signed
      rw [if_neg (by decide), Nat.shiftLeft_zero]
    unfold floatToIntVal
    show (match (double.read z).toInt .zero with | some n => _ | none => none) = _
    rw [hrd, hval]
    exact if_pos ⟨by show (-9223372036854775808 : Int) ≤ _; omega, by show _ ≤ (9223372036854775807 : Int); omega⟩
theorem thou_word2 {n : Nat} (h : n < 9007199254740992) : double.div (double.nearest false n 0) 4652007308841189376 = some (thouW n) ∧ thouW n < 9218868437227405312 := by
  by_cases h0 : n = 0
  · subst h0; have := thou_word (n := 0) (by omega); exact ⟨this.1, this.2.1⟩
  · obtain ⟨r, h1, h2, h3, h4, _⟩ := thou_div n h0 h
    have e : thouW n = r := by unfold thouW; rw [if_neg h0, h1]; rfl
    rw [e, ← w_1000]
    exact ⟨h1, h4⟩
/-- What the document does with a number from 0 to 10^6, to find its thousandths. -/
theorem thou_find {g : Nat} (h : g ≤ 4696837146684686336) : ∃ y z q : Nat, floatBits .mul .f64 g 4652007308841189376 = some y ∧ floatBits .add .f64 y 4602678819172646912 = some z ∧ floatToIntVal .f64 z .i64 = some (q : Int) ∧ q < 4503599627370496 ∧
    floatBits .quo .f64 (floatOfInt .f64 (q : Int)) 4652007308841189376 = some (thouW q) ∧ thouW q < 9218868437227405312 ∧ ∀ n, n < 1000000000 → g = thouW n → q = n := by
  obtain ⟨y, hy, hy2⟩ := mul_some h
  obtain ⟨z, hz, hz2⟩ := half_some hy2
  obtain ⟨q, hq, hq2⟩ := int_some hz2
  obtain ⟨k1, k2⟩ := thou_word2 (n := q) (by omega)
  refine ⟨y, z, q, hy, hz, hq, hq2, by rw [ofint_nat]; exact k1, k2, fun n hn hg => ?_⟩
  by_cases h0 : n = 0
  · subst h0
    have hg0 : g = 0 := by rw [hg]; rfl
    rw [hg0] at hy
    have e1 : double.mul 0 4652007308841189376 = some 0 := by decide +kernel
    rw [e1] at hy
    injection hy with hy
    subst hy
    have e2 : double.add 0 4602678819172646912 = some 4602678819172646912 := by decide +kernel
    rw [e2] at hz
    injection hz with hz
    subst hz
    have e3 : floatToIntVal .f64 4602678819172646912 .i64 = some 0 := by decide +kernel
    rw [e3] at hq
    injection hq with hq
    omega
  · have t1 := (thou_word hn).1
    rw [← hg, ← w_1000] at t1
    rw [← w_1000] at hy
    have := thou_back n g y z h0 hn t1 hy hz
    rw [hq] at this
    injection this with this
    omega
theorem thou_mio {n : Nat} (h : n < 1000000000) : thouW n < 4696837146684686336 := by
  by_cases h0 : n = 0
  · rw [h0]; decide
  · obtain ⟨r, h1, h2, h3, h4, h5, _⟩ := thou_div n h0 (by omega)
    have e : thouW n = r := by unfold thouW; rw [if_neg h0, h1]; rfl
    rw [e, ← U_le, U_mio]
    have hP := pow_pos3 unitE
    have h6 : n * 2 ^ unitE ≤ 999999999 * 2 ^ unitE := Nat.mul_le_mul_right _ (by omega)
    generalize 2 ^ unitE = P at *
    generalize n * P = w at *
    omega
end Go.Proofs.YtgjfjjdljngklaaDoor.F
