/-
  Layer 11, plain laws: float64 to an int, cut towards zero. No conditions.
-/
import Derived.Test.YtgjfjjdljngklaaDoorMetricT
import Derived.Laws.FloatArith
namespace Go.Proofs.YtgjfjjdljngklaaDoor.F
set_option linter.unusedVariables false
open Ieee Go

theorem cut_down (n d : Nat) : Toward.zero.cut false n d = n / 2 ^ min d (n.log2 + 2) := by
  unfold Toward.cut
  simp only [Nat.shiftLeft_eq, Nat.one_mul]
  rfl
/-- A normal number below 2^62, cut: the whole multiples of 1 in it. -/
theorem int_of (x : Nat) (h1 : 4503599627370496 ≤ x) (h2 : x < 9218868437227405312) (q : Nat) (hq : U x / 2 ^ unitE = q) (h3 : q < 4503599627370496) : floatToIntVal .f64 x .i64 = some (q : Int) := by
  obtain ⟨m, i, e1, e2, m1, m2⟩ := read_pos h1 h2
  have hP := pow_pos3 unitE
  have hi : i < unitE := by
    refine pow_lt ?_
    have h5 : U x < 4503599627370496 * 2 ^ unitE := by
      rw [← Nat.div_lt_iff_lt_mul hP, hq]; exact h3
    rw [← e2] at h5
    have h6 : 4503599627370496 * 2 ^ i ≤ m * 2 ^ i := Nat.mul_le_mul_right _ m1
    generalize 2 ^ i = a at h5 h6 ⊢
    generalize 2 ^ unitE = b at h5 ⊢
    generalize m * a = c at h5 h6
    omega
  have hval : (Datum.number false m ((i : Int) - 1074)).toInt .zero = some (q : Int) := by
    unfold Datum.toInt Datum.integral
    rw [unitE_is] at hi
    have z1 : ((i : Int) - 1074).toNat = 0 := by omega
    have z2 : (-((i : Int) - 1074)).toNat = 1074 - i := by omega
    have hl : m.log2 = 52 := (Nat.log2_eq_iff (by omega)).2 ⟨m1, m2⟩
    have hres : m / 2 ^ min (1074 - i) 54 = q := by
      rw [← hq, ← e2, show (2 : Nat) ^ unitE = 2 ^ i * 2 ^ (unitE - i) by rw [← Nat.pow_add]; congr 1; rw [unitE_is]; omega, Nat.mul_comm m, Nat.mul_div_mul_left _ _ (pow_pos3 i), unitE_is]
      rcases Nat.le_total (1074 - i) 54 with h | h
      · rw [Nat.min_eq_left h]
      · rw [Nat.min_eq_right h, Nat.div_eq_of_lt (show m < 2 ^ 54 by omega), Nat.div_eq_of_lt (Nat.lt_of_lt_of_le (show m < 2 ^ 54 by omega) (Nat.pow_le_pow_right (by omega) h))]
    simp only [z1, z2, Nat.shiftLeft_zero, cut_down, hl]
    rw [hres]
    unfold signed
    rw [if_neg (by decide), Nat.shiftLeft_zero]
  unfold floatToIntVal
  show (match (double.read x).toInt .zero with | some n => _ | none => none) = _
  rw [e1, hval]
  exact if_pos ⟨by show (-9223372036854775808 : Int) ≤ _; omega, by show _ ≤ (9223372036854775807 : Int); omega⟩
theorem read_half : double.read 4602678819172646912 = .number false 4503599627370496 (-53) := by decide +kernel
/-- A normal number and a half. -/
theorem add_half (x : Nat) (h1 : 4503599627370496 ≤ x) (h2 : x < 9218868437227405312) (h3 : U x < 2 ^ (unitE + 40)) (h4 : 2 ^ unitE ≤ 2 * U x) : ∃ r, double.add x 4602678819172646912 = some r ∧ 4503599627370496 ≤ r ∧ r < 9218868437227405312 ∧
    2 * (U r * 4503599627370496) ≤ (2 * U x + 2 ^ unitE) * 4503599627370497 ∧ (2 * U x + 2 ^ unitE) * 4503599627370495 ≤ 2 * (U r * 4503599627370496) := by
  obtain ⟨m, i, e1, e2, m1, m2⟩ := read_pos h1 h2
  have hi1 : i < unitE + 40 := by
    refine pow_lt (Nat.lt_of_le_of_lt ?_ h3)
    rw [← e2]; exact Nat.le_mul_of_pos_left _ (by omega)
  have hi2 : unitE < 54 + i := by
    refine pow_lt (Nat.lt_of_le_of_lt h4 ?_)
    rw [← e2, show 54 + i = 1 + (53 + i) by omega, Nat.pow_add 2 1, Nat.pow_add 2 53]
    exact Nat.mul_lt_mul_of_pos_left (Nat.mul_lt_mul_of_pos_right m2 (pow_pos3 _)) (by omega)
  have hE := unitE_is
  obtain ⟨j, hj⟩ : ∃ j, i = 1021 + j := ⟨i - 1021, by omega⟩
  obtain ⟨g, hg⟩ : ∃ g, m * 2 ^ j + 4503599627370496 = g := ⟨_, rfl⟩
  have hmj : m * 1 ≤ m * 2 ^ j := Nat.mul_le_mul_left _ (pow_pos3 j)
  have g0 : g ≠ 0 := by omega
  have hj2 : j < 93 := by omega
  have hadd : double.add x 4602678819172646912 = some (double.nearest false g (-53)) := by
    unfold Format.add
    rw [e1, read_half]
    have b1 : min ((i : Int) - 1074) (-53) = -53 := by omega
    have b2 : ((i : Int) - 1074 - -53).toNat = j := by omega
    unfold Datum.sum
    simp only [b1, b2]
    have hs : signed false m j + signed false 4503599627370496 ((-53 : Int) - -53).toNat = (g : Int) := by
      unfold signed
      rw [if_neg (by decide), if_neg (by decide), ← hg, Nat.shiftLeft_eq, show ((-53 : Int) - -53).toNat = 0 from rfl, Nat.shiftLeft_zero]
      omega
    rw [hs, if_neg (by omega), decide_eq_false (by omega), Int.natAbs_natCast]
    rfl
  have l1 : 53 ≤ g.log2 := (Nat.le_log2 g0).2 (by omega)
  have l2 : g.log2 < 53 + 94 := (Nat.log2_lt g0).2 (by
    have h5 : m * 2 ^ j < 9007199254740992 * 2 ^ j := Nat.mul_lt_mul_of_pos_right m2 (pow_pos3 j)
    have h6 : 2 ^ j ≤ 2 ^ 93 := Nat.pow_le_pow_right (by omega) (by omega)
    omega)
  obtain ⟨d, hd, hd1⟩ : ∃ d, g.log2 = 52 + d ∧ 1 ≤ d := ⟨g.log2 - 52, by omega, by omega⟩
  obtain ⟨K, k1, k2, k3, k4, k5, k6, k7, k8⟩ := nearest_round g (-53) _ d (1021 + d) hd rfl g0 (by omega) (by omega)
  refine ⟨_, hadd, ?_, k3, ?_⟩
  · rw [k1]
    generalize 1021 + d = L at *
    omega
  obtain ⟨t, ht⟩ : ∃ t, 1021 = t := ⟨_, rfl⟩
  rw [ht] at hj k6
  have hP : (2 : Nat) ^ unitE = 9007199254740992 * 2 ^ t := by
    rw [show unitE = 53 + t by omega, Nat.pow_add]
  have hU : 2 * U x + 2 ^ unitE = 2 * (g * 2 ^ t) := by
    rw [← e2, hj, Nat.pow_add, hP, ← hg, Nat.add_mul, show m * (2 ^ t * 2 ^ j) = m * 2 ^ j * 2 ^ t by ac_rfl]
    generalize 2 ^ t = T
    generalize m * 2 ^ j * T = z
    omega
  have hD : 4503599627370496 * 2 ^ d ≤ K * 2 ^ d := Nat.mul_le_mul_right _ k4
  rw [hU, k6, show K * 2 ^ (t + d) = K * 2 ^ d * 2 ^ t by rw [Nat.pow_add, Nat.mul_comm (2 ^ t), Nat.mul_assoc]]
  generalize K * 2 ^ d = X at k7 k8 hD
  generalize 2 ^ d = D at k7 k8 hD
  generalize 2 ^ t = T
  obtain ⟨a1, a2⟩ := mul_arith k7 k8 hD
  constructor
  · have := Nat.mul_le_mul_left 2 (Nat.mul_le_mul_right T a1)
    calc 2 * (X * T * 4503599627370496) = 2 * (X * 4503599627370496 * T) := by ac_rfl
      _ ≤ 2 * (g * 4503599627370497 * T) := this
      _ = 2 * (g * T) * 4503599627370497 := by ac_rfl
  · have := Nat.mul_le_mul_left 2 (Nat.mul_le_mul_right T a2)
    calc 2 * (g * T) * 4503599627370495 = 2 * (g * 4503599627370495 * T) := by ac_rfl
      _ ≤ 2 * (X * 4503599627370496 * T) := this
      _ = 2 * (X * T * 4503599627370496) := by ac_rfl
theorem back_arith1 {w P A y : Nat} (h : w ≤ 999999999 * P) (hl : P ≤ w) (u1 : A * 4503599627370496 ≤ w * 4503599627370497) (u2 : w * 4503599627370495 ≤ A * 4503599627370496) (u3 : y * 4503599627370496 ≤ A * 4503599627370497) (u4 : A * 4503599627370495 ≤ y * 4503599627370496) :
    P ≤ 2 * y ∧ (0 < P → y < 1099511627776 * P) := by omega
theorem back_arith2 {w P A y z : Nat} (hp : 0 < P) (h : w ≤ 999999999 * P) (u1 : A * 4503599627370496 ≤ w * 4503599627370497) (u2 : w * 4503599627370495 ≤ A * 4503599627370496) (u3 : y * 4503599627370496 ≤ A * 4503599627370497) (u4 : A * 4503599627370495 ≤ y * 4503599627370496)
    (u5 : 2 * (z * 4503599627370496) ≤ (2 * y + P) * 4503599627370497) (u6 : (2 * y + P) * 4503599627370495 ≤ 2 * (z * 4503599627370496)) : w ≤ z ∧ z < w + P := by omega
/-- A whole number below 10^9, divided by 1000, times 1000, and a half, cut: the number. -/
theorem thou_back (n x y z : Nat) (h0 : n ≠ 0) (h : n < 1000000000) (hx : double.div (double.nearest false n 0) (double.nearest false 1000 0) = some x) (hy : double.mul x (double.nearest false 1000 0) = some y) (hz : double.add y 4602678819172646912 = some z) : floatToIntVal .f64 z .i64 = some (n : Int) := by
  obtain ⟨x', ex, _, x1, x2, u1, u2⟩ := thou_div n h0 (by omega)
  rw [hx] at ex
  obtain rfl := Option.some.inj ex
  have hP := pow_pos3 unitE
  obtain ⟨P, hPe⟩ : ∃ P, 2 ^ unitE = P := ⟨_, rfl⟩
  have q1 : U x < 2 ^ (unitE + 60) := by
    rw [Nat.pow_add, hPe]
    rw [hPe] at u1
    have : n * P ≤ 1000000000 * P := Nat.mul_le_mul_right _ (by omega)
    generalize n * P = w at u1 this
    omega
  have q2 : 2 ^ (unitE - 60) ≤ U x := by
    have e3 : (2 : Nat) ^ unitE = 1152921504606846976 * 2 ^ (unitE - 60) := by rw [show (1152921504606846976 : Nat) = 2 ^ 60 from rfl, ← Nat.pow_add]; congr 1; rw [unitE_is]
    have : 1 * 2 ^ unitE ≤ n * 2 ^ unitE := Nat.mul_le_mul_right _ (by omega)
    rw [e3] at u2 this
    generalize 2 ^ (unitE - 60) = w at u2 this ⊢
    generalize n * (1152921504606846976 * w) = v at u2 this
    omega
  obtain ⟨y', ey, _, y1, y2, u3, u4⟩ := thou_mul x x1 x2 q1 q2
  rw [hy] at ey
  obtain rfl := Option.some.inj ey
  rw [hPe] at u1 u2 hP
  have hw : n * P ≤ 999999999 * P := Nat.mul_le_mul_right _ (by omega)
  have hw1 : 1 * P ≤ n * P := Nat.mul_le_mul_right _ (by omega)
  rw [Nat.one_mul] at hw1
  obtain ⟨v1, v2⟩ := back_arith1 hw hw1 u1 u2 u3 u4
  obtain ⟨z', ez, z1, z2, u5, u6⟩ := add_half y y1 y2 (by rw [Nat.pow_add, hPe, Nat.mul_comm]; exact v2 hP) (by rw [hPe]; exact v1)
  rw [hz] at ez
  obtain rfl := Option.some.inj ez
  rw [hPe] at u5 u6
  obtain ⟨r1, r2⟩ := back_arith2 hP hw u1 u2 u3 u4 u5 u6
  refine int_of z z1 z2 n ?_ (by omega)
  rw [hPe]
  exact Nat.div_eq_of_lt_le r1 (by rw [Nat.succ_mul]; exact r2)
end Go.Proofs.YtgjfjjdljngklaaDoor.F
