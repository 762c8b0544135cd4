/-
  Layer 11, plain laws: thousandths: a whole number as a float64, and divided by 1000. No conditions.
-/
import Derived.Test.YtgjfjjdljngklaaDoorMetricN
namespace Go.Proofs.YtgjfjjdljngklaaDoor.F
set_option linter.unusedVariables false
open Ieee

/-- A word that stands for a number above 0 that is no small one: its digits. -/
theorem read_pos {x : Nat} (h1 : 4503599627370496 ≤ x) (h2 : x < 9218868437227405312) : ∃ (m k : Nat), double.read x = .number false m ((k : Int) - 1074) ∧ m * 2 ^ k = U x ∧ 4503599627370496 ≤ m ∧ m < 9007199254740992 := by
  have hr : rung x = x := Nat.mod_eq_of_lt (by omega)
  have hn : negB x = false := decide_eq_false (by omega)
  refine ⟨4503599627370496 + x % 4503599627370496, x / 4503599627370496 - 1, ?_, by unfold U; rw [if_neg (by omega)], by omega, by omega⟩
  unfold Format.read
  simp only [lit_sign, lit_binade, lit_inf, lit_least, neg_bit (show x < 18446744073709551616 by omega), hn]
  show (if rung x < 4503599627370496 then Datum.number false (rung x) (-1074) else if rung x < 9218868437227405312 then Datum.number false (4503599627370496 + rung x % 4503599627370496) (-1074 + ((rung x / 4503599627370496 - 1 : Nat) : Int)) else _) = _
  rw [hr, if_neg (by omega), if_pos h2]
  congr 1 <;> omega
/-- The place of the least number above 0, turned. -/
@[irreducible] def unitE : Nat := 1074
theorem unitE_is : unitE = 1074 := by unfold unitE; rfl
/-- A whole number as a float64: exact. -/
theorem whole_word (n : Nat) (h0 : n ≠ 0) (h : n < 9007199254740992) : 4503599627370496 ≤ double.nearest false n 0 ∧ double.nearest false n 0 < 9218868437227405312 ∧ U (double.nearest false n 0) = n * 2 ^ unitE := by
  have hl : n.log2 < 53 := (Nat.log2_lt h0).2 h
  obtain ⟨e, _, h2, h3⟩ := nearest_exact n 0 n.log2 rfl h0 (by omega) (by omega) (by omega)
  refine ⟨?_, h2, by rw [h3, show ((0 : Int) + 1074).toNat = unitE by rw [unitE_is]; rfl]⟩
  rw [e, show (0 + (n.log2 : Int) - 52 + 1074).toNat = n.log2 + 1022 by omega]
  generalize n * 2 ^ (52 - n.log2) = z
  generalize n.log2 = k
  omega
theorem read_1000 : double.read (double.nearest false 1000 0) = .number false 8796093022208000 (-43) := by decide +kernel
theorem pow_lt {a b : Nat} (h : 2 ^ a < 2 ^ b) : a < b := (Nat.pow_lt_pow_iff_right (by omega)).1 h
/-- A normal number, divided by 1000. -/
theorem quot_1000 (m i : Nat) (h1 : 4503599627370496 ≤ m) (h2 : m < 9007199254740992) : (Datum.number false m ((i : Int) - 1074)).quotient 54 (.number false 8796093022208000 (-43)) = some (.number false (2 * (m * 18014398509481984 / 8796093022208000) + (m * 18014398509481984 % 8796093022208000 != 0).toNat) ((i : Int) - 1086)) := by
  have hl : m.log2 = 52 := (Nat.log2_eq_iff (by omega)).2 ⟨h1, h2⟩
  have hk : Nat.log2 8796093022208000 = 52 := by decide +kernel
  have hs : m <<< 54 = m * 18014398509481984 := Nat.shiftLeft_eq ..
  unfold Datum.quotient
  simp only [hl, hk, hs]
  refine (if_neg (show ¬ (8796093022208000 = 0) by omega)).trans ?_
  rw [Bool.false_xor, show ((i : Int) - 1074 - -43 - ((54 + 52 - 52 : Nat) : Int) - 1) = (i : Int) - 1086 by omega]
/-- How far off the quotient is: less than one of 2^54. -/
theorem quot_near (m g b : Nat) (h1 : 4503599627370496 ≤ m) (h2 : m < 9007199254740992) (hg : 2 * (m * 18014398509481984 / 8796093022208000) + (m * 18014398509481984 % 8796093022208000 != 0).toNat = g) :
    g * 1000 ≤ m * 4096 + 2000 ∧ m * 4096 ≤ g * 1000 + 2000 ∧ 18014398509481984 ≤ g ∧ g < 72057594037927936 := by
  have hd := Nat.div_add_mod (m * 18014398509481984) 8796093022208000
  have hm := Nat.mod_lt (m * 18014398509481984) (show 0 < 8796093022208000 by omega)
  have hb : (m * 18014398509481984 % 8796093022208000 != 0).toNat ≤ 1 := by cases (m * 18014398509481984 % 8796093022208000 != 0) <;> decide
  generalize (m * 18014398509481984 % 8796093022208000 != 0).toNat = s at hg hb
  generalize m * 18014398509481984 / 8796093022208000 = q at hg hd
  generalize m * 18014398509481984 % 8796093022208000 = r at hd hm
  omega
theorem thou_arith {m g X D : Nat} (m1 : 4503599627370496 ≤ m) (b1 : g * 1000 ≤ m * 4096 + 2000) (b2 : m * 4096 ≤ g * 1000 + 2000) (k7 : 2 * g ≤ 2 * X + D) (k8 : 2 * X ≤ 2 * g + D) (hD : 4503599627370496 * D ≤ X) :
    X * 1000 * 4503599627370496 ≤ m * 4096 * 4503599627370497 ∧ m * 4096 * 4503599627370495 ≤ X * 1000 * 4503599627370496 := by omega
/-- A whole number divided by 1000: a normal number, at most one of 2^52 off. -/
theorem thou_div (n : Nat) (h0 : n ≠ 0) (h : n < 9007199254740992) : ∃ r, double.div (double.nearest false n 0) (double.nearest false 1000 0) = some r ∧ rung r = r ∧ 4503599627370496 ≤ r ∧ r < 9218868437227405312 ∧
    U r * 1000 * 4503599627370496 ≤ n * 2 ^ unitE * 4503599627370497 ∧ n * 2 ^ unitE * 4503599627370495 ≤ U r * 1000 * 4503599627370496 := by
  obtain ⟨w1, w2, w3⟩ := whole_word n h0 h
  obtain ⟨m, i, e1, e2, m1, m2⟩ := read_pos w1 w2
  rw [w3] at e2
  have hi1 : i < unitE + 1 := by
    have h1 : 2 ^ (52 + i) < 2 ^ (53 + unitE) := by
      rw [Nat.pow_add, Nat.pow_add]
      refine Nat.lt_of_le_of_lt (Nat.mul_le_mul_right _ m1) ?_
      rw [e2]
      exact Nat.mul_lt_mul_of_pos_right h (pow_pos3 _)
    have := pow_lt h1
    omega
  have hi2 : unitE < 53 + i := by
    refine pow_lt ?_
    rw [Nat.pow_add]
    refine Nat.lt_of_le_of_lt (?_ : _ ≤ m * 2 ^ i) (Nat.mul_lt_mul_of_pos_right m2 (pow_pos3 _))
    rw [e2]
    exact Nat.le_mul_of_pos_left _ (by omega)
  rw [unitE_is] at hi1 hi2
  obtain ⟨g, hg⟩ : ∃ g, 2 * (m * 18014398509481984 / 8796093022208000) + (m * 18014398509481984 % 8796093022208000 != 0).toNat = g := ⟨_, rfl⟩
  obtain ⟨b1, b2, b3, b4⟩ := quot_near m g 0 m1 m2 hg
  have hdiv : double.div (double.nearest false n 0) (double.nearest false 1000 0) = some (double.nearest false g ((i : Int) - 1086)) := by
    unfold Format.div
    rw [e1, read_1000]
    show ((Datum.number false m ((i : Int) - 1074)).quotient 54 (.number false 8796093022208000 (-43))).map double.write = _
    rw [quot_1000 m i m1 m2, hg]
    rfl
  obtain ⟨d, hd, hd3⟩ : ∃ d, g.log2 = 52 + d ∧ d ≤ 3 := by
    have l1 : 54 ≤ g.log2 := (Nat.le_log2 (by omega)).2 b3
    have l2 : g.log2 < 56 := (Nat.log2_lt (by omega)).2 b4
    exact ⟨g.log2 - 52, by omega, by omega⟩
  obtain ⟨K, k1, k2, k3, k4, k5, k6, k7, k8⟩ := nearest_round g ((i : Int) - 1086) _ d (i - 12 + d) hd rfl (by omega) (by omega) (by omega)
  obtain ⟨y, hy⟩ : ∃ y, i = y + 12 := ⟨i - 12, by omega⟩
  refine ⟨_, hdiv, k2, ?_, k3, ?_⟩
  · rw [k1]
    have : 1 ≤ i - 12 + d := by omega
    generalize i - 12 + d = L at this
    omega
  rw [k6, ← e2, show i - 12 + d = d + y by omega, Nat.pow_add, hy, Nat.pow_add, ← Nat.mul_assoc]
  have hD : 4503599627370496 * 2 ^ d ≤ K * 2 ^ d := Nat.mul_le_mul_right _ k4
  generalize K * 2 ^ d = X at k7 k8 hD
  generalize 2 ^ d = D at k7 k8 hD
  generalize 2 ^ y = Y
  obtain ⟨a1, a2⟩ := thou_arith m1 b1 b2 k7 k8 hD
  constructor
  · have := Nat.mul_le_mul_right Y a1
    rw [show (2 : Nat) ^ 12 = 4096 from rfl]
    calc X * Y * 1000 * 4503599627370496 = X * 1000 * 4503599627370496 * Y := by ac_rfl
      _ ≤ m * 4096 * 4503599627370497 * Y := this
      _ = m * (Y * 4096) * 4503599627370497 := by ac_rfl
  · have := Nat.mul_le_mul_right Y a2
    rw [show (2 : Nat) ^ 12 = 4096 from rfl]
    calc m * (Y * 4096) * 4503599627370495 = m * 4096 * 4503599627370495 * Y := by ac_rfl
      _ ≤ X * 1000 * 4503599627370496 * Y := this
      _ = X * Y * 1000 * 4503599627370496 := by ac_rfl
theorem lt_arith {A B z1 z2 : Nat} (u1 : A * 1000 * 4503599627370496 ≤ z1) (u2 : z2 ≤ B * 1000 * 4503599627370496) (h2 : z1 < z2) : A < B := by omega
/-- Thousandths stand in order. -/
theorem thou_lt {n m a b : Nat} (h0 : n ≠ 0) (h : n < m) (hm : m < 1000000000) (ha : double.div (double.nearest false n 0) (double.nearest false 1000 0) = some a) (hb : double.div (double.nearest false m 0) (double.nearest false 1000 0) = some b) : U a < U b := by
  obtain ⟨r, e, _, _, _, u1, _⟩ := thou_div n h0 (by omega)
  obtain ⟨q, f, _, _, _, _, u2⟩ := thou_div m (by omega) (by omega)
  rw [ha] at e; rw [hb] at f
  obtain rfl := Option.some.inj e
  obtain rfl := Option.some.inj f
  have hp := pow_pos3 unitE
  generalize 2 ^ unitE = P at u1 u2 hp
  have h1 : n * 4503599627370497 < m * 4503599627370495 := by omega
  have h2 := Nat.mul_lt_mul_of_pos_right h1 hp
  rw [show n * P * 4503599627370497 = n * 4503599627370497 * P from Nat.mul_right_comm _ _ _] at u1
  rw [show m * P * 4503599627370495 = m * 4503599627370495 * P from Nat.mul_right_comm _ _ _] at u2
  exact lt_arith u1 u2 h2
theorem prod_near (m g : Nat) (h1 : 4503599627370496 ≤ m) (h2 : m < 9007199254740992) (hg : m * 8796093022208000 = g) : ∃ d, g.log2 = 52 + d ∧ 52 ≤ d ∧ d ≤ 53 := by
  have h0 : g ≠ 0 := by omega
  have l1 : 104 ≤ g.log2 := (Nat.le_log2 h0).2 (by omega)
  have l2 : g.log2 < 106 := (Nat.log2_lt h0).2 (by omega)
  exact ⟨g.log2 - 52, by omega, by omega, by omega⟩
theorem mul_arith {g X D : Nat} (k7 : 2 * g ≤ 2 * X + D) (k8 : 2 * X ≤ 2 * g + D) (hD : 4503599627370496 * D ≤ X) : X * 4503599627370496 ≤ g * 4503599627370497 ∧ g * 4503599627370495 ≤ X * 4503599627370496 := by omega
/-- A normal number times 1000: at most one of 2^52 off. -/
theorem thou_mul (x : Nat) (h1 : 4503599627370496 ≤ x) (h2 : x < 9218868437227405312) (h3 : U x < 2 ^ (unitE + 60)) (h4 : 2 ^ (unitE - 60) ≤ U x) : ∃ r, double.mul x (double.nearest false 1000 0) = some r ∧ rung r = r ∧ 4503599627370496 ≤ r ∧ r < 9218868437227405312 ∧
    U r * 4503599627370496 ≤ U x * 1000 * 4503599627370497 ∧ U x * 1000 * 4503599627370495 ≤ U r * 4503599627370496 := by
  obtain ⟨m, i, e1, e2, m1, m2⟩ := read_pos h1 h2
  have hi1 : i < unitE + 60 := by
    refine pow_lt (Nat.lt_of_le_of_lt ?_ h3)
    rw [← e2]; exact Nat.le_mul_of_pos_left _ (by omega)
  have hi2 : unitE - 60 < 53 + i := by
    refine pow_lt (Nat.lt_of_le_of_lt h4 ?_)
    rw [← e2, Nat.pow_add]
    exact Nat.mul_lt_mul_of_pos_right m2 (pow_pos3 _)
  rw [unitE_is] at hi1 hi2
  obtain ⟨g, hg⟩ : ∃ g, m * 8796093022208000 = g := ⟨_, rfl⟩
  obtain ⟨d, hd, hd2, hd3⟩ := prod_near m g m1 m2 hg
  have hmul : double.mul x (double.nearest false 1000 0) = some (double.nearest false g ((i : Int) - 1117)) := by
    unfold Format.mul
    rw [e1, read_1000]
    show some (double.nearest (false ^^ false) (m * 8796093022208000) ((i : Int) - 1074 + -43)) = _
    rw [hg, Bool.false_xor, show (i : Int) - 1074 + -43 = (i : Int) - 1117 by omega]
  obtain ⟨K, k1, k2, k3, k4, k5, k6, k7, k8⟩ := nearest_round g ((i : Int) - 1117) _ d (i - 43 + d) hd rfl (by omega) (by omega) (by omega)
  obtain ⟨y, hy⟩ : ∃ y, i = y + 43 := ⟨i - 43, by omega⟩
  refine ⟨_, hmul, k2, ?_, k3, ?_⟩
  · rw [k1]
    have : 1 ≤ i - 43 + d := by omega
    generalize i - 43 + d = L at this
    omega
  rw [k6, ← e2, show i - 43 + d = d + y by omega, Nat.pow_add, hy, Nat.pow_add, ← Nat.mul_assoc]
  have hD : 4503599627370496 * 2 ^ d ≤ K * 2 ^ d := Nat.mul_le_mul_right _ k4
  rw [show (2 : Nat) ^ 43 = 8796093022208 from rfl]
  generalize K * 2 ^ d = X at k7 k8 hD
  generalize 2 ^ d = D at k7 k8 hD
  generalize 2 ^ y = Y
  obtain ⟨a1, a2⟩ := mul_arith k7 k8 hD
  have e5 : m * (Y * 8796093022208) * 1000 = g * Y := by
    rw [← hg]
    calc m * (Y * 8796093022208) * 1000 = m * (8796093022208 * 1000) * Y := by ac_rfl
      _ = m * 8796093022208000 * Y := rfl
  rw [e5]
  constructor
  · have := Nat.mul_le_mul_right Y a1
    calc X * Y * 4503599627370496 = X * 4503599627370496 * Y := by ac_rfl
      _ ≤ g * 4503599627370497 * Y := this
      _ = g * Y * 4503599627370497 := by ac_rfl
  · have := Nat.mul_le_mul_right Y a2
    calc g * Y * 4503599627370495 = g * 4503599627370495 * Y := by ac_rfl
      _ ≤ X * 4503599627370496 * Y := this
      _ = X * Y * 4503599627370496 := by ac_rfl
end Go.Proofs.YtgjfjjdljngklaaDoor.F
