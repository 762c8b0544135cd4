/-
  Layer 11, plain laws: rounding: the word nearest to a number; how far off it is. No conditions.
-/
import Derived.Test.YtgjfjjdljngklaaDoorMetricP
namespace Go.Proofs.YtgjfjjdljngklaaDoor.F
set_option linter.unusedVariables false
open Ieee

theorem U_rung (L k : Nat) (h : k ≤ 9007199254740992) (h2 : L = 0 ∨ 4503599627370496 ≤ k) : U (L * 4503599627370496 + k) = k * 2 ^ L := by
  by_cases hk : k < 4503599627370496
  · obtain rfl : L = 0 := by omega
    unfold U; rw [if_pos (by omega)]; omega
  · unfold U
    rw [if_neg (by omega)]
    by_cases hb : k = 9007199254740992
    · subst hb
      have e1 : (L * 4503599627370496 + 9007199254740992) % 4503599627370496 = 0 := by omega
      have e2 : (L * 4503599627370496 + 9007199254740992) / 4503599627370496 - 1 = L + 1 := by omega
      rw [e1, e2, Nat.pow_succ]; omega
    · have e1 : (L * 4503599627370496 + k) % 4503599627370496 = k - 4503599627370496 := by omega
      have e2 : (L * 4503599627370496 + k) / 4503599627370496 - 1 = L := by omega
      rw [e1, e2, Nat.add_sub_cancel' (show 4503599627370496 ≤ k by omega)]
/-- Rounded to the nearest whole number: at most half of one off. -/
theorem cut_near (neg : Bool) (n drop : Nat) (h : drop ≤ n.log2 + 2) : 2 * n ≤ 2 * (Toward.even.cut neg n drop * 2 ^ drop) + 2 ^ drop ∧ 2 * (Toward.even.cut neg n drop * 2 ^ drop) ≤ 2 * n + 2 ^ drop := by
  have hg : 1 <<< min drop (n.log2 + 2) = 2 ^ drop := by rw [Nat.min_eq_left h, Nat.shiftLeft_eq, Nat.one_mul]
  unfold Toward.cut
  simp only [hg]
  have hp := pow_pos3 drop
  generalize 2 ^ drop = g at hp
  have hd := Nat.div_add_mod n g
  have hm := Nat.mod_lt n hp
  rw [Nat.mul_comm] at hd
  generalize n / g = q at hd
  generalize n % g = r at hd hm
  generalize hq : q * g = qg at hd
  by_cases h1 : g < 2 * r
  · rw [decide_eq_true h1]
    show _ ≤ 2 * ((q + 1) * g) + g ∧ 2 * ((q + 1) * g) ≤ _
    rw [Nat.add_mul, hq]; omega
  · rw [decide_eq_false h1, Bool.false_or]
    by_cases h2 : g = 2 * r
    · cases (g == 2 * r && q % 2 == 1) with
      | true =>
        show _ ≤ 2 * ((q + 1) * g) + g ∧ 2 * ((q + 1) * g) ≤ _
        rw [Nat.add_mul, hq]; omega
      | false =>
        show _ ≤ 2 * ((q + 0) * g) + g ∧ 2 * ((q + 0) * g) ≤ _
        rw [Nat.add_zero, hq]; omega
    · rw [beq_eq_false_iff_ne.2 h2, Bool.false_and]
      show _ ≤ 2 * ((q + 0) * g) + g ∧ 2 * ((q + 0) * g) ≤ _
      rw [Nat.add_zero, hq]; omega
/-- Nothing dropped: exact. -/
theorem cut_zero (neg : Bool) (n : Nat) : Toward.even.cut neg n 0 = n := by
  have h := cut_near neg n 0 (by omega)
  simp only [Nat.pow_zero, Nat.mul_one] at h
  omega
theorem log_bounds {n : Nat} (h : n ≠ 0) : 2 ^ n.log2 ≤ n ∧ n < 2 ^ (n.log2 + 1) := ⟨Nat.log2_self_le h, Nat.lt_log2_self⟩
theorem nearest_pos (mag : Nat) (place : Int) (hm : mag ≠ 0) : double.nearest false mag place = min ((max (place + mag.log2 - 52) (-1074) + 1074).toNat * 4503599627370496 + Toward.even.cut false (mag <<< (place - max (place + mag.log2 - 52) (-1074)).toNat) (max (place + mag.log2 - 52) (-1074) - place).toNat) 9218868437227405312 := by
  unfold Format.nearest
  rw [if_neg hm]
  have hf : (double.fractionBits : Int) = 52 := rfl
  simp only [lit_binade, lit_inf, lit_least, hf]
  unfold Format.word
  rw [if_neg (by decide), Int.sub_neg]
/-- A number that needs no rounding: what stands for it. -/
theorem nearest_exact (mag : Nat) (place : Int) (k : Nat) (hk : mag.log2 = k) (h0 : mag ≠ 0) (h1 : k ≤ 52) (h2 : -1000 ≤ place) (h3 : place + k ≤ 1000) :
    double.nearest false mag place = (place + k - 52 + 1074).toNat * 4503599627370496 + mag * 2 ^ (52 - k) ∧ rung (double.nearest false mag place) = double.nearest false mag place ∧ double.nearest false mag place < 9218868437227405312 ∧ U (double.nearest false mag place) = mag * 2 ^ (place + 1074).toNat := by
  have hb := log_bounds h0
  rw [hk] at hb
  have e1 : max (place + (k : Int) - 52) (-1074) = place + k - 52 := by omega
  have e2 : (place - (place + (k : Int) - 52)).toNat = 52 - k := by omega
  have e3 : (place + (k : Int) - 52 - place).toNat = 0 := by omega
  have e4 : mag <<< (52 - k) = mag * 2 ^ (52 - k) := Nat.shiftLeft_eq ..
  have hp : (2 : Nat) ^ (k + 1) * 2 ^ (52 - k) = 9007199254740992 := by rw [← Nat.pow_add, show k + 1 + (52 - k) = 53 by omega]
  have hp2 : (2 : Nat) ^ k * 2 ^ (52 - k) = 4503599627370496 := by rw [← Nat.pow_add, show k + (52 - k) = 52 by omega]
  have hlo : 4503599627370496 ≤ mag * 2 ^ (52 - k) := by rw [← hp2]; exact Nat.mul_le_mul_right _ hb.1
  have hhi : mag * 2 ^ (52 - k) < 9007199254740992 := by rw [← hp]; exact Nat.mul_lt_mul_of_pos_right hb.2 (pow_pos3 _)
  obtain ⟨L, hL⟩ : ∃ L, (place + (k : Int) - 52 + 1074).toNat = L := ⟨_, rfl⟩
  have hE : double.nearest false mag place = L * 4503599627370496 + mag * 2 ^ (52 - k) := by
    rw [nearest_pos mag place h0, hk, e1, e2, e3, cut_zero, e4, hL]
    exact Nat.min_eq_left (by omega)
  refine ⟨by rw [hE, hL], ?_, ?_, ?_⟩
  · rw [hE]; unfold rung; exact Nat.mod_eq_of_lt (by omega)
  · rw [hE]; omega
  · rw [hE, U_rung _ _ (by omega) (.inr hlo), Nat.mul_assoc, ← Nat.pow_add]
    congr 2; omega
/-- A number of 53 digits or more: what stands for it is at most half of one of its last digits off. -/
theorem nearest_round (mag : Nat) (place : Int) (k d L : Nat) (hk : mag.log2 = k) (hd : k = 52 + d) (h0 : mag ≠ 0) (hL : place + (d : Int) + 1074 = (L : Int)) (h3 : place + k ≤ 1000) :
    ∃ K, double.nearest false mag place = L * 4503599627370496 + K ∧ rung (double.nearest false mag place) = double.nearest false mag place ∧ double.nearest false mag place < 9218868437227405312 ∧
      4503599627370496 ≤ K ∧ K ≤ 9007199254740992 ∧ U (double.nearest false mag place) = K * 2 ^ L ∧ 2 * mag ≤ 2 * (K * 2 ^ d) + 2 ^ d ∧ 2 * (K * 2 ^ d) ≤ 2 * mag + 2 ^ d := by
  have hb := log_bounds h0
  have hdl : d ≤ mag.log2 + 2 := by omega
  rw [hk, hd] at hb
  have e1 : max (place + (k : Int) - 52) (-1074) = place + d := by omega
  have e2 : (place - (place + (d : Int))).toNat = 0 := by omega
  have e3 : (place + (d : Int) - place).toNat = d := by omega
  have e4 : (place + (d : Int) + 1074).toNat = L := by omega
  have hc := cut_near false mag d hdl
  obtain ⟨K, hK⟩ : ∃ K, Toward.even.cut false mag d = K := ⟨_, rfl⟩
  rw [hK] at hc
  have hp := pow_pos3 d
  have hp1 : (2 : Nat) ^ (52 + d) = 4503599627370496 * 2 ^ d := by rw [Nat.pow_add]
  have hp2 : (2 : Nat) ^ (52 + d + 1) = 9007199254740992 * 2 ^ d := by rw [show 52 + d + 1 = 53 + d by omega, Nat.pow_add]
  rw [hp1, hp2] at hb
  have hlo : 4503599627370496 ≤ K := by
    apply Nat.le_of_not_lt
    intro h
    have h1 : (K + 1) * 2 ^ d ≤ 4503599627370496 * 2 ^ d := Nat.mul_le_mul_right _ (by omega)
    rw [Nat.add_mul] at h1
    omega
  have hhi : K ≤ 9007199254740992 := by
    apply Nat.le_of_not_lt
    intro h
    have h1 : (9007199254740992 + 1) * 2 ^ d ≤ K * 2 ^ d := Nat.mul_le_mul_right _ (by omega)
    rw [Nat.add_mul] at h1
    omega
  have hE : double.nearest false mag place = L * 4503599627370496 + K := by
    rw [nearest_pos mag place h0, hk, e1, e2, e3, e4, Nat.shiftLeft_zero, hK]
    exact Nat.min_eq_left (by omega)
  refine ⟨K, hE, ?_, ?_, hlo, hhi, ?_, hc⟩
  · rw [hE]; unfold rung; exact Nat.mod_eq_of_lt (by omega)
  · rw [hE]; omega
  · rw [hE, U_rung _ _ hhi (.inr hlo)]
end Go.Proofs.YtgjfjjdljngklaaDoor.F
