/-
  Layer 11, plain laws: IEEE 754's words of 64 bits: what a word stands for, in whole multiples of the least number; their order. No conditions.
-/
import Derived.Laws.FloatArith
namespace Go.Proofs.YtgjfjjdljngklaaDoor.F
set_option linter.unusedVariables false
open Ieee

/-- The magnitude of a rung, in multiples of the least number above 0. -/
def U (r : Nat) : Nat := if r < 4503599627370496 then r else (4503599627370496 + r % 4503599627370496) * 2 ^ (r / 4503599627370496 - 1)
theorem pow_pos3 (k : Nat) : 0 < 2 ^ k := Nat.pow_pos (by omega)
theorem U_big {r : Nat} (h : 4503599627370496 ≤ r) : 4503599627370496 ≤ U r := by
  unfold U
  rw [if_neg (by omega)]
  exact Nat.le_trans (Nat.le_add_right _ (r % 4503599627370496)) (Nat.le_mul_of_pos_right _ (pow_pos3 _))
theorem U_lt {r s : Nat} (h : r < s) : U r < U s := by
  by_cases hs : s < 4503599627370496
  · unfold U; rw [if_pos hs, if_pos (by omega)]; exact h
  · by_cases hr : r < 4503599627370496
    · have h1 := U_big (show 4503599627370496 ≤ s by omega)
      have h2 : U r = r := by unfold U; rw [if_pos hr]
      omega
    · unfold U
      rw [if_neg hs, if_neg hr]
      have hq : r / 4503599627370496 ≤ s / 4503599627370496 := Nat.div_le_div_right (by omega)
      rcases Nat.lt_or_ge (r / 4503599627370496) (s / 4503599627370496) with h1 | h1
      · have e1 : 2 ^ (s / 4503599627370496 - 1) = 2 ^ (r / 4503599627370496 - 1) * 2 * 2 ^ (s / 4503599627370496 - 1 - r / 4503599627370496) := by
          rw [← Nat.pow_succ, ← Nat.pow_add]; congr 1; omega
        have h2 := pow_pos3 (s / 4503599627370496 - 1 - r / 4503599627370496)
        have h3 := pow_pos3 (r / 4503599627370496 - 1)
        rw [e1]
        have h4 : (4503599627370496 + r % 4503599627370496) * 2 ^ (r / 4503599627370496 - 1) < 4503599627370496 * (2 ^ (r / 4503599627370496 - 1) * 2) := by
          rw [Nat.mul_comm (2 ^ _) 2, ← Nat.mul_assoc]
          exact Nat.mul_lt_mul_of_pos_right (by omega) h3
        have h5 : 4503599627370496 * (2 ^ (r / 4503599627370496 - 1) * 2) ≤ (4503599627370496 + s % 4503599627370496) * (2 ^ (r / 4503599627370496 - 1) * 2 * 2 ^ (s / 4503599627370496 - 1 - r / 4503599627370496)) :=
          Nat.mul_le_mul (by omega) (Nat.le_mul_of_pos_right _ h2)
        omega
      · have e1 : s / 4503599627370496 = r / 4503599627370496 := by omega
        rw [e1]
        exact Nat.mul_lt_mul_of_pos_right (by omega) (pow_pos3 _)
theorem U_inj {r s : Nat} (h : U r = U s) : r = s := by
  rcases Nat.lt_trichotomy r s with h1 | h1 | h1
  · have := U_lt h1; omega
  · exact h1
  · have := U_lt h1; omega
theorem U_zero : U 0 = 0 := rfl
/-- A magnitude with its sign. -/
def sgn (neg : Bool) (m : Nat) : Int := if neg then -(m : Int) else (m : Int)
/-- Is the word's sign set; its rung. -/
def negB (x : Nat) : Bool := decide (9223372036854775808 ≤ x)
def rung (x : Nat) : Nat := x % 9223372036854775808
def nanB (x : Nat) : Bool := decide (9218868437227405312 < rung x)
theorem lit_sign : double.signWeight = 9223372036854775808 := by decide
theorem lit_binade : double.binade = 4503599627370496 := by decide
theorem lit_inf : double.infRung = 9218868437227405312 := by decide
theorem lit_least : double.leastPlace = -1074 := by decide
theorem neg_bit {x : Nat} (h : x < 18446744073709551616) : (x / 9223372036854775808 % 2 == 1) = negB x := by
  unfold negB
  by_cases h1 : 9223372036854775808 ≤ x
  · rw [decide_eq_true h1, beq_iff_eq]; omega
  · rw [decide_eq_false h1, beq_eq_false_iff_ne]; omega
theorem read_num {x : Nat} (h : x < 18446744073709551616) (hr : rung x < 9218868437227405312) : ∃ (m k : Nat), double.read x = .number (negB x) m ((k : Int) - 1074) ∧ m * 2 ^ k = U (rung x) := by
  unfold Format.read
  simp only [lit_sign, lit_binade, lit_inf, lit_least, neg_bit h]
  show ∃ m k, (if rung x < 4503599627370496 then Datum.number (negB x) (rung x) (-1074) else if rung x < 9218868437227405312 then Datum.number (negB x) (4503599627370496 + rung x % 4503599627370496) (-1074 + ((rung x / 4503599627370496 - 1 : Nat) : Int)) else _) = _ ∧ _
  by_cases h1 : rung x < 4503599627370496
  · rw [if_pos h1]
    exact ⟨rung x, 0, by congr 1, by unfold U; rw [if_pos h1]; omega⟩
  · rw [if_neg h1, if_pos hr]
    exact ⟨_, rung x / 4503599627370496 - 1, by congr 1 <;> omega, by unfold U; rw [if_neg h1]⟩
theorem read_inf {x : Nat} (h : x < 18446744073709551616) (hr : rung x = 9218868437227405312) : double.read x = .infinity (negB x) := by
  unfold Format.read
  simp only [lit_sign, lit_binade, lit_inf, lit_least, neg_bit h]
  show (if rung x < 4503599627370496 then Datum.number (negB x) (rung x) (-1074) else if rung x < 9218868437227405312 then _ else if rung x = 9218868437227405312 then Datum.infinity (negB x) else _) = _
  rw [if_neg (by omega), if_neg (by omega), if_pos hr]
theorem read_nan {x : Nat} (h : x < 18446744073709551616) (hr : 9218868437227405312 < rung x) : double.read x = .nan (negB x) (rung x - 9218868437227405312) := by
  unfold Format.read
  simp only [lit_sign, lit_binade, lit_inf, lit_least, neg_bit h]
  show (if rung x < 4503599627370496 then Datum.number (negB x) (rung x) (-1074) else if rung x < 9218868437227405312 then _ else if rung x = 9218868437227405312 then _ else Datum.nan (negB x) (rung x - 9218868437227405312)) = _
  rw [if_neg (by omega), if_neg (by omega), if_neg (by omega)]

-- THE ORDER
theorem signed_scale (s : Bool) (m u k : Nat) : signed s m u * (2 : Int) ^ k = sgn s (m * 2 ^ (u + k)) := by
  unfold signed sgn
  have e : ((m <<< u : Nat) : Int) * (2 : Int) ^ k = ((m * 2 ^ (u + k) : Nat) : Int) := by
    rw [Nat.shiftLeft_eq, Nat.pow_add, ← Nat.mul_assoc, Int.natCast_mul, Int.natCast_pow]; rfl
  cases s with
  | false => exact e
  | true => show -((m <<< u : Nat) : Int) * (2 : Int) ^ k = -((m * 2 ^ (u + k) : Nat) : Int); rw [Int.neg_mul, e]
theorem pow_posI (k : Nat) : (0 : Int) < (2 : Int) ^ k := by
  have : ((2 ^ k : Nat) : Int) = (2 : Int) ^ k := by rw [Int.natCast_pow]; rfl
  rw [← this]; exact Int.ofNat_lt.2 (pow_pos3 k)
theorem compare_scale (a b : Int) (k : Nat) : compare a b = compare (a * (2 : Int) ^ k) (b * (2 : Int) ^ k) := by
  have hk := pow_posI k
  rcases Int.lt_trichotomy a b with h | h | h
  · rw [Int.compare_eq_lt.2 h, Int.compare_eq_lt.2 (Int.mul_lt_mul_of_pos_right h hk)]
  · rw [h, Int.compare_eq_eq.2 rfl, Int.compare_eq_eq.2 rfl]
  · rw [Int.compare_eq_gt.2 h, Int.compare_eq_gt.2 (Int.mul_lt_mul_of_pos_right h hk)]
/-- Of two numbers: their magnitudes with their signs are compared. -/
theorem order_num {x y : Nat} (hx : x < 18446744073709551616) (hy : y < 18446744073709551616) (rx : rung x < 9218868437227405312) (ry : rung y < 9218868437227405312) :
    double.order x y = some (compare (sgn (negB x) (U (rung x))) (sgn (negB y) (U (rung y)))) := by
  obtain ⟨m, k, e1, u1⟩ := read_num hx rx
  obtain ⟨n, j, e2, u2⟩ := read_num hy ry
  unfold Format.order
  rw [e1, e2]
  show some (compare (signed (negB x) m ((k : Int) - 1074 - min ((k : Int) - 1074) ((j : Int) - 1074)).toNat) (signed (negB y) n ((j : Int) - 1074 - min ((k : Int) - 1074) ((j : Int) - 1074)).toNat)) = _
  have h1 : ((k : Int) - 1074 - min ((k : Int) - 1074) ((j : Int) - 1074)).toNat = k - min k j := by omega
  have h2 : ((j : Int) - 1074 - min ((k : Int) - 1074) ((j : Int) - 1074)).toNat = j - min k j := by omega
  rw [h1, h2, compare_scale _ _ (min k j), signed_scale, signed_scale, Nat.sub_add_cancel (Nat.min_le_left _ _), Nat.sub_add_cancel (Nat.min_le_right _ _), u1, u2]

/-- What a word that is a number, or an infinite one, stands for, in multiples of the least number above 0. -/
def sv (x : Nat) : Int := sgn (negB x) (U (rung x))
theorem rung_lt (x : Nat) : rung x < 9223372036854775808 := Nat.mod_lt _ (by omega)
theorem nan_no {x : Nat} (h : nanB x = false) : rung x ≤ 9218868437227405312 := by unfold nanB at h; have := of_decide_eq_false h; omega
theorem nan_yes {x : Nat} (h : nanB x = true) : 9218868437227405312 < rung x := of_decide_eq_true h
theorem sgn_cases (s : Bool) (m : Nat) : (s = true ∧ sgn s m = -(m : Int)) ∨ (s = false ∧ sgn s m = (m : Int)) := by
  cases s with
  | true => exact .inl ⟨rfl, rfl⟩
  | false => exact .inr ⟨rfl, rfl⟩
theorem order_any {x y : Nat} (hx : x < 18446744073709551616) (hy : y < 18446744073709551616) (nx : nanB x = false) (ny : nanB y = false) :
    double.order x y = some (compare (sv x) (sv y)) := by
  have ax := nan_no nx
  have ay := nan_no ny
  by_cases rx : rung x < 9218868437227405312
  · by_cases ry : rung y < 9218868437227405312
    · exact order_num hx hy rx ry
    · obtain ⟨m, k, e1, u1⟩ := read_num hx rx
      have e2 := read_inf hy (by omega)
      have hU : U (rung x) < U (rung y) := U_lt (by omega)
      unfold Format.order
      rw [e1, e2]
      show some (if negB y = true then Ordering.gt else Ordering.lt) = some (compare (sgn (negB x) (U (rung x))) (sgn (negB y) (U (rung y))))
      rcases sgn_cases (negB x) (U (rung x)) with ⟨_, h1⟩ | ⟨_, h1⟩ <;> rcases sgn_cases (negB y) (U (rung y)) with ⟨h2, h3⟩ | ⟨h2, h3⟩ <;> rw [h1, h3, h2]
      · rw [Int.compare_eq_gt.2 (by omega)]; rfl
      · rw [Int.compare_eq_lt.2 (by omega)]; rfl
      · rw [Int.compare_eq_gt.2 (by omega)]; rfl
      · rw [Int.compare_eq_lt.2 (by omega)]; rfl
  · by_cases ry : rung y < 9218868437227405312
    · obtain ⟨m, k, e1, u1⟩ := read_num hy ry
      have e2 := read_inf hx (by omega)
      have hU : U (rung y) < U (rung x) := U_lt (by omega)
      unfold Format.order
      rw [e1, e2]
      show some (if negB x = true then Ordering.lt else Ordering.gt) = some (compare (sgn (negB x) (U (rung x))) (sgn (negB y) (U (rung y))))
      rcases sgn_cases (negB x) (U (rung x)) with ⟨h2, h1⟩ | ⟨h2, h1⟩ <;> rcases sgn_cases (negB y) (U (rung y)) with ⟨_, h3⟩ | ⟨_, h3⟩ <;> rw [h1, h3, h2]
      · rw [Int.compare_eq_lt.2 (by omega)]; rfl
      · rw [Int.compare_eq_lt.2 (by omega)]; rfl
      · rw [Int.compare_eq_gt.2 (by omega)]; rfl
      · rw [Int.compare_eq_gt.2 (by omega)]; rfl
    · have e1 := read_inf hx (by omega)
      have e2 := read_inf hy (by omega)
      have hU : U (rung x) = U (rung y) := congrArg U (by omega)
      have hp : 0 < U (rung y) := by have := U_big (show 4503599627370496 ≤ rung y by omega); omega
      unfold Format.order
      rw [e1, e2]
      show some (compare (negB y).toNat (negB x).toNat) = some (compare (sgn (negB x) (U (rung x))) (sgn (negB y) (U (rung y))))
      rw [hU]
      rcases sgn_cases (negB x) (U (rung y)) with ⟨h2, h1⟩ | ⟨h2, h1⟩ <;> rcases sgn_cases (negB y) (U (rung y)) with ⟨h4, h3⟩ | ⟨h4, h3⟩ <;> rw [h1, h3, h2, h4]
      · rw [Int.compare_eq_eq.2 rfl]; rfl
      · rw [Int.compare_eq_lt.2 (by omega)]; rfl
      · rw [Int.compare_eq_gt.2 (by omega)]; rfl
      · rw [Int.compare_eq_eq.2 rfl]; rfl
theorem order_nan {x y : Nat} (hx : x < 18446744073709551616) (hy : y < 18446744073709551616) (h : nanB x = true ∨ nanB y = true) : double.order x y = none := by
  unfold Format.order
  rcases h with h | h
  · rw [read_nan hx (nan_yes h)]; cases double.read y <;> rfl
  · rw [read_nan hy (nan_yes h)]; cases double.read x <;> rfl
/-- Less than, as Go has it. -/
def ltB (x y : Nat) : Bool := !nanB x && !nanB y && decide (sv x < sv y)
def eqB (x y : Nat) : Bool := !nanB x && !nanB y && decide (sv x = sv y)
theorem order_lt {x y : Nat} (hx : x < 18446744073709551616) (hy : y < 18446744073709551616) : (double.order x y == some .lt) = ltB x y := by
  unfold ltB
  cases nx : nanB x with
  | true => rw [order_nan hx hy (.inl nx)]; rfl
  | false =>
    cases ny : nanB y with
    | true => rw [order_nan hx hy (.inr ny)]; rfl
    | false =>
      rw [order_any hx hy nx ny]
      rcases Int.lt_trichotomy (sv x) (sv y) with h | h | h
      · rw [Int.compare_eq_lt.2 h, decide_eq_true h]; rfl
      · rw [Int.compare_eq_eq.2 h, decide_eq_false (by omega)]; rfl
      · rw [Int.compare_eq_gt.2 h, decide_eq_false (by omega)]; rfl
theorem order_gt {x y : Nat} (hx : x < 18446744073709551616) (hy : y < 18446744073709551616) : (double.order x y == some .gt) = ltB y x := by
  unfold ltB
  cases nx : nanB x with
  | true => rw [order_nan hx hy (.inl nx)]; cases nanB y <;> rfl
  | false =>
    cases ny : nanB y with
    | true => rw [order_nan hx hy (.inr ny)]; rfl
    | false =>
      rw [order_any hx hy nx ny]
      rcases Int.lt_trichotomy (sv x) (sv y) with h | h | h
      · rw [Int.compare_eq_lt.2 h, decide_eq_false (by omega)]; rfl
      · rw [Int.compare_eq_eq.2 h, decide_eq_false (by omega)]; rfl
      · rw [Int.compare_eq_gt.2 h, decide_eq_true h]; rfl
theorem order_eq {x y : Nat} (hx : x < 18446744073709551616) (hy : y < 18446744073709551616) : (double.order x y == some .eq) = eqB x y := by
  unfold eqB
  cases nx : nanB x with
  | true => rw [order_nan hx hy (.inl nx)]; rfl
  | false =>
    cases ny : nanB y with
    | true => rw [order_nan hx hy (.inr ny)]; rfl
    | false =>
      rw [order_any hx hy nx ny]
      rcases Int.lt_trichotomy (sv x) (sv y) with h | h | h
      · rw [Int.compare_eq_lt.2 h, decide_eq_false (by omega)]; rfl
      · rw [Int.compare_eq_eq.2 h, decide_eq_true h]; rfl
      · rw [Int.compare_eq_gt.2 h, decide_eq_false (by omega)]; rfl
/-- Is it itself? All but what is no number is. -/
theorem order_self {x : Nat} (hx : x < 18446744073709551616) : (double.order x x == some .eq) = !nanB x := by
  rw [order_eq hx hx]; unfold eqB
  rw [decide_eq_true rfl]; cases nanB x <;> rfl
/-- The rank. -/
def rankF (x : Nat) : Int := if nanB x = true then 9223372036854775807 else if negB x = true then -1 - (rung x : Int) else (rung x : Int)
theorem rank_nan {x : Nat} (h : nanB x = true) : rankF x = 9223372036854775807 := by unfold rankF; rw [if_pos h]
theorem rank_neg {x : Nat} (h : nanB x = false) (hn : negB x = true) : rankF x = -1 - (rung x : Int) := by unfold rankF; rw [if_neg (by rw [h]; decide), if_pos hn]
theorem rank_pos {x : Nat} (h : nanB x = false) (hn : negB x = false) : rankF x = (rung x : Int) := by unfold rankF; rw [if_neg (by rw [h]; decide), if_neg (by rw [hn]; decide)]
theorem rank_lt_nan {x : Nat} (h : nanB x = false) : rankF x < 9223372036854775807 := by
  have hr := nan_no h
  cases hn : negB x with
  | true => rw [rank_neg h hn]; omega
  | false => rw [rank_pos h hn]; omega
theorem U_le {r s : Nat} : U r < U s ↔ r < s := ⟨fun h => by
  rcases Nat.lt_trichotomy r s with h1 | h1 | h1
  · exact h1
  · rw [h1] at h; omega
  · have := U_lt h1; omega, U_lt⟩
theorem U_pos {r : Nat} : 0 < U r ↔ 0 < r := by rw [← U_le (r := 0) (s := r), U_zero]
/-- The order by rank: by what they stand for, and of the two zeros by their signs. -/
theorem rank_order {x y : Nat} (nx : nanB x = false) (ny : nanB y = false) : rankF x < rankF y ↔ (sv x < sv y ∨ (rung x = 0 ∧ rung y = 0 ∧ negB x = true ∧ negB y = false)) := by
  have hu := U_le (r := rung x) (s := rung y)
  have hv := U_le (r := rung y) (s := rung x)
  have px := U_pos (r := rung x)
  have py := U_pos (r := rung y)
  unfold sv
  cases hx : negB x with
  | true =>
    rw [rank_neg nx hx]
    cases hy : negB y with
    | true =>
      rw [rank_neg ny hy]
      show _ ↔ (-(U (rung x) : Int) < -(U (rung y) : Int) ∨ _)
      constructor
      · intro h; exact .inl (by have := hv.2 (by omega); omega)
      · rintro (h | ⟨_, _, _, h⟩)
        · have := hv.1 (by omega); omega
        · cases h
    | false =>
      rw [rank_pos ny hy]
      show _ ↔ (-(U (rung x) : Int) < (U (rung y) : Int) ∨ _)
      constructor
      · intro h
        by_cases h0 : rung x = 0 ∧ rung y = 0
        · exact .inr ⟨h0.1, h0.2, rfl, rfl⟩
        · refine .inl ?_
          by_cases h1 : rung x = 0
          · have := py.2 (by omega); omega
          · have := px.2 (by omega); omega
      · intro _; omega
  | false =>
    rw [rank_pos nx hx]
    cases hy : negB y with
    | true =>
      rw [rank_neg ny hy]
      show _ ↔ ((U (rung x) : Int) < -(U (rung y) : Int) ∨ _)
      constructor
      · intro h; omega
      · rintro (h | ⟨_, _, h, _⟩)
        · omega
        · cases h
    | false =>
      rw [rank_pos ny hy]
      show _ ↔ ((U (rung x) : Int) < (U (rung y) : Int) ∨ _)
      constructor
      · intro h; exact .inl (by have := hu.2 (by omega); omega)
      · rintro (h | ⟨_, _, h, _⟩)
        · have := hu.1 (by omega); omega
        · cases h
end Go.Proofs.YtgjfjjdljngklaaDoor.F
