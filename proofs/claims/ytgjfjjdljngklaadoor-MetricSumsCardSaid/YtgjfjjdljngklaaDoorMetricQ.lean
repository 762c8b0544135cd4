/-
  Layer 11: float64's operations, as the model runs them: a result that is no number is some such one, and one draw is made; 1 / 0; sums. No conditions.
-/
import Derived.Test.YtgjfjjdljngklaaDoorMetricP
import Derived.Laws.FloatArith
namespace Go.Proofs.YtgjfjjdljngklaaDoor.F
set_option linter.unusedVariables false
open Ieee Go

/-- One of those that are no number, as it is drawn. -/
def drawnNan (w : World) (x y : Nat) : Nat := (Question.nanBits .f64 x y).cut (w.tape w.drawn (Question.nanBits .f64 x y))
theorem drawn_nan (w : World) (x y : Nat) : nanB (drawnNan w x y) = true ∧ drawnNan w x y < 18446744073709551616 := by
  unfold drawnNan
  generalize w.tape w.drawn (Question.nanBits .f64 x y) = t
  have e : (Question.nanBits .f64 x y).cut t = (t % 2) * 9223372036854775808 + 9218868437227405312 + 1 + (t / 2) % 4503599627370495 := rfl
  rw [e]
  have h1 : t % 2 < 2 := Nat.mod_lt _ (by omega)
  have h2 : (t / 2) % 4503599627370495 < 4503599627370495 := Nat.mod_lt _ (by omega)
  generalize t % 2 = a at h1
  generalize (t / 2) % 4503599627370495 = b at h2
  unfold nanB rung
  rcases (show a = 0 ∨ a = 1 by omega) with rfl | rfl <;> exact ⟨decide_eq_true (by omega), by omega⟩
theorem run_nan (P : Program) (w : World) (op : BinOp) (t : TypeId) (x y : Nat) (hop : op = .add ∨ op = .sub ∨ op = .mul ∨ op = .quo) (h : floatBits op .f64 x y = none) :
    (binOp op t (.float .f64 x) (.float .f64 y)).run P w = .ok (.float .f64 (drawnNan w x y)) w.drew := by
  unfold floatBits at h
  rcases hop with rfl | rfl | rfl | rfl <;> simp only at h <;> simp [binOp, Op.floatArith, h, drawnNan, Question.forced]
/-- The sum of two: none: it is no number. -/
theorem add_nan {x y : Nat} (hx : x < 18446744073709551616) (hy : y < 18446744073709551616) (h : nanB x = true ∨ nanB y = true) : floatBits .add .f64 x y = none := by
  show double.add x y = none
  unfold Format.add
  rcases h with h | h
  · rw [read_nan hx (nan_yes h)]; cases double.read y <;> rfl
  · rw [read_nan hy (nan_yes h)]; cases double.read x <;> rfl
def infB (x : Nat) : Bool := decide (rung x = 9218868437227405312)
theorem add_infs {x y : Nat} (hx : x < 18446744073709551616) (hy : y < 18446744073709551616) (ix : infB x = true) (iy : infB y = true) (hn : negB x ≠ negB y) : floatBits .add .f64 x y = none := by
  show double.add x y = none
  unfold Format.add
  rw [read_inf hx (of_decide_eq_true ix), read_inf hy (of_decide_eq_true iy)]
  show (if negB x = negB y then _ else none : Option Datum).map _ = none
  rw [if_neg hn]; rfl
theorem word_inf (s : Bool) : double.word s 9218868437227405312 = if s = true then 18442240474082181120 else 9218868437227405312 := by cases s <;> rfl
/-- An infinite one, and one that is not: the infinite one. -/
theorem add_inf_left {x y : Nat} (hx : x < 18446744073709551616) (hy : y < 18446744073709551616) (ix : infB x = true) (ny : nanB y = false) (h : infB y = true → negB x = negB y) : floatBits .add .f64 x y = some x := by
  show double.add x y = some x
  have e : double.write (.infinity (negB x)) = x := by
    show double.word (negB x) double.infRung = x
    rw [lit_inf, word_inf]
    have hi := of_decide_eq_true ix
    unfold rung at hi
    cases hn : negB x with
    | true => have := of_decide_eq_true hn; rw [if_pos rfl]; omega
    | false => have := of_decide_eq_false hn; rw [if_neg (by decide)]; omega
  unfold Format.add
  rw [read_inf hx (of_decide_eq_true ix)]
  by_cases iy : infB y = true
  · rw [read_inf hy (of_decide_eq_true iy)]
    show ((if negB x = negB y then some (Datum.infinity (negB x)) else none : Option Datum)).map _ = _
    rw [if_pos (h iy)]
    show some (double.write (.infinity (negB x))) = _
    rw [e]
  · obtain ⟨m, k, e1, _⟩ := read_num hy (by
      have := nan_no ny
      have h2 : ¬ rung y = 9218868437227405312 := fun hh => iy (decide_eq_true hh)
      omega)
    rw [e1]
    show some (double.write (.infinity (negB x))) = _
    rw [e]
/-- 1 / 0 has 0's sign. -/
theorem one_zero {x : Nat} (hx : x < 18446744073709551616) (h : rung x = 0) : floatBits .quo .f64 4607182418800017408 x = some (if negB x = true then 18442240474082181120 else 9218868437227405312) := by
  show double.div 4607182418800017408 x = _
  have h1 : double.read 4607182418800017408 = .number false 4503599627370496 (-52) := by decide +kernel
  have h2 : double.read x = .number (negB x) 0 (-1074) := by
    unfold Format.read
    simp only [lit_sign, lit_binade, lit_inf, lit_least, neg_bit hx]
    show (if rung x < 4503599627370496 then Datum.number (negB x) (rung x) (-1074) else _) = _
    rw [if_pos (by omega), h]
  unfold Format.div
  rw [h1, h2]
  show some (double.word (false ^^ negB x) double.infRung) = _
  rw [lit_inf, word_inf, Bool.false_xor]
theorem sv_zero : sv 0 = 0 := rfl
theorem sv_nil {x : Nat} : sv x = 0 ↔ rung x = 0 := by
  have hp := U_pos (r := rung x)
  unfold sv
  rcases sgn_cases (negB x) (U (rung x)) with ⟨_, h⟩ | ⟨_, h⟩ <;> rw [h] <;> constructor <;> intro h2 <;> first | omega | (have := mt hp.2 (by omega); omega)
end Go.Proofs.YtgjfjjdljngklaaDoor.F
