/-
  Plain laws for layer 11's code: rounding to a whole number by bits; a number times 1000, rounded, and divided again; a text without its sign, by what stands ahead of the first point and behind it; the digits behind the point; the least one so far. No conditions.
-/
import Derived.Test.YtgjfjjdljngklaaDoorMetricO
import Derived.Test.YtgjfjjdljngklaaDoorMetricX
import Derived.Lib.TrimByte
namespace Go.Proofs.YtgjfjjdljngklaaDoor
namespace F
open Ieee
open T (decL decL_small decL_big decL_len)
open N (digB valL val_snoc)
set_option linter.unusedVariables false

/-- What math.Round makes of a number from 0 on, below 2^52: the word. -/
def roundW (y : Nat) : Nat := if y / 4503599627370496 < 1022 then 0 else if y / 4503599627370496 = 1022 then 4607182418800017408 else (y + 2 ^ (1074 - y / 4503599627370496)) / 2 ^ (1075 - y / 4503599627370496) * 2 ^ (1075 - y / 4503599627370496)
theorem near_one : double.nearest false 1 0 = 4607182418800017408 := by decide +kernel
theorem unit_two (a : Nat) (b : Nat) (h : a + b = 1074) : 2 ^ unitE = 2 ^ a * 2 ^ b := by rw [unitE_is, ← Nat.pow_add, h]
theorem U_below {y E : Nat} (h : y < (E + 1) * 4503599627370496) : U y < 4503599627370496 * 2 ^ E := by
  rw [← U_top]; exact U_lt h
theorem U_above {y E : Nat} (h : (E + 1) * 4503599627370496 ≤ y) : 4503599627370496 * 2 ^ E ≤ U y := by
  rw [← U_top]; exact U_mono h
theorem round_arith {f H q : Nat} (hH : 0 < H) (hq : q = (4503599627370496 + f + H) / (2 * H)) : 2 * (q * (2 * H)) ≤ 2 * (4503599627370496 + f) + 2 * H ∧ 2 * (4503599627370496 + f) < 2 * (q * (2 * H)) + 2 * H := by
  subst hq
  have h1 := Nat.div_add_mod (4503599627370496 + f + H) (2 * H)
  have h2 := Nat.mod_lt (4503599627370496 + f + H) (show 0 < 2 * H by omega)
  rw [Nat.mul_comm] at h1
  generalize (4503599627370496 + f + H) / (2 * H) * (2 * H) = a at *
  generalize (4503599627370496 + f + H) % (2 * H) = b at *
  omega
/-- Rounded: the nearest whole number. -/
theorem round_is {y : Nat} (h : y ≤ 1054 * 4503599627370496) : ∃ q, roundW y = double.nearest false q 0 ∧ q < 4503599627370496 ∧ 2 * (q * 2 ^ unitE) ≤ 2 * U y + 2 ^ unitE ∧ 2 * U y < 2 * (q * 2 ^ unitE) + 2 ^ unitE := by
  by_cases h1 : y / 4503599627370496 < 1022
  · refine ⟨0, ?_, by omega, by rw [Nat.zero_mul]; exact Nat.zero_le _, ?_⟩
    · unfold roundW; rw [if_pos h1, near_nought]; exact (word_no 0).symm
    · obtain ⟨E, hE⟩ : ∃ E, E = 1021 := ⟨_, rfl⟩
      have h2 := U_below (y := y) (E := E) (by omega)
      rw [unit_two E 53 (by omega), show (2 : Nat) ^ 53 = 9007199254740992 from rfl]
      generalize 2 ^ E = P at *
      omega
  by_cases h2 : y / 4503599627370496 = 1022
  · refine ⟨1, ?_, by omega, ?_, ?_⟩
    · unfold roundW; rw [if_neg h1, if_pos h2, near_one]
    · obtain ⟨E, hE⟩ : ∃ E, E = 1021 := ⟨_, rfl⟩
      have h3 := U_above (y := y) (E := E) (by omega)
      rw [unit_two E 53 (by omega), show (2 : Nat) ^ 53 = 9007199254740992 from rfl]
      generalize 2 ^ E = P at *
      omega
    · obtain ⟨E, hE⟩ : ∃ E, E = 1022 := ⟨_, rfl⟩
      have h3 := U_below (y := y) (E := E) (by omega)
      rw [unit_two E 52 (by omega), show (2 : Nat) ^ 52 = 4503599627370496 from rfl]
      generalize 2 ^ E = P at *
      omega
  obtain ⟨e, he⟩ : ∃ e, y / 4503599627370496 = e := ⟨_, rfl⟩
  rw [he] at h1 h2
  obtain ⟨f, hf⟩ : ∃ f, y % 4503599627370496 = f := ⟨_, rfl⟩
  have hfl : f < 4503599627370496 := by rw [← hf]; exact Nat.mod_lt _ (by omega)
  have hy : y = e * 4503599627370496 + f := by rw [← he, ← hf, Nat.mul_comm]; exact (Nat.div_add_mod _ _).symm
  have hel : e ≤ 1054 := by rw [← he]; omega
  obtain ⟨s, hs⟩ : ∃ s, 1074 - e = s := ⟨_, rfl⟩
  have hs2 : 1075 - e = s + 1 := by omega
  obtain ⟨H, hH⟩ : ∃ H, 2 ^ s = H := ⟨_, rfl⟩
  have hH0 : 0 < H := by rw [← hH]; exact pow_pos3 _
  have hH2 : 2 ^ (s + 1) = 2 * H := by rw [Nat.pow_succ, hH, Nat.mul_comm]
  obtain ⟨R, hR⟩ : ∃ R, 2 ^ (51 - s) = R := ⟨_, rfl⟩
  have hbin : 4503599627370496 = R * (2 * H) := by
    rw [← hH2, ← hR, ← Nat.pow_add, show 51 - s + (s + 1) = 52 by omega]
  obtain ⟨q, hq⟩ : ∃ q, q = (4503599627370496 + f + H) / (2 * H) := ⟨_, rfl⟩
  obtain ⟨a1, a2⟩ := round_arith hH0 hq
  have hU : U y = (4503599627370496 + f) * 2 ^ (e - 1) := by
    unfold U
    rw [if_neg (by omega), hf, he]
  have hP : 2 ^ unitE = 2 * H * 2 ^ (e - 1) := by
    rw [← hH2]; exact unit_two _ _ (by omega)
  have hw : roundW y = (e - 1) * 4503599627370496 + q * (2 * H) := by
    unfold roundW
    rw [he, if_neg h1, if_neg h2, hs, hs2, hH2, hH, hq]
    have e1 : y + H = (4503599627370496 + f + H) + (e - 1) * R * (2 * H) := by
      rw [Nat.mul_assoc, ← hbin, hy]
      obtain ⟨k, rfl⟩ : ∃ k, e = k + 1 := ⟨e - 1, by omega⟩
      rw [Nat.add_sub_cancel]
      omega
    rw [e1, Nat.add_mul_div_right _ _ (by omega), Nat.add_mul, Nat.mul_assoc (e - 1), ← hbin, Nat.add_comm]
  have hq0 : q ≠ 0 := by
    intro h0
    rw [h0] at a2
    have : 2 * H ≤ 4503599627370496 := by
      rw [hbin]; exact Nat.le_mul_of_pos_left _ (by rw [← hR]; exact pow_pos3 _)
    omega
  have hqb : q * (2 * H) ≤ 9007199254740992 := by
    rw [hq]
    have h3 : 4503599627370496 + f + H ≤ 2 * R * (2 * H) + (H - 1) := by
      rw [Nat.mul_assoc, ← hbin]; omega
    have h4 := Nat.div_le_div_right (c := 2 * H) h3
    rw [Nat.add_comm (2 * R * (2 * H)), Nat.add_mul_div_right _ _ (by omega), Nat.div_eq_of_lt (by omega : H - 1 < 2 * H), Nat.zero_add] at h4
    have h5 := Nat.mul_le_mul_right (2 * H) h4
    rw [Nat.mul_assoc 2, ← hbin] at h5
    omega
  have hs21 : 20 ≤ s := by omega
  have hH3 : 1048576 ≤ H := by
    rw [← hH, show (1048576 : Nat) = 2 ^ 20 from rfl]
    exact Nat.pow_le_pow_right (by omega) hs21
  have hq3 : q < 4503599627370496 := by
    have h6 : q * (2 * 1048576) ≤ q * (2 * H) := Nat.mul_le_mul_left _ (by omega)
    omega
  have hqm : 4503599627370496 ≤ q * (2 * H) := by
    rw [hq]
    have h3 : R * (2 * H) ≤ 4503599627370496 + f + H := by rw [← hbin]; omega
    have h4 := Nat.div_le_div_right (c := 2 * H) h3
    rw [Nat.mul_div_cancel _ (by omega)] at h4
    have h5 := Nat.mul_le_mul_right (2 * H) h4
    rw [← hbin] at h5
    exact h5
  refine ⟨q, ?_, hq3, ?_, ?_⟩
  · apply U_inj
    rw [hw, U_rung _ _ hqb (.inr hqm), (whole_word q hq0 (by omega)).2.2, hP, Nat.mul_assoc]
  · rw [hU, hP]
    have := Nat.mul_le_mul_right (2 ^ (e - 1)) a1
    calc 2 * (q * (2 * H * 2 ^ (e - 1))) = 2 * (q * (2 * H)) * 2 ^ (e - 1) := by ac_rfl
      _ ≤ (2 * (4503599627370496 + f) + 2 * H) * 2 ^ (e - 1) := this
      _ = 2 * ((4503599627370496 + f) * 2 ^ (e - 1)) + 2 * H * 2 ^ (e - 1) := by rw [Nat.add_mul]; congr 1; ac_rfl
  · rw [hU, hP]
    have := Nat.mul_lt_mul_of_pos_right a2 (pow_pos3 (e - 1))
    calc 2 * ((4503599627370496 + f) * 2 ^ (e - 1)) = 2 * (4503599627370496 + f) * 2 ^ (e - 1) := by ac_rfl
      _ < (2 * (q * (2 * H)) + 2 * H) * 2 ^ (e - 1) := this
      _ = 2 * (q * (2 * H * 2 ^ (e - 1))) + 2 * H * 2 ^ (e - 1) := by rw [Nat.add_mul]; congr 1; ac_rfl
theorem near_int {q : Nat} (h : q < 4503599627370496) : floatToIntVal .f64 (double.nearest false q 0) .i64 = some (q : Int) := by
  by_cases h0 : q = 0
  · subst h0; decide +kernel
  · obtain ⟨a, b, c⟩ := whole_word q h0 (by omega)
    exact int_of _ a b q (by rw [c]; exact Nat.mul_div_cancel _ (pow_pos3 _)) h
theorem near_plus {q : Nat} (h : q < 4503599627370496) : double.nearest false q 0 < 9218868437227405312 := by
  by_cases h0 : q = 0
  · subst h0; decide +kernel
  · exact (whole_word q h0 (by omega)).2.1
theorem thou_top : thouW 1000000000 = 4696837146684686336 := by decide +kernel
theorem top_arith {n P u : Nat} (hP : 0 < P) (h : 1000000001 * P ≤ n) (h2 : n * 4503599627370495 ≤ u * 1000 * 4503599627370496) : 1000000 * P < u := by omega
theorem thou_over {n : Nat} (h : 1000000000 ≤ n) (hn : n < 9007199254740992) : 4696837146684686336 ≤ thouW n := by
  by_cases h0 : n = 1000000000
  · rw [h0, thou_top]; exact Nat.le_refl _
  · obtain ⟨r, h1, h2, h3, h4, _, h5⟩ := thou_div n (by omega) hn
    have e : thouW n = r := by unfold thouW; rw [if_neg (by omega), h1]; rfl
    rw [e]
    refine Nat.le_of_lt ?_
    rw [← U_le, U_mio]
    have hP := pow_pos3 unitE
    have h6 : 1000000001 * 2 ^ unitE ≤ n * 2 ^ unitE := Nat.mul_le_mul_right _ (by omega)
    exact top_arith hP h6 h5
theorem near_arith {w P A y v : Nat} (hp : 0 < P) (h : w ≤ 999999999 * P) (u1 : A * 1000 * 4503599627370496 ≤ w * 4503599627370497) (u2 : w * 4503599627370495 ≤ A * 1000 * 4503599627370496) (u3 : y * 4503599627370496 ≤ A * 1000 * 4503599627370497) (u4 : A * 1000 * 4503599627370495 ≤ y * 4503599627370496)
    (k1 : 2 * v ≤ 2 * y + P) (k2 : 2 * y < 2 * v + P) : v < w + P ∧ w < v + P := by omega
/-- What the code does with a number from 0 up to 10^6, to find its thousandths. -/
theorem text_back {g : Nat} (h : g < 4696837146684686336) : ∃ y q : Nat, floatBits .mul .f64 g 4652007308841189376 = some y ∧ y ≤ 1054 * 4503599627370496 ∧ roundW y = double.nearest false q 0 ∧ q < 4503599627370496 ∧
    floatBits .quo .f64 (double.nearest false q 0) 4652007308841189376 = some (thouW q) ∧ thouW q < 9218868437227405312 ∧ (thouW q = g → q < 1000000000) ∧ ∀ n, n < 1000000000 → g = thouW n → q = n := by
  obtain ⟨y, hy, hy2⟩ := mul_some (g := g) (by omega)
  obtain ⟨q, hq, hq2, k1, k2⟩ := round_is hy2
  obtain ⟨d1, d2⟩ := thou_word2 (n := q) (by omega)
  refine ⟨y, q, hy, hy2, hq, hq2, d1, d2, fun e => ?_, fun n hn hg => ?_⟩
  · rcases Nat.lt_or_ge q 1000000000 with hlt | hge
    · exact hlt
    · have := thou_over hge (by omega)
      omega
  · have hP := pow_pos3 unitE
    by_cases h0 : n = 0
    · subst h0
      have hg0 : g = 0 := by rw [hg]; rfl
      rw [hg0] at hy
      have e1 : double.mul 0 4652007308841189376 = some 0 := by decide +kernel
      rw [e1] at hy
      injection hy with hy
      subst hy
      rw [U_zero] at k1
      rcases Nat.eq_zero_or_pos q with e | e
      · exact e
      · have := Nat.mul_le_mul_right (2 ^ unitE) e
        simp only [Nat.succ_eq_add_one, Nat.zero_add, Nat.one_mul] at this
        omega
    · obtain ⟨x', ex, _, x1, x2, u1, u2⟩ := thou_div n h0 (by omega)
      have e : g = x' := by rw [hg]; unfold thouW; rw [if_neg h0, ex]; rfl
      subst e
      obtain ⟨P, hPe⟩ : ∃ P, 2 ^ unitE = P := ⟨_, rfl⟩
      have q1 : U g < 2 ^ (unitE + 60) := by
        rw [Nat.pow_add, hPe]
        rw [hPe] at u1
        have : n * P ≤ 1000000000 * P := Nat.mul_le_mul_right _ (by omega)
        generalize n * P = w at u1 this
        omega
      have q2 : 2 ^ (unitE - 60) ≤ U g := by
        have e3 : (2 : Nat) ^ unitE = 1152921504606846976 * 2 ^ (unitE - 60) := by rw [show (1152921504606846976 : Nat) = 2 ^ 60 from rfl, ← Nat.pow_add]; congr 1; rw [unitE_is]
        have : 1 * 2 ^ unitE ≤ n * 2 ^ unitE := Nat.mul_le_mul_right _ (by omega)
        rw [e3] at u2 this
        generalize 2 ^ (unitE - 60) = w at u2 this ⊢
        generalize n * (1152921504606846976 * w) = v at u2 this
        omega
      obtain ⟨y', ey, _, y1, y2, u3, u4⟩ := thou_mul g x1 x2 q1 q2
      rw [w_1000] at ey
      have ey2 : y = y' := by
        have : some y = some y' := hy.symm.trans ey
        exact Option.some.inj this
      subst ey2
      rw [hPe] at u1 u2 hP k1 k2
      have hw : n * P ≤ 999999999 * P := Nat.mul_le_mul_right _ (by omega)
      obtain ⟨v1, v2⟩ := near_arith hP hw u1 u2 u3 u4 k1 k2
      have b1 : q < n + 1 := Nat.lt_of_mul_lt_mul_right (a := P) (by rw [Nat.succ_mul]; exact v1)
      have b2 : n < q + 1 := Nat.lt_of_mul_lt_mul_right (a := P) (by rw [Nat.succ_mul]; exact v2)
      omega
/-- The sign, set. -/
theorem sign_set {x : Nat} (h : x < 9223372036854775808) : negW x = x + 9223372036854775808 := by
  obtain ⟨a, b, c⟩ := neg_parts (x := x) (by omega)
  have e : negB x = false := decide_eq_false (by omega)
  have e2 : rung x = x := Nat.mod_eq_of_lt h
  rw [e2] at a
  rw [e] at b
  have b2 : 9223372036854775808 ≤ negW x := of_decide_eq_true b
  unfold rung at a
  omega

/-- Digits, one or more, up to so many. -/
def digsB (l : List UInt8) (k : Nat) : Bool := !l.isEmpty && decide (l.length ≤ k) && l.all digB
def wholeB (a : List UInt8) : Bool := digsB a 6 && (decide (a = [48]) || decide (a.head? ≠ some 48))
def partB (b : List UInt8) : Bool := digsB b 3 && decide (b.getLast? ≠ some 48)
theorem int_whole (a : List UInt8) : (intOk a && a.all digB) = wholeB a := by
  unfold wholeB digsB intOk
  rcases a with _ | ⟨c, a⟩
  · rfl
  · cases h : (c :: a).all digB
    · simp
    · rcases a with _ | ⟨d, a⟩
      · simp
      · by_cases e : c = 48 <;> simp [e]
theorem part_frac (b : List UInt8) : fracOk (46 :: b) = partB b := by
  have e : fracOk (46 :: b) = (decide ((46 : UInt8) = 46) && !b.isEmpty && decide (b.getLast? ≠ some 48) && decide (b.length ≤ 3) && b.all digB) := rfl
  rw [e]
  unfold partB digsB
  generalize b.isEmpty = x; generalize b.all digB = y; generalize decide (b.getLast? ≠ some 48) = z; generalize decide (b.length ≤ 3) = u
  cases x <;> cases y <;> cases z <;> cases u <;> rfl
theorem dig_46 : digB 46 = false := by decide
theorem drop_bad (l : List UInt8) (h : l.all digB = false) : ∃ p c f, l = p ++ c :: f ∧ (∀ x ∈ p, digB x = true) ∧ digB c = false := by
  induction l with
  | nil => simp at h
  | cons x l ih =>
    cases hx : digB x
    · exact ⟨[], x, l, rfl, by simp, hx⟩
    · rw [List.all_cons, hx, Bool.true_and] at h
      obtain ⟨p, c, f, rfl, hp, hc⟩ := ih h
      exact ⟨x :: p, c, f, rfl, fun y hy => (List.mem_cons.1 hy).elim (fun e => e ▸ hx) (fun hy => hp y hy), hc⟩
theorem frac_bad {c : UInt8} (f : List UInt8) (h : c ≠ 46) : fracOk (c :: f) = false := by
  have e : fracOk (c :: f) = (decide (c = 46) && !f.isEmpty && decide (f.getLast? ≠ some 48) && decide (f.length ≤ 3) && f.all digB) := rfl
  rw [e, decide_eq_false h]; rfl
/-- A text without its sign, by what stands ahead of the first point and behind it. -/
theorem tho_cut {l a b : List UInt8} {f : Bool} (h : (f = false ∧ a = l ∧ b = [] ∧ (46 : UInt8) ∉ l) ∨ (f = true ∧ l = a ++ 46 :: b ∧ (46 : UInt8) ∉ a)) :
    thoL l = if (wholeB a && (!f || partB b)) = true then some (valL (a ++ b) * 10 ^ (3 - b.length)) else none := by
  cases hd : a.all digB with
  | false =>
    have hw : wholeB a = false := by unfold wholeB digsB; rw [hd]; simp
    rw [hw, Bool.false_and, if_neg (by decide)]
    obtain ⟨p, c, g, e, hp, hc⟩ := drop_bad a hd
    have h46 : c ≠ 46 := by
      intro e2
      rcases h with ⟨_, e1, _, hn⟩ | ⟨_, _, hn⟩
      · exact hn (by rw [← e1, e, e2]; simp)
      · exact hn (by rw [e, e2]; simp)
    obtain ⟨r, er⟩ : ∃ r, l = p ++ c :: r := by
      rcases h with ⟨_, e1, _, _⟩ | ⟨_, e1, _⟩
      · exact ⟨g, by rw [← e1, e]⟩
      · exact ⟨g ++ 46 :: b, by rw [e1, e]; simp⟩
    rw [er, tho_is hp (.inr ⟨c, r, rfl, hc⟩), frac_bad r h46, Bool.and_false, if_neg (by decide)]
  | true =>
    have ha : ∀ c ∈ a, digB c = true := fun c hc => List.all_eq_true.1 hd c hc
    have hw := int_whole a
    rw [hd, Bool.and_true] at hw
    rcases h with ⟨rfl, rfl, rfl, _⟩ | ⟨rfl, e1, _⟩
    · have := tho_is ha (r := []) (.inl rfl)
      rw [List.append_nil] at this
      rw [this, hw]
      simp [fracOk]
    · rw [e1, tho_is ha (.inr ⟨46, b, rfl, dig_46⟩), hw, part_frac]
      simp
/-- The digits behind the point, without the noughts at the end. -/
theorem trim_frac {k : Nat} (hk : k < 1000) (h0 : k ≠ 0) : Lib.trimRightB [digC (k / 100), digC (k / 10 % 10), digC (k % 10)] 48 = fracT k := by
  have z : digC 0 = 48 := rfl
  rcases frac_three k with ⟨h, e⟩ | ⟨h, h', e⟩ | ⟨h, e⟩
  · rw [e, show k / 10 % 10 = 0 by omega, show k % 10 = 0 by omega, z]
    have := digC_ne (n := k / 100) (by omega) (by omega)
    unfold Lib.trimRightB
    simp [this]
  · rw [e, show k % 10 = 0 by omega, z]
    have := digC_ne (n := k / 10 % 10) (by omega) (by omega)
    unfold Lib.trimRightB
    simp [this]
  · rw [e]
    have := digC_ne (n := k % 10) (by omega) (by omega)
    unfold Lib.trimRightB
    simp [this]
/-- The least one so far, and one more. -/
theorem least_next {l : List Nat} {k x : Nat} {r : Int} (h : LeastIs (l.take k) r) (hx : l[k]? = some x) :
    ((r = -1 ∧ k = 0) ∨ ∃ (j z : Nat), r = (j : Int) ∧ j < k ∧ l[j]? = some z ∧ (rankF x < rankF z → LeastIs (l.take (k + 1)) (k : Int)) ∧ (¬ rankF x < rankF z → LeastIs (l.take (k + 1)) r)) ∧ (k = 0 → LeastIs (l.take (k + 1)) (k : Int)) := by
  have hk : k < l.length := by
    rcases Nat.lt_or_ge k l.length with h | h
    · exact h
    · rw [List.getElem?_eq_none h] at hx; cases hx
  have et : l.take (k + 1) = l.take k ++ [x] := by
    rw [List.take_add_one, hx]; rfl
  have hlen : (l.take k).length = k := by rw [List.length_take]; omega
  have hat : ∀ i, i < k → (l.take k)[i]? = l[i]? := fun i hi => by rw [List.getElem?_take, if_pos hi]
  have hnew : (l.take (k + 1))[k]? = some x := by rw [List.getElem?_take, if_pos (by omega), hx]
  refine ⟨?_, fun h0 => ?_⟩
  · rcases h with ⟨h1, h2⟩ | ⟨j, z, rfl, hj, hall, hfirst⟩
    · left
      refine ⟨h2, ?_⟩
      have := congrArg List.length h1
      rw [hlen] at this
      exact this
    · right
      have hjk : j < k := by
        rcases Nat.lt_or_ge j k with h | h
        · exact h
        · rw [List.getElem?_eq_none (by omega)] at hj; cases hj
      have hjl : l[j]? = some z := by rw [← hat j hjk]; exact hj
      refine ⟨j, z, rfl, hjk, hjl, fun hlt => .inr ⟨k, x, rfl, hnew, fun y hy => ?_, fun i y hi hy => ?_⟩, fun hge => .inr ⟨j, z, rfl, ?_, fun y hy => ?_, fun i y hi hy => ?_⟩⟩
      · rw [et] at hy
        rcases List.mem_append.1 hy with hy | hy
        · have := hall y hy; omega
        · rw [List.mem_singleton.1 hy]; omega
      · rw [et, List.getElem?_append_left (by omega)] at hy
        have := hall y (List.mem_of_getElem? hy)
        omega
      · rw [et, List.getElem?_append_left (by omega)]; exact hj
      · rw [et] at hy
        rcases List.mem_append.1 hy with hy | hy
        · exact hall y hy
        · rw [List.mem_singleton.1 hy]; omega
      · rw [et, List.getElem?_append_left (by omega)] at hy
        exact hfirst i y hi hy
  · subst h0
    refine .inr ⟨0, x, rfl, hnew, fun y hy => ?_, fun i y hi _ => absurd hi (by omega)⟩
    rw [et] at hy
    rw [show l.take 0 = [] from rfl, List.nil_append] at hy
    rw [List.mem_singleton.1 hy]; exact Int.le_refl _
end F
end Go.Proofs.YtgjfjjdljngklaaDoor
