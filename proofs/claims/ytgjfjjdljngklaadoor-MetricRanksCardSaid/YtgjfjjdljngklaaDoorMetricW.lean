/-
  Plain laws for layer 11: sums of float64: signs, zeros, infinite ones; what is no number stays so. No conditions.
-/
import Derived.Test.YtgjfjjdljngklaaDoorMetricU
import Derived.Test.YtgjfjjdljngklaaDoorMetricQ
namespace Go.Proofs.YtgjfjjdljngklaaDoor.F
set_option linter.unusedVariables false
open Ieee

theorem word_no (r : Nat) : double.word false r = r := by unfold Format.word; rw [if_neg (by decide)]
theorem cut_even (neg : Bool) (n d : Nat) : Toward.even.cut neg n d = Toward.even.cut false n d := rfl
theorem near_nought (neg : Bool) (place : Int) : double.nearest neg 0 place = double.word neg 0 := by unfold Format.nearest; rw [if_pos rfl]
theorem near_sign (neg : Bool) (mag : Nat) (place : Int) : double.nearest neg mag place = double.word neg (double.nearest false mag place) := by
  by_cases h : mag = 0
  · rw [h, near_nought, near_nought, word_no]
  · unfold Format.nearest
    rw [if_neg h, if_neg h, word_no]
    simp only [cut_even neg]
theorem near_le (mag : Nat) (place : Int) : double.nearest false mag place ≤ 9218868437227405312 := by
  by_cases h : mag = 0
  · rw [h, near_nought, word_no]; omega
  · rw [nearest_pos _ _ h]; exact Nat.min_le_right _ _
theorem word_parts (neg : Bool) {r : Nat} (h : r ≤ 9218868437227405312) : rung (double.word neg r) = r ∧ negB (double.word neg r) = neg ∧ double.word neg r < 18446744073709551616 := by
  unfold Format.word
  rw [lit_sign]
  cases neg with
  | true => exact ⟨by show (9223372036854775808 + r) % 9223372036854775808 = r; omega, decide_eq_true (by show 9223372036854775808 ≤ 9223372036854775808 + r; omega), by show 9223372036854775808 + r < _; omega⟩
  | false => exact ⟨by show r % 9223372036854775808 = r; omega, decide_eq_false (by show ¬ 9223372036854775808 ≤ r; omega), by show r < _; omega⟩
theorem write_ok (neg : Bool) (mag : Nat) (place : Int) : nanB (double.write (.number neg mag place)) = false := by
  show nanB (double.nearest neg mag place) = false
  rw [near_sign]
  unfold nanB
  rw [(word_parts neg (near_le mag place)).1]
  exact decide_eq_false (by have := near_le mag place; omega)
theorem write_inf (neg : Bool) : nanB (double.write (.infinity neg)) = false := by cases neg <;> decide +kernel
theorem of_parts {x y : Nat} (hx : x < 18446744073709551616) (hy : y < 18446744073709551616) (h1 : rung x = rung y) (h2 : negB x = negB y) : x = y := by
  unfold rung at h1
  unfold negB at h2
  have := decide_eq_decide.1 h2
  omega
/-- A number, written, is the word that it was read of. -/
theorem write_read {x : Nat} (hx : x < 18446744073709551616) (hr : rung x < 9218868437227405312) : double.write (double.read x) = x ∧ (∃ m i, double.read x = .number (negB x) m i ∧ (-1074) ≤ i ∧ (m = 0 ↔ rung x = 0)) := by
  have hread : double.read x = if rung x < 4503599627370496 then .number (negB x) (rung x) (-1074) else .number (negB x) (4503599627370496 + rung x % 4503599627370496) (-1074 + ((rung x / 4503599627370496 - 1 : Nat) : Int)) := by
    unfold Format.read
    simp only [lit_sign, lit_binade, lit_inf, lit_least, neg_bit hx]
    show (if rung x < 4503599627370496 then _ else if rung x < 9218868437227405312 then _ else _) = _
    rw [if_pos hr]
    rfl
  rw [hread]
  by_cases h : rung x < 4503599627370496
  · rw [if_pos h]
    refine ⟨?_, _, _, rfl, by omega, Iff.rfl⟩
    show double.nearest (negB x) (rung x) (-1074) = x
    rw [near_sign]
    have e : double.nearest false (rung x) (-1074) = rung x := by
      by_cases h0 : rung x = 0
      · rw [h0]; rfl
      · have hl : (rung x).log2 ≤ 51 := by have := (Nat.log2_lt h0).2 (show rung x < 2 ^ 52 from h); omega
        rw [nearest_pos _ _ h0, show max ((-1074 : Int) + ((rung x).log2 : Int) - 52) (-1074) = -1074 by omega]
        show min (0 * 4503599627370496 + Toward.even.cut false (rung x <<< 0) 0) 9218868437227405312 = rung x
        rw [Nat.shiftLeft_zero, cut_zero]; omega
    rw [e]
    have hp := word_parts (negB x) (r := rung x) (by omega)
    exact of_parts hp.2.2 hx hp.1 hp.2.1
  · rw [if_neg h]
    refine ⟨?_, _, _, rfl, by omega, ⟨fun h0 => absurd h0 (by omega), fun h0 => absurd h0 (by omega)⟩⟩
    show double.nearest (negB x) (4503599627370496 + rung x % 4503599627370496) (-1074 + ((rung x / 4503599627370496 - 1 : Nat) : Int)) = x
    rw [near_sign]
    obtain ⟨q, hq⟩ : ∃ q, rung x / 4503599627370496 = q + 1 := ⟨rung x / 4503599627370496 - 1, by omega⟩
    obtain ⟨f, hf⟩ : ∃ f, rung x % 4503599627370496 = f := ⟨_, rfl⟩
    have e : double.nearest false (4503599627370496 + rung x % 4503599627370496) (-1074 + ((rung x / 4503599627370496 - 1 : Nat) : Int)) = rung x := by
      have hl : (4503599627370496 + rung x % 4503599627370496).log2 = 52 := (Nat.log2_eq_iff (by omega)).2 ⟨by show 4503599627370496 ≤ _; omega, by show _ < 9007199254740992; omega⟩
      rw [nearest_pos _ _ (by omega), hl, hq, hf]
      rw [show max ((-1074 : Int) + ((q + 1 - 1 : Nat) : Int) + ((52 : Nat) : Int) - 52) (-1074) = -1074 + (q : Int) by omega]
      rw [show ((-1074 : Int) + ((q + 1 - 1 : Nat) : Int) - (-1074 + (q : Int))).toNat = 0 by omega, show ((-1074 : Int) + (q : Int) - (-1074 + ((q + 1 - 1 : Nat) : Int))).toNat = 0 by omega, Nat.shiftLeft_zero, cut_zero, show ((-1074 : Int) + (q : Int) + 1074).toNat = q by omega]
      omega
    rw [e]
    have hp := word_parts (negB x) (r := rung x) (by omega)
    exact of_parts hp.2.2 hx hp.1 hp.2.1
/-- A number above 0, written, is none of the two zeros, if it is a whole multiple of the least number. -/
theorem near_nil {mag : Nat} {place : Int} (h0 : mag ≠ 0) (hp : -1074 ≤ place) : double.nearest false mag place ≠ 0 := by
  have hb := log_bounds h0
  rw [nearest_pos _ _ h0]
  by_cases h : place + (mag.log2 : Int) - 52 ≤ -1074
  · rw [show max (place + (mag.log2 : Int) - 52) (-1074) = -1074 by omega, show ((-1074 : Int) - place).toNat = 0 by omega, cut_zero, Nat.shiftLeft_eq]
    have : 0 < mag * 2 ^ (place - -1074).toNat := Nat.mul_pos (by omega) (pow_pos3 _)
    omega
  · obtain ⟨t, ht⟩ : ∃ t : Nat, (max (place + (mag.log2 : Int) - 52) (-1074) + 1074).toNat = t + 1 := ⟨(max (place + (mag.log2 : Int) - 52) (-1074) + 1074).toNat - 1, by omega⟩
    rw [ht]
    have : 4503599627370496 ≤ (t + 1) * 4503599627370496 := by omega
    generalize (t + 1) * 4503599627370496 = z at this ⊢
    generalize Toward.even.cut false _ _ = y
    omega
theorem sum_comm (a b : Datum) : a.sum b = b.sum a := by
  cases a <;> cases b <;> try rfl
  · rename_i s m i t n j
    show some (Datum.number _ _ _) = some (Datum.number _ _ _)
    rw [show min i j = min j i by omega, Int.add_comm, Bool.and_comm]
  · rename_i s t
    show (if s = t then some (Datum.infinity s) else none) = if t = s then some (Datum.infinity t) else none
    by_cases h : s = t
    · rw [if_pos h, if_pos h.symm, h]
    · rw [if_neg h, if_neg (fun e => h e.symm)]
theorem add_comm (x y : Nat) : floatBits .add .f64 x y = floatBits .add .f64 y x := by
  show double.add x y = double.add y x
  unfold Format.add
  rw [sum_comm]
theorem signed_zero (s : Bool) (m u : Nat) (h : m = 0) : signed s m u = 0 := by subst h; unfold signed; cases s <;> simp
theorem signed_pos {s : Bool} {m u : Nat} (h : 0 ≤ signed s m u) (hs : s = true) : m = 0 := by
  subst hs
  unfold signed at h
  rw [if_pos rfl, Nat.shiftLeft_eq] at h
  have : ((m * 2 ^ u : Nat) : Int) = 0 := by omega
  have h2 : m * 2 ^ u = 0 := by omega
  rcases Nat.mul_eq_zero.1 h2 with h3 | h3
  · exact h3
  · have := pow_pos3 u; omega
/-- 0, with the sign. -/
def nilN : Nat := 9223372036854775808
/-- A sum is never 0 with the sign, but of two of that kind; it is a number. -/
theorem add_some {x y r : Nat} (hx : x < 18446744073709551616) (hy : y < 18446744073709551616) (h : floatBits .add .f64 x y = some r) : nanB r = false ∧ r < 18446744073709551616 ∧ nanB x = false ∧ nanB y = false ∧ (x ≠ nilN → r ≠ nilN) := by
  have hr : r < 18446744073709551616 := by
    have := floatBits_wf h
    simpa [Lit.wf, FloatKind.has] using this
  have nx : nanB x = false := by
    cases e : nanB x with
    | false => rfl
    | true => rw [add_nan hx hy (.inl e)] at h; cases h
  have ny : nanB y = false := by
    cases e : nanB y with
    | false => rfl
    | true => rw [add_nan hx hy (.inr e)] at h; cases h
  have key : nanB r = false ∧ (x ≠ nilN → r ≠ nilN) := by
    have h' : double.add x y = some r := h
    unfold Format.add at h'
    obtain ⟨d, hd, rfl⟩ := Option.map_eq_some_iff.1 h'
    cases d with
    | infinity s => exact ⟨write_inf s, fun _ => by cases s <;> decide +kernel⟩
    | nan s t =>
      exfalso
      cases ex : double.read x <;> cases ey : double.read y <;> rw [ex, ey] at hd <;> simp only [Datum.sum] at hd
      all_goals first | (cases hd; done) | skip
      all_goals (split at hd <;> cases hd)
    | number s mag place =>
      refine ⟨write_ok s mag place, fun hn e => ?_⟩
      have e2 : double.word s (double.nearest false mag place) = nilN := by rw [← near_sign]; exact e
      have hp := word_parts s (near_le mag place)
      rw [e2] at hp
      have hs : s = true := hp.2.1.symm.trans (by decide)
      have hz : double.nearest false mag place = 0 := hp.1.symm.trans (by decide)
      subst hs
      -- both are numbers
      have rx : rung x < 9218868437227405312 := by
        have := nan_no nx
        rcases Nat.lt_or_ge (rung x) 9218868437227405312 with k | k
        · exact k
        · rw [read_inf hx (by omega)] at hd
          cases ey : double.read y <;> rw [ey] at hd <;> simp only [Datum.sum] at hd
          all_goals first | (cases hd; done) | (split at hd <;> cases hd)
      have ry : rung y < 9218868437227405312 := by
        have := nan_no ny
        rcases Nat.lt_or_ge (rung y) 9218868437227405312 with k | k
        · exact k
        · rw [read_inf hy (by omega)] at hd
          cases ex : double.read x <;> rw [ex] at hd <;> simp only [Datum.sum] at hd
          all_goals first | (cases hd; done) | (split at hd <;> cases hd)
      obtain ⟨_, m, i, e3, hi, hm0⟩ := write_read hx rx
      obtain ⟨_, n, j, e4, hj, hn0⟩ := write_read hy ry
      rw [e3, e4] at hd
      simp only [Datum.sum, Option.some.injEq, Datum.number.injEq] at hd
      obtain ⟨d1, d2, d3⟩ := hd
      have hm : mag = 0 := by
        rcases Nat.eq_zero_or_pos mag with k | k
        · exact k
        · exact absurd hz (near_nil (by omega) (by omega))
      have htot : signed (negB x) m (i - min i j).toNat + signed (negB y) n (j - min i j).toNat = 0 := by
        rw [hm] at d2; exact Int.natAbs_eq_zero.1 d2
      rw [if_pos htot] at d1
      obtain ⟨k1, k2⟩ := Bool.and_eq_true_iff.1 d1
      -- both below 0, and together 0: both are 0
      have a1 : m = 0 := by
        unfold signed at htot
        rw [k1, k2, if_pos rfl, if_pos rfl, Nat.shiftLeft_eq, Nat.shiftLeft_eq] at htot
        have : m * 2 ^ (i - min i j).toNat = 0 := by omega
        rcases Nat.mul_eq_zero.1 this with h3 | h3
        · exact h3
        · have := pow_pos3 (i - min i j).toNat; omega
      exact hn (of_parts hx (by decide) ((hm0.1 a1).trans (by decide)) (k1.trans (by decide)))
  exact ⟨key.1, hr, nx, ny, key.2⟩
/-- 0 and a number that is not 0 with the sign. -/
theorem zero_add {x : Nat} (hx : x < 18446744073709551616) (nx : nanB x = false) (h0 : x ≠ nilN) : floatBits .add .f64 0 x = some x := by
  by_cases hi : rung x = 9218868437227405312
  · rw [add_comm]
    exact add_inf_left hx (by omega) (decide_eq_true hi) (by decide) (fun h => absurd h (by decide))
  · have rx : rung x < 9218868437227405312 := by have := nan_no nx; omega
    obtain ⟨e, m, i, e3, hi2, hm0⟩ := write_read hx rx
    show double.add 0 x = some x
    unfold Format.add
    have er : double.read 0 = .number false 0 (-1074) := by decide +kernel
    rw [er, e3]
    simp only [Datum.sum, Option.map_some]
    congr 1
    rw [signed_zero false 0 _ rfl, Int.zero_add, show min (-1074 : Int) i = -1074 by omega, Bool.false_and]
    rw [e3] at e
    by_cases hm : m = 0
    · rw [signed_zero _ m _ hm, if_pos rfl]
      have hxr := hm0.1 hm
      have hx0 : x = 0 := by
        refine of_parts hx (by omega) (hxr.trans (by decide)) ?_
        cases hs : negB x with
        | false => decide
        | true => exact absurd (of_parts hx (by decide) (hxr.trans (by decide)) (hs.trans (by decide))) h0
      rw [hx0]; decide +kernel
    · have hne : signed (negB x) m (i - -1074).toNat ≠ 0 := by
        unfold signed
        rw [Nat.shiftLeft_eq]
        have : 0 < m * 2 ^ (i - -1074).toNat := Nat.mul_pos (by omega) (pow_pos3 _)
        split <;> omega
      rw [if_neg hne]
      have hsg : decide (signed (negB x) m (i - -1074).toNat < 0) = negB x := by
        unfold signed
        rw [Nat.shiftLeft_eq]
        have : 0 < m * 2 ^ (i - -1074).toNat := Nat.mul_pos (by omega) (pow_pos3 _)
        cases negB x with
        | true => rw [if_pos rfl]; exact decide_eq_true (by omega)
        | false => rw [if_neg (by decide)]; exact decide_eq_false (by omega)
      have hab : (signed (negB x) m (i - -1074).toNat).natAbs = m * 2 ^ (i - -1074).toNat := by
        unfold signed
        rw [Nat.shiftLeft_eq]
        split <;> omega
      rw [hsg, hab]
      refine Eq.trans ?_ e
      show double.nearest (negB x) (m * 2 ^ (i - -1074).toNat) (-1074) = double.nearest (negB x) m i
      rw [near_sign, near_sign (negB x) m i]
      congr 1
      obtain ⟨u, hu⟩ : ∃ u : Nat, i = -1074 + (u : Int) := ⟨(i - -1074).toNat, by omega⟩
      subst hu
      rw [show (-1074 + (u : Int) - -1074).toNat = u by omega]
      have hlog : (m * 2 ^ u).log2 = m.log2 + u := by
        obtain ⟨l1, l2⟩ := log_bounds hm
        have hne2 : m * 2 ^ u ≠ 0 := Nat.mul_ne_zero hm (by have := pow_pos3 u; omega)
        refine (Nat.log2_eq_iff hne2).2 ⟨?_, ?_⟩
        · rw [Nat.pow_add]; exact Nat.mul_le_mul_right _ l1
        · rw [show m.log2 + u + 1 = (m.log2 + 1) + u by omega, Nat.pow_add]; exact Nat.mul_lt_mul_of_pos_right l2 (pow_pos3 u)
      have hne2 : m * 2 ^ u ≠ 0 := Nat.mul_ne_zero hm (by have := pow_pos3 u; omega)
      rw [nearest_pos _ _ hne2, nearest_pos _ _ hm, hlog]
      rw [show (-1074 : Int) + ((m.log2 + u : Nat) : Int) - 52 = -1074 + (u : Int) + (m.log2 : Int) - 52 by omega]
      obtain ⟨L, hL⟩ : ∃ L : Int, max (-1074 + (u : Int) + (m.log2 : Int) - 52) (-1074) = L := ⟨_, rfl⟩
      rw [hL]
      congr 2
      -- m is the digits of x: at most 53 of them
      have hlast : L ≤ -1074 + (u : Int) := by
        rw [← hL]
        have hm53 : m.log2 ≤ 52 := by
          have hrd : double.read x = .number (negB x) m (-1074 + (u : Int)) := e3
          unfold Format.read at hrd
          simp only [lit_sign, lit_binade, lit_inf, lit_least, neg_bit hx] at hrd
          have hrd2 : (if rung x < 4503599627370496 then Datum.number (negB x) (rung x) (-1074) else if rung x < 9218868437227405312 then Datum.number (negB x) (4503599627370496 + rung x % 4503599627370496) (-1074 + ((rung x / 4503599627370496 - 1 : Nat) : Int)) else _) = Datum.number (negB x) m (-1074 + (u : Int)) := hrd
          rw [if_pos rx] at hrd2
          by_cases hsub : rung x < 4503599627370496
          · rw [if_pos hsub] at hrd2
            injection hrd2 with _ h2 _
            have := (Nat.log2_lt hm).2 (show m < 2 ^ 52 by omega)
            omega
          · rw [if_neg hsub] at hrd2
            injection hrd2 with _ h2 _
            have := (Nat.log2_lt hm).2 (show m < 2 ^ 53 by omega)
            omega
        omega
      have hL0 : -1074 ≤ L := by omega
      obtain ⟨v, hv⟩ : ∃ v : Nat, L = -1074 + (v : Int) := ⟨(L + 1074).toNat, by omega⟩
      subst hv
      rw [show (-1074 - (-1074 + (v : Int))).toNat = 0 by omega, show (-1074 + (v : Int) - -1074).toNat = v by omega, show (-1074 + (u : Int) - (-1074 + (v : Int))).toNat = u - v by omega, show (-1074 + (v : Int) - (-1074 + (u : Int))).toNat = 0 by omega, Nat.shiftLeft_zero, cut_zero, Nat.shiftLeft_eq]
      -- a multiple of 2^v, cut at v
      have hsplit : m * 2 ^ u = m * 2 ^ (u - v) * 2 ^ v := by rw [Nat.mul_assoc, ← Nat.pow_add, show u - v + v = u by omega]
      rw [hsplit]
      have hz : m * 2 ^ (u - v) ≠ 0 := Nat.mul_ne_zero hm (by have := pow_pos3 (u - v); omega)
      unfold Toward.cut
      have hlz : (m * 2 ^ (u - v) * 2 ^ v).log2 = m.log2 + u := by rw [← hsplit]; exact hlog
      rw [hlz, Nat.min_eq_left (show v ≤ m.log2 + u + 2 by omega)]
      simp only [Nat.shiftLeft_eq, Nat.one_mul]
      rw [Nat.mul_div_cancel _ (pow_pos3 v), Nat.mul_mod_left]
      have hpv := pow_pos3 v
      rw [show (decide (2 ^ v < 2 * 0) : Bool) = false from decide_eq_false (by omega), show ((2 ^ v == 2 * 0 : Bool)) = false from beq_eq_false_iff_ne.2 (by omega)]
      rfl
end Go.Proofs.YtgjfjjdljngklaaDoor.F
