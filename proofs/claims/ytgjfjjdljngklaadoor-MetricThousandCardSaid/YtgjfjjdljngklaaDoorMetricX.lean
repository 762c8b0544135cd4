/-
  Plain laws for layer 11: what a text means and the text of a metric, read back; the least of a list; sums. No conditions.
-/
import Derived.Test.YtgjfjjdljngklaaDoorMetricV
import Derived.Test.YtgjfjjdljngklaaDoorMetricW
namespace Go.Proofs.YtgjfjjdljngklaaDoor.F
set_option linter.unusedVariables false
open Ieee

theorem w_1000 : double.nearest false 1000 0 = 4652007308841189376 := by decide +kernel
/-- The word of thousandths. -/
def thouW (n : Nat) : Nat := if n = 0 then 0 else (double.div (double.nearest false n 0) (double.nearest false 1000 0)).getD 0
theorem ofint_nat (n : Nat) : floatOfInt .f64 (n : Int) = double.nearest false n 0 := by
  show double.nearest (decide ((n : Int) < 0)) (n : Int).natAbs 0 = _
  rw [decide_eq_false (by omega), Int.natAbs_natCast]
theorem thou_word {n : Nat} (h : n < 1000000000) : double.div (double.nearest false n 0) 4652007308841189376 = some (thouW n) ∧ thouW n < 9218868437227405312 ∧ (n ≠ 0 → 4503599627370496 ≤ thouW n) := by
  by_cases h0 : n = 0
  · subst h0
    rw [near_nought, word_no]
    refine ⟨by decide +kernel, by decide, fun h => absurd rfl h⟩
  · obtain ⟨r, h1, h2, h3, h4, _⟩ := thou_div n h0 (by omega)
    have e : thouW n = r := by unfold thouW; rw [if_neg h0, h1]; rfl
    rw [e, ← w_1000]
    exact ⟨h1, h4, fun _ => h3⟩
theorem thou_quo {n : Nat} (h : n < 1000000000) : floatBits .quo .f64 (floatOfInt .f64 (n : Int)) 4652007308841189376 = some (thouW n) := by
  rw [ofint_nat]; exact (thou_word h).1
theorem thouW_lt {n m : Nat} (h : n < m) (hm : m < 1000000000) : thouW n < thouW m := by
  obtain ⟨a1, a2, a3⟩ := thou_word (show n < 1000000000 by omega)
  obtain ⟨b1, b2, b3⟩ := thou_word hm
  by_cases h0 : n = 0
  · have := b3 (by omega)
    have e : thouW n = 0 := by unfold thouW; rw [if_pos h0]
    omega
  · rw [← w_1000] at a1 b1
    exact U_le.1 (thou_lt h0 h hm a1 b1)
theorem thouW_inj {n m : Nat} (hn : n < 1000000000) (hm : m < 1000000000) (h : thouW n = thouW m) : n = m := by
  rcases Nat.lt_trichotomy n m with k | k | k
  · have := thouW_lt k hm; omega
  · exact k
  · have := thouW_lt k hn; omega
/-- A number from 0 on: its sign and rung. -/
theorem plus_parts {x : Nat} (h : x < 9218868437227405312) : rung x = x ∧ negB x = false ∧ nanB x = false ∧ infB x = false := by
  have hr : rung x = x := Nat.mod_eq_of_lt (by omega)
  refine ⟨hr, decide_eq_false (by omega), ?_, ?_⟩
  · unfold nanB; rw [hr]; exact decide_eq_false (by omega)
  · unfold infB; rw [hr]; exact decide_eq_false (by omega)
/-- With the other sign. -/
def negW (x : Nat) : Nat := x ^^^ 9223372036854775808
theorem neg_parts {x : Nat} (hx : x < 18446744073709551616) : rung (negW x) = rung x ∧ negB (negW x) = !negB x ∧ negW x < 18446744073709551616 := by
  have e1 : (x ^^^ 2 ^ 63) % 2 ^ 63 = x % 2 ^ 63 := by rw [Nat.xor_mod_two_pow, Nat.mod_self, Nat.xor_zero]
  have e2 : (x ^^^ 2 ^ 63) / 2 ^ 63 = x / 2 ^ 63 ^^^ 1 := by rw [Nat.xor_div_two_pow, Nat.div_self (by omega)]
  have hn : negW x = x ^^^ 2 ^ 63 := rfl
  rw [← hn] at e1 e2
  have e3 : negW x % 9223372036854775808 = x % 9223372036854775808 := e1
  have e4 : negW x / 9223372036854775808 = x / 9223372036854775808 ^^^ 1 := e2
  have hq : x / 9223372036854775808 = 0 ∨ x / 9223372036854775808 = 1 := by omega
  unfold rung negB
  refine ⟨e3, ?_, ?_⟩
  · rcases hq with hq | hq
    · rw [hq] at e4
      have e5 : negW x / 9223372036854775808 = 1 := e4
      rw [decide_eq_true (by omega), decide_eq_false (by omega)]; rfl
    · rw [hq] at e4
      have e5 : negW x / 9223372036854775808 = 0 := e4
      rw [decide_eq_false (by omega), decide_eq_true (by omega)]; rfl
  · rcases hq with hq | hq
    · rw [hq] at e4
      have e5 : negW x / 9223372036854775808 = 1 := e4
      omega
    · rw [hq] at e4
      have e5 : negW x / 9223372036854775808 = 0 := e4
      omega
theorem neg_twice {x : Nat} (hx : x < 18446744073709551616) : negW (negW x) = x := by
  obtain ⟨h1, h2, h3⟩ := neg_parts hx
  obtain ⟨k1, k2, k3⟩ := neg_parts h3
  exact of_parts k3 hx (k1.trans h1) (by rw [k2, h2, Bool.not_not])

/-- What a text means: nothing, what is no number, or a word. -/
inductive RM where
  | no
  | nan
  | wd (x : Nat)
def posInf : Nat := 9218868437227405312
def negInf : Nat := 18442240474082181120
def readM (s : List UInt8) : RM :=
  if s = [110, 97, 110] then .nan else if s = [105, 110, 102] then .wd posInf else if s = [45, 105, 110, 102] then .wd negInf
  else if s.head? = some 45 then (match thoL s.tail with | none => .no | some n => .wd (negW (thouW n)))
  else match thoL s with | none => .no | some n => .wd (thouW n)
/-- A word, and whether there is one, are what a text means. -/
def ReadIs (s : List UInt8) (x : Nat) (ok : Bool) : Prop := x < 18446744073709551616 ∧ match readM s with
  | .no => x = 0 ∧ ok = false
  | .nan => nanB x = true ∧ ok = true
  | .wd y => x = y ∧ ok = true
def sgnT (neg : Bool) (s : List UInt8) : List UInt8 := if neg = true then 45 :: s else s
/-- A word's text; none: there is none. -/
def TextIs (x : Nat) (o : Option (List UInt8)) : Prop :=
  (nanB x = true ∧ o = some [110, 97, 110]) ∨ (infB x = true ∧ o = some (sgnT (negB x) [105, 110, 102])) ∨ (∃ n, n < 1000000000 ∧ rung x = thouW n ∧ o = some (sgnT (negB x) (thoT n))) ∨
  (nanB x = false ∧ infB x = false ∧ (∀ n, n < 1000000000 → rung x ≠ thouW n) ∧ o = none)
theorem text_ex (x : Nat) : ∃ o, TextIs x o := by
  cases h1 : nanB x with
  | true => exact ⟨_, .inl ⟨h1, rfl⟩⟩
  | false =>
    cases h2 : infB x with
    | true => exact ⟨_, .inr (.inl ⟨h2, rfl⟩)⟩
    | false =>
      by_cases h3 : ∃ n, n < 1000000000 ∧ rung x = thouW n
      · obtain ⟨n, h3, h4⟩ := h3
        exact ⟨_, .inr (.inr (.inl ⟨n, h3, h4, rfl⟩))⟩
      · exact ⟨_, .inr (.inr (.inr ⟨h1, h2, fun n h4 h5 => h3 ⟨n, h4, h5⟩, rfl⟩))⟩
theorem nan_inf {x : Nat} (h : nanB x = true) : infB x = false := by
  have := nan_yes h
  exact decide_eq_false (by omega)
theorem thou_nan {x n : Nat} (h : n < 1000000000) (e : rung x = thouW n) : nanB x = false ∧ infB x = false := by
  have := (thou_word h).2.1
  exact ⟨decide_eq_false (by omega), decide_eq_false (by omega)⟩
theorem text_one {x : Nat} {o o' : Option (List UInt8)} (h : TextIs x o) (h' : TextIs x o') : o = o' := by
  rcases h with ⟨a, b⟩ | ⟨a, b⟩ | ⟨n, a1, a2, b⟩ | ⟨a1, a2, a3, b⟩ <;> rcases h' with ⟨c, d⟩ | ⟨c, d⟩ | ⟨m, c1, c2, d⟩ | ⟨c1, c2, c3, d⟩
  all_goals first | (rw [b, d]; done) | skip
  · rw [nan_inf a] at c; cases c
  · rw [(thou_nan c1 c2).1] at a; cases a
  · rw [c1] at a; cases a
  · rw [nan_inf c] at a; cases a
  · rw [(thou_nan c1 c2).2] at a; cases a
  · rw [c2] at a; cases a
  · rw [(thou_nan a1 a2).1] at c; cases c
  · rw [(thou_nan a1 a2).2] at c; cases c
  · rw [thouW_inj a1 c1 (a2.symm.trans c2)] at b; rw [b, d]
  · exact absurd a2 (c3 n a1)
  · rw [a1] at c; cases c
  · rw [a2] at c; cases c
  · exact absurd c2 (a3 m c1)
theorem inf_words : infB posInf = true ∧ negB posInf = false ∧ infB negInf = true ∧ negB negInf = true ∧ posInf < 18446744073709551616 ∧ negInf < 18446744073709551616 := by decide
/-- What is read of a text has that text. -/
theorem read_text {s : List UInt8} {x : Nat} (h : ReadIs s x true) : TextIs x (some s) := by
  obtain ⟨hx, h⟩ := h
  obtain ⟨i1, i2, i3, i4, i5, i6⟩ := inf_words
  unfold readM at h
  by_cases h1 : s = [110, 97, 110]
  · rw [if_pos h1] at h
    exact .inl ⟨h.1, by rw [h1]⟩
  · rw [if_neg h1] at h
    by_cases h2 : s = [105, 110, 102]
    · rw [if_pos h2] at h
      obtain ⟨rfl, _⟩ := h
      exact .inr (.inl ⟨i1, by rw [i2, h2]; rfl⟩)
    · rw [if_neg h2] at h
      by_cases h3 : s = [45, 105, 110, 102]
      · rw [if_pos h3] at h
        obtain ⟨rfl, _⟩ := h
        exact .inr (.inl ⟨i3, by rw [i4, h3]; rfl⟩)
      · rw [if_neg h3] at h
        by_cases h4 : s.head? = some 45
        · rw [if_pos h4] at h
          rcases tho_cases s.tail with e | ⟨n, hn, e, ht⟩
          · rw [e] at h; exact absurd h.2 (by decide)
          · rw [e] at h
            obtain ⟨rfl, _⟩ := h
            have hw := (thou_word hn).2.1
            obtain ⟨p1, p2, _⟩ := plus_parts hw
            obtain ⟨q1, q2, q3⟩ := neg_parts (show thouW n < 18446744073709551616 by omega)
            refine .inr (.inr (.inl ⟨n, hn, by rw [q1, p1], ?_⟩))
            rw [q2, p2, ht]
            show some s = some (45 :: s.tail)
            cases s with
            | nil => cases h4
            | cons c r => injection h4 with h4; rw [h4]; rfl
        · rw [if_neg h4] at h
          rcases tho_cases s with e | ⟨n, hn, e, ht⟩
          · rw [e] at h; exact absurd h.2 (by decide)
          · rw [e] at h
            obtain ⟨rfl, _⟩ := h
            obtain ⟨p1, p2, _⟩ := plus_parts (thou_word hn).2.1
            exact .inr (.inr (.inl ⟨n, hn, p1, by rw [p2, ht]; rfl⟩))
theorem read_tho {n : Nat} (h : n < 1000000000) (neg : Bool) : readM (sgnT neg (thoT n)) = .wd (if neg = true then negW (thouW n) else thouW n) := by
  obtain ⟨t1, t2, t3⟩ := thoT_head n
  unfold readM
  cases neg with
  | false =>
    show (if thoT n = [110, 97, 110] then _ else _) = _
    rw [if_neg t2]
    show (if thoT n = [105, 110, 102] then _ else _) = _
    rw [if_neg t3]
    show (if thoT n = [45, 105, 110, 102] then _ else _) = _
    rw [if_neg (fun e => t1 (by rw [e]; rfl))]
    show (if (thoT n).head? = some 45 then _ else _) = _
    rw [if_neg t1]
    show (match thoL (thoT n) with | none => RM.no | some n => RM.wd (thouW n)) = _
    rw [tho_text h]; rfl
  | true =>
    show (if 45 :: thoT n = [110, 97, 110] then _ else _) = _
    rw [if_neg (fun e => by injection e with e _; exact absurd e (by decide))]
    show (if 45 :: thoT n = [105, 110, 102] then _ else _) = _
    rw [if_neg (fun e => by injection e with e _; exact absurd e (by decide))]
    show (if 45 :: thoT n = [45, 105, 110, 102] then _ else _) = _
    rw [if_neg (fun e => by injection e with _ e; exact t3 e)]
    show (match thoL (thoT n) with | none => RM.no | some n => RM.wd (negW (thouW n))) = _
    rw [tho_text h]; rfl
/-- What has a text is read of it. -/
theorem text_read {x : Nat} (hx : x < 18446744073709551616) {s : List UInt8} (h : TextIs x (some s)) {y : Nat} {ok : Bool} (hr : ReadIs s y ok) : ok = true ∧ (y = x ∨ nanB x = true ∧ nanB y = true) := by
  obtain ⟨hy, hr⟩ := hr
  obtain ⟨i1, i2, i3, i4, i5, i6⟩ := inf_words
  rcases h with ⟨a, b⟩ | ⟨a, b⟩ | ⟨n, a1, a2, b⟩ | ⟨_, _, _, b⟩
  · injection b with b
    rw [b] at hr
    exact ⟨hr.2, .inr ⟨a, hr.1⟩⟩
  · injection b with b
    rw [b] at hr
    have ha : rung x = 9218868437227405312 := of_decide_eq_true a
    cases hn : negB x with
    | true =>
      rw [hn] at hr
      have hr2 : y = negInf ∧ ok = true := hr
      exact ⟨hr2.2, .inl (by rw [hr2.1]; exact of_parts i6 hx ((of_decide_eq_true i3).trans ha.symm) (i4.trans hn.symm))⟩
    | false =>
      rw [hn] at hr
      have hr2 : y = posInf ∧ ok = true := hr
      exact ⟨hr2.2, .inl (by rw [hr2.1]; exact of_parts i5 hx ((of_decide_eq_true i1).trans ha.symm) (i2.trans hn.symm))⟩
  · injection b with b
    rw [b, read_tho a1] at hr
    have hw := (thou_word a1).2.1
    obtain ⟨p1, p2, _⟩ := plus_parts hw
    obtain ⟨q1, q2, q3⟩ := neg_parts (show thouW n < 18446744073709551616 by omega)
    obtain ⟨rfl, h2⟩ := hr
    refine ⟨h2, .inl ?_⟩
    cases hn : negB x with
    | true => exact of_parts q3 hx (by show rung (negW (thouW n)) = _; rw [q1, p1, a2]) (by show negB (negW (thouW n)) = _; rw [q2, p2, hn]; rfl)
    | false => exact of_parts (by show thouW n < _; omega) hx (by show rung (thouW n) = _; rw [p1, a2]) (by show negB (thouW n) = _; rw [p2, hn])
  · cases b
theorem text_len {x : Nat} {s : List UInt8} (h : TextIs x (some s)) : s.length ≤ 11 := by
  have one : ∀ (neg : Bool) (q : List UInt8), q.length ≤ 10 → (sgnT neg q).length ≤ 11 := by
    intro neg q hq
    unfold sgnT
    split
    · rw [List.length_cons]; omega
    · omega
  rcases h with ⟨_, b⟩ | ⟨_, b⟩ | ⟨n, a1, _, b⟩ | ⟨_, _, _, b⟩
  · injection b with b; rw [b]; decide
  · injection b with b; rw [b]; exact one _ _ (by decide)
  · injection b with b; rw [b]; exact one _ _ (thoT_len n a1)
  · cases b

/-- The place of the first one of a list ahead of which none stands; -1 of none. -/
def LeastIs (l : List Nat) (r : Int) : Prop := (l = [] ∧ r = -1) ∨ ∃ (k x : Nat), r = (k : Int) ∧ l[k]? = some x ∧ (∀ y ∈ l, rankF x ≤ rankF y) ∧ ∀ (i y : Nat), i < k → l[i]? = some y → rankF x < rankF y
theorem least_one {l : List Nat} {r r' : Int} (h : LeastIs l r) (h' : LeastIs l r') : r = r' := by
  rcases h with ⟨a, b⟩ | ⟨k, x, a1, a2, a3, a4⟩ <;> rcases h' with ⟨c, d⟩ | ⟨m, y, c1, c2, c3, c4⟩
  · rw [b, d]
  · rw [a] at c2; simp at c2
  · rw [c] at a2; simp at a2
  · rcases Nat.lt_trichotomy k m with q | q | q
    · have := c4 k x q a2; have := a3 y (List.mem_of_getElem? c2); omega
    · rw [a1, c1, q]
    · have := a4 m y q c2; have := c3 x (List.mem_of_getElem? a2); omega
/-- The sum: none: it is no number. -/
def addO (a : Option Nat) (x : Nat) : Option Nat := match a with
  | none => none
  | some s => floatBits .add .f64 s x
def sumO (l : List Nat) : Option Nat := l.foldl addO (some 0)
/-- A word is that sum. -/
def IsM (o : Option Nat) (x : Nat) : Prop := x < 18446744073709551616 ∧ match o with
  | none => nanB x = true
  | some s => x = s ∧ nanB x = false ∧ x ≠ nilN
theorem sum_snoc (l : List Nat) (x : Nat) : sumO (l ++ [x]) = addO (sumO l) x := by unfold sumO; rw [List.foldl_append]; rfl
theorem sum_nil : IsM (sumO []) 0 := ⟨by omega, rfl, by decide, by decide⟩
/-- What a sum, and one more, is: a word that stands for the sum, and that one added. -/
theorem sum_step {o : Option Nat} {x y : Nat} (h : IsM o x) (hy : y < 18446744073709551616) : (∃ r, floatBits .add .f64 x y = some r ∧ IsM (addO o y) r) ∨ (floatBits .add .f64 x y = none ∧ ∀ z, nanB z = true → z < 18446744073709551616 → IsM (addO o y) z) := by
  obtain ⟨hx, h⟩ := h
  cases o with
  | none =>
    exact .inr ⟨add_nan hx hy (.inl h), fun z hz hz2 => ⟨hz2, hz⟩⟩
  | some s =>
    obtain ⟨rfl, h1, h2⟩ := h
    cases e : floatBits .add .f64 x y with
    | none => exact .inr ⟨rfl, fun z hz hz2 => ⟨hz2, by show (match floatBits .add .f64 x y with | none => _ | some s => _); rw [e]; exact hz⟩⟩
    | some r =>
      obtain ⟨k1, k2, k3, k4, k5⟩ := add_some hx hy e
      exact .inl ⟨r, rfl, k2, by show (match floatBits .add .f64 x y with | none => _ | some s => _); rw [e]; exact ⟨rfl, k1, k5 h2⟩⟩
theorem sum_same {o : Option Nat} {x y : Nat} (hx : IsM o x) (hy : IsM o y) : rankF x = rankF y := by
  cases o with
  | none => rw [rank_nan hx.2, rank_nan hy.2]
  | some s => rw [hx.2.1, hy.2.1]
theorem sum_nan {o : Option Nat} {x y : Nat} (hx : IsM o x) (hy : IsM o y) : nanB x = nanB y := by
  cases o with
  | none => exact hx.2.trans hy.2.symm
  | some s => rw [hx.2.2.1, hy.2.2.1]
/-- With what is no number the sum is none. -/
theorem add_bad {o : Option Nat} {x y : Nat} (h : IsM o x) (hy : y < 18446744073709551616) (hb : nanB y = true ∨ o = none) : addO o y = none := by
  cases o with
  | none => rfl
  | some s =>
    rcases hb with hb | hb
    · have := h.2.1
      show floatBits .add .f64 s y = none
      rw [← this]; exact add_nan h.1 hy (.inr hb)
    · cases hb
/-- Whether an infinite one of a sign was added: the sum is it, or no number. -/
def Went (o : Option Nat) (neg : Bool) : Prop := match o with
  | none => True
  | some s => infB s = true ∧ negB s = neg
theorem went_add {o : Option Nat} {x y : Nat} {neg : Bool} (h : IsM o x) (hy : y < 18446744073709551616) (hw : Went o neg) : Went (addO o y) neg := by
  cases o with
  | none => exact True.intro
  | some s =>
    obtain ⟨rfl, h1, h2⟩ := h.2
    obtain ⟨w1, w2⟩ := hw
    show Went (floatBits .add .f64 x y) neg
    cases e : floatBits .add .f64 x y with
    | none => exact True.intro
    | some r =>
      obtain ⟨k1, k2, k3, k4, k5⟩ := add_some h.1 hy e
      have := add_inf_left h.1 hy w1 k4 (fun iy => by
        rcases Bool.eq_false_or_eq_true (decide (negB x = negB y)) with q | q
        · exact of_decide_eq_true q
        · rw [add_infs h.1 hy w1 iy (of_decide_eq_false q)] at e; cases e)
      rw [e] at this
      injection this with this
      rw [this]; exact ⟨w1, w2⟩
theorem went_new {o : Option Nat} {x y : Nat} (h : IsM o x) (hy : y < 18446744073709551616) (hi : infB y = true) : Went (addO o y) (negB y) := by
  cases o with
  | none => exact True.intro
  | some s =>
    obtain ⟨rfl, h1, h2⟩ := h.2
    show Went (floatBits .add .f64 x y) (negB y)
    cases e : floatBits .add .f64 x y with
    | none => exact True.intro
    | some r =>
      rw [add_comm] at e
      obtain ⟨k1, k2, k3, k4, k5⟩ := add_some hy h.1 e
      have := add_inf_left hy h.1 hi h1 (fun ix => by
        rcases Bool.eq_false_or_eq_true (decide (negB y = negB x)) with q | q
        · exact of_decide_eq_true q
        · rw [add_infs hy h.1 hi ix (of_decide_eq_false q)] at e; cases e)
      rw [e] at this
      injection this with this
      rw [this]; exact ⟨hi, rfl⟩
theorem went_both {o : Option Nat} {x : Nat} (h : IsM o x) (h1 : Went o true) (h2 : Went o false) : nanB x = true := by
  cases o with
  | none => exact h.2
  | some s => have := h1.2.symm.trans h2.2; cases this
/-- A sum, with one more added from 0 on: the same. -/
theorem sum_two {o : Option Nat} {x y : Nat} (h : IsM o x) : sumO [x, y] = addO o y := by
  show addO (addO (some 0) x) y = _
  cases o with
  | none =>
    show addO (floatBits .add .f64 0 x) y = none
    rw [add_nan (by omega) h.1 (.inr h.2)]; rfl
  | some s =>
    obtain ⟨rfl, h1, h2⟩ := h.2
    show addO (floatBits .add .f64 0 x) y = _
    rw [zero_add h.1 h1 h2]
end Go.Proofs.YtgjfjjdljngklaaDoor.F
