/-
  The document's Text of layer 11: the text of any metric, or that there is none. No conditions.
-/
import Derived.Test.YtgjfjjdljngklaaDoorMetricA
import Derived.Test.YtgjfjjdljngklaaDoorMetricO
import Derived.Lib.Strings
import Derived.Laws.Concat
namespace Go.Proofs.YtgjfjjdljngklaaDoor
open Go.RowKit
open F
set_option linter.unusedVariables false

theorem one_byte11 (w : World) (c : UInt8) (z : Int) (hz : z = (c.toNat : Int)) : (convert 55 9 (.slice (some ⟨w.heap.size, 0, none⟩) 1 1)).run Tryd.prog (w.alloc (.cells #[.int .u8 z] 5)) = .ok (.string (sB [c])) (w.alloc (.cells #[.int .u8 z] 5)) := by
  refine run_convert_bytes_back _ _ _ _ ⟨w.heap.size, 0, none⟩ 1 [c] Tryd.underlying55 Tryd.underlying5 Tryd.underlying9 ?_
  intro j hj
  obtain rfl : j = 0 := by simpa using hj
  rw [add_off, Nat.zero_add]
  refine (World.cell?_alloc_mark w #[.int .u8 z] 5 (0, 0) 0).trans ?_
  simp only [List.getElem_cons_zero, hz]
  rfl
theorem sB_add11 (a b : List UInt8) : sB a ++ sB b = sB (a ++ b) := ByteArray.ext (by simp [ByteArray.data_append, sB])
set_option maxRecDepth 100000 in
set_option maxHeartbeats 1000000 in
theorem digits11_small (n : Nat) (h : n < 10) (w : World) :
    Calls Tryd.prog 37 #[.int .i64 (n : Int)] w (fun e w' => e = .returned (.string (sB (T.decL n))) ∧ Below w.heap.size w w') := by
  have h9 : decide ((9 : Int) < (n : Int)) = false := decide_eq_false (by omega)
  have h9b : decide (9 < n) = false := decide_eq_false (by omega)
  have hm : Int.tmod (n : Int) 10 = (n : Int) := by rw [Int.tmod_eq_emod_of_nonneg (by omega)]; omega
  have hcv := one_byte11 w (UInt8.ofNat (48 + n)) (48 + (n : Int)) (by rw [N.dig_of n h]; omega)
  rw [T.decL_small h]
  obtain ⟨s, hs⟩ : ∃ s, sB [UInt8.ofNat (48 + n)] = s := ⟨_, rfl⟩
  rw [hs] at hcv ⊢
  clear hs
  go_enter Tryd.func37, Tryd.ntmps37
  go_wp2
  go_ret
  exact ⟨rfl, (Below.refl _ _).alloc (Nat.le_refl _) _⟩
set_option maxRecDepth 100000 in
set_option maxHeartbeats 1000000 in
theorem digits11_any : ∀ (k n : Nat), n < 10 ^ (k + 1) → k ≤ 9 → ∀ w : World, Calls Tryd.prog 37 #[.int .i64 (n : Int)] w (fun e w' => e = .returned (.string (sB (T.decL n))) ∧ Below w.heap.size w w')
  | 0, n, h, _, w => digits11_small n (by simpa using h) w
  | k + 1, n, h, hk, w => by
    by_cases h1 : n < 10
    · exact digits11_small n h1 w
    · have hlt : n / 10 < 10 ^ (k + 1) := by rw [Nat.pow_succ] at h; omega
      have ih := digits11_any k (n / 10) hlt (by omega)
      have h9 : decide ((9 : Int) < (n : Int)) = true := decide_eq_true (by omega)
      have h9b : decide (9 < n) = true := decide_eq_true (by omega)
      have hn18 : n < 100000000000 := by
        have : (10 : Nat) ^ (k + 1 + 1) ≤ 10 ^ 11 := Nat.pow_le_pow_right (by omega) (by omega)
        omega
      obtain ⟨r, hr⟩ : ∃ r, n % 10 = r := ⟨_, rfl⟩
      obtain ⟨q, hq⟩ : ∃ q, n / 10 = q := ⟨_, rfl⟩
      have hr10 : r < 10 := by omega
      have hm : Int.tmod (n : Int) 10 = (r : Int) := by rw [Int.tmod_eq_emod_of_nonneg (by omega)]; omega
      have hd : Int.tdiv (n : Int) 10 = (q : Int) := by rw [Int.tdiv_eq_ediv_of_nonneg (by omega)]; omega
      have hq11 : q < 100000000000 := by omega
      have hw : wrap64 (q : Int) = (q : Int) := by unfold wrap64; omega
      have hcv := one_byte11 w (UInt8.ofNat (48 + r)) (48 + (r : Int)) (by rw [N.dig_of r hr10]; omega)
      have hdec := T.decL_big (n := n) (by omega)
      rw [hr, hq] at hdec
      rw [hq] at ih
      rw [hdec, ← sB_add11]
      obtain ⟨s, hs⟩ : ∃ s, sB [UInt8.ofNat (48 + r)] = s := ⟨_, rfl⟩
      obtain ⟨s2, hs2⟩ : ∃ s2, sB (T.decL q) = s2 := ⟨_, rfl⟩
      have hl2 : s2.size ≤ 1000 := by
        rw [← hs2, sB_size]
        have := T.decL_len k q (by rw [← hq]; exact hlt)
        omega
      have hl1 : s.size = 1 := by rw [← hs, sB_size]; rfl
      rw [hs] at hcv ⊢
      rw [hs2] at ih ⊢
      have HI := Lib.hid ih
      clear hs hs2 hr hq hdec ih h hlt
      go_enter Tryd.func37, Tryd.ntmps37
      go_wp2_with fail
      refine (HI.out _).mono ?_
      rintro e w1 ⟨rfl, hx⟩
      go_wp2
      go_ret
      exact ⟨rfl, bthen ((Below.refl _ _).alloc (Nat.le_refl _) _) hx⟩
theorem digQ11 (n : Int) (k : Nat) (q : ByteArray) (w : World) (hn : n = (k : Int)) (hk : k < 10000000000) (hq : sB (T.decL k) = q) : Calls Tryd.prog 37 #[.int .i64 n] w (fun e w' => e = .returned (.string q) ∧ Below w.heap.size w w') := by
  subst hn; subst hq; exact digits11_any 9 k (by omega) (by omega) w

/-- x - x. -/
theorem F.sub_self11 {x : Nat} (hx : x < 18446744073709551616) (h : rung x < 9218868437227405312) : floatBits .sub .f64 x x = some 0 := by
  show Ieee.double.sub x x = some 0
  obtain ⟨_, m, i, e, _⟩ := write_read hx h
  unfold Ieee.Format.sub
  rw [e]
  show some (Ieee.double.write (Ieee.Datum.number (if Ieee.signed (negB x) m (i - min i i).toNat + Ieee.signed (!negB x) m (i - min i i).toNat = 0 then negB x && !negB x else _) _ _)) = some 0
  have ht : Ieee.signed (negB x) m (i - min i i).toNat + Ieee.signed (!negB x) m (i - min i i).toNat = 0 := by
    unfold Ieee.signed
    cases negB x with
    | true => rw [if_pos rfl, if_neg (by decide)]; omega
    | false => rw [if_neg (by decide), if_pos (by decide)]; omega
  rw [if_pos ht, ht]
  show some (Ieee.double.nearest (negB x && !negB x) 0 (min i i)) = some 0
  rw [near_nought]
  cases negB x <;> rfl
theorem F.sub_inf11 {x : Nat} (hx : x < 18446744073709551616) (h : rung x = 9218868437227405312) : floatBits .sub .f64 x x = none := by
  show Ieee.double.sub x x = none
  unfold Ieee.Format.sub
  rw [read_inf hx h]
  show (if negB x = !negB x then some (Ieee.Datum.infinity (negB x)) else none : Option Ieee.Datum).map _ = none
  rw [if_neg (by cases negB x <;> decide)]
  rfl
theorem F.gt_zero11 {y : Nat} (hy : y < 18446744073709551616) (r : Bool) (h : ltB 0 y = r) : (FloatKind.f64.format.order y 0 == some .gt) = r := by rw [cmp_gt hy (by omega), h]
theorem F.lt_zero11 {y : Nat} (hy : y < 18446744073709551616) (r : Bool) (h : ltB y 0 = r) : (FloatKind.f64.format.order y 0 == some .lt) = r := by rw [cmp_lt hy (by omega), h]
theorem F.lt_kinds11 {y : Nat} (hn : nanB y = false) : (ltB 0 y = true ∧ ltB y 0 = false ∧ negB y = false) ∨ (ltB 0 y = false ∧ ltB y 0 = true ∧ negB y = true) ∨ (ltB 0 y = false ∧ ltB y 0 = false ∧ rung y = 0) := by
  have h0 : nanB 0 = false := by decide
  have e1 : ltB 0 y = decide (0 < sv y) := by unfold ltB; rw [hn, h0, sv_zero]; rfl
  have e2 : ltB y 0 = decide (sv y < 0) := by unfold ltB; rw [hn, h0, sv_zero]; rfl
  rcases Int.lt_trichotomy (sv y) 0 with h | h | h
  · refine .inr (.inl ⟨by rw [e1]; exact decide_eq_false (by omega), by rw [e2]; exact decide_eq_true h, ?_⟩)
    cases hs : negB y with
    | true => rfl
    | false => exfalso; unfold sv sgn at h; rw [hs, if_neg (by decide)] at h; omega
  · exact .inr (.inr ⟨by rw [e1]; exact decide_eq_false (by omega), by rw [e2]; exact decide_eq_false (by omega), sv_nil.1 h⟩)
  · refine .inl ⟨by rw [e1]; exact decide_eq_true h, by rw [e2]; exact decide_eq_false (by omega), ?_⟩
    cases hs : negB y with
    | false => rfl
    | true => exfalso; unfold sv sgn at h; rw [hs, if_pos rfl] at h; omega
/-- What stands beyond 10^6. -/
theorem F.big_cmp {x : Nat} (hn : nanB x = false) : ltB 4696837146684686336 x = (!negB x && decide (4696837146684686336 < rung x)) ∧ ltB x 13920209183539462144 = (negB x && decide (4696837146684686336 < rung x)) := by
  have h0 : nanB 4696837146684686336 = false := by decide
  have h1 : nanB 13920209183539462144 = false := by decide
  have s0 : sv 4696837146684686336 = (U 4696837146684686336 : Int) := by
    unfold sv sgn
    rw [show negB 4696837146684686336 = false by decide, if_neg (by decide), show rung 4696837146684686336 = 4696837146684686336 by decide]
  have s1 : sv 13920209183539462144 = -(U 4696837146684686336 : Int) := by
    unfold sv sgn
    rw [show negB 13920209183539462144 = true by decide, if_pos rfl, show rung 13920209183539462144 = 4696837146684686336 by decide]
  have e1 : ltB 4696837146684686336 x = decide (sv 4696837146684686336 < sv x) := by unfold ltB; rw [hn, h0, Bool.not_false, Bool.true_and, Bool.true_and]
  have e2 : ltB x 13920209183539462144 = decide (sv x < sv 13920209183539462144) := by unfold ltB; rw [hn, h1, Bool.not_false, Bool.true_and, Bool.true_and]
  rw [e1, e2, s0, s1]
  have hU : (U 4696837146684686336 < U (rung x)) ↔ 4696837146684686336 < rung x := U_le
  generalize U 4696837146684686336 = A at *
  unfold sv sgn
  cases hs : negB x with
  | true =>
    rw [if_pos rfl]
    refine ⟨decide_eq_false (by omega), ?_⟩
    rw [Bool.true_and]
    exact decide_eq_decide.2 ⟨fun h => hU.1 (by omega), fun h => by have := hU.2 h; omega⟩
  | false =>
    rw [if_neg (by decide)]
    refine ⟨?_, decide_eq_false (by omega)⟩
    rw [Bool.not_false, Bool.true_and]
    exact decide_eq_decide.2 ⟨fun h => hU.1 (by omega), fun h => by have := hU.2 h; omega⟩
theorem F.plus_eq {x y : Nat} (hx : x < 9218868437227405312) (hy : y < 9218868437227405312) : eqB x y = decide (x = y) := by
  obtain ⟨x1, x2, x3, _⟩ := plus_parts hx
  obtain ⟨y1, y2, y3, _⟩ := plus_parts hy
  unfold eqB
  rw [x3, y3]
  show decide (sv x = sv y) = _
  unfold sv sgn
  rw [x2, y2, if_neg (by decide), if_neg (by decide), x1, y1]
  exact decide_eq_decide.2 ⟨fun h => U_inj (by omega), fun h => by rw [h]⟩
theorem F.eq_nan {x y : Nat} (hx : x < 18446744073709551616) (hy : y < 18446744073709551616) (h : nanB x = true) : (FloatKind.f64.format.order x y == some .eq) = false := by
  rw [cmp_eq hx hy]
  unfold eqB
  rw [h]; rfl
theorem F.frac_len (k : Nat) : 1 ≤ (fracT k).length ∧ (fracT k).length ≤ 3 := by
  rcases frac_three k with ⟨_, e⟩ | ⟨_, _, e⟩ | ⟨_, e⟩ <;> rw [e] <;> simp
/-- The digits of 1000 and a number: those behind the point stand first. -/
theorem F.dec_four {k : Nat} (hk : k < 1000) : T.decL (1000 + k) = [49, digC (k / 100), digC (k / 10 % 10), digC (k % 10)] := by
  rw [T.decL_big (by omega), T.decL_big (by omega), T.decL_big (by omega), T.decL_small (by omega)]
  have e1 : (1000 + k) / 10 / 10 / 10 = 1 := by omega
  have e2 : (1000 + k) / 10 / 10 % 10 = k / 100 := by omega
  have e3 : (1000 + k) / 10 % 10 = k / 10 % 10 := by omega
  have e4 : (1000 + k) % 10 = k % 10 := by omega
  rw [e1, e2, e3, e4]; rfl
/-- How many of them are left. -/
theorem F.four_cut {k : Nat} (hk : k < 1000) (h0 : k ≠ 0) : ∃ J : Nat, 2 ≤ J ∧ J ≤ 4 ∧ (T.decL (1000 + k)).take J = 49 :: fracT k ∧ (∀ j, J < j → j ≤ 4 → (T.decL (1000 + k))[j - 1]? = some 48) ∧ ∃ c, (T.decL (1000 + k))[J - 1]? = some c ∧ c ≠ 48 := by
  rw [dec_four hk]
  rcases frac_three k with ⟨h, e⟩ | ⟨h, h', e⟩ | ⟨h, e⟩
  · refine ⟨2, by omega, by omega, by rw [e]; rfl, fun j h1 h2 => ?_, _, rfl, digC_ne (by omega) (by omega)⟩
    rcases (show j = 3 ∨ j = 4 by omega) with rfl | rfl
    · show some (digC (k / 10 % 10)) = _; rw [show k / 10 % 10 = 0 by omega]; rfl
    · show some (digC (k % 10)) = _; rw [show k % 10 = 0 by omega]; rfl
  · refine ⟨3, by omega, by omega, by rw [e]; rfl, fun j h1 h2 => ?_, _, rfl, digC_ne (by omega) (by omega)⟩
    obtain rfl : j = 4 := by omega
    show some (digC (k % 10)) = _; rw [h']; rfl
  · exact ⟨4, by omega, by omega, by rw [e]; rfl, fun j h1 h2 => absurd h1 (by omega), _, rfl, digC_ne (by omega) h⟩
theorem cut_str11 (s : ByteArray) (a b : Nat) : s.extract a b = sB ((s.data.toList.drop a).take (b - a)) := by rw [Lib.extract_eq]; rfl
theorem idx11 {L : List UInt8} {tb : ByteArray} (h : sB L = tb) {i : Nat} (hi : i < tb.size) {c : UInt8} (hc : L[i]? = some c) : tb[i] = c := by
  subst h
  obtain ⟨h1, h2⟩ := List.getElem?_eq_some_iff.1 hc
  rw [← h2]; rfl
theorem parts11 {m na kk : Nat} (h : m < 1000000000) (hna : m / 1000 = na) (hkk : m % 1000 = kk) : Int.tdiv (m : Int) 1000 = (na : Int) ∧ Int.tmod (m : Int) 1000 = (kk : Int) ∧ wrap64 (na : Int) = (na : Int) ∧ IntKind.i64.wrap (na : Int) = (na : Int) ∧ na < 1000000 ∧ kk < 1000 := by
  refine ⟨by rw [Int.tdiv_eq_ediv_of_nonneg (by omega)]; omega, by rw [Int.tmod_eq_emod_of_nonneg (by omega)]; omega, by unfold wrap64; omega, wrap_big (by omega), by omega, by omega⟩
theorem thou11 {kk : Nat} (h : kk < 1000) : IntKind.i64.wrap (1000 + (kk : Int)) = ((1000 + kk : Nat) : Int) := by rw [IntKind.wrap_i64]; omega
theorem F.pos_rung {x : Nat} (hn : nanB x = false) (h : ltB 0 x = true) : ¬ rung x = 0 := fun e => by
  have h9 := sv_nil.2 e
  have h8 : ltB 0 x = decide (0 < sv x) := by unfold ltB; rw [hn, show nanB 0 = false by decide, sv_zero]; rfl
  rw [h, h9] at h8
  exact absurd h8 (by decide)
theorem F.plus_of {x : Nat} (hx : x < 18446744073709551616) (h : negB x = false) : rung x = x := by
  have := of_decide_eq_false h
  exact Nat.mod_eq_of_lt (by omega)
theorem F.minus_of {x : Nat} (hx : x < 18446744073709551616) (h : negB x = true) : negW x = rung x := by
  obtain ⟨h1, h2, h3⟩ := neg_parts hx
  rw [h] at h2
  exact (plus_of h3 h2).symm.trans h1
set_option maxRecDepth 100000 in
set_option maxHeartbeats 16000000 in
theorem textR11 (x : Nat) (o : Option (List UInt8)) (q : ByteArray) (ok : Bool) (w : World) (hx : x < 18446744073709551616) (ht : TextIs x o) (hq : sB (o.getD []) = q) (hok : o.isSome = ok) :
    Calls Tryd.prog 21 #[.float .f64 x] w (fun e w' => e = .returned (.tuple #[.string q, .bool ok]) ∧ Below w.heap.size w w') := by
  have HX := Lib.hid hx
  rcases ht with ⟨hn, rfl⟩ | ⟨hi, rfl⟩ | ⟨n, hn9, hr, rfl⟩ | ⟨hn, hi, hno, rfl⟩
  · have HN := Lib.hid hn
    have HQ0 := Lib.hid hq
    subst hok
    clear hq hn hx
    go_enter Tryd.func21, Tryd.ntmps21
    go_wp2_with fail
    refine (nan_any x true _ HX.out HN.out).mono ?_
    rintro e w1 ⟨rfl, rfl⟩
    go_wp2
    go_ret2
    exact ⟨by rw [← HQ0.out]; rfl, Below.refl _ _⟩
  · have hin : rung x = 9218868437227405312 := of_decide_eq_true hi
    have hn : nanB x = false := decide_eq_false (by omega)
    have HN := Lib.hid hn
    obtain ⟨b1, b2⟩ := big_cmp hn
    rw [hin, decide_eq_true (show 4696837146684686336 < 9218868437227405312 by omega)] at b1 b2
    rw [Bool.and_true] at b1 b2
    have ks := fun (t : TypeId) (w : World) => run_nan Tryd.prog w .sub t x x (.inr (.inl rfl)) (sub_inf11 hx hin)
    have hz := fun w : World => eq_nan (x := drawnNan w x x) (y := 0) (drawn_nan w x x).2 (by omega) (drawn_nan w x x).1
    subst hok
    cases hs : negB x with
    | true =>
      rw [hs] at b1 b2 hq
      have c1 : (FloatKind.f64.format.order x 4696837146684686336 == some .gt) = false := (cmp_gt hx (by omega)).trans b1
      have c2 : (FloatKind.f64.format.order x 13920209183539462144 == some .lt) = true := (cmp_lt hx (by omega)).trans b2
      have c3 : (FloatKind.f64.format.order x 0 == some .gt) = false := by
        rcases lt_kinds11 hn with ⟨k1, k2, k3⟩ | ⟨k1, k2, k3⟩ | ⟨k1, k2, k3⟩
        · rw [hs] at k3; cases k3
        · exact gt_zero11 hx _ k1
        · exact gt_zero11 hx _ k1
      have HQ0 := Lib.hid hq
      clear hq hn hx hi hin b1 b2 hs
      have hb : Below w.heap.size w w := Below.refl _ _
      go_enter Tryd.func21, Tryd.ntmps21
      go_wp2_with fail
      refine (nan_any x false _ HX.out HN.out).mono ?_
      rintro e w1 ⟨rfl, rfl⟩
      go_wp2
      go_ret2
      exact ⟨by rw [← HQ0.out]; rfl, (by repeat (first | assumption | refine Below.drew ?_))⟩
    | false =>
      rw [hs] at b1 b2 hq
      have c1 : (FloatKind.f64.format.order x 4696837146684686336 == some .gt) = true := (cmp_gt hx (by omega)).trans b1
      have c3 : (FloatKind.f64.format.order x 0 == some .gt) = true := by
        rcases lt_kinds11 hn with ⟨k1, k2, k3⟩ | ⟨k1, k2, k3⟩ | ⟨k1, k2, k3⟩
        · exact gt_zero11 hx _ k1
        · rw [hs] at k3; cases k3
        · omega
      have HQ0 := Lib.hid hq
      clear hq hn hx hi hin b1 b2 hs
      have hb : Below w.heap.size w w := Below.refl _ _
      go_enter Tryd.func21, Tryd.ntmps21
      go_wp2_with fail
      refine (nan_any x false _ HX.out HN.out).mono ?_
      rintro e w1 ⟨rfl, rfl⟩
      go_wp2
      go_ret2
      exact ⟨by rw [← HQ0.out]; rfl, (by repeat (first | assumption | refine Below.drew ?_))⟩
  · have hsm : thouW n < 4696837146684686336 := thou_mio hn9
    have hn := (thou_nan hn9 hr).1
    obtain ⟨b1, b2⟩ := big_cmp hn
    rw [decide_eq_false (show ¬ 4696837146684686336 < rung x by omega)] at b1 b2
    rw [Bool.and_false] at b1 b2
    have c1 : (FloatKind.f64.format.order x 4696837146684686336 == some .gt) = false := (cmp_gt hx (by omega)).trans b1
    have c2 : (FloatKind.f64.format.order x 13920209183539462144 == some .lt) = false := (cmp_lt hx (by omega)).trans b2
    have HN := Lib.hid hn
    obtain ⟨g, hg⟩ : ∃ g, rung x = g := ⟨_, rfl⟩
    have HG := Lib.hid hg
    obtain ⟨y, z, m, f1, f2, f3, f4, f5, f6, f7⟩ := thou_find (g := g) (by omega)
    obtain ⟨tm, htm⟩ : ∃ tm, thouW m = tm := ⟨_, rfl⟩
    rw [htm] at f5 f6
    have HF1 := Lib.hid f1
    have HF2 := Lib.hid f2
    have HF3 := Lib.hid f3
    have HF4 := Lib.hid f5
    have d1 : (FloatKind.f64.format.order tm g != some .eq) = !decide (tm = g) := by rw [cmp_ne (by omega) (by omega), plus_eq f6 (by omega)]
    obtain rfl : m = n := f7 n hn9 (by rw [← hg, hr])
    have htg : tm = g := by rw [← htm, ← hg, hr]
    rw [decide_eq_true htg] at d1
    have d2 : (FloatKind.f64.format.order tm g != some .eq) = false := d1
    clear d1
    have d3 : decide ((m : Int) > 999999999) = false := decide_eq_false (by omega)
    have d4 : decide ((999999999 : Int) < (m : Int)) = false := decide_eq_false (by omega)
    have d5 : decide (999999999 < m) = false := decide_eq_false (by omega)
    obtain ⟨n, hmn⟩ : ∃ n, n = m := ⟨_, rfl⟩
    have HN9 := Lib.hid (show n < 1000000000 by omega)
    obtain ⟨na, hna⟩ : ∃ na, m / 1000 = na := ⟨_, rfl⟩
    obtain ⟨kk, hkk⟩ : ∃ kk, m % 1000 = kk := ⟨_, rfl⟩
    obtain ⟨e1, e2, e3, e4, hna6, hk1000⟩ := parts11 hn9 hna hkk
    have HNA := Lib.hid (show na < 10000000000 from Nat.lt_trans hna6 (by decide))
    obtain ⟨s3, hs3⟩ : ∃ s3, sB (thoT n) = s3 := ⟨_, rfl⟩
    have HS3T := Lib.hid hs3
    have HQQ := Lib.hid (show sB (sgnT (negB x) (thoT n)) = q by rw [hmn]; exact hq)
    subst hok
    by_cases hk0 : kk = 0
    · have y1 : decide ((kk : Int) > 0) = false := decide_eq_false (by omega)
      have y2 : decide ((0 : Int) < (kk : Int)) = false := decide_eq_false (by omega)
      have y3 : decide (0 < kk) = false := decide_eq_false (by omega)
      have HNT := Lib.hid (show sB (T.decL na) = s3 by rw [← hs3, hmn]; unfold thoT; rw [hkk, if_pos hk0, hna, List.append_nil])
      clear hq hn hx hr hg f1 f2 f3 f4 f5 f6 f7 htm htg b1 b2 hsm hn9 hna hkk hs3 hk0 hna6 hmn hk1000
      have HKN := Lib.hid (lt_kinds11 HN.out)
      rcases HKN.out with ⟨k1, k2, k3⟩ | ⟨k1, k2, k3⟩ | ⟨k1, k2, k3⟩
      · have HS1 := Lib.hid k2
        have HS2 := Lib.hid (show (FloatKind.f64.format.order x 0 == some .eq) = false by rw [cmp_eq HX.out (by omega), eq_zero HN.out]; exact decide_eq_false (pos_rung HN.out k1))
        have HGX := Lib.hid (show rung x = x from plus_of HX.out k3)
        have HNEG := Lib.hid k3
        clear k1 k2 k3
        have c3 : (FloatKind.f64.format.order x 0 == some .lt) = false := lt_zero11 HX.out _ HS1.out
        have c4 : (FloatKind.f64.format.order x 0 == some .eq) = false := HS2.out
        have HQ0 := Lib.hid (show q = s3 by rw [← HQQ.out, ← HS3T.out, HNEG.out]; rfl)
        have k5 := fun (t : TypeId) (w : World) => run_float_arith (P := Tryd.prog) w .mul t .f64 g 4652007308841189376 y HF1.out
        have k6 := fun (t : TypeId) (w : World) => run_float_arith (P := Tryd.prog) w .add t .f64 y 4602678819172646912 z HF2.out
        have k7 := fun (w : World) => run_convert_float_int (P := Tryd.prog) w 22 3 .f64 .i64 z (m : Int) (by kernel_rfl) (by kernel_rfl) HF3.out
        have k8 := fun (t : TypeId) (w : World) => run_float_arith (P := Tryd.prog) w .quo t .f64 (floatOfInt .f64 (m : Int)) 4652007308841189376 tm HF4.out
        obtain rfl : x = g := HGX.out.symm.trans HG.out
        have hb : Below w.heap.size w w := Below.refl _ _
        go_enter Tryd.func21, Tryd.ntmps21
        go_wp2_with fail
        refine (nan_any x false _ HX.out HN.out).mono ?_
        rintro e w1 ⟨rfl, rfl⟩
        go_wp2_with fail
        refine (digQ11 _ na s3 _ (by go_num) HNA.out HNT.out).mono ?_
        rintro e wq ⟨rfl, hx⟩
        replace hb := bthen hb hx
        clear hx
        go_wp2
        go_ret2
        exact ⟨by rw [HQ0.out]; rfl, hb⟩
      · have HS1 := Lib.hid k2
        have HGX := Lib.hid (show negW x = rung x from minus_of HX.out k3)
        have HNEG := Lib.hid k3
        clear k1 k2 k3
        have c3 : (FloatKind.f64.format.order x 0 == some .lt) = true := lt_zero11 HX.out _ HS1.out
        have HCAT := Lib.hid (fun (w : World) => show Sem.run Tryd.prog (Op.stringOp .add (⟨#[45]⟩ : ByteArray) s3) w = .ok (.string q) w by
          rw [run_string_add_sum (P := Tryd.prog) (w := w) ⟨#[45]⟩ s3 (by rw [← HS3T.out, sB_size]; have := thoT_len n HN9.out; show 1 + _ ≤ _; omega), ← HS3T.out, ← HQQ.out, HNEG.out, show (⟨#[45]⟩ : ByteArray) = sB [45] from rfl, sB_add11]; rfl)
        have k5 := fun (t : TypeId) (w : World) => run_float_arith (P := Tryd.prog) w .mul t .f64 g 4652007308841189376 y HF1.out
        have k6 := fun (t : TypeId) (w : World) => run_float_arith (P := Tryd.prog) w .add t .f64 y 4602678819172646912 z HF2.out
        have k7 := fun (w : World) => run_convert_float_int (P := Tryd.prog) w 22 3 .f64 .i64 z (m : Int) (by kernel_rfl) (by kernel_rfl) HF3.out
        have k8 := fun (t : TypeId) (w : World) => run_float_arith (P := Tryd.prog) w .quo t .f64 (floatOfInt .f64 (m : Int)) 4652007308841189376 tm HF4.out
        have kn := fun (w : World) => show Sem.run Tryd.prog (Op.unary UnOp.neg (Value.float FloatKind.f64 x)) w = .ok (.float .f64 g) w by
          have e9 : Op.negFloat .f64 x = g := HGX.out.trans HG.out
          rw [← e9]; rfl
        have hb : Below w.heap.size w w := Below.refl _ _
        go_enter Tryd.func21, Tryd.ntmps21
        go_wp2_with fail
        refine (nan_any x false _ HX.out HN.out).mono ?_
        rintro e w1 ⟨rfl, rfl⟩
        go_wp2_with fail
        refine (digQ11 _ na s3 _ (by go_num) HNA.out HNT.out).mono ?_
        rintro e wq ⟨rfl, hx⟩
        replace hb := bthen hb hx
        clear hx
        have hadd9 := fun (w : World) => show Sem.run Tryd.prog (Op.stringOp .add (⟨#[45]⟩ : ByteArray) s3) w = .ok (.string q) w from HCAT.out w
        go_wp2
        go_ret2
        exact ⟨rfl, hb⟩
      · have HS1 := Lib.hid k2
        have HS2 := Lib.hid (show (FloatKind.f64.format.order x 0 == some .eq) = true by rw [cmp_eq HX.out (by omega), eq_zero HN.out]; exact decide_eq_true k3)
        obtain ⟨dd, hdd, dq, _, dl⟩ := one_over HX.out k3
        have kd := fun (t : TypeId) (w : World) => run_float_arith (P := Tryd.prog) w .quo t .f64 4607182418800017408 x dd hdd
        cases hs : negB x with
        | true =>
          have HS3 := Lib.hid (show (FloatKind.f64.format.order dd 0 == some .lt) = true from (cmp_lt dl (by omega)).trans (dq.trans hs))
          have HGX := Lib.hid (show negW x = rung x from minus_of HX.out hs)
          have HNEG := Lib.hid hs
          clear k1 k2 k3 hdd dq dl hs
          have c3 : (FloatKind.f64.format.order x 0 == some .lt) = false := lt_zero11 HX.out _ HS1.out
          have c4 : (FloatKind.f64.format.order x 0 == some .eq) = true := HS2.out
          have c5 : (FloatKind.f64.format.order dd 0 == some .lt) = true := HS3.out
          have HCAT := Lib.hid (fun (w : World) => show Sem.run Tryd.prog (Op.stringOp .add (⟨#[45]⟩ : ByteArray) s3) w = .ok (.string q) w by
            rw [run_string_add_sum (P := Tryd.prog) (w := w) ⟨#[45]⟩ s3 (by rw [← HS3T.out, sB_size]; have := thoT_len n HN9.out; show 1 + _ ≤ _; omega), ← HS3T.out, ← HQQ.out, HNEG.out, show (⟨#[45]⟩ : ByteArray) = sB [45] from rfl, sB_add11]; rfl)
          have k5 := fun (t : TypeId) (w : World) => run_float_arith (P := Tryd.prog) w .mul t .f64 g 4652007308841189376 y HF1.out
          have k6 := fun (t : TypeId) (w : World) => run_float_arith (P := Tryd.prog) w .add t .f64 y 4602678819172646912 z HF2.out
          have k7 := fun (w : World) => run_convert_float_int (P := Tryd.prog) w 22 3 .f64 .i64 z (m : Int) (by kernel_rfl) (by kernel_rfl) HF3.out
          have k8 := fun (t : TypeId) (w : World) => run_float_arith (P := Tryd.prog) w .quo t .f64 (floatOfInt .f64 (m : Int)) 4652007308841189376 tm HF4.out
          have kn := fun (w : World) => show Sem.run Tryd.prog (Op.unary UnOp.neg (Value.float FloatKind.f64 x)) w = .ok (.float .f64 g) w by
            have e9 : Op.negFloat .f64 x = g := HGX.out.trans HG.out
            rw [← e9]; rfl
          have hb : Below w.heap.size w w := Below.refl _ _
          go_enter Tryd.func21, Tryd.ntmps21
          go_wp2_with fail
          refine (nan_any x false _ HX.out HN.out).mono ?_
          rintro e w1 ⟨rfl, rfl⟩
          go_wp2_with fail
          refine (digQ11 _ na s3 _ (by go_num) HNA.out HNT.out).mono ?_
          rintro e wq ⟨rfl, hx⟩
          replace hb := bthen hb hx
          clear hx
          have hadd9 := fun (w : World) => show Sem.run Tryd.prog (Op.stringOp .add (⟨#[45]⟩ : ByteArray) s3) w = .ok (.string q) w from HCAT.out w
          go_wp2
          go_ret2
          exact ⟨rfl, hb⟩
        | false =>
          have HS3 := Lib.hid (show (FloatKind.f64.format.order dd 0 == some .lt) = false from (cmp_lt dl (by omega)).trans (dq.trans hs))
          have HGX := Lib.hid (show rung x = x from plus_of HX.out hs)
          have HNEG := Lib.hid hs
          clear k1 k2 k3 hdd dq dl hs
          have c3 : (FloatKind.f64.format.order x 0 == some .lt) = false := lt_zero11 HX.out _ HS1.out
          have c4 : (FloatKind.f64.format.order x 0 == some .eq) = true := HS2.out
          have c5 : (FloatKind.f64.format.order dd 0 == some .lt) = false := HS3.out
          have HQ0 := Lib.hid (show q = s3 by rw [← HQQ.out, ← HS3T.out, HNEG.out]; rfl)
          have k5 := fun (t : TypeId) (w : World) => run_float_arith (P := Tryd.prog) w .mul t .f64 g 4652007308841189376 y HF1.out
          have k6 := fun (t : TypeId) (w : World) => run_float_arith (P := Tryd.prog) w .add t .f64 y 4602678819172646912 z HF2.out
          have k7 := fun (w : World) => run_convert_float_int (P := Tryd.prog) w 22 3 .f64 .i64 z (m : Int) (by kernel_rfl) (by kernel_rfl) HF3.out
          have k8 := fun (t : TypeId) (w : World) => run_float_arith (P := Tryd.prog) w .quo t .f64 (floatOfInt .f64 (m : Int)) 4652007308841189376 tm HF4.out
          obtain rfl : x = g := HGX.out.symm.trans HG.out
          have hb : Below w.heap.size w w := Below.refl _ _
          go_enter Tryd.func21, Tryd.ntmps21
          go_wp2_with fail
          refine (nan_any x false _ HX.out HN.out).mono ?_
          rintro e w1 ⟨rfl, rfl⟩
          go_wp2_with fail
          refine (digQ11 _ na s3 _ (by go_num) HNA.out HNT.out).mono ?_
          rintro e wq ⟨rfl, hx⟩
          replace hb := bthen hb hx
          clear hx
          go_wp2
          go_ret2
          exact ⟨by rw [HQ0.out]; rfl, hb⟩
    · have y1 : decide ((kk : Int) > 0) = true := decide_eq_true (by omega)
      have y2 : decide ((0 : Int) < (kk : Int)) = true := decide_eq_true (by omega)
      have y3 : decide (0 < kk) = true := decide_eq_true (by omega)
      have y4 := thou11 hk1000
      have HK4 := Lib.hid (show 1000 + kk < 10000000000 from Nat.lt_trans (Nat.add_lt_add_left hk1000 1000) (by decide))
      obtain ⟨L4, hL4⟩ : ∃ L4, T.decL (1000 + kk) = L4 := ⟨_, rfl⟩
      obtain ⟨t4, ht4⟩ : ∃ t4, sB L4 = t4 := ⟨_, rfl⟩
      have HT4 := Lib.hid (show sB (T.decL (1000 + kk)) = t4 by rw [hL4]; exact ht4)
      have HT5 := Lib.hid ht4
      have HL4 := Lib.hid (show L4.length = 4 by rw [← hL4, dec_four hk1000]; rfl)
      obtain ⟨J, hJ⟩ := four_cut hk1000 hk0
      rw [hL4] at hJ
      have HJ := Lib.hid hJ
      obtain ⟨sa, hsa⟩ : ∃ sa, sB (T.decL na) = sa := ⟨_, rfl⟩
      have HSA := Lib.hid hsa
      obtain ⟨na2, hna2⟩ : ∃ na2, (T.decL na).length = na2 := ⟨_, rfl⟩
      have HNA2 := Lib.hid (show na2 ≤ 6 by rw [← hna2]; exact T.decL_len 5 na hna6)
      have HSAZ := Lib.hid (show sa.size = na2 by rw [← hsa, sB_size]; exact hna2)
      have HTHO := Lib.hid (show sB (T.decL na ++ [46] ++ fracT kk) = s3 by rw [← hs3, hmn]; unfold thoT; rw [hkk, if_neg hk0, hna, List.append_assoc]; rfl)
      clear hq hn hx hr hg f1 f2 f3 f4 f5 f6 f7 htm htg b1 b2 hsm hn9 hna hkk hs3 hk0 hna6 hmn hL4 hk1000 ht4 hJ hsa hna2
      have HKN := Lib.hid (lt_kinds11 HN.out)
      rcases HKN.out with ⟨k1, k2, k3⟩ | ⟨k1, k2, k3⟩ | ⟨k1, k2, k3⟩
      · have HS1 := Lib.hid k2
        have HS2 := Lib.hid (show (FloatKind.f64.format.order x 0 == some .eq) = false by rw [cmp_eq HX.out (by omega), eq_zero HN.out]; exact decide_eq_false (pos_rung HN.out k1))
        have HGX := Lib.hid (show rung x = x from plus_of HX.out k3)
        have HNEG := Lib.hid k3
        clear k1 k2 k3
        have c3 : (FloatKind.f64.format.order x 0 == some .lt) = false := lt_zero11 HX.out _ HS1.out
        have c4 : (FloatKind.f64.format.order x 0 == some .eq) = false := HS2.out
        have HQ0 := Lib.hid (show q = s3 by rw [← HQQ.out, ← HS3T.out, HNEG.out]; rfl)
        have k5 := fun (t : TypeId) (w : World) => run_float_arith (P := Tryd.prog) w .mul t .f64 g 4652007308841189376 y HF1.out
        have k6 := fun (t : TypeId) (w : World) => run_float_arith (P := Tryd.prog) w .add t .f64 y 4602678819172646912 z HF2.out
        have k7 := fun (w : World) => run_convert_float_int (P := Tryd.prog) w 22 3 .f64 .i64 z (m : Int) (by kernel_rfl) (by kernel_rfl) HF3.out
        have k8 := fun (t : TypeId) (w : World) => run_float_arith (P := Tryd.prog) w .quo t .f64 (floatOfInt .f64 (m : Int)) 4652007308841189376 tm HF4.out
        obtain rfl : x = g := HGX.out.symm.trans HG.out
        have hb : Below w.heap.size w w := Below.refl _ _
        go_enter Tryd.func21, Tryd.ntmps21
        go_wp2_with fail
        refine (nan_any x false _ HX.out HN.out).mono ?_
        rintro e w1 ⟨rfl, rfl⟩
        go_wp2_with fail
        refine (digQ11 _ na sa _ (by go_num) HNA.out HSA.out).mono ?_
        rintro e wq ⟨rfl, hx⟩
        replace hb := bthen hb hx
        clear hx
        go_wp2_with fail
        refine (digQ11 _ (1000 + kk) t4 _ (by go_num) HK4.out HT4.out).mono ?_
        rintro e wq ⟨rfl, hx⟩
        replace hb := bthen hb hx
        clear hx
        have HB := Lib.hid hb
        clear hb
        go_wp2
        go_loopg [9] 4 (fun gk vt w2 => ∃ (j : Nat) (tb : ByteArray), Hid (j = gk) ∧ J ≤ j ∧ j ≤ 4 ∧ vt = .string tb ∧ Hid (sB (L4.take j) = tb) ∧ w2 = wq)
        case atStart => exact ⟨4, t4, rfl, HJ.out.2.1, Nat.le_refl _, rfl, (by show _ = _; rw [List.take_of_length_le (by rw [HL4.out]; exact Nat.le_refl _)]; exact HT5.out), rfl⟩
        case round =>
          obtain ⟨j, tb, HGK, hj1, hj4, rfl, HTB, rfl⟩ := hrel
          have hJ2 := HJ.out.1
          obtain ⟨j1, hj⟩ : ∃ j1, j = j1 + 1 := ⟨j - 1, by omega⟩
          have HJ1 := Lib.hid hj
          have HTS := Lib.hid (show tb.size = j by rw [← HTB.out, sB_size, List.length_take, HL4.out]; omega)
          have hts : j1 < tb.size := by rw [HTS.out]; omega
          have wj : IntKind.i64.wrap ((j : Int) - 1) = (j1 : Int) := by rw [IntKind.wrap_i64]; omega
          have hji : (j1 : Int) < (j : Int) := by omega
          have hts2 : tb.size = j := HTS.out
          by_cases hJ : J < j
          · have HC := Lib.hid (show tb[j1] = 48 from idx11 HTB.out hts (by rw [List.getElem?_take_of_lt (by omega)]; have h9 := HJ.out.2.2.2.1 j hJ hj4; rw [hj, Nat.add_sub_cancel] at h9; exact h9))
            have z1 : ((tb[j1].toNat : Int) == 48) = true := by rw [HC.out]; rfl
            have z2 : (tb[j1].toNat == 48) = true := by rw [HC.out]; rfl
            obtain ⟨tn, htn⟩ : ∃ tn, tb.extract 0 j1 = tn := ⟨_, rfl⟩
            have HTN := Lib.hid (show sB (L4.take j1) = tn by rw [← htn, cut_str11, ← HTB.out, sB_data, List.drop_zero, Nat.sub_zero, List.take_take, Nat.min_eq_left (by omega)])
            have hj1s : j1 ≤ tb.size := by omega
            have hj1i : (j1 : Int) ≤ (j : Int) := by omega
            have HJJ := Lib.hid (show J ≤ j1 ∧ j1 ≤ 4 by omega)
            clear hJ hj hJ2
            go_wp2
            go_roundg j1
            case rel => exact ⟨j1, tn, rfl, HJJ.out.1, HJJ.out.2, rfl, HTN.out, rfl⟩
            case measure => have h8 := HGK.out; have h9 := HJ1.out; omega
          · have hjJ : j = J := by omega
            have HC := Lib.hid (show tb[j1] ≠ 48 by obtain ⟨c, h8, h9⟩ := HJ.out.2.2.2.2; rw [← hjJ, hj, Nat.add_sub_cancel] at h8; rw [idx11 HTB.out hts (by rw [List.getElem?_take_of_lt (by omega)]; exact h8)]; exact h9)
            have hne : tb[j1].toNat ≠ 48 := fun e9 => HC.out (UInt8.toNat_inj.1 e9)
            have z1 : ((tb[j1].toNat : Int) == 48) = false := beq_eq_false_iff_ne.2 (by omega)
            have z2 : (tb[j1].toNat == 48) = false := beq_eq_false_iff_ne.2 hne
            have HTF := Lib.hid (show tb.data.toList = 49 :: fracT kk by rw [← HTB.out, sB_data, hjJ]; exact HJ.out.2.2.1)
            have hlf := frac_len kk
            obtain ⟨tn, htn⟩ : ∃ tn, tb.extract 1 tb.size = tn := ⟨_, rfl⟩
            have HTN := Lib.hid (show sB (fracT kk) = tn by rw [← htn, cut_str11, HTF.out, List.take_of_length_le (by rw [HTS.out, List.length_drop, List.length_cons]; have h9 := congrArg List.length HTF.out; rw [← Lib.size_eq, HTS.out, List.length_cons] at h9; omega)]; rfl)
            have h1j : (1 : Int) ≤ (j : Int) := by omega
            have h1jn : 1 ≤ j := by omega
            have hadd1 := fun (w : World) => show Sem.run Tryd.prog (Op.stringOp .add sa (⟨#[46]⟩ : ByteArray)) w = .ok (.string (sa ++ (⟨#[46]⟩ : ByteArray))) w from run_string_add_sum (P := Tryd.prog) (w := w) sa ⟨#[46]⟩ (by rw [HSAZ.out]; show na2 + 1 ≤ _; have := HNA2.out; omega)
            have hadd2 := fun (w : World) => show Sem.run Tryd.prog (Op.stringOp .add (sa ++ (⟨#[46]⟩ : ByteArray)) tn) w = .ok (.string s3) w by
              rw [run_string_add_sum (P := Tryd.prog) (w := w) _ tn (by rw [← HTN.out, sB_size, ByteArray.size_append, HSAZ.out]; show na2 + 1 + _ ≤ _; have := HNA2.out; omega), ← HTN.out, ← HSA.out, show (⟨#[46]⟩ : ByteArray) = sB [46] from rfl, sB_add11, sB_add11, HTHO.out]
            have htn2 : tb.extract 1 j = tn := by rw [← hts2]; exact htn
            have hb := HB.out
            clear hne hlf hj hjJ hJ hJ2
            go_wp2
            go_ret2
            exact ⟨by rw [HQ0.out]; rfl, hb⟩
      · have HS1 := Lib.hid k2
        have HGX := Lib.hid (show negW x = rung x from minus_of HX.out k3)
        have HNEG := Lib.hid k3
        clear k1 k2 k3
        have c3 : (FloatKind.f64.format.order x 0 == some .lt) = true := lt_zero11 HX.out _ HS1.out
        have HCAT := Lib.hid (fun (w : World) => show Sem.run Tryd.prog (Op.stringOp .add (⟨#[45]⟩ : ByteArray) s3) w = .ok (.string q) w by
          rw [run_string_add_sum (P := Tryd.prog) (w := w) ⟨#[45]⟩ s3 (by rw [← HS3T.out, sB_size]; have := thoT_len n HN9.out; show 1 + _ ≤ _; omega), ← HS3T.out, ← HQQ.out, HNEG.out, show (⟨#[45]⟩ : ByteArray) = sB [45] from rfl, sB_add11]; rfl)
        have k5 := fun (t : TypeId) (w : World) => run_float_arith (P := Tryd.prog) w .mul t .f64 g 4652007308841189376 y HF1.out
        have k6 := fun (t : TypeId) (w : World) => run_float_arith (P := Tryd.prog) w .add t .f64 y 4602678819172646912 z HF2.out
        have k7 := fun (w : World) => run_convert_float_int (P := Tryd.prog) w 22 3 .f64 .i64 z (m : Int) (by kernel_rfl) (by kernel_rfl) HF3.out
        have k8 := fun (t : TypeId) (w : World) => run_float_arith (P := Tryd.prog) w .quo t .f64 (floatOfInt .f64 (m : Int)) 4652007308841189376 tm HF4.out
        have kn := fun (w : World) => show Sem.run Tryd.prog (Op.unary UnOp.neg (Value.float FloatKind.f64 x)) w = .ok (.float .f64 g) w by
          have e9 : Op.negFloat .f64 x = g := HGX.out.trans HG.out
          rw [← e9]; rfl
        have hb : Below w.heap.size w w := Below.refl _ _
        go_enter Tryd.func21, Tryd.ntmps21
        go_wp2_with fail
        refine (nan_any x false _ HX.out HN.out).mono ?_
        rintro e w1 ⟨rfl, rfl⟩
        go_wp2_with fail
        refine (digQ11 _ na sa _ (by go_num) HNA.out HSA.out).mono ?_
        rintro e wq ⟨rfl, hx⟩
        replace hb := bthen hb hx
        clear hx
        go_wp2_with fail
        refine (digQ11 _ (1000 + kk) t4 _ (by go_num) HK4.out HT4.out).mono ?_
        rintro e wq ⟨rfl, hx⟩
        replace hb := bthen hb hx
        clear hx
        have HB := Lib.hid hb
        clear hb
        go_wp2
        go_loopg [9] 4 (fun gk vt w2 => ∃ (j : Nat) (tb : ByteArray), Hid (j = gk) ∧ J ≤ j ∧ j ≤ 4 ∧ vt = .string tb ∧ Hid (sB (L4.take j) = tb) ∧ w2 = wq)
        case atStart => exact ⟨4, t4, rfl, HJ.out.2.1, Nat.le_refl _, rfl, (by show _ = _; rw [List.take_of_length_le (by rw [HL4.out]; exact Nat.le_refl _)]; exact HT5.out), rfl⟩
        case round =>
          obtain ⟨j, tb, HGK, hj1, hj4, rfl, HTB, rfl⟩ := hrel
          have hJ2 := HJ.out.1
          obtain ⟨j1, hj⟩ : ∃ j1, j = j1 + 1 := ⟨j - 1, by omega⟩
          have HJ1 := Lib.hid hj
          have HTS := Lib.hid (show tb.size = j by rw [← HTB.out, sB_size, List.length_take, HL4.out]; omega)
          have hts : j1 < tb.size := by rw [HTS.out]; omega
          have wj : IntKind.i64.wrap ((j : Int) - 1) = (j1 : Int) := by rw [IntKind.wrap_i64]; omega
          have hji : (j1 : Int) < (j : Int) := by omega
          have hts2 : tb.size = j := HTS.out
          by_cases hJ : J < j
          · have HC := Lib.hid (show tb[j1] = 48 from idx11 HTB.out hts (by rw [List.getElem?_take_of_lt (by omega)]; have h9 := HJ.out.2.2.2.1 j hJ hj4; rw [hj, Nat.add_sub_cancel] at h9; exact h9))
            have z1 : ((tb[j1].toNat : Int) == 48) = true := by rw [HC.out]; rfl
            have z2 : (tb[j1].toNat == 48) = true := by rw [HC.out]; rfl
            obtain ⟨tn, htn⟩ : ∃ tn, tb.extract 0 j1 = tn := ⟨_, rfl⟩
            have HTN := Lib.hid (show sB (L4.take j1) = tn by rw [← htn, cut_str11, ← HTB.out, sB_data, List.drop_zero, Nat.sub_zero, List.take_take, Nat.min_eq_left (by omega)])
            have hj1s : j1 ≤ tb.size := by omega
            have hj1i : (j1 : Int) ≤ (j : Int) := by omega
            have HJJ := Lib.hid (show J ≤ j1 ∧ j1 ≤ 4 by omega)
            clear hJ hj hJ2
            go_wp2
            go_roundg j1
            case rel => exact ⟨j1, tn, rfl, HJJ.out.1, HJJ.out.2, rfl, HTN.out, rfl⟩
            case measure => have h8 := HGK.out; have h9 := HJ1.out; omega
          · have hjJ : j = J := by omega
            have HC := Lib.hid (show tb[j1] ≠ 48 by obtain ⟨c, h8, h9⟩ := HJ.out.2.2.2.2; rw [← hjJ, hj, Nat.add_sub_cancel] at h8; rw [idx11 HTB.out hts (by rw [List.getElem?_take_of_lt (by omega)]; exact h8)]; exact h9)
            have hne : tb[j1].toNat ≠ 48 := fun e9 => HC.out (UInt8.toNat_inj.1 e9)
            have z1 : ((tb[j1].toNat : Int) == 48) = false := beq_eq_false_iff_ne.2 (by omega)
            have z2 : (tb[j1].toNat == 48) = false := beq_eq_false_iff_ne.2 hne
            have HTF := Lib.hid (show tb.data.toList = 49 :: fracT kk by rw [← HTB.out, sB_data, hjJ]; exact HJ.out.2.2.1)
            have hlf := frac_len kk
            obtain ⟨tn, htn⟩ : ∃ tn, tb.extract 1 tb.size = tn := ⟨_, rfl⟩
            have HTN := Lib.hid (show sB (fracT kk) = tn by rw [← htn, cut_str11, HTF.out, List.take_of_length_le (by rw [HTS.out, List.length_drop, List.length_cons]; have h9 := congrArg List.length HTF.out; rw [← Lib.size_eq, HTS.out, List.length_cons] at h9; omega)]; rfl)
            have h1j : (1 : Int) ≤ (j : Int) := by omega
            have h1jn : 1 ≤ j := by omega
            have hadd1 := fun (w : World) => show Sem.run Tryd.prog (Op.stringOp .add sa (⟨#[46]⟩ : ByteArray)) w = .ok (.string (sa ++ (⟨#[46]⟩ : ByteArray))) w from run_string_add_sum (P := Tryd.prog) (w := w) sa ⟨#[46]⟩ (by rw [HSAZ.out]; show na2 + 1 ≤ _; have := HNA2.out; omega)
            have hadd2 := fun (w : World) => show Sem.run Tryd.prog (Op.stringOp .add (sa ++ (⟨#[46]⟩ : ByteArray)) tn) w = .ok (.string s3) w by
              rw [run_string_add_sum (P := Tryd.prog) (w := w) _ tn (by rw [← HTN.out, sB_size, ByteArray.size_append, HSAZ.out]; show na2 + 1 + _ ≤ _; have := HNA2.out; omega), ← HTN.out, ← HSA.out, show (⟨#[46]⟩ : ByteArray) = sB [46] from rfl, sB_add11, sB_add11, HTHO.out]
            have hadd9 := fun (w : World) => show Sem.run Tryd.prog (Op.stringOp .add (⟨#[45]⟩ : ByteArray) s3) w = .ok (.string q) w from HCAT.out w
            have htn2 : tb.extract 1 j = tn := by rw [← hts2]; exact htn
            have hb := HB.out
            clear hne hlf hj hjJ hJ hJ2
            go_wp2
            go_ret2
            exact ⟨rfl, hb⟩
      · have HS1 := Lib.hid k2
        have HS2 := Lib.hid (show (FloatKind.f64.format.order x 0 == some .eq) = true by rw [cmp_eq HX.out (by omega), eq_zero HN.out]; exact decide_eq_true k3)
        obtain ⟨dd, hdd, dq, _, dl⟩ := one_over HX.out k3
        have kd := fun (t : TypeId) (w : World) => run_float_arith (P := Tryd.prog) w .quo t .f64 4607182418800017408 x dd hdd
        cases hs : negB x with
        | true =>
          have HS3 := Lib.hid (show (FloatKind.f64.format.order dd 0 == some .lt) = true from (cmp_lt dl (by omega)).trans (dq.trans hs))
          have HGX := Lib.hid (show negW x = rung x from minus_of HX.out hs)
          have HNEG := Lib.hid hs
          clear k1 k2 k3 hdd dq dl hs
          have c3 : (FloatKind.f64.format.order x 0 == some .lt) = false := lt_zero11 HX.out _ HS1.out
          have c4 : (FloatKind.f64.format.order x 0 == some .eq) = true := HS2.out
          have c5 : (FloatKind.f64.format.order dd 0 == some .lt) = true := HS3.out
          have HCAT := Lib.hid (fun (w : World) => show Sem.run Tryd.prog (Op.stringOp .add (⟨#[45]⟩ : ByteArray) s3) w = .ok (.string q) w by
            rw [run_string_add_sum (P := Tryd.prog) (w := w) ⟨#[45]⟩ s3 (by rw [← HS3T.out, sB_size]; have := thoT_len n HN9.out; show 1 + _ ≤ _; omega), ← HS3T.out, ← HQQ.out, HNEG.out, show (⟨#[45]⟩ : ByteArray) = sB [45] from rfl, sB_add11]; rfl)
          have k5 := fun (t : TypeId) (w : World) => run_float_arith (P := Tryd.prog) w .mul t .f64 g 4652007308841189376 y HF1.out
          have k6 := fun (t : TypeId) (w : World) => run_float_arith (P := Tryd.prog) w .add t .f64 y 4602678819172646912 z HF2.out
          have k7 := fun (w : World) => run_convert_float_int (P := Tryd.prog) w 22 3 .f64 .i64 z (m : Int) (by kernel_rfl) (by kernel_rfl) HF3.out
          have k8 := fun (t : TypeId) (w : World) => run_float_arith (P := Tryd.prog) w .quo t .f64 (floatOfInt .f64 (m : Int)) 4652007308841189376 tm HF4.out
          have kn := fun (w : World) => show Sem.run Tryd.prog (Op.unary UnOp.neg (Value.float FloatKind.f64 x)) w = .ok (.float .f64 g) w by
            have e9 : Op.negFloat .f64 x = g := HGX.out.trans HG.out
            rw [← e9]; rfl
          have hb : Below w.heap.size w w := Below.refl _ _
          go_enter Tryd.func21, Tryd.ntmps21
          go_wp2_with fail
          refine (nan_any x false _ HX.out HN.out).mono ?_
          rintro e w1 ⟨rfl, rfl⟩
          go_wp2_with fail
          refine (digQ11 _ na sa _ (by go_num) HNA.out HSA.out).mono ?_
          rintro e wq ⟨rfl, hx⟩
          replace hb := bthen hb hx
          clear hx
          go_wp2_with fail
          refine (digQ11 _ (1000 + kk) t4 _ (by go_num) HK4.out HT4.out).mono ?_
          rintro e wq ⟨rfl, hx⟩
          replace hb := bthen hb hx
          clear hx
          have HB := Lib.hid hb
          clear hb
          go_wp2
          go_loopg [9] 4 (fun gk vt w2 => ∃ (j : Nat) (tb : ByteArray), Hid (j = gk) ∧ J ≤ j ∧ j ≤ 4 ∧ vt = .string tb ∧ Hid (sB (L4.take j) = tb) ∧ w2 = wq)
          case atStart => exact ⟨4, t4, rfl, HJ.out.2.1, Nat.le_refl _, rfl, (by show _ = _; rw [List.take_of_length_le (by rw [HL4.out]; exact Nat.le_refl _)]; exact HT5.out), rfl⟩
          case round =>
            obtain ⟨j, tb, HGK, hj1, hj4, rfl, HTB, rfl⟩ := hrel
            have hJ2 := HJ.out.1
            obtain ⟨j1, hj⟩ : ∃ j1, j = j1 + 1 := ⟨j - 1, by omega⟩
            have HJ1 := Lib.hid hj
            have HTS := Lib.hid (show tb.size = j by rw [← HTB.out, sB_size, List.length_take, HL4.out]; omega)
            have hts : j1 < tb.size := by rw [HTS.out]; omega
            have wj : IntKind.i64.wrap ((j : Int) - 1) = (j1 : Int) := by rw [IntKind.wrap_i64]; omega
            have hji : (j1 : Int) < (j : Int) := by omega
            have hts2 : tb.size = j := HTS.out
            by_cases hJ : J < j
            · have HC := Lib.hid (show tb[j1] = 48 from idx11 HTB.out hts (by rw [List.getElem?_take_of_lt (by omega)]; have h9 := HJ.out.2.2.2.1 j hJ hj4; rw [hj, Nat.add_sub_cancel] at h9; exact h9))
              have z1 : ((tb[j1].toNat : Int) == 48) = true := by rw [HC.out]; rfl
              have z2 : (tb[j1].toNat == 48) = true := by rw [HC.out]; rfl
              obtain ⟨tn, htn⟩ : ∃ tn, tb.extract 0 j1 = tn := ⟨_, rfl⟩
              have HTN := Lib.hid (show sB (L4.take j1) = tn by rw [← htn, cut_str11, ← HTB.out, sB_data, List.drop_zero, Nat.sub_zero, List.take_take, Nat.min_eq_left (by omega)])
              have hj1s : j1 ≤ tb.size := by omega
              have hj1i : (j1 : Int) ≤ (j : Int) := by omega
              have HJJ := Lib.hid (show J ≤ j1 ∧ j1 ≤ 4 by omega)
              clear hJ hj hJ2
              go_wp2
              go_roundg j1
              case rel => exact ⟨j1, tn, rfl, HJJ.out.1, HJJ.out.2, rfl, HTN.out, rfl⟩
              case measure => have h8 := HGK.out; have h9 := HJ1.out; omega
            · have hjJ : j = J := by omega
              have HC := Lib.hid (show tb[j1] ≠ 48 by obtain ⟨c, h8, h9⟩ := HJ.out.2.2.2.2; rw [← hjJ, hj, Nat.add_sub_cancel] at h8; rw [idx11 HTB.out hts (by rw [List.getElem?_take_of_lt (by omega)]; exact h8)]; exact h9)
              have hne : tb[j1].toNat ≠ 48 := fun e9 => HC.out (UInt8.toNat_inj.1 e9)
              have z1 : ((tb[j1].toNat : Int) == 48) = false := beq_eq_false_iff_ne.2 (by omega)
              have z2 : (tb[j1].toNat == 48) = false := beq_eq_false_iff_ne.2 hne
              have HTF := Lib.hid (show tb.data.toList = 49 :: fracT kk by rw [← HTB.out, sB_data, hjJ]; exact HJ.out.2.2.1)
              have hlf := frac_len kk
              obtain ⟨tn, htn⟩ : ∃ tn, tb.extract 1 tb.size = tn := ⟨_, rfl⟩
              have HTN := Lib.hid (show sB (fracT kk) = tn by rw [← htn, cut_str11, HTF.out, List.take_of_length_le (by rw [HTS.out, List.length_drop, List.length_cons]; have h9 := congrArg List.length HTF.out; rw [← Lib.size_eq, HTS.out, List.length_cons] at h9; omega)]; rfl)
              have h1j : (1 : Int) ≤ (j : Int) := by omega
              have h1jn : 1 ≤ j := by omega
              have hadd1 := fun (w : World) => show Sem.run Tryd.prog (Op.stringOp .add sa (⟨#[46]⟩ : ByteArray)) w = .ok (.string (sa ++ (⟨#[46]⟩ : ByteArray))) w from run_string_add_sum (P := Tryd.prog) (w := w) sa ⟨#[46]⟩ (by rw [HSAZ.out]; show na2 + 1 ≤ _; have := HNA2.out; omega)
              have hadd2 := fun (w : World) => show Sem.run Tryd.prog (Op.stringOp .add (sa ++ (⟨#[46]⟩ : ByteArray)) tn) w = .ok (.string s3) w by
                rw [run_string_add_sum (P := Tryd.prog) (w := w) _ tn (by rw [← HTN.out, sB_size, ByteArray.size_append, HSAZ.out]; show na2 + 1 + _ ≤ _; have := HNA2.out; omega), ← HTN.out, ← HSA.out, show (⟨#[46]⟩ : ByteArray) = sB [46] from rfl, sB_add11, sB_add11, HTHO.out]
              have hadd9 := fun (w : World) => show Sem.run Tryd.prog (Op.stringOp .add (⟨#[45]⟩ : ByteArray) s3) w = .ok (.string q) w from HCAT.out w
              have htn2 : tb.extract 1 j = tn := by rw [← hts2]; exact htn
              have hb := HB.out
              clear hne hlf hj hjJ hJ hJ2
              go_wp2
              go_ret2
              exact ⟨rfl, hb⟩
        | false =>
          have HS3 := Lib.hid (show (FloatKind.f64.format.order dd 0 == some .lt) = false from (cmp_lt dl (by omega)).trans (dq.trans hs))
          have HGX := Lib.hid (show rung x = x from plus_of HX.out hs)
          have HNEG := Lib.hid hs
          clear k1 k2 k3 hdd dq dl hs
          have c3 : (FloatKind.f64.format.order x 0 == some .lt) = false := lt_zero11 HX.out _ HS1.out
          have c4 : (FloatKind.f64.format.order x 0 == some .eq) = true := HS2.out
          have c5 : (FloatKind.f64.format.order dd 0 == some .lt) = false := HS3.out
          have HQ0 := Lib.hid (show q = s3 by rw [← HQQ.out, ← HS3T.out, HNEG.out]; rfl)
          have k5 := fun (t : TypeId) (w : World) => run_float_arith (P := Tryd.prog) w .mul t .f64 g 4652007308841189376 y HF1.out
          have k6 := fun (t : TypeId) (w : World) => run_float_arith (P := Tryd.prog) w .add t .f64 y 4602678819172646912 z HF2.out
          have k7 := fun (w : World) => run_convert_float_int (P := Tryd.prog) w 22 3 .f64 .i64 z (m : Int) (by kernel_rfl) (by kernel_rfl) HF3.out
          have k8 := fun (t : TypeId) (w : World) => run_float_arith (P := Tryd.prog) w .quo t .f64 (floatOfInt .f64 (m : Int)) 4652007308841189376 tm HF4.out
          obtain rfl : x = g := HGX.out.symm.trans HG.out
          have hb : Below w.heap.size w w := Below.refl _ _
          go_enter Tryd.func21, Tryd.ntmps21
          go_wp2_with fail
          refine (nan_any x false _ HX.out HN.out).mono ?_
          rintro e w1 ⟨rfl, rfl⟩
          go_wp2_with fail
          refine (digQ11 _ na sa _ (by go_num) HNA.out HSA.out).mono ?_
          rintro e wq ⟨rfl, hx⟩
          replace hb := bthen hb hx
          clear hx
          go_wp2_with fail
          refine (digQ11 _ (1000 + kk) t4 _ (by go_num) HK4.out HT4.out).mono ?_
          rintro e wq ⟨rfl, hx⟩
          replace hb := bthen hb hx
          clear hx
          have HB := Lib.hid hb
          clear hb
          go_wp2
          go_loopg [9] 4 (fun gk vt w2 => ∃ (j : Nat) (tb : ByteArray), Hid (j = gk) ∧ J ≤ j ∧ j ≤ 4 ∧ vt = .string tb ∧ Hid (sB (L4.take j) = tb) ∧ w2 = wq)
          case atStart => exact ⟨4, t4, rfl, HJ.out.2.1, Nat.le_refl _, rfl, (by show _ = _; rw [List.take_of_length_le (by rw [HL4.out]; exact Nat.le_refl _)]; exact HT5.out), rfl⟩
          case round =>
            obtain ⟨j, tb, HGK, hj1, hj4, rfl, HTB, rfl⟩ := hrel
            have hJ2 := HJ.out.1
            obtain ⟨j1, hj⟩ : ∃ j1, j = j1 + 1 := ⟨j - 1, by omega⟩
            have HJ1 := Lib.hid hj
            have HTS := Lib.hid (show tb.size = j by rw [← HTB.out, sB_size, List.length_take, HL4.out]; omega)
            have hts : j1 < tb.size := by rw [HTS.out]; omega
            have wj : IntKind.i64.wrap ((j : Int) - 1) = (j1 : Int) := by rw [IntKind.wrap_i64]; omega
            have hji : (j1 : Int) < (j : Int) := by omega
            have hts2 : tb.size = j := HTS.out
            by_cases hJ : J < j
            · have HC := Lib.hid (show tb[j1] = 48 from idx11 HTB.out hts (by rw [List.getElem?_take_of_lt (by omega)]; have h9 := HJ.out.2.2.2.1 j hJ hj4; rw [hj, Nat.add_sub_cancel] at h9; exact h9))
              have z1 : ((tb[j1].toNat : Int) == 48) = true := by rw [HC.out]; rfl
              have z2 : (tb[j1].toNat == 48) = true := by rw [HC.out]; rfl
              obtain ⟨tn, htn⟩ : ∃ tn, tb.extract 0 j1 = tn := ⟨_, rfl⟩
              have HTN := Lib.hid (show sB (L4.take j1) = tn by rw [← htn, cut_str11, ← HTB.out, sB_data, List.drop_zero, Nat.sub_zero, List.take_take, Nat.min_eq_left (by omega)])
              have hj1s : j1 ≤ tb.size := by omega
              have hj1i : (j1 : Int) ≤ (j : Int) := by omega
              have HJJ := Lib.hid (show J ≤ j1 ∧ j1 ≤ 4 by omega)
              clear hJ hj hJ2
              go_wp2
              go_roundg j1
              case rel => exact ⟨j1, tn, rfl, HJJ.out.1, HJJ.out.2, rfl, HTN.out, rfl⟩
              case measure => have h8 := HGK.out; have h9 := HJ1.out; omega
            · have hjJ : j = J := by omega
              have HC := Lib.hid (show tb[j1] ≠ 48 by obtain ⟨c, h8, h9⟩ := HJ.out.2.2.2.2; rw [← hjJ, hj, Nat.add_sub_cancel] at h8; rw [idx11 HTB.out hts (by rw [List.getElem?_take_of_lt (by omega)]; exact h8)]; exact h9)
              have hne : tb[j1].toNat ≠ 48 := fun e9 => HC.out (UInt8.toNat_inj.1 e9)
              have z1 : ((tb[j1].toNat : Int) == 48) = false := beq_eq_false_iff_ne.2 (by omega)
              have z2 : (tb[j1].toNat == 48) = false := beq_eq_false_iff_ne.2 hne
              have HTF := Lib.hid (show tb.data.toList = 49 :: fracT kk by rw [← HTB.out, sB_data, hjJ]; exact HJ.out.2.2.1)
              have hlf := frac_len kk
              obtain ⟨tn, htn⟩ : ∃ tn, tb.extract 1 tb.size = tn := ⟨_, rfl⟩
              have HTN := Lib.hid (show sB (fracT kk) = tn by rw [← htn, cut_str11, HTF.out, List.take_of_length_le (by rw [HTS.out, List.length_drop, List.length_cons]; have h9 := congrArg List.length HTF.out; rw [← Lib.size_eq, HTS.out, List.length_cons] at h9; omega)]; rfl)
              have h1j : (1 : Int) ≤ (j : Int) := by omega
              have h1jn : 1 ≤ j := by omega
              have hadd1 := fun (w : World) => show Sem.run Tryd.prog (Op.stringOp .add sa (⟨#[46]⟩ : ByteArray)) w = .ok (.string (sa ++ (⟨#[46]⟩ : ByteArray))) w from run_string_add_sum (P := Tryd.prog) (w := w) sa ⟨#[46]⟩ (by rw [HSAZ.out]; show na2 + 1 ≤ _; have := HNA2.out; omega)
              have hadd2 := fun (w : World) => show Sem.run Tryd.prog (Op.stringOp .add (sa ++ (⟨#[46]⟩ : ByteArray)) tn) w = .ok (.string s3) w by
                rw [run_string_add_sum (P := Tryd.prog) (w := w) _ tn (by rw [← HTN.out, sB_size, ByteArray.size_append, HSAZ.out]; show na2 + 1 + _ ≤ _; have := HNA2.out; omega), ← HTN.out, ← HSA.out, show (⟨#[46]⟩ : ByteArray) = sB [46] from rfl, sB_add11, sB_add11, HTHO.out]
              have htn2 : tb.extract 1 j = tn := by rw [← hts2]; exact htn
              have hb := HB.out
              clear hne hlf hj hjJ hJ hJ2
              go_wp2
              go_ret2
              exact ⟨by rw [HQ0.out]; rfl, hb⟩
  · subst hok
    have hfin : rung x < 9218868437227405312 := by have := nan_no hn; have h2 := of_decide_eq_false hi; omega
    have HQ0 := Lib.hid (show q = sB [] from hq.symm)
    by_cases hbig : 4696837146684686336 < rung x
    · obtain ⟨b1, b2⟩ := big_cmp hn
      rw [decide_eq_true hbig] at b1 b2
      rw [Bool.and_true] at b1 b2
      have HN := Lib.hid hn
      have ks := fun (t : TypeId) (w : World) => run_float_arith (P := Tryd.prog) w .sub t .f64 x x 0 (sub_self11 hx hfin)
      have hz0 : (FloatKind.f64.format.order 0 0 == some .eq) = true := by decide +kernel
      cases hs : negB x with
      | true =>
        rw [hs] at b1 b2
        have c1 : (FloatKind.f64.format.order x 4696837146684686336 == some .gt) = false := (cmp_gt hx (by omega)).trans b1
        have c2 : (FloatKind.f64.format.order x 13920209183539462144 == some .lt) = true := (cmp_lt hx (by omega)).trans b2
        clear hq hn hx hi hno hfin hbig b1 b2 hs
        have hb : Below w.heap.size w w := Below.refl _ _
        go_enter Tryd.func21, Tryd.ntmps21
        go_wp2_with fail
        refine (nan_any x false _ HX.out HN.out).mono ?_
        rintro e w1 ⟨rfl, rfl⟩
        go_wp2
        go_ret2
        exact ⟨by rw [HQ0.out]; rfl, hb⟩
      | false =>
        rw [hs] at b1 b2
        have c1 : (FloatKind.f64.format.order x 4696837146684686336 == some .gt) = true := (cmp_gt hx (by omega)).trans b1
        clear hq hn hx hi hno hfin hbig b1 b2 hs
        have hb : Below w.heap.size w w := Below.refl _ _
        go_enter Tryd.func21, Tryd.ntmps21
        go_wp2_with fail
        refine (nan_any x false _ HX.out HN.out).mono ?_
        rintro e w1 ⟨rfl, rfl⟩
        go_wp2
        go_ret2
        exact ⟨by rw [HQ0.out]; rfl, hb⟩
    obtain ⟨b1, b2⟩ := big_cmp hn
    rw [decide_eq_false (show ¬ 4696837146684686336 < rung x by omega)] at b1 b2
    rw [Bool.and_false] at b1 b2
    have c1 : (FloatKind.f64.format.order x 4696837146684686336 == some .gt) = false := (cmp_gt hx (by omega)).trans b1
    have c2 : (FloatKind.f64.format.order x 13920209183539462144 == some .lt) = false := (cmp_lt hx (by omega)).trans b2
    have HN := Lib.hid hn
    obtain ⟨g, hg⟩ : ∃ g, rung x = g := ⟨_, rfl⟩
    have HG := Lib.hid hg
    obtain ⟨y, z, m, f1, f2, f3, f4, f5, f6, f7⟩ := thou_find (g := g) (by omega)
    obtain ⟨tm, htm⟩ : ∃ tm, thouW m = tm := ⟨_, rfl⟩
    rw [htm] at f5 f6
    have HF1 := Lib.hid f1
    have HF2 := Lib.hid f2
    have HF3 := Lib.hid f3
    have HF4 := Lib.hid f5
    have d1 : (FloatKind.f64.format.order tm g != some .eq) = !decide (tm = g) := by rw [cmp_ne (by omega) (by omega), plus_eq f6 (by omega)]
    by_cases htg : tm = g
    · rw [decide_eq_true htg] at d1
      have d2 : (FloatKind.f64.format.order tm g != some .eq) = false := d1
      have hm9 : 1000000000 ≤ m := by
        rcases Nat.lt_or_ge m 1000000000 with k | k
        · exact absurd (hg.trans (htg.symm.trans htm.symm)) (hno m k)
        · exact k
      have d3 : decide ((m : Int) > 999999999) = true := decide_eq_true (by omega)
      have d4 : decide ((999999999 : Int) < (m : Int)) = true := decide_eq_true (by omega)
      have d5 : decide (999999999 < m) = true := decide_eq_true (by omega)
      clear d1 hq hn hx hi hno hfin hbig b1 b2 hg f1 f2 f3 f4 f5 f6 f7 htm htg hm9
      have HKN := Lib.hid (lt_kinds11 HN.out)
      rcases HKN.out with ⟨k1, k2, k3⟩ | ⟨k1, k2, k3⟩ | ⟨k1, k2, k3⟩
      · have HS1 := Lib.hid k2
        have HS2 := Lib.hid (show (FloatKind.f64.format.order x 0 == some .eq) = false by rw [cmp_eq HX.out (by omega), eq_zero HN.out]; exact decide_eq_false (pos_rung HN.out k1))
        have HGX := Lib.hid (show rung x = x from plus_of HX.out k3)
        have HNEG := Lib.hid k3
        clear k1 k2 k3
        have c3 : (FloatKind.f64.format.order x 0 == some .lt) = false := lt_zero11 HX.out _ HS1.out
        have c4 : (FloatKind.f64.format.order x 0 == some .eq) = false := HS2.out
        have k5 := fun (t : TypeId) (w : World) => run_float_arith (P := Tryd.prog) w .mul t .f64 g 4652007308841189376 y HF1.out
        have k6 := fun (t : TypeId) (w : World) => run_float_arith (P := Tryd.prog) w .add t .f64 y 4602678819172646912 z HF2.out
        have k7 := fun (w : World) => run_convert_float_int (P := Tryd.prog) w 22 3 .f64 .i64 z (m : Int) (by kernel_rfl) (by kernel_rfl) HF3.out
        have k8 := fun (t : TypeId) (w : World) => run_float_arith (P := Tryd.prog) w .quo t .f64 (floatOfInt .f64 (m : Int)) 4652007308841189376 tm HF4.out
        obtain rfl : x = g := HGX.out.symm.trans HG.out
        have hb : Below w.heap.size w w := Below.refl _ _
        go_enter Tryd.func21, Tryd.ntmps21
        go_wp2_with fail
        refine (nan_any x false _ HX.out HN.out).mono ?_
        rintro e w1 ⟨rfl, rfl⟩
        go_wp2
        go_ret2
        exact ⟨by rw [HQ0.out]; rfl, hb⟩
      · have HS1 := Lib.hid k2
        have HGX := Lib.hid (show negW x = rung x from minus_of HX.out k3)
        have HNEG := Lib.hid k3
        clear k1 k2 k3
        have c3 : (FloatKind.f64.format.order x 0 == some .lt) = true := lt_zero11 HX.out _ HS1.out
        have k5 := fun (t : TypeId) (w : World) => run_float_arith (P := Tryd.prog) w .mul t .f64 g 4652007308841189376 y HF1.out
        have k6 := fun (t : TypeId) (w : World) => run_float_arith (P := Tryd.prog) w .add t .f64 y 4602678819172646912 z HF2.out
        have k7 := fun (w : World) => run_convert_float_int (P := Tryd.prog) w 22 3 .f64 .i64 z (m : Int) (by kernel_rfl) (by kernel_rfl) HF3.out
        have k8 := fun (t : TypeId) (w : World) => run_float_arith (P := Tryd.prog) w .quo t .f64 (floatOfInt .f64 (m : Int)) 4652007308841189376 tm HF4.out
        have kn := fun (w : World) => show Sem.run Tryd.prog (Op.unary UnOp.neg (Value.float FloatKind.f64 x)) w = .ok (.float .f64 g) w by
          have e9 : Op.negFloat .f64 x = g := HGX.out.trans HG.out
          rw [← e9]; rfl
        have hb : Below w.heap.size w w := Below.refl _ _
        go_enter Tryd.func21, Tryd.ntmps21
        go_wp2_with fail
        refine (nan_any x false _ HX.out HN.out).mono ?_
        rintro e w1 ⟨rfl, rfl⟩
        go_wp2
        go_ret2
        exact ⟨by rw [HQ0.out]; rfl, hb⟩
      · have HS1 := Lib.hid k2
        have HS2 := Lib.hid (show (FloatKind.f64.format.order x 0 == some .eq) = true by rw [cmp_eq HX.out (by omega), eq_zero HN.out]; exact decide_eq_true k3)
        obtain ⟨dd, hdd, dq, _, dl⟩ := one_over HX.out k3
        have kd := fun (t : TypeId) (w : World) => run_float_arith (P := Tryd.prog) w .quo t .f64 4607182418800017408 x dd hdd
        cases hs : negB x with
        | true =>
          have HS3 := Lib.hid (show (FloatKind.f64.format.order dd 0 == some .lt) = true from (cmp_lt dl (by omega)).trans (dq.trans hs))
          have HGX := Lib.hid (show negW x = rung x from minus_of HX.out hs)
          have HNEG := Lib.hid hs
          clear k1 k2 k3 hdd dq dl hs
          have c3 : (FloatKind.f64.format.order x 0 == some .lt) = false := lt_zero11 HX.out _ HS1.out
          have c4 : (FloatKind.f64.format.order x 0 == some .eq) = true := HS2.out
          have c5 : (FloatKind.f64.format.order dd 0 == some .lt) = true := HS3.out
          have k5 := fun (t : TypeId) (w : World) => run_float_arith (P := Tryd.prog) w .mul t .f64 g 4652007308841189376 y HF1.out
          have k6 := fun (t : TypeId) (w : World) => run_float_arith (P := Tryd.prog) w .add t .f64 y 4602678819172646912 z HF2.out
          have k7 := fun (w : World) => run_convert_float_int (P := Tryd.prog) w 22 3 .f64 .i64 z (m : Int) (by kernel_rfl) (by kernel_rfl) HF3.out
          have k8 := fun (t : TypeId) (w : World) => run_float_arith (P := Tryd.prog) w .quo t .f64 (floatOfInt .f64 (m : Int)) 4652007308841189376 tm HF4.out
          have kn := fun (w : World) => show Sem.run Tryd.prog (Op.unary UnOp.neg (Value.float FloatKind.f64 x)) w = .ok (.float .f64 g) w by
            have e9 : Op.negFloat .f64 x = g := HGX.out.trans HG.out
            rw [← e9]; rfl
          have hb : Below w.heap.size w w := Below.refl _ _
          go_enter Tryd.func21, Tryd.ntmps21
          go_wp2_with fail
          refine (nan_any x false _ HX.out HN.out).mono ?_
          rintro e w1 ⟨rfl, rfl⟩
          go_wp2
          go_ret2
          exact ⟨by rw [HQ0.out]; rfl, hb⟩
        | false =>
          have HS3 := Lib.hid (show (FloatKind.f64.format.order dd 0 == some .lt) = false from (cmp_lt dl (by omega)).trans (dq.trans hs))
          have HGX := Lib.hid (show rung x = x from plus_of HX.out hs)
          have HNEG := Lib.hid hs
          clear k1 k2 k3 hdd dq dl hs
          have c3 : (FloatKind.f64.format.order x 0 == some .lt) = false := lt_zero11 HX.out _ HS1.out
          have c4 : (FloatKind.f64.format.order x 0 == some .eq) = true := HS2.out
          have c5 : (FloatKind.f64.format.order dd 0 == some .lt) = false := HS3.out
          have k5 := fun (t : TypeId) (w : World) => run_float_arith (P := Tryd.prog) w .mul t .f64 g 4652007308841189376 y HF1.out
          have k6 := fun (t : TypeId) (w : World) => run_float_arith (P := Tryd.prog) w .add t .f64 y 4602678819172646912 z HF2.out
          have k7 := fun (w : World) => run_convert_float_int (P := Tryd.prog) w 22 3 .f64 .i64 z (m : Int) (by kernel_rfl) (by kernel_rfl) HF3.out
          have k8 := fun (t : TypeId) (w : World) => run_float_arith (P := Tryd.prog) w .quo t .f64 (floatOfInt .f64 (m : Int)) 4652007308841189376 tm HF4.out
          obtain rfl : x = g := HGX.out.symm.trans HG.out
          have hb : Below w.heap.size w w := Below.refl _ _
          go_enter Tryd.func21, Tryd.ntmps21
          go_wp2_with fail
          refine (nan_any x false _ HX.out HN.out).mono ?_
          rintro e w1 ⟨rfl, rfl⟩
          go_wp2
          go_ret2
          exact ⟨by rw [HQ0.out]; rfl, hb⟩
    · rw [decide_eq_false htg] at d1
      have d2 : (FloatKind.f64.format.order tm g != some .eq) = true := d1
      clear d1 hq hn hx hi hno hfin hbig b1 b2 hg f1 f2 f3 f4 f5 f6 f7 htm htg
      have HKN := Lib.hid (lt_kinds11 HN.out)
      rcases HKN.out with ⟨k1, k2, k3⟩ | ⟨k1, k2, k3⟩ | ⟨k1, k2, k3⟩
      · have HS1 := Lib.hid k2
        have HS2 := Lib.hid (show (FloatKind.f64.format.order x 0 == some .eq) = false by rw [cmp_eq HX.out (by omega), eq_zero HN.out]; exact decide_eq_false (pos_rung HN.out k1))
        have HGX := Lib.hid (show rung x = x from plus_of HX.out k3)
        have HNEG := Lib.hid k3
        clear k1 k2 k3
        have c3 : (FloatKind.f64.format.order x 0 == some .lt) = false := lt_zero11 HX.out _ HS1.out
        have c4 : (FloatKind.f64.format.order x 0 == some .eq) = false := HS2.out
        have k5 := fun (t : TypeId) (w : World) => run_float_arith (P := Tryd.prog) w .mul t .f64 g 4652007308841189376 y HF1.out
        have k6 := fun (t : TypeId) (w : World) => run_float_arith (P := Tryd.prog) w .add t .f64 y 4602678819172646912 z HF2.out
        have k7 := fun (w : World) => run_convert_float_int (P := Tryd.prog) w 22 3 .f64 .i64 z (m : Int) (by kernel_rfl) (by kernel_rfl) HF3.out
        have k8 := fun (t : TypeId) (w : World) => run_float_arith (P := Tryd.prog) w .quo t .f64 (floatOfInt .f64 (m : Int)) 4652007308841189376 tm HF4.out
        obtain rfl : x = g := HGX.out.symm.trans HG.out
        have hb : Below w.heap.size w w := Below.refl _ _
        go_enter Tryd.func21, Tryd.ntmps21
        go_wp2_with fail
        refine (nan_any x false _ HX.out HN.out).mono ?_
        rintro e w1 ⟨rfl, rfl⟩
        go_wp2
        go_ret2
        exact ⟨by rw [HQ0.out]; rfl, hb⟩
      · have HS1 := Lib.hid k2
        have HGX := Lib.hid (show negW x = rung x from minus_of HX.out k3)
        have HNEG := Lib.hid k3
        clear k1 k2 k3
        have c3 : (FloatKind.f64.format.order x 0 == some .lt) = true := lt_zero11 HX.out _ HS1.out
        have k5 := fun (t : TypeId) (w : World) => run_float_arith (P := Tryd.prog) w .mul t .f64 g 4652007308841189376 y HF1.out
        have k6 := fun (t : TypeId) (w : World) => run_float_arith (P := Tryd.prog) w .add t .f64 y 4602678819172646912 z HF2.out
        have k7 := fun (w : World) => run_convert_float_int (P := Tryd.prog) w 22 3 .f64 .i64 z (m : Int) (by kernel_rfl) (by kernel_rfl) HF3.out
        have k8 := fun (t : TypeId) (w : World) => run_float_arith (P := Tryd.prog) w .quo t .f64 (floatOfInt .f64 (m : Int)) 4652007308841189376 tm HF4.out
        have kn := fun (w : World) => show Sem.run Tryd.prog (Op.unary UnOp.neg (Value.float FloatKind.f64 x)) w = .ok (.float .f64 g) w by
          have e9 : Op.negFloat .f64 x = g := HGX.out.trans HG.out
          rw [← e9]; rfl
        have hb : Below w.heap.size w w := Below.refl _ _
        go_enter Tryd.func21, Tryd.ntmps21
        go_wp2_with fail
        refine (nan_any x false _ HX.out HN.out).mono ?_
        rintro e w1 ⟨rfl, rfl⟩
        go_wp2
        go_ret2
        exact ⟨by rw [HQ0.out]; rfl, hb⟩
      · have HS1 := Lib.hid k2
        have HS2 := Lib.hid (show (FloatKind.f64.format.order x 0 == some .eq) = true by rw [cmp_eq HX.out (by omega), eq_zero HN.out]; exact decide_eq_true k3)
        obtain ⟨dd, hdd, dq, _, dl⟩ := one_over HX.out k3
        have kd := fun (t : TypeId) (w : World) => run_float_arith (P := Tryd.prog) w .quo t .f64 4607182418800017408 x dd hdd
        cases hs : negB x with
        | true =>
          have HS3 := Lib.hid (show (FloatKind.f64.format.order dd 0 == some .lt) = true from (cmp_lt dl (by omega)).trans (dq.trans hs))
          have HGX := Lib.hid (show negW x = rung x from minus_of HX.out hs)
          have HNEG := Lib.hid hs
          clear k1 k2 k3 hdd dq dl hs
          have c3 : (FloatKind.f64.format.order x 0 == some .lt) = false := lt_zero11 HX.out _ HS1.out
          have c4 : (FloatKind.f64.format.order x 0 == some .eq) = true := HS2.out
          have c5 : (FloatKind.f64.format.order dd 0 == some .lt) = true := HS3.out
          have k5 := fun (t : TypeId) (w : World) => run_float_arith (P := Tryd.prog) w .mul t .f64 g 4652007308841189376 y HF1.out
          have k6 := fun (t : TypeId) (w : World) => run_float_arith (P := Tryd.prog) w .add t .f64 y 4602678819172646912 z HF2.out
          have k7 := fun (w : World) => run_convert_float_int (P := Tryd.prog) w 22 3 .f64 .i64 z (m : Int) (by kernel_rfl) (by kernel_rfl) HF3.out
          have k8 := fun (t : TypeId) (w : World) => run_float_arith (P := Tryd.prog) w .quo t .f64 (floatOfInt .f64 (m : Int)) 4652007308841189376 tm HF4.out
          have kn := fun (w : World) => show Sem.run Tryd.prog (Op.unary UnOp.neg (Value.float FloatKind.f64 x)) w = .ok (.float .f64 g) w by
            have e9 : Op.negFloat .f64 x = g := HGX.out.trans HG.out
            rw [← e9]; rfl
          have hb : Below w.heap.size w w := Below.refl _ _
          go_enter Tryd.func21, Tryd.ntmps21
          go_wp2_with fail
          refine (nan_any x false _ HX.out HN.out).mono ?_
          rintro e w1 ⟨rfl, rfl⟩
          go_wp2
          go_ret2
          exact ⟨by rw [HQ0.out]; rfl, hb⟩
        | false =>
          have HS3 := Lib.hid (show (FloatKind.f64.format.order dd 0 == some .lt) = false from (cmp_lt dl (by omega)).trans (dq.trans hs))
          have HGX := Lib.hid (show rung x = x from plus_of HX.out hs)
          have HNEG := Lib.hid hs
          clear k1 k2 k3 hdd dq dl hs
          have c3 : (FloatKind.f64.format.order x 0 == some .lt) = false := lt_zero11 HX.out _ HS1.out
          have c4 : (FloatKind.f64.format.order x 0 == some .eq) = true := HS2.out
          have c5 : (FloatKind.f64.format.order dd 0 == some .lt) = false := HS3.out
          have k5 := fun (t : TypeId) (w : World) => run_float_arith (P := Tryd.prog) w .mul t .f64 g 4652007308841189376 y HF1.out
          have k6 := fun (t : TypeId) (w : World) => run_float_arith (P := Tryd.prog) w .add t .f64 y 4602678819172646912 z HF2.out
          have k7 := fun (w : World) => run_convert_float_int (P := Tryd.prog) w 22 3 .f64 .i64 z (m : Int) (by kernel_rfl) (by kernel_rfl) HF3.out
          have k8 := fun (t : TypeId) (w : World) => run_float_arith (P := Tryd.prog) w .quo t .f64 (floatOfInt .f64 (m : Int)) 4652007308841189376 tm HF4.out
          obtain rfl : x = g := HGX.out.symm.trans HG.out
          have hb : Below w.heap.size w w := Below.refl _ _
          go_enter Tryd.func21, Tryd.ntmps21
          go_wp2_with fail
          refine (nan_any x false _ HX.out HN.out).mono ?_
          rintro e w1 ⟨rfl, rfl⟩
          go_wp2
          go_ret2
          exact ⟨by rw [HQ0.out]; rfl, hb⟩
end Go.Proofs.YtgjfjjdljngklaaDoor
