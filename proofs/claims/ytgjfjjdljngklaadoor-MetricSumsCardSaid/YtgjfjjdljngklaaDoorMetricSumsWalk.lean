/-
  The walk of layer 11's statement MetricSums, from what metric does: it returns true whatever the input is. No conditions.
-/
import Derived.Test.YtgjfjjdljngklaaDoorMetricA
namespace Go.Proofs.YtgjfjjdljngklaaDoor
open Go.RowKit
open F Ieee
set_option linter.unusedVariables false

/-- x - x. -/
theorem F.sub_self {x : Nat} (hx : x < 18446744073709551616) (h : rung x < 9218868437227405312) : floatBits .sub .f64 x x = some 0 := by
  show double.sub x x = some 0
  obtain ⟨_, m, i, e, _⟩ := write_read hx h
  unfold Format.sub
  rw [e]
  show some (double.write (Datum.number (if signed (negB x) m (i - min i i).toNat + signed (!negB x) m (i - min i i).toNat = 0 then negB x && !negB x else _) _ _)) = some 0
  have ht : signed (negB x) m (i - min i i).toNat + signed (!negB x) m (i - min i i).toNat = 0 := by
    unfold signed
    cases negB x with
    | true => rw [if_pos rfl, if_neg (by decide)]; omega
    | false => rw [if_neg (by decide), if_pos (by decide)]; omega
  rw [if_pos ht, ht]
  show some (double.nearest (negB x && !negB x) 0 (min i i)) = some 0
  rw [near_nought]
  cases negB x <;> rfl
theorem F.sub_inf {x : Nat} (hx : x < 18446744073709551616) (h : rung x = 9218868437227405312) : floatBits .sub .f64 x x = none := by
  show double.sub x x = none
  unfold Format.sub
  rw [read_inf hx h]
  show (if negB x = !negB x then some (Datum.infinity (negB x)) else none : Option Datum).map _ = none
  rw [if_neg (by cases negB x <;> decide)]
  rfl
theorem F.ne_zero {x : Nat} (hx : x < 18446744073709551616) (h : nanB x = true) : (FloatKind.f64.format.order x 0 != some .eq) = true := by
  rw [cmp_ne hx (by omega)]
  unfold eqB
  rw [h]; rfl
/-- What is known of the sum, where what is no number, or an infinite one of a sign, was among them. -/
structure F.Flags (o : Option Nat) (b u d : Bool) : Prop where
  bad : b = true → o = none
  up : u = true → Went o false
  down : d = true → Went o true
theorem F.Flags.zero (o : Option Nat) : Flags o false false false := ⟨fun h => (by cases h), fun h => (by cases h), fun h => (by cases h)⟩
theorem F.Flags.next {o : Option Nat} {x y : Nat} {b u d : Bool} (h : Flags o b u d) (hx : IsM o x) (hy : y < 18446744073709551616) {nb pu pd : Bool} (h1 : nb = true → nanB y = true) (h2 : pu = true → infB y = true ∧ negB y = false) (h3 : pd = true → infB y = true ∧ negB y = true) : Flags (addO o y) (b || nb) (u || pu) (d || pd) := by
  refine ⟨fun k => ?_, fun k => ?_, fun k => ?_⟩
  · rcases Bool.or_eq_true_iff.1 k with k | k
    · exact add_bad hx hy (.inr (h.bad k))
    · exact add_bad hx hy (.inl (h1 k))
  · rcases Bool.or_eq_true_iff.1 k with k | k
    · exact went_add hx hy (h.up k)
    · have := went_new hx hy (h2 k).1; rw [(h2 k).2] at this; exact this
  · rcases Bool.or_eq_true_iff.1 k with k | k
    · exact went_add hx hy (h.down k)
    · have := went_new hx hy (h3 k).1; rw [(h3 k).2] at this; exact this
theorem F.gt_zero {y : Nat} (hy : y < 18446744073709551616) (r : Bool) (h : ltB 0 y = r) : (FloatKind.f64.format.order y 0 == some .gt) = r := by rw [cmp_gt hy (by omega), h]
theorem F.lt_zero {y : Nat} (hy : y < 18446744073709551616) (r : Bool) (h : ltB y 0 = r) : (FloatKind.f64.format.order y 0 == some .lt) = r := by rw [cmp_lt hy (by omega), h]
theorem F.lt_kinds {y : Nat} (hn : nanB y = false) : (ltB 0 y = true ∧ ltB y 0 = false ∧ negB y = false) ∨ (ltB 0 y = false ∧ ltB y 0 = true ∧ negB y = true) ∨ (ltB 0 y = false ∧ ltB y 0 = false ∧ rung y = 0) := by
  have h0 : nanB 0 = false := by decide
  have e1 : ltB 0 y = decide (0 < sv y) := by unfold ltB; rw [hn, h0, sv_zero]; rfl
  have e2 : ltB y 0 = decide (sv y < 0) := by unfold ltB; rw [hn, h0, sv_zero]; rfl
  rcases Int.lt_trichotomy (sv y) 0 with h | h | h
  · refine .inr (.inl ⟨by rw [e1]; exact decide_eq_false (by omega), by rw [e2]; exact decide_eq_true h, ?_⟩)
    cases hs : negB y with
    | true => rfl
    | false => exfalso; unfold sv sgn at h; rw [hs, if_neg (by decide)] at h; omega
  · exact .inr (.inr ⟨by rw [e1]; exact decide_eq_false (by omega), by rw [e2]; exact decide_eq_false (by omega), sv_nil.1 h⟩)
  · refine .inl ⟨by rw [e1]; exact decide_eq_true h, by rw [e2]; exact decide_eq_false (by omega), ?_⟩
    cases hs : negB y with
    | false => rfl
    | true => exfalso; unfold sv sgn at h; rw [hs, if_pos rfl] at h; omega
set_option maxRecDepth 100000 in
set_option maxHeartbeats 16000000 in
theorem metricSums_walk (E : MetricOk) (AW : ∀ w, TabOk w → Calls Tryd.prog 16 #[] w (TrueS w)) (w : World) (HTAB : TabOk w) (A : Option Addr) (c : Nat) (l : List Nat) (hc : l.length ≤ c) (hA : Seen eF w A l) (hW : Wd l) :
    Calls Tryd.prog 9 #[.slice A l.length c] w (TrueS w) := by
  have TAB := Lib.hid HTAB
  clear HTAB
  obtain ⟨n, hn⟩ : ∃ n, l.length = n := ⟨_, rfl⟩
  rw [hn]
  have HA := Lib.hid hA
  have HW := Lib.hid hW
  have HN := Lib.hid hn
  have HC := Lib.hid (show n ≤ c by omega)
  clear hA hW hc hn
  by_cases h1 : 60 < n
  · have b1 : decide ((n : Int) > 60) = true := decide_eq_true (by omega)
    have b2 : decide ((60 : Int) < (n : Int)) = true := decide_eq_true (by omega)
    have b3 : decide (60 < n) = true := decide_eq_true h1
    go_enter Tryd.func9, Tryd.ntmps9
    go_wp2_with fail
    refine (AW _ (tabAt11 TAB (by first | assumption | exact Below.refl _ _ | exact below_drawn11 (by first | assumption | exact Below.refl _ _) _))).mono ?_
    rintro e w1 ⟨rfl, hx⟩
    go_wp2
    go_ret
    exact ⟨rfl, hx⟩
  have b1 : decide ((n : Int) > 60) = false := decide_eq_false (by omega)
  have b2 : decide ((60 : Int) < (n : Int)) = false := decide_eq_false (by omega)
  have b3 : decide (60 < n) = false := decide_eq_false h1
  have hn60 : n ≤ 60 := by omega
  clear h1
  go_enter Tryd.func9, Tryd.ntmps9
  go_wp2
  go_loopg [3, 4, 5, 6, 16] n (fun gk v3 v4 v5 v6 vi wr => ∃ (i x : Nat) (b u d : Bool), Hid (i + gk = n) ∧ i ≤ n ∧ vi = .int .i64 (i : Int) ∧ v3 = .float .f64 x ∧ v4 = .bool b ∧ v5 = .bool u ∧ v6 = .bool d ∧ Hid (IsM (sumO (l.take i)) x) ∧ Hid (Flags (sumO (l.take i)) b u d) ∧ Below w.heap.size w wr)
  case atStart => exact ⟨0, 0, false, false, false, Nat.zero_add _, Nat.zero_le _, rfl, rfl, rfl, rfl, rfl, sum_nil, Flags.zero _, Below.refl _ _⟩
  case round =>
    obtain ⟨i, x, b, u, d, HG, hi, rfl, rfl, rfl, rfl, rfl, HX, HF, hb⟩ := hrel
    by_cases hlt : i < n
    · have blt : decide ((i : Int) < (n : Int)) = true := decide_eq_true (by omega)
      have blt2 : decide (i < n) = true := decide_eq_true hlt
      have hii : (i : Int) < (n : Int) := by omega
      have hgk := HG.out
      obtain ⟨y, hy⟩ : ∃ y, l[i]? = some y := ⟨_, List.getElem?_eq_getElem (by have := HN.out; omega)⟩
      obtain ⟨bA, oA, rfl, hbA, hH⟩ := HA.out (by have := HN.out; omega)
      have hyw := HW.out y (List.mem_of_getElem? hy)
      have HY := Lib.hid hyw
      have hcy : wr.cell? ⟨bA, oA + i, none⟩ = some (.float .f64 y) := (hb.cell (p := ⟨bA, oA + i, none⟩) hbA).trans (by
        obtain ⟨h5, h6⟩ := List.getElem?_eq_some_iff.1 hy
        rw [← h6]; exact hH.flt h5)
      have hst : sumO (l.take (i + 1)) = addO (sumO (l.take i)) y := by
        obtain ⟨h5, h6⟩ := List.getElem?_eq_some_iff.1 hy
        rw [List.take_succ_eq_append_getElem h5, sum_snoc, h6]
      have HST := Lib.hid hst
      have hstep := sum_step HX.out hyw
      clear hy hH hst
      -- what the new one is
      have hkind : ∃ nb pu pd gt lt : Bool, nanB y = nb ∧ (FloatKind.f64.format.order y 0 == some .gt) = gt ∧ (FloatKind.f64.format.order y 0 == some .lt) = lt ∧ (pu = true → infB y = true ∧ negB y = false) ∧ (pd = true → infB y = true ∧ negB y = true) ∧
          ((nb = true ∧ gt = false ∧ lt = false ∧ pu = false ∧ pd = false) ∨ (nb = false ∧ gt = true ∧ lt = false ∧ pu = false ∧ pd = false ∧ floatBits .sub .f64 y y = some 0) ∨ (nb = false ∧ gt = false ∧ lt = true ∧ pu = false ∧ pd = false ∧ floatBits .sub .f64 y y = some 0) ∨ (nb = false ∧ gt = false ∧ lt = false ∧ pu = false ∧ pd = false) ∨
            (nb = false ∧ gt = true ∧ lt = false ∧ pu = true ∧ pd = false ∧ floatBits .sub .f64 y y = none) ∨ (nb = false ∧ gt = false ∧ lt = true ∧ pu = false ∧ pd = true ∧ floatBits .sub .f64 y y = none)) := by
        cases hn : nanB y with
        | true =>
          have e1 : ltB 0 y = false := by unfold ltB; rw [hn, Bool.not_true, Bool.and_false, Bool.false_and]
          have e2 : ltB y 0 = false := by unfold ltB; rw [hn, Bool.not_true, Bool.false_and, Bool.false_and]
          exact ⟨true, false, false, false, false, rfl, gt_zero hyw _ e1, lt_zero hyw _ e2, (fun h => by cases h), (fun h => by cases h), .inl ⟨rfl, rfl, rfl, rfl, rfl⟩⟩
        | false =>
          by_cases hi : rung y = 9218868437227405312
          · have hs := sub_inf hyw hi
            rcases lt_kinds hn with ⟨e1, e2, e3⟩ | ⟨e1, e2, e3⟩ | ⟨e1, e2, e3⟩
            · exact ⟨false, true, false, true, false, rfl, gt_zero hyw _ e1, lt_zero hyw _ e2, (fun _ => ⟨decide_eq_true hi, e3⟩), (fun h => by cases h), .inr (.inr (.inr (.inr (.inl ⟨rfl, rfl, rfl, rfl, rfl, hs⟩))))⟩
            · exact ⟨false, false, true, false, true, rfl, gt_zero hyw _ e1, lt_zero hyw _ e2, (fun h => by cases h), (fun _ => ⟨decide_eq_true hi, e3⟩), .inr (.inr (.inr (.inr (.inr ⟨rfl, rfl, rfl, rfl, rfl, hs⟩))))⟩
            · omega
          · have hs := sub_self hyw (by have := nan_no hn; omega)
            rcases lt_kinds hn with ⟨e1, e2, e3⟩ | ⟨e1, e2, e3⟩ | ⟨e1, e2, e3⟩
            · exact ⟨false, false, false, true, false, rfl, gt_zero hyw _ e1, lt_zero hyw _ e2, (fun h => by cases h), (fun h => by cases h), .inr (.inl ⟨rfl, rfl, rfl, rfl, rfl, hs⟩)⟩
            · exact ⟨false, false, false, false, true, rfl, gt_zero hyw _ e1, lt_zero hyw _ e2, (fun h => by cases h), (fun h => by cases h), .inr (.inr (.inl ⟨rfl, rfl, rfl, rfl, rfl, hs⟩))⟩
            · exact ⟨false, false, false, false, false, rfl, gt_zero hyw _ e1, lt_zero hyw _ e2, (fun h => by cases h), (fun h => by cases h), .inr (.inr (.inr (.inl ⟨rfl, rfl, rfl, rfl, rfl⟩)))⟩
      obtain ⟨nb, pu, pd, gt, lt, hnb, hgt, hltz, hpu, hpd, hcases⟩ := hkind
      have HF2 := Lib.hid (HF.out.next HX.out hyw (nb := nb) (fun h => hnb.trans h) hpu hpd)
      rw [← HST.out] at HF2
      have HNB := Lib.hid hnb
      have hz0 : (FloatKind.f64.format.order 0 0 != some .eq) = false := by decide +kernel
      have hzn : ∀ w : World, (FloatKind.f64.format.order (drawnNan w y y) 0 != some .eq) = true := fun w => ne_zero (drawn_nan w y y).2 (drawn_nan w y y).1
      clear hyw hpu hpd hnb HX HF
      rcases hstep with ⟨r, hr, hr2⟩ | ⟨hr, hr2⟩
      · have ka := fun (t : TypeId) (w : World) => run_float_arith (P := Tryd.prog) w .add t .f64 x y r hr
        have HR := Lib.hid (show IsM (sumO (l.take (i + 1))) r by rw [HST.out]; exact hr2)
        clear hr hr2
        rcases hcases with ⟨rfl, rfl, rfl, rfl, rfl⟩ | ⟨rfl, rfl, rfl, rfl, rfl, hs⟩ | ⟨rfl, rfl, rfl, rfl, rfl, hs⟩ | ⟨rfl, rfl, rfl, rfl, rfl⟩ | ⟨rfl, rfl, rfl, rfl, rfl, hs⟩ | ⟨rfl, rfl, rfl, rfl, rfl, hs⟩
        · cases b with
          | true =>
            cases u <;> cases d
            all_goals go_wp2
            all_goals
              go_roundg (n - (i + 1))
              case rel => exact ⟨i + 1, _, _, _, _, (by show _ = _; omega), by omega, by go_num, rfl, rfl, rfl, rfl, HR.out, HF2.out, (by repeat (first | assumption | refine Below.drew ?_))⟩
              case measure => omega
          | false =>
            go_wp2_with fail
            refine (nan_any y true _ HY.out HNB.out).mono ?_
            rintro e w5 ⟨rfl, rfl⟩
            cases u <;> cases d
            all_goals go_wp2
            all_goals
              go_roundg (n - (i + 1))
              case rel => exact ⟨i + 1, _, _, _, _, (by show _ = _; omega), by omega, by go_num, rfl, rfl, rfl, rfl, HR.out, HF2.out, (by repeat (first | assumption | refine Below.drew ?_))⟩
              case measure => omega
        · have ks := fun (t : TypeId) (w : World) => run_float_arith (P := Tryd.prog) w .sub t .f64 y y 0 hs
          clear hs
          cases b with
          | true =>
            cases u <;> cases d
            all_goals go_wp2
            all_goals
              go_roundg (n - (i + 1))
              case rel => exact ⟨i + 1, _, _, _, _, (by show _ = _; omega), by omega, by go_num, rfl, rfl, rfl, rfl, HR.out, HF2.out, (by repeat (first | assumption | refine Below.drew ?_))⟩
              case measure => omega
          | false =>
            go_wp2_with fail
            refine (nan_any y false _ HY.out HNB.out).mono ?_
            rintro e w5 ⟨rfl, rfl⟩
            cases u <;> cases d
            all_goals go_wp2
            all_goals
              go_roundg (n - (i + 1))
              case rel => exact ⟨i + 1, _, _, _, _, (by show _ = _; omega), by omega, by go_num, rfl, rfl, rfl, rfl, HR.out, HF2.out, (by repeat (first | assumption | refine Below.drew ?_))⟩
              case measure => omega
        · have ks := fun (t : TypeId) (w : World) => run_float_arith (P := Tryd.prog) w .sub t .f64 y y 0 hs
          clear hs
          cases b with
          | true =>
            cases u <;> cases d
            all_goals go_wp2
            all_goals
              go_roundg (n - (i + 1))
              case rel => exact ⟨i + 1, _, _, _, _, (by show _ = _; omega), by omega, by go_num, rfl, rfl, rfl, rfl, HR.out, HF2.out, (by repeat (first | assumption | refine Below.drew ?_))⟩
              case measure => omega
          | false =>
            go_wp2_with fail
            refine (nan_any y false _ HY.out HNB.out).mono ?_
            rintro e w5 ⟨rfl, rfl⟩
            cases u <;> cases d
            all_goals go_wp2
            all_goals
              go_roundg (n - (i + 1))
              case rel => exact ⟨i + 1, _, _, _, _, (by show _ = _; omega), by omega, by go_num, rfl, rfl, rfl, rfl, HR.out, HF2.out, (by repeat (first | assumption | refine Below.drew ?_))⟩
              case measure => omega
        · cases b with
          | true =>
            cases u <;> cases d
            all_goals go_wp2
            all_goals
              go_roundg (n - (i + 1))
              case rel => exact ⟨i + 1, _, _, _, _, (by show _ = _; omega), by omega, by go_num, rfl, rfl, rfl, rfl, HR.out, HF2.out, (by repeat (first | assumption | refine Below.drew ?_))⟩
              case measure => omega
          | false =>
            go_wp2_with fail
            refine (nan_any y false _ HY.out HNB.out).mono ?_
            rintro e w5 ⟨rfl, rfl⟩
            cases u <;> cases d
            all_goals go_wp2
            all_goals
              go_roundg (n - (i + 1))
              case rel => exact ⟨i + 1, _, _, _, _, (by show _ = _; omega), by omega, by go_num, rfl, rfl, rfl, rfl, HR.out, HF2.out, (by repeat (first | assumption | refine Below.drew ?_))⟩
              case measure => omega
        · have ks := fun (t : TypeId) (w : World) => run_nan Tryd.prog w .sub t y y (.inr (.inl rfl)) hs
          clear hs
          cases b with
          | true =>
            cases u <;> cases d
            all_goals go_wp2
            all_goals
              go_roundg (n - (i + 1))
              case rel => exact ⟨i + 1, _, _, _, _, (by show _ = _; omega), by omega, by go_num, rfl, rfl, rfl, rfl, HR.out, HF2.out, (by repeat (first | assumption | refine Below.drew ?_))⟩
              case measure => omega
          | false =>
            go_wp2_with fail
            refine (nan_any y false _ HY.out HNB.out).mono ?_
            rintro e w5 ⟨rfl, rfl⟩
            cases u <;> cases d
            all_goals go_wp2
            all_goals
              go_roundg (n - (i + 1))
              case rel => exact ⟨i + 1, _, _, _, _, (by show _ = _; omega), by omega, by go_num, rfl, rfl, rfl, rfl, HR.out, HF2.out, (by repeat (first | assumption | refine Below.drew ?_))⟩
              case measure => omega
        · have ks := fun (t : TypeId) (w : World) => run_nan Tryd.prog w .sub t y y (.inr (.inl rfl)) hs
          clear hs
          cases b with
          | true =>
            cases u <;> cases d
            all_goals go_wp2
            all_goals
              go_roundg (n - (i + 1))
              case rel => exact ⟨i + 1, _, _, _, _, (by show _ = _; omega), by omega, by go_num, rfl, rfl, rfl, rfl, HR.out, HF2.out, (by repeat (first | assumption | refine Below.drew ?_))⟩
              case measure => omega
          | false =>
            go_wp2_with fail
            refine (nan_any y false _ HY.out HNB.out).mono ?_
            rintro e w5 ⟨rfl, rfl⟩
            cases u <;> cases d
            all_goals go_wp2
            all_goals
              go_roundg (n - (i + 1))
              case rel => exact ⟨i + 1, _, _, _, _, (by show _ = _; omega), by omega, by go_num, rfl, rfl, rfl, rfl, HR.out, HF2.out, (by repeat (first | assumption | refine Below.drew ?_))⟩
              case measure => omega
      · have ka := fun (t : TypeId) (w : World) => run_nan Tryd.prog w .add t x y (.inl rfl) hr
        have HR := Lib.hid (show ∀ w : World, IsM (sumO (l.take (i + 1))) (drawnNan w x y) from fun w => by rw [HST.out]; exact hr2 _ (drawn_nan w x y).1 (drawn_nan w x y).2)
        clear hr hr2
        rcases hcases with ⟨rfl, rfl, rfl, rfl, rfl⟩ | ⟨rfl, rfl, rfl, rfl, rfl, hs⟩ | ⟨rfl, rfl, rfl, rfl, rfl, hs⟩ | ⟨rfl, rfl, rfl, rfl, rfl⟩ | ⟨rfl, rfl, rfl, rfl, rfl, hs⟩ | ⟨rfl, rfl, rfl, rfl, rfl, hs⟩
        · cases b with
          | true =>
            cases u <;> cases d
            all_goals go_wp2
            all_goals
              go_roundg (n - (i + 1))
              case rel => exact ⟨i + 1, _, _, _, _, (by show _ = _; omega), by omega, by go_num, rfl, rfl, rfl, rfl, HR.out _, HF2.out, (by repeat (first | assumption | refine Below.drew ?_))⟩
              case measure => omega
          | false =>
            go_wp2_with fail
            refine (nan_any y true _ HY.out HNB.out).mono ?_
            rintro e w5 ⟨rfl, rfl⟩
            cases u <;> cases d
            all_goals go_wp2
            all_goals
              go_roundg (n - (i + 1))
              case rel => exact ⟨i + 1, _, _, _, _, (by show _ = _; omega), by omega, by go_num, rfl, rfl, rfl, rfl, HR.out _, HF2.out, (by repeat (first | assumption | refine Below.drew ?_))⟩
              case measure => omega
        · have ks := fun (t : TypeId) (w : World) => run_float_arith (P := Tryd.prog) w .sub t .f64 y y 0 hs
          clear hs
          cases b with
          | true =>
            cases u <;> cases d
            all_goals go_wp2
            all_goals
              go_roundg (n - (i + 1))
              case rel => exact ⟨i + 1, _, _, _, _, (by show _ = _; omega), by omega, by go_num, rfl, rfl, rfl, rfl, HR.out _, HF2.out, (by repeat (first | assumption | refine Below.drew ?_))⟩
              case measure => omega
          | false =>
            go_wp2_with fail
            refine (nan_any y false _ HY.out HNB.out).mono ?_
            rintro e w5 ⟨rfl, rfl⟩
            cases u <;> cases d
            all_goals go_wp2
            all_goals
              go_roundg (n - (i + 1))
              case rel => exact ⟨i + 1, _, _, _, _, (by show _ = _; omega), by omega, by go_num, rfl, rfl, rfl, rfl, HR.out _, HF2.out, (by repeat (first | assumption | refine Below.drew ?_))⟩
              case measure => omega
        · have ks := fun (t : TypeId) (w : World) => run_float_arith (P := Tryd.prog) w .sub t .f64 y y 0 hs
          clear hs
          cases b with
          | true =>
            cases u <;> cases d
            all_goals go_wp2
            all_goals
              go_roundg (n - (i + 1))
              case rel => exact ⟨i + 1, _, _, _, _, (by show _ = _; omega), by omega, by go_num, rfl, rfl, rfl, rfl, HR.out _, HF2.out, (by repeat (first | assumption | refine Below.drew ?_))⟩
              case measure => omega
          | false =>
            go_wp2_with fail
            refine (nan_any y false _ HY.out HNB.out).mono ?_
            rintro e w5 ⟨rfl, rfl⟩
            cases u <;> cases d
            all_goals go_wp2
            all_goals
              go_roundg (n - (i + 1))
              case rel => exact ⟨i + 1, _, _, _, _, (by show _ = _; omega), by omega, by go_num, rfl, rfl, rfl, rfl, HR.out _, HF2.out, (by repeat (first | assumption | refine Below.drew ?_))⟩
              case measure => omega
        · cases b with
          | true =>
            cases u <;> cases d
            all_goals go_wp2
            all_goals
              go_roundg (n - (i + 1))
              case rel => exact ⟨i + 1, _, _, _, _, (by show _ = _; omega), by omega, by go_num, rfl, rfl, rfl, rfl, HR.out _, HF2.out, (by repeat (first | assumption | refine Below.drew ?_))⟩
              case measure => omega
          | false =>
            go_wp2_with fail
            refine (nan_any y false _ HY.out HNB.out).mono ?_
            rintro e w5 ⟨rfl, rfl⟩
            cases u <;> cases d
            all_goals go_wp2
            all_goals
              go_roundg (n - (i + 1))
              case rel => exact ⟨i + 1, _, _, _, _, (by show _ = _; omega), by omega, by go_num, rfl, rfl, rfl, rfl, HR.out _, HF2.out, (by repeat (first | assumption | refine Below.drew ?_))⟩
              case measure => omega
        · have ks := fun (t : TypeId) (w : World) => run_nan Tryd.prog w .sub t y y (.inr (.inl rfl)) hs
          clear hs
          cases b with
          | true =>
            cases u <;> cases d
            all_goals go_wp2
            all_goals
              go_roundg (n - (i + 1))
              case rel => exact ⟨i + 1, _, _, _, _, (by show _ = _; omega), by omega, by go_num, rfl, rfl, rfl, rfl, HR.out _, HF2.out, (by repeat (first | assumption | refine Below.drew ?_))⟩
              case measure => omega
          | false =>
            go_wp2_with fail
            refine (nan_any y false _ HY.out HNB.out).mono ?_
            rintro e w5 ⟨rfl, rfl⟩
            cases u <;> cases d
            all_goals go_wp2
            all_goals
              go_roundg (n - (i + 1))
              case rel => exact ⟨i + 1, _, _, _, _, (by show _ = _; omega), by omega, by go_num, rfl, rfl, rfl, rfl, HR.out _, HF2.out, (by repeat (first | assumption | refine Below.drew ?_))⟩
              case measure => omega
        · have ks := fun (t : TypeId) (w : World) => run_nan Tryd.prog w .sub t y y (.inr (.inl rfl)) hs
          clear hs
          cases b with
          | true =>
            cases u <;> cases d
            all_goals go_wp2
            all_goals
              go_roundg (n - (i + 1))
              case rel => exact ⟨i + 1, _, _, _, _, (by show _ = _; omega), by omega, by go_num, rfl, rfl, rfl, rfl, HR.out _, HF2.out, (by repeat (first | assumption | refine Below.drew ?_))⟩
              case measure => omega
          | false =>
            go_wp2_with fail
            refine (nan_any y false _ HY.out HNB.out).mono ?_
            rintro e w5 ⟨rfl, rfl⟩
            cases u <;> cases d
            all_goals go_wp2
            all_goals
              go_roundg (n - (i + 1))
              case rel => exact ⟨i + 1, _, _, _, _, (by show _ = _; omega), by omega, by go_num, rfl, rfl, rfl, rfl, HR.out _, HF2.out, (by repeat (first | assumption | refine Below.drew ?_))⟩
              case measure => omega
    · have blt : decide ((i : Int) < (n : Int)) = false := decide_eq_false (by omega)
      have blt2 : decide (i < n) = false := decide_eq_false hlt
      obtain rfl : i = n := by omega
      have HTK := Lib.hid (show l.take i = l from List.take_of_length_le (by rw [HN.out]; exact Nat.le_refl _))
      have HXW := Lib.hid HX.out.1
      cases b <;> cases u <;> cases d
      · go_wp2_with fail
        refine (E.sumOf A c i l _ HN.out (by omega) HC.out (HA.out.below hb) HW.out).mono ?_
        rintro e w1 ⟨g, rfl, hg, hx⟩
        replace hb := bthen hb hx
        clear hx
        rw [← HTK.out] at hg
        have HGW := Lib.hid hg.1
        have HSM := Lib.hid (show sameB g x = true from decide_eq_true (sum_same hg HX.out))
        have HNN := Lib.hid (fun (hh : sumO (l.take i) = none) => show nanB g = true by rw [hh] at hg; exact hg.2)
        have HBO := Lib.hid (fun (k1 : Went (sumO (l.take i)) true) (k2 : Went (sumO (l.take i)) false) => went_both hg k1 k2)
        clear hg
        go_wp2_with fail
        refine (sameR11 g x true _ HGW.out HXW.out HSM.out).mono ?_
        rintro e w2 ⟨rfl, rfl⟩
        go_wp2_with fail
        refine (AW _ (tabAt11 TAB (by first | assumption | exact Below.refl _ _ | exact below_drawn11 (by first | assumption | exact Below.refl _ _) _))).mono ?_
        rintro e w3 ⟨rfl, hx⟩
        replace hb := bthen hb hx
        clear hx
        go_wp2
        go_ret
        exact ⟨rfl, hb⟩
      · go_wp2_with fail
        refine (E.sumOf A c i l _ HN.out (by omega) HC.out (HA.out.below hb) HW.out).mono ?_
        rintro e w1 ⟨g, rfl, hg, hx⟩
        replace hb := bthen hb hx
        clear hx
        rw [← HTK.out] at hg
        have HGW := Lib.hid hg.1
        have HSM := Lib.hid (show sameB g x = true from decide_eq_true (sum_same hg HX.out))
        have HNN := Lib.hid (fun (hh : sumO (l.take i) = none) => show nanB g = true by rw [hh] at hg; exact hg.2)
        have HBO := Lib.hid (fun (k1 : Went (sumO (l.take i)) true) (k2 : Went (sumO (l.take i)) false) => went_both hg k1 k2)
        clear hg
        go_wp2_with fail
        refine (sameR11 g x true _ HGW.out HXW.out HSM.out).mono ?_
        rintro e w2 ⟨rfl, rfl⟩
        go_wp2_with fail
        refine (AW _ (tabAt11 TAB (by first | assumption | exact Below.refl _ _ | exact below_drawn11 (by first | assumption | exact Below.refl _ _) _))).mono ?_
        rintro e w3 ⟨rfl, hx⟩
        replace hb := bthen hb hx
        clear hx
        go_wp2
        go_ret
        exact ⟨rfl, hb⟩
      · go_wp2_with fail
        refine (E.sumOf A c i l _ HN.out (by omega) HC.out (HA.out.below hb) HW.out).mono ?_
        rintro e w1 ⟨g, rfl, hg, hx⟩
        replace hb := bthen hb hx
        clear hx
        rw [← HTK.out] at hg
        have HGW := Lib.hid hg.1
        have HSM := Lib.hid (show sameB g x = true from decide_eq_true (sum_same hg HX.out))
        have HNN := Lib.hid (fun (hh : sumO (l.take i) = none) => show nanB g = true by rw [hh] at hg; exact hg.2)
        have HBO := Lib.hid (fun (k1 : Went (sumO (l.take i)) true) (k2 : Went (sumO (l.take i)) false) => went_both hg k1 k2)
        clear hg
        go_wp2_with fail
        refine (sameR11 g x true _ HGW.out HXW.out HSM.out).mono ?_
        rintro e w2 ⟨rfl, rfl⟩
        go_wp2_with fail
        refine (AW _ (tabAt11 TAB (by first | assumption | exact Below.refl _ _ | exact below_drawn11 (by first | assumption | exact Below.refl _ _) _))).mono ?_
        rintro e w3 ⟨rfl, hx⟩
        replace hb := bthen hb hx
        clear hx
        go_wp2
        go_ret
        exact ⟨rfl, hb⟩
      · go_wp2_with fail
        refine (E.sumOf A c i l _ HN.out (by omega) HC.out (HA.out.below hb) HW.out).mono ?_
        rintro e w1 ⟨g, rfl, hg, hx⟩
        replace hb := bthen hb hx
        clear hx
        rw [← HTK.out] at hg
        have HGW := Lib.hid hg.1
        have HSM := Lib.hid (show sameB g x = true from decide_eq_true (sum_same hg HX.out))
        have HNN := Lib.hid (fun (hh : sumO (l.take i) = none) => show nanB g = true by rw [hh] at hg; exact hg.2)
        have HBO := Lib.hid (fun (k1 : Went (sumO (l.take i)) true) (k2 : Went (sumO (l.take i)) false) => went_both hg k1 k2)
        clear hg
        go_wp2_with fail
        refine (sameR11 g x true _ HGW.out HXW.out HSM.out).mono ?_
        rintro e w2 ⟨rfl, rfl⟩
        go_wp2_with fail
        refine (nan_any g true _ HGW.out (HBO.out (HF.out.down rfl) (HF.out.up rfl))).mono ?_
        rintro e w3 ⟨rfl, rfl⟩
        go_wp2_with fail
        refine (AW _ (tabAt11 TAB (by first | assumption | exact Below.refl _ _ | exact below_drawn11 (by first | assumption | exact Below.refl _ _) _))).mono ?_
        rintro e w4 ⟨rfl, hx⟩
        replace hb := bthen hb hx
        clear hx
        go_wp2
        go_ret
        exact ⟨rfl, hb⟩
      · go_wp2_with fail
        refine (E.sumOf A c i l _ HN.out (by omega) HC.out (HA.out.below hb) HW.out).mono ?_
        rintro e w1 ⟨g, rfl, hg, hx⟩
        replace hb := bthen hb hx
        clear hx
        rw [← HTK.out] at hg
        have HGW := Lib.hid hg.1
        have HSM := Lib.hid (show sameB g x = true from decide_eq_true (sum_same hg HX.out))
        have HNN := Lib.hid (fun (hh : sumO (l.take i) = none) => show nanB g = true by rw [hh] at hg; exact hg.2)
        have HBO := Lib.hid (fun (k1 : Went (sumO (l.take i)) true) (k2 : Went (sumO (l.take i)) false) => went_both hg k1 k2)
        clear hg
        go_wp2_with fail
        refine (sameR11 g x true _ HGW.out HXW.out HSM.out).mono ?_
        rintro e w2 ⟨rfl, rfl⟩
        go_wp2_with fail
        refine (nan_any g true _ HGW.out (HNN.out (HF.out.bad rfl))).mono ?_
        rintro e w3 ⟨rfl, rfl⟩
        go_wp2_with fail
        refine (AW _ (tabAt11 TAB (by first | assumption | exact Below.refl _ _ | exact below_drawn11 (by first | assumption | exact Below.refl _ _) _))).mono ?_
        rintro e w4 ⟨rfl, hx⟩
        replace hb := bthen hb hx
        clear hx
        go_wp2
        go_ret
        exact ⟨rfl, hb⟩
      · go_wp2_with fail
        refine (E.sumOf A c i l _ HN.out (by omega) HC.out (HA.out.below hb) HW.out).mono ?_
        rintro e w1 ⟨g, rfl, hg, hx⟩
        replace hb := bthen hb hx
        clear hx
        rw [← HTK.out] at hg
        have HGW := Lib.hid hg.1
        have HSM := Lib.hid (show sameB g x = true from decide_eq_true (sum_same hg HX.out))
        have HNN := Lib.hid (fun (hh : sumO (l.take i) = none) => show nanB g = true by rw [hh] at hg; exact hg.2)
        have HBO := Lib.hid (fun (k1 : Went (sumO (l.take i)) true) (k2 : Went (sumO (l.take i)) false) => went_both hg k1 k2)
        clear hg
        go_wp2_with fail
        refine (sameR11 g x true _ HGW.out HXW.out HSM.out).mono ?_
        rintro e w2 ⟨rfl, rfl⟩
        go_wp2_with fail
        refine (nan_any g true _ HGW.out (HNN.out (HF.out.bad rfl))).mono ?_
        rintro e w3 ⟨rfl, rfl⟩
        go_wp2_with fail
        refine (AW _ (tabAt11 TAB (by first | assumption | exact Below.refl _ _ | exact below_drawn11 (by first | assumption | exact Below.refl _ _) _))).mono ?_
        rintro e w4 ⟨rfl, hx⟩
        replace hb := bthen hb hx
        clear hx
        go_wp2
        go_ret
        exact ⟨rfl, hb⟩
      · go_wp2_with fail
        refine (E.sumOf A c i l _ HN.out (by omega) HC.out (HA.out.below hb) HW.out).mono ?_
        rintro e w1 ⟨g, rfl, hg, hx⟩
        replace hb := bthen hb hx
        clear hx
        rw [← HTK.out] at hg
        have HGW := Lib.hid hg.1
        have HSM := Lib.hid (show sameB g x = true from decide_eq_true (sum_same hg HX.out))
        have HNN := Lib.hid (fun (hh : sumO (l.take i) = none) => show nanB g = true by rw [hh] at hg; exact hg.2)
        have HBO := Lib.hid (fun (k1 : Went (sumO (l.take i)) true) (k2 : Went (sumO (l.take i)) false) => went_both hg k1 k2)
        clear hg
        go_wp2_with fail
        refine (sameR11 g x true _ HGW.out HXW.out HSM.out).mono ?_
        rintro e w2 ⟨rfl, rfl⟩
        go_wp2_with fail
        refine (nan_any g true _ HGW.out (HNN.out (HF.out.bad rfl))).mono ?_
        rintro e w3 ⟨rfl, rfl⟩
        go_wp2_with fail
        refine (AW _ (tabAt11 TAB (by first | assumption | exact Below.refl _ _ | exact below_drawn11 (by first | assumption | exact Below.refl _ _) _))).mono ?_
        rintro e w4 ⟨rfl, hx⟩
        replace hb := bthen hb hx
        clear hx
        go_wp2
        go_ret
        exact ⟨rfl, hb⟩
      · go_wp2_with fail
        refine (E.sumOf A c i l _ HN.out (by omega) HC.out (HA.out.below hb) HW.out).mono ?_
        rintro e w1 ⟨g, rfl, hg, hx⟩
        replace hb := bthen hb hx
        clear hx
        rw [← HTK.out] at hg
        have HGW := Lib.hid hg.1
        have HSM := Lib.hid (show sameB g x = true from decide_eq_true (sum_same hg HX.out))
        have HNN := Lib.hid (fun (hh : sumO (l.take i) = none) => show nanB g = true by rw [hh] at hg; exact hg.2)
        have HBO := Lib.hid (fun (k1 : Went (sumO (l.take i)) true) (k2 : Went (sumO (l.take i)) false) => went_both hg k1 k2)
        clear hg
        go_wp2_with fail
        refine (sameR11 g x true _ HGW.out HXW.out HSM.out).mono ?_
        rintro e w2 ⟨rfl, rfl⟩
        go_wp2_with fail
        refine (nan_any g true _ HGW.out (HNN.out (HF.out.bad rfl))).mono ?_
        rintro e w3 ⟨rfl, rfl⟩
        go_wp2_with fail
        refine (nan_any g true _ HGW.out (HBO.out (HF.out.down rfl) (HF.out.up rfl))).mono ?_
        rintro e w4 ⟨rfl, rfl⟩
        go_wp2_with fail
        refine (AW _ (tabAt11 TAB (by first | assumption | exact Below.refl _ _ | exact below_drawn11 (by first | assumption | exact Below.refl _ _) _))).mono ?_
        rintro e w5 ⟨rfl, hx⟩
        replace hb := bthen hb hx
        clear hx
        go_wp2
        go_ret
        exact ⟨rfl, hb⟩
end Go.Proofs.YtgjfjjdljngklaaDoor
