/-
  Layer 11's code: Rank, Less, Least, Sum. Condition: at most 1000 metrics.
-/
import Derived.Test.YtgjfjjdljngklaaDoorMetricA
import Derived.Test.YtgjfjjdljngklaaDoorMetricC
import Derived.Test.YtgjfjjdljngklaaDoorMetricS
namespace Go.Proofs.YtgjfjjdljngklaaDoor
open Go.RowKit
open F
set_option linter.unusedVariables false

set_option maxRecDepth 100000 in
theorem rank_any11 (x : Nat) (r : Int) (w : World) (hx : x < 18446744073709551616) (hr : rankF x = r) : Calls Tryd.prog 12 #[.float .f64 x] w (Yes w (.int .i64 r)) := by
  have HX := Lib.hid hx
  have HB := Lib.hid (ext_bits x w)
  cases hn : nanB x with
  | true =>
    have HV := Lib.hid (show r = 9223372036854775807 by rw [← hr, rank_nan hn])
    have HN := Lib.hid hn
    clear hr hn hx
    go_enter Tryd.func12, Tryd.ntmps12
    go_wp2_with fail
    refine (isNan_any x true _ HX.out HN.out).mono ?_
    rintro e w1 ⟨rfl, rfl⟩
    go_wp2
    go_ret
    exact ⟨by rw [HV.out]; rfl, rfl⟩
  | false =>
    have HN := Lib.hid hn
    cases hs : negB x with
    | true =>
      have HS := Lib.hid hs
      obtain ⟨q, hq⟩ : ∃ q, rung x = q := ⟨_, rfl⟩
      have hql : q < 9223372036854775808 := by rw [← hq]; exact rung_lt x
      have HV := Lib.hid (show r = -1 - (q : Int) by rw [← hr, rank_neg hn hs, hq])
      have HQ := Lib.hid hq
      have w2 : IntKind.i64.wrap (q : Int) = (q : Int) := wrap_big (by omega)
      have w3 : IntKind.i64.wrap (-1 - (q : Int)) = -1 - (q : Int) := by rw [IntKind.wrap_i64]; omega
      have HBQ := Lib.hid (ext_bits q w)
      clear hr hn hx hs hq hql
      go_enter Tryd.func12, Tryd.ntmps12
      go_wp2_with fail
      refine (isNan_any x false _ HX.out HN.out).mono ?_
      rintro e w4 ⟨rfl, rfl⟩
      go_wp2_with fail
      refine (signbit_any x true _ HX.out HS.out).mono ?_
      rintro e w4 ⟨rfl, rfl⟩
      go_wp2_with fail
      refine (abs_any x q _ HX.out HQ.out).mono ?_
      rintro e w4 ⟨rfl, rfl⟩
      have hB := HBQ.out
      go_wp2
      go_ret
      exact ⟨by rw [HV.out]; rfl, rfl⟩
    | false =>
      have HS := Lib.hid hs
      have hlt : x < 9223372036854775808 := by have := of_decide_eq_false hs; omega
      have HV := Lib.hid (show r = (x : Int) by rw [← hr, rank_pos hn hs]; unfold rung; rw [Nat.mod_eq_of_lt hlt])
      have w2 : IntKind.i64.wrap (x : Int) = (x : Int) := wrap_big hlt
      clear hr hn hx hs hlt
      go_enter Tryd.func12, Tryd.ntmps12
      go_wp2_with fail
      refine (isNan_any x false _ HX.out HN.out).mono ?_
      rintro e w4 ⟨rfl, rfl⟩
      go_wp2_with fail
      refine (signbit_any x false _ HX.out HS.out).mono ?_
      rintro e w4 ⟨rfl, rfl⟩
      have hB := HB.out
      go_wp2
      go_ret
      exact ⟨by rw [HV.out]; rfl, rfl⟩
theorem less_any11 (x y : Nat) (r : Bool) (w : World) (hx : x < 18446744073709551616) (hy : y < 18446744073709551616) (hr : aheadB x y = r) : Calls Tryd.prog 14 #[.float .f64 x, .float .f64 y] w (Yes w (.bool r)) := by
  obtain ⟨a, ha⟩ : ∃ a, rankF x = a := ⟨_, rfl⟩
  obtain ⟨b, hb⟩ : ∃ b, rankF y = b := ⟨_, rfl⟩
  have HA := Lib.hid ha
  have HB := Lib.hid hb
  have HX := Lib.hid hx
  have HY := Lib.hid hy
  have b1 : decide (a < b) = r := by rw [← ha, ← hb]; exact hr
  clear ha hb hx hy hr
  go_enter Tryd.func14, Tryd.ntmps14
  go_wp2_with fail
  refine (rank_any11 x a _ HX.out HA.out).mono ?_
  rintro e w1 ⟨rfl, rfl⟩
  go_wp2_with fail
  refine (rank_any11 y b _ HY.out HB.out).mono ?_
  rintro e w1 ⟨rfl, rfl⟩
  go_wp2
  go_ret
  exact ⟨rfl, rfl⟩
theorem F.least_nil (l : List Nat) : LeastIs (l.take 0) (-1) := .inl ⟨rfl, rfl⟩
set_option maxRecDepth 100000 in
set_option maxHeartbeats 2000000 in
theorem least_any11 (A : Option Addr) (c n : Nat) (l : List Nat) (r : Int) (w : World) (hn : l.length = n) (hn2 : n ≤ 1000) (hc : n ≤ c) (hA : Seen eF w A l) (hW : Wd l) (hr : LeastIs l r) : Calls Tryd.prog 22 #[.slice A n c] w (fun e w' => e = .returned (.int .i64 r) ∧ Below w.heap.size w w') := by
  have HA := Lib.hid hA
  have HW := Lib.hid hW
  have HN := Lib.hid hn
  have HR := Lib.hid hr
  clear hA hW hn hr
  go_enter Tryd.func22, Tryd.ntmps22
  go_wp2
  go_loopg [3, 8] n (fun gk v3 vi wr => ∃ (i : Nat) (v : Int), Hid (i + gk = n) ∧ i ≤ n ∧ vi = .int .i64 (i : Int) ∧ v3 = .int .i64 v ∧ Hid (LeastIs (l.take i) v) ∧ Below w.heap.size w wr)
  case atStart => exact ⟨0, -1, Nat.zero_add _, Nat.zero_le _, rfl, rfl, least_nil l, Below.refl _ _⟩
  case round =>
    obtain ⟨i, v, HG, hi, rfl, rfl, HL, hb⟩ := hrel
    by_cases hlt : i < n
    · have blt : decide ((i : Int) < (n : Int)) = true := decide_eq_true (by omega)
      have blt2 : decide (i < n) = true := decide_eq_true hlt
      have hii : (i : Int) < (n : Int) := by omega
      have hgk := HG.out
      obtain ⟨x, hx⟩ : ∃ x, l[i]? = some x := ⟨_, List.getElem?_eq_getElem (by have := HN.out; omega)⟩
      obtain ⟨bA, oA, rfl, hbA, hH⟩ := HA.out (by have := HN.out; omega)
      have HXW := Lib.hid (HW.out x (List.mem_of_getElem? hx))
      have hcx : wr.cell? ⟨bA, oA + i, none⟩ = some (.float .f64 x) := (hb.cell (p := ⟨bA, oA + i, none⟩) hbA).trans (by
        obtain ⟨h5, h6⟩ := List.getElem?_eq_some_iff.1 hx
        rw [← h6]; exact hH.flt h5)
      obtain ⟨hstep, hfirst⟩ := least_next HL.out hx
      rcases hstep with ⟨rfl, h0⟩ | ⟨j, z, rfl, hj, hz, hyes, hno⟩
      · have HL2 := Lib.hid (hfirst h0)
        clear hx hH hfirst h0 HL
        go_wp2
        go_roundg (n - (i + 1))
        case rel => exact ⟨i + 1, (i : Int), (by show _ = _; omega), by omega, by go_num, rfl, HL2.out, hb⟩
        case measure => omega
      · have hcz : wr.cell? ⟨bA, oA + j, none⟩ = some (.float .f64 z) := (hb.cell (p := ⟨bA, oA + j, none⟩) hbA).trans (by
          obtain ⟨h5, h6⟩ := List.getElem?_eq_some_iff.1 hz
          rw [← h6]; exact hH.flt h5)
        have HZ := Lib.hid (HW.out z (List.mem_of_getElem? hz))
        have d1 : decide ((j : Int) < 0) = false := decide_eq_false (by omega)
        have hjn : (j : Int) < (n : Int) := by omega
        have hjn2 : j < n := by omega
        by_cases hlt3 : rankF x < rankF z
        · have HAH := Lib.hid (show aheadB x z = true from decide_eq_true hlt3)
          have HL2 := Lib.hid (hyes hlt3)
          clear hx hH hfirst hz hyes hno hlt3 HL
          go_wp2_with fail
          refine (less_any11 x z true _ HXW.out HZ.out HAH.out).mono ?_
          rintro e w1 ⟨rfl, rfl⟩
          go_wp2
          go_roundg (n - (i + 1))
          case rel => exact ⟨i + 1, (i : Int), (by show _ = _; omega), by omega, by go_num, rfl, HL2.out, hb⟩
          case measure => omega
        · have HAH := Lib.hid (show aheadB x z = false from decide_eq_false hlt3)
          have HL2 := Lib.hid (hno hlt3)
          clear hx hH hfirst hz hyes hno hlt3 HL
          go_wp2_with fail
          refine (less_any11 x z false _ HXW.out HZ.out HAH.out).mono ?_
          rintro e w1 ⟨rfl, rfl⟩
          go_wp2
          go_roundg (n - (i + 1))
          case rel => exact ⟨i + 1, (j : Int), (by show _ = _; omega), by omega, by go_num, rfl, HL2.out, hb⟩
          case measure => omega
    · have blt : decide ((i : Int) < (n : Int)) = false := decide_eq_false (by omega)
      have blt2 : decide (i < n) = false := decide_eq_false hlt
      obtain rfl : i = n := by omega
      have HE := Lib.hid (show v = r from least_one (by have h := HL.out; rwa [List.take_of_length_le (by rw [HN.out]; omega)] at h) HR.out)
      clear HL
      go_wp2
      go_ret
      exact ⟨by rw [HE.out]; rfl, hb⟩
theorem F.sum_at {l : List Nat} {i y : Nat} (h : l[i]? = some y) : sumO (l.take (i + 1)) = addO (sumO (l.take i)) y := by
  obtain ⟨h5, h6⟩ := List.getElem?_eq_some_iff.1 h
  rw [List.take_succ_eq_append_getElem h5, sum_snoc, h6]
theorem F.nan_isM {o : Option Nat} {x : Nat} (h : IsM o x) (hn : nanB x = true) : IsM o 9221120237041090561 := by
  obtain ⟨h1, h2⟩ := h
  refine ⟨by omega, ?_⟩
  cases o with
  | none => exact (by decide : nanB 9221120237041090561 = true)
  | some r =>
    exfalso
    have h3 : nanB r = false := by
      rcases h2 with ⟨rfl, h4, _⟩
      exact h4
    rw [h2.1] at hn
    rw [hn] at h3
    cases h3
set_option maxRecDepth 100000 in
set_option maxHeartbeats 2000000 in
theorem sum_any11 (A : Option Addr) (c n : Nat) (l : List Nat) (w : World) (hn : l.length = n) (hn2 : n ≤ 1000) (hc : n ≤ c) (hA : Seen eF w A l) (hW : Wd l) : Calls Tryd.prog 24 #[.slice A n c] w (fun e w' => ∃ x : Nat, e = .returned (.float .f64 x) ∧ IsM (sumO l) x ∧ Below w.heap.size w w') := by
  have HA := Lib.hid hA
  have HW := Lib.hid hW
  have HN := Lib.hid hn
  clear hA hW hn
  go_enter Tryd.func24, Tryd.ntmps24
  go_wp2
  go_loopg [3, 8] n (fun gk v3 vi wr => ∃ (i x : Nat), Hid (i + gk = n) ∧ i ≤ n ∧ vi = .int .i64 (i : Int) ∧ v3 = .float .f64 x ∧ Hid (IsM (sumO (l.take i)) x) ∧ Below w.heap.size w wr)
  case atStart => exact ⟨0, 0, Nat.zero_add _, Nat.zero_le _, rfl, rfl, sum_nil, Below.refl _ _⟩
  case round =>
    obtain ⟨i, x, HG, hi, rfl, rfl, HX, hb⟩ := hrel
    by_cases hlt : i < n
    · have blt : decide ((i : Int) < (n : Int)) = true := decide_eq_true (by omega)
      have blt2 : decide (i < n) = true := decide_eq_true hlt
      have hii : (i : Int) < (n : Int) := by omega
      have hgk := HG.out
      obtain ⟨y, hy⟩ : ∃ y, l[i]? = some y := ⟨_, List.getElem?_eq_getElem (by have := HN.out; omega)⟩
      obtain ⟨bA, oA, rfl, hbA, hH⟩ := HA.out (by have := HN.out; omega)
      have hyw := HW.out y (List.mem_of_getElem? hy)
      have hcy : wr.cell? ⟨bA, oA + i, none⟩ = some (.float .f64 y) := (hb.cell (p := ⟨bA, oA + i, none⟩) hbA).trans (by
        obtain ⟨h5, h6⟩ := List.getElem?_eq_some_iff.1 hy
        rw [← h6]; exact hH.flt h5)
      have HST := Lib.hid (sum_at hy)
      rcases sum_step HX.out hyw with ⟨r, hr, hr2⟩ | ⟨hr, hr2⟩
      · have ka := fun (t : TypeId) (w : World) => run_float_arith (P := Tryd.prog) w .add t .f64 x y r hr
        have HR := Lib.hid (show IsM (sumO (l.take (i + 1))) r by rw [HST.out]; exact hr2)
        clear hy hH hr hr2 hyw
        go_wp2
        go_roundg (n - (i + 1))
        case rel => exact ⟨i + 1, _, (by show _ = _; omega), by omega, by go_num, rfl, HR.out, (by repeat (first | assumption | refine Below.drew ?_))⟩
        case measure => omega
      · have ka := fun (t : TypeId) (w : World) => run_nan Tryd.prog w .add t x y (.inl rfl) hr
        have HR := Lib.hid (fun z h1 h2 => (show IsM (sumO (l.take (i + 1))) z by rw [HST.out]; exact hr2 z h1 h2))
        clear hy hH hr hr2 hyw
        go_wp2
        go_roundg (n - (i + 1))
        case rel => exact ⟨i + 1, _, (by show _ = _; omega), by omega, by go_num, rfl, HR.out _ (drawn_nan _ _ _).1 (drawn_nan _ _ _).2, (by repeat (first | assumption | refine Below.drew ?_))⟩
        case measure => omega
    · have blt : decide ((i : Int) < (n : Int)) = false := decide_eq_false (by omega)
      have blt2 : decide (i < n) = false := decide_eq_false hlt
      obtain rfl : i = n := by omega
      have HL := Lib.hid (show IsM (sumO l) x by have h := HX.out; rwa [List.take_of_length_le (by rw [HN.out]; omega)] at h)
      clear HX
      cases hnn : nanB x with
      | true =>
        have HNN := Lib.hid hnn
        clear hnn
        go_wp2_with fail
        refine (isNan_any x true _ HL.out.1 HNN.out).mono ?_
        rintro e w1 ⟨rfl, rfl⟩
        go_wp2_with fail
        refine (nanC _).mono ?_
        rintro e w1 ⟨rfl, rfl⟩
        go_wp2
        go_ret
        exact ⟨_, rfl, nan_isM HL.out HNN.out, hb⟩
      | false =>
        have HNN := Lib.hid hnn
        clear hnn
        go_wp2_with fail
        refine (isNan_any x false _ HL.out.1 HNN.out).mono ?_
        rintro e w1 ⟨rfl, rfl⟩
        go_wp2
        go_ret
        exact ⟨_, rfl, HL.out, hb⟩
end Go.Proofs.YtgjfjjdljngklaaDoor
