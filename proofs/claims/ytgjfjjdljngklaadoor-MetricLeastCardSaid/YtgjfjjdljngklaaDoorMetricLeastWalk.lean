/-
  The walk of layer 11's statement MetricLeast, from what metric does: it returns true whatever the list is. No conditions.
-/
import Derived.Test.YtgjfjjdljngklaaDoorMetricA
namespace Go.Proofs.YtgjfjjdljngklaaDoor
open Go.RowKit
open F
set_option linter.unusedVariables false

/-- What is wanted, of the first i places. -/
def F.WantIs (l : List Nat) (i : Nat) (v : Int) : Prop :=
  (v = -1 ∧ ∀ (j y : Nat), j < i → l[j]? = some y → ∃ z ∈ l, rankF z < rankF y) ∨
  ∃ (k x : Nat), v = (k : Int) ∧ k < i ∧ l[k]? = some x ∧ (∀ y ∈ l, rankF x ≤ rankF y) ∧ ∀ (j y : Nat), j < k → l[j]? = some y → rankF x < rankF y
theorem F.want_zero (l : List Nat) : WantIs l 0 (-1) := .inl ⟨rfl, fun j y h => absurd h (Nat.not_lt_zero j)⟩
theorem F.want_range {l : List Nat} {i : Nat} {v : Int} (h : WantIs l i v) : -1 ≤ v ∧ v < (i : Int) + 1 := by
  rcases h with ⟨rfl, _⟩ | ⟨k, x, rfl, h, _⟩ <;> omega
theorem F.want_next {l : List Nat} {i : Nat} {v : Int} {x : Nat} {b : Bool} (h : WantIs l i v) (hx : l[i]? = some x) (hb : b = (decide (v < 0) && l.all fun y => !aheadB y x)) : WantIs l (i + 1) (if b = true then (i : Int) else v) := by
  rcases h with ⟨rfl, h1⟩ | ⟨k, y, rfl, h1, h2, h3, h4⟩
  · rw [decide_eq_true (show (-1 : Int) < 0 by omega), Bool.true_and] at hb
    cases b with
    | true =>
      rw [if_pos rfl]
      have hall : ∀ y ∈ l, rankF x ≤ rankF y := fun y hy => by
        have h5 := List.all_eq_true.1 hb.symm y hy
        have h6 : aheadB y x = false := by simpa using h5
        have := of_decide_eq_false h6
        omega
      exact .inr ⟨i, x, rfl, Nat.lt_succ_self _, hx, hall, fun j y hj hy => by
        obtain ⟨z, hz, hz2⟩ := h1 j y hj hy
        have := hall z hz
        omega⟩
    | false =>
      rw [if_neg (by decide)]
      refine .inl ⟨rfl, fun j y hj hy => ?_⟩
      rcases Nat.lt_or_ge j i with k | k
      · exact h1 j y k hy
      · obtain rfl : j = i := by omega
        rw [hx] at hy
        injection hy with hy
        subst hy
        have h5 : ¬ ∀ z ∈ l, (!aheadB z x) = true := fun hh => by
          have := List.all_eq_true.2 hh
          rw [this] at hb; cases hb
        obtain ⟨z, hz⟩ := Classical.not_forall.1 h5
        obtain ⟨hz1, hz2⟩ := Classical.not_imp.1 hz
        refine ⟨z, hz1, ?_⟩
        have h6 : aheadB z x = true := by simpa using hz2
        exact of_decide_eq_true h6
  · rw [decide_eq_false (show ¬ ((k : Nat) : Int) < 0 by omega), Bool.false_and] at hb
    rw [hb, if_neg (by decide)]
    exact .inr ⟨k, y, rfl, by omega, h2, h3, h4⟩
theorem F.least_ex : ∀ l : List Nat, l ≠ [] → ∃ x ∈ l, ∀ y ∈ l, rankF x ≤ rankF y
  | [], h => absurd rfl h
  | [x], _ => ⟨x, by simp, fun y hy => by rw [List.mem_singleton.1 hy]; exact Int.le_refl _⟩
  | x :: z :: r, _ => by
    obtain ⟨m, hm, h⟩ := least_ex (z :: r) (List.cons_ne_nil _ _)
    by_cases hc : rankF x ≤ rankF m
    · refine ⟨x, by simp, fun y hy => ?_⟩
      rcases List.mem_cons.1 hy with rfl | hy
      · exact Int.le_refl _
      · have := h y hy; omega
    · refine ⟨m, List.mem_cons_of_mem _ hm, fun y hy => ?_⟩
      rcases List.mem_cons.1 hy with rfl | hy
      · omega
      · exact h y hy
theorem F.want_all {l : List Nat} {v : Int} (h : WantIs l l.length v) : LeastIs l v := by
  rcases h with ⟨rfl, h1⟩ | ⟨k, x, rfl, h1, h2, h3, h4⟩
  · by_cases hl : l = []
    · exact .inl ⟨hl, rfl⟩
    · exfalso
      obtain ⟨x, hx, h⟩ := least_ex l hl
      obtain ⟨j, hj, rfl⟩ := List.getElem_of_mem hx
      obtain ⟨z, hz, hlt⟩ := h1 j _ hj (List.getElem?_eq_getElem hj)
      have := h z hz; omega
  · exact .inr ⟨k, x, rfl, h2, h3, h4⟩
theorem F.all_next {l : List Nat} {j : Nat} {y : Nat} (h : l[j]? = some y) (f : Nat → Bool) : (l.take (j + 1)).all f = ((l.take j).all f && f y) := by
  obtain ⟨h1, h2⟩ := List.getElem?_eq_some_iff.1 h
  rw [List.take_succ_eq_append_getElem h1, List.all_append, h2]
  simp
set_option maxRecDepth 100000 in
set_option maxHeartbeats 4000000 in
theorem metricLeast_walk (E : MetricOk) (AW : ∀ w, TabOk w → Calls Tryd.prog 16 #[] w (TrueS w)) (w : World) (HTAB : TabOk w) (A : Option Addr) (c : Nat) (l : List Nat) (hc : l.length ≤ c) (hA : Seen eF w A l) (hW : Wd l) :
    Calls Tryd.prog 7 #[.slice A l.length c] w (TrueS w) := by
  have TAB := Lib.hid HTAB
  clear HTAB
  obtain ⟨n, hn⟩ : ∃ n, l.length = n := ⟨_, rfl⟩
  rw [hn]
  have HA := Lib.hid hA
  have HW := Lib.hid hW
  have HN := Lib.hid hn
  have HC := Lib.hid (show n ≤ c by omega)
  clear hA hW hc hn
  by_cases h1 : 60 < n
  · have b1 : decide ((n : Int) > 60) = true := decide_eq_true (by omega)
    have b2 : decide ((60 : Int) < (n : Int)) = true := decide_eq_true (by omega)
    have b3 : decide (60 < n) = true := decide_eq_true h1
    go_enter Tryd.func7, Tryd.ntmps7
    go_wp2_with fail
    refine (AW _ (tabAt11 TAB (by first | assumption | exact Below.refl _ _ | exact below_drawn11 (by first | assumption | exact Below.refl _ _) _))).mono ?_
    rintro e w1 ⟨rfl, hx⟩
    go_wp2
    go_ret
    exact ⟨rfl, hx⟩
  have b1 : decide ((n : Int) > 60) = false := decide_eq_false (by omega)
  have b2 : decide ((60 : Int) < (n : Int)) = false := decide_eq_false (by omega)
  have b3 : decide (60 < n) = false := decide_eq_false h1
  have hn60 : n ≤ 60 := by omega
  clear h1
  go_enter Tryd.func7, Tryd.ntmps7
  go_wp2
  go_loopg [3, 14] n (fun gk v3 vi wr => ∃ (i : Nat) (v : Int), Hid (i + gk = n) ∧ i ≤ n ∧ vi = .int .i64 (i : Int) ∧ v3 = .int .i64 v ∧ Hid (WantIs l i v) ∧ Below w.heap.size w wr)
  case atStart => exact ⟨0, -1, Nat.zero_add _, Nat.zero_le _, rfl, rfl, want_zero l, Below.refl _ _⟩
  case round =>
    obtain ⟨i, v, HG, hi, rfl, rfl, HWT, hb⟩ := hrel
    by_cases hlt : i < n
    · have blt : decide ((i : Int) < (n : Int)) = true := decide_eq_true (by omega)
      have blt2 : decide (i < n) = true := decide_eq_true hlt
      have hii : (i : Int) < (n : Int) := by omega
      have hgk := HG.out
      obtain ⟨x, hx⟩ : ∃ x, l[i]? = some x := ⟨_, List.getElem?_eq_getElem (by have := HN.out; omega)⟩
      obtain ⟨bA, oA, rfl, hbA, hH⟩ := HA.out (by have := HN.out; omega)
      have HX := Lib.hid hx
      have HXW := Lib.hid (HW.out x (List.mem_of_getElem? hx))
      have HCX := Lib.hid (show w.cell? ⟨bA, oA + i, none⟩ = some (.float .f64 x) by
        obtain ⟨h5, h6⟩ := List.getElem?_eq_some_iff.1 hx
        rw [← h6]; exact hH.flt h5)
      have HHH := Lib.hid hH
      have HBA := Lib.hid hbA
      obtain ⟨dv, hdv⟩ : ∃ dv, decide (v < 0) = dv := ⟨_, rfl⟩
      have HDV := Lib.hid hdv
      clear hx hH
      go_wp2
      go_loopg [5, 21] n (fun gk v5 vj wr => ∃ (j : Nat) (b : Bool), Hid (j + gk = n) ∧ j ≤ n ∧ vj = .int .i64 (j : Int) ∧ v5 = .bool b ∧ Hid (b = (dv && (l.take j).all fun y => !aheadB y x)) ∧ Below w.heap.size w wr)
      case atStart => exact ⟨0, dv, Nat.zero_add _, Nat.zero_le _, rfl, rfl, (by show dv = (dv && true); rw [Bool.and_true]), hb⟩
      case round =>
        obtain ⟨j, b, HG2, hj, rfl, rfl, HB, hb2⟩ := hrel
        by_cases hlt2 : j < n
        · have blt3 : decide ((j : Int) < (n : Int)) = true := decide_eq_true (by omega)
          have blt4 : decide (j < n) = true := decide_eq_true hlt2
          have hji : (j : Int) < (n : Int) := by omega
          have hgk2 := HG2.out
          obtain ⟨y, hy⟩ : ∃ y, l[j]? = some y := ⟨_, List.getElem?_eq_getElem (by have := HN.out; omega)⟩
          have HY := Lib.hid (HW.out y (List.mem_of_getElem? hy))
          have hcy : wr.cell? ⟨bA, oA + j, none⟩ = some (.float .f64 y) := (hb2.cell (p := ⟨bA, oA + j, none⟩) HBA.out).trans (by
            obtain ⟨h5, h6⟩ := List.getElem?_eq_some_iff.1 hy
            rw [← h6]; exact HHH.out.flt h5)
          have hcx : wr.cell? ⟨bA, oA + i, none⟩ = some (.float .f64 x) := (hb2.cell (p := ⟨bA, oA + i, none⟩) HBA.out).trans HCX.out
          have HNX := Lib.hid (all_next hy fun y => !aheadB y x)
          clear hy
          cases b with
          | false =>
            have HB2 := Lib.hid (show false = (dv && (l.take (j + 1)).all fun y => !aheadB y x) by rw [HNX.out, ← Bool.and_assoc, ← HB.out]; rfl)
            go_wp2
            go_roundg (n - (j + 1))
            case rel => exact ⟨j + 1, false, (by show _ = _; omega), by omega, by go_num, rfl, HB2.out, hb2⟩
            case measure => omega
          | true =>
            obtain ⟨r, hr⟩ : ∃ r, aheadB y x = r := ⟨_, rfl⟩
            have HR := Lib.hid hr
            have HB2 := Lib.hid (show (!r) = (dv && (l.take (j + 1)).all fun y => !aheadB y x) by rw [HNX.out, ← Bool.and_assoc, ← HB.out, hr]; rfl)
            clear hr
            go_wp2_with fail
            refine (aheadR11 y x r _ HY.out HXW.out HR.out).mono ?_
            rintro e w5 ⟨rfl, rfl⟩
            go_wp2
            go_roundg (n - (j + 1))
            case rel => exact ⟨j + 1, !r, (by show _ = _; omega), by omega, by go_num, rfl, HB2.out, hb2⟩
            case measure => omega
        · have blt3 : decide ((j : Int) < (n : Int)) = false := decide_eq_false (by omega)
          have blt4 : decide (j < n) = false := decide_eq_false hlt2
          obtain rfl : j = n := by omega
          have HWN := Lib.hid (want_next HWT.out HX.out (b := b) (by rw [HB.out, ← HDV.out, List.take_of_length_le (by have := HN.out; omega)]))
          cases b with
          | true =>
            have HW2 := Lib.hid (show WantIs l (i + 1) (i : Int) by have h := HWN.out; rw [if_pos rfl] at h; exact h)
            clear HWN
            go_wp2
            go_roundg (j - (i + 1))
            case rel => exact ⟨i + 1, (i : Int), (by show _ = _; omega), by omega, by go_num, rfl, HW2.out, hb2⟩
            case measure => omega
          | false =>
            have HW2 := Lib.hid (show WantIs l (i + 1) v by have h := HWN.out; rw [if_neg (by decide)] at h; exact h)
            clear HWN
            go_wp2
            go_roundg (j - (i + 1))
            case rel => exact ⟨i + 1, v, (by show _ = _; omega), by omega, by go_num, rfl, HW2.out, hb2⟩
            case measure => omega
    · have blt : decide ((i : Int) < (n : Int)) = false := decide_eq_false (by omega)
      have blt2 : decide (i < n) = false := decide_eq_false hlt
      obtain rfl : i = n := by omega
      have HL := Lib.hid (want_all (l := l) (v := v) (by rw [HN.out]; exact HWT.out))
      clear HWT
      go_wp2_with fail
      refine (E.leastOf A c i l v _ HN.out (by omega) HC.out (HA.out.below hb) HW.out HL.out).mono ?_
      rintro e w5 ⟨rfl, hx⟩
      replace hb := bthen hb hx
      clear hx
      go_wp2_with fail
      refine (AW _ (tabAt11 TAB (by first | assumption | exact Below.refl _ _ | exact below_drawn11 (by first | assumption | exact Below.refl _ _) _))).mono ?_
      rintro e w6 ⟨rfl, hx⟩
      go_wp2
      go_ret
      exact ⟨rfl, bthen hb hx⟩
end Go.Proofs.YtgjfjjdljngklaaDoor
