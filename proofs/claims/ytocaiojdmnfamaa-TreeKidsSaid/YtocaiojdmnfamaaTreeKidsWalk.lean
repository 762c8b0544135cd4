/-
  The walk of layer 3's statement TreeKids: it returns true whatever the lines are. No conditions.
-/
import Derived.Test.YtocaiojdmnfamaaTreeHead
namespace Go.Proofs.Ytocaiojdmnfamaa
open Go.RowKit

/-- How many lines have been met, and how many of them have nothing under them. -/
def RelT (w : World) (t : List T.Ln) (g : Nat) (a b x : Value) (wr : World) : Prop :=
  ∃ i : Int, -1 ≤ i ∧ i ≤ t.length ∧ (i + 1).toNat + g = t.length + 1 ∧ x = .int .i64 i ∧ a = .int .i64 ((T.manyL t i : Nat) : Int) ∧ b = .int .i64 ((T.leafN t i.toNat : Nat) : Int) ∧ Below w.heap.size w wr
theorem leaf_up {t : List T.Ln} {i : Int} {V n : Nat} {K : List Nat} (h0 : 0 ≤ i) (hl : i < t.length) (hV : T.leafN t i.toNat = V) (hK : T.kidsL t i = K) (hn : V + (if K.length = 0 then 1 else 0) = n) : T.leafN t (i + 1).toNat = n := by
  obtain ⟨k, rfl⟩ := Int.eq_ofNat_of_zero_le h0
  have e : ((k : Int) + 1).toNat = k + 1 := by omega
  rw [Int.toNat_natCast] at hV
  rw [e, T.leafN_next, hV, ← hn]
  congr 1
  have := T.leaf_iff t k (by omega)
  rw [hK] at this
  by_cases hz : K.length = 0
  · rw [if_pos hz, if_pos (this.2 (List.eq_nil_of_length_eq_zero hz))]
  · rw [if_neg hz, if_neg (fun h => hz (by rw [this.1 h]; rfl))]
theorem leaf_stay {t : List T.Ln} {i : Int} {V : Nat} {K : List Nat} (h1 : -1 ≤ i) (hl : i < t.length) (hV : T.leafN t i.toNat = V) (hK : T.kidsL t i = K) (hn : ¬ K.length = 0) : T.leafN t (i + 1).toNat = V := by
  by_cases h0 : 0 ≤ i
  · exact leaf_up h0 hl hV hK (by rw [if_neg hn]; rfl)
  · rw [← hV]; congr 1; omega
set_option maxRecDepth 100000 in
set_option maxHeartbeats 1000000 in
theorem treeKids_walk (w : World) (A : Option Addr) (c : Nat) (t : List T.Ln) (_hc : t.length ≤ c) (hA : Seen eL w A t) (hl : t.length ≤ maxLen) :
    Calls Try.prog 7 #[.slice A t.length c] w (TrueS w) := by
  unfold maxLen at hl
  have HA := Lib.hid hA
  clear hA
  have hb : Below w.heap.size w w := Below.refl _ _
  go_enter Try.func7, Try.ntmps7
  go_wp2_with fail
  refine (small_is A c t _ (HA.out.below hb)).mono ?_
  rintro e wx1 ⟨bs, rfl, hsm, hx⟩
  replace hb := bthen hb hx
  clear hx
  cases bs with
  | false =>
    clear hsm
    go_wp2_with fail
    refine (awake_any _).mono ?_
    rintro e wz ⟨rfl, hx⟩
    go_wp2
    go_ret
    exact ⟨rfl, bthen hb hx⟩
  | true =>
    replace hsm := hsm rfl
    have hll : t.length ≤ 1073741824 := by omega
    by_cases h60 : t.length ≤ 60
    · have b60 : decide ((60 : Int) < (t.length : Int)) = false := decide_eq_false (by omega)
      by_cases hR : T.RightT t
      · have HR := Lib.hid hR
        clear hR
        go_wp2_with fail
        refine (rightR_is A c t true _ (HA.out.below hb) hll (yes_iff HR.out)).mono ?_
        rintro e wx2 ⟨rfl, hx⟩
        replace hb := bthen hb hx
        clear hx
        go_wp2
        go_loopg [3, 4, 5] (t.length + 1) (fun g a b x wr => RelT w t g a b x wr)
        case atStart => exact ⟨-1, by omega, by omega, by omega, rfl, by rw [T.many_none]; rfl, rfl, hb⟩
        case round =>
          clear hb
          obtain ⟨i, hi1, hi2, hg, rfl, rfl, rfl, hb⟩ := hrel
          obtain ⟨go, rfl⟩ : ∃ go : Nat, go = gk := ⟨_, rfl⟩
          have HG := Lib.hid hg
          clear hg
          obtain ⟨M, hM⟩ : ∃ M, T.manyL t i = M := ⟨_, rfl⟩
          obtain ⟨V, hV⟩ : ∃ V, T.leafN t i.toNat = V := ⟨_, rfl⟩
          have hMl : M ≤ t.length := by rw [← hM]; exact T.filter_len _ _
          have hVl : V ≤ t.length := by rw [← hV]; exact Nat.le_trans (T.filter_len _ _) (by omega)
          rw [hM, hV]
          by_cases hlt : i < t.length
          · have blt : decide (i < (t.length : Int)) = true := decide_eq_true hlt
            obtain ⟨K, hK⟩ : ∃ K, T.kidsL t i = K := ⟨_, rfl⟩
            have hKl : K.length ≤ t.length := by rw [← hK]; exact T.filter_len _ _
            have HMN := Lib.hid (show T.manyL t (i + 1) = M + K.length by rw [T.many_next, hM, hK])
            have hMK : M + K.length ≤ t.length := by rw [← HMN.out]; exact T.filter_len _ _
            have HK := Lib.hid hK
            have HM := Lib.hid hM
            have HV := Lib.hid hV
            have HKm := Lib.hid (show ∀ m ∈ K, m < t.length ∧ T.underL t m = i from fun m hm => (T.mem_kids t i m).1 (by rw [hK]; exact hm))
            clear hK hM hV
            by_cases hK0 : K.length = 0
            · have bK : ((K.length : Int) == 0) = true := beq_iff_eq.2 (by omega)
              by_cases hi0 : 0 ≤ i
              · have bi : decide ((0 : Int) ≤ i) = true := decide_eq_true hi0
                have HVN := Lib.hid (leaf_up (show 0 ≤ i from hi0) hlt HV.out HK.out (by rw [if_pos hK0]))
                clear hK0
                go_wp2_with fail
                refine (kids_is A c t i K _ (HA.out.below hb) hll hi1 hlt HR.out HK.out).mono ?_
                rintro e wx3 ⟨B3, cap3, rfl, hcap3, hseen, hx⟩
                have HS := Lib.hid hseen
                clear hseen
                replace hb := bthen hb hx
                clear hx
                go_wp2
                go_loopg [47] K.length (fun g x wr => ∃ j : Nat, Hid (j + g = K.length) ∧ j ≤ K.length ∧ x = .int .i64 j ∧ Hid (Seen eI wr B3 K) ∧ Below w.heap.size w wr)
                case atStart => exact ⟨0, Nat.zero_add _, Nat.zero_le _, rfl, HS, hb⟩
                case round =>
                  clear hb HS
                  obtain ⟨j, HJ, hj, rfl, HS, hb⟩ := hrel
                  by_cases hjl : j < K.length
                  · obtain ⟨kb, ko, rfl, hkb, hKL⟩ := HS.out (by omega)
                    have c1 := hKL.num hjl
                    have hmem := HKm.out _ (List.getElem_mem hjl)
                    obtain ⟨m, hm⟩ : ∃ m, K[j] = m := ⟨_, rfl⟩
                    rw [hm] at c1 hmem
                    obtain ⟨hml, hmu⟩ := hmem
                    have HU := Lib.hid hmu
                    have bm0 : decide ((m : Int) < 0) = false := decide_eq_false (by omega)
                    have bm1 : decide (t.length ≤ m) = false := decide_eq_false (by omega)
                    have bm2 : decide ((t.length : Int) ≤ (m : Int)) = false := decide_eq_false (by omega)
                    clear hm hmu hKL
                    go_wp2_with fail
                    refine (Under_is A c t m i _ (HA.out.below hb) hll hml HR.out HU.out).mono ?_
                    rintro e wx4 ⟨rfl, hx⟩
                    replace HS := Lib.hid (HS.out.below hx)
                    replace hb := bthen hb hx
                    clear hx
                    go_wp2
                    go_roundg (K.length - (j + 1))
                    case rel => exact ⟨j + 1, (by show _ = _; omega), by omega, by go_num, HS, hb⟩
                    case measure => have := HJ.out; omega
                  · obtain rfl : j = K.length := by omega
                    go_wp2
                    go_roundg (go - 1)
                    case rel => exact ⟨i + 1, by omega, by omega, by have := HG.out; omega, by go_num, by rw [HMN.out]; go_num, by rw [HVN.out]; go_num, hb⟩
                    case measure => have := HG.out; omega
              · have bi : decide ((0 : Int) ≤ i) = false := decide_eq_false hi0
                have HVN := Lib.hid (show T.leafN t (i + 1).toNat = V by rw [← HV.out]; congr 1; omega)
                clear hK0
                go_wp2_with fail
                refine (kids_is A c t i K _ (HA.out.below hb) hll hi1 hlt HR.out HK.out).mono ?_
                rintro e wx3 ⟨B3, cap3, rfl, hcap3, hseen, hx⟩
                have HS := Lib.hid hseen
                clear hseen
                replace hb := bthen hb hx
                clear hx
                go_wp2
                go_loopg [47] K.length (fun g x wr => ∃ j : Nat, Hid (j + g = K.length) ∧ j ≤ K.length ∧ x = .int .i64 j ∧ Hid (Seen eI wr B3 K) ∧ Below w.heap.size w wr)
                case atStart => exact ⟨0, Nat.zero_add _, Nat.zero_le _, rfl, HS, hb⟩
                case round =>
                  clear hb HS
                  obtain ⟨j, HJ, hj, rfl, HS, hb⟩ := hrel
                  by_cases hjl : j < K.length
                  · obtain ⟨kb, ko, rfl, hkb, hKL⟩ := HS.out (by omega)
                    have c1 := hKL.num hjl
                    have hmem := HKm.out _ (List.getElem_mem hjl)
                    obtain ⟨m, hm⟩ : ∃ m, K[j] = m := ⟨_, rfl⟩
                    rw [hm] at c1 hmem
                    obtain ⟨hml, hmu⟩ := hmem
                    have HU := Lib.hid hmu
                    have bm0 : decide ((m : Int) < 0) = false := decide_eq_false (by omega)
                    have bm1 : decide (t.length ≤ m) = false := decide_eq_false (by omega)
                    have bm2 : decide ((t.length : Int) ≤ (m : Int)) = false := decide_eq_false (by omega)
                    clear hm hmu hKL
                    go_wp2_with fail
                    refine (Under_is A c t m i _ (HA.out.below hb) hll hml HR.out HU.out).mono ?_
                    rintro e wx4 ⟨rfl, hx⟩
                    replace HS := Lib.hid (HS.out.below hx)
                    replace hb := bthen hb hx
                    clear hx
                    go_wp2
                    go_roundg (K.length - (j + 1))
                    case rel => exact ⟨j + 1, (by show _ = _; omega), by omega, by go_num, HS, hb⟩
                    case measure => have := HJ.out; omega
                  · obtain rfl : j = K.length := by omega
                    go_wp2
                    go_roundg (go - 1)
                    case rel => exact ⟨i + 1, by omega, by omega, by have := HG.out; omega, by go_num, by rw [HMN.out]; go_num, by rw [HVN.out], hb⟩
                    case measure => have := HG.out; omega
            · have bK : ((K.length : Int) == 0) = false := beq_eq_false_iff_ne.2 (by omega)
              have HVN := Lib.hid (leaf_stay hi1 hlt HV.out HK.out hK0)
              clear hK0
              go_wp2_with fail
              refine (kids_is A c t i K _ (HA.out.below hb) hll hi1 hlt HR.out HK.out).mono ?_
              rintro e wx3 ⟨B3, cap3, rfl, hcap3, hseen, hx⟩
              have HS := Lib.hid hseen
              clear hseen
              replace hb := bthen hb hx
              clear hx
              go_wp2
              go_loopg [47] K.length (fun g x wr => ∃ j : Nat, Hid (j + g = K.length) ∧ j ≤ K.length ∧ x = .int .i64 j ∧ Hid (Seen eI wr B3 K) ∧ Below w.heap.size w wr)
              case atStart => exact ⟨0, Nat.zero_add _, Nat.zero_le _, rfl, HS, hb⟩
              case round =>
                clear hb HS
                obtain ⟨j, HJ, hj, rfl, HS, hb⟩ := hrel
                by_cases hjl : j < K.length
                · obtain ⟨kb, ko, rfl, hkb, hKL⟩ := HS.out (by omega)
                  have c1 := hKL.num hjl
                  have hmem := HKm.out _ (List.getElem_mem hjl)
                  obtain ⟨m, hm⟩ : ∃ m, K[j] = m := ⟨_, rfl⟩
                  rw [hm] at c1 hmem
                  obtain ⟨hml, hmu⟩ := hmem
                  have HU := Lib.hid hmu
                  have bm0 : decide ((m : Int) < 0) = false := decide_eq_false (by omega)
                  have bm1 : decide (t.length ≤ m) = false := decide_eq_false (by omega)
                  have bm2 : decide ((t.length : Int) ≤ (m : Int)) = false := decide_eq_false (by omega)
                  clear hm hmu hKL
                  go_wp2_with fail
                  refine (Under_is A c t m i _ (HA.out.below hb) hll hml HR.out HU.out).mono ?_
                  rintro e wx4 ⟨rfl, hx⟩
                  replace HS := Lib.hid (HS.out.below hx)
                  replace hb := bthen hb hx
                  clear hx
                  go_wp2
                  go_roundg (K.length - (j + 1))
                  case rel => exact ⟨j + 1, (by show _ = _; omega), by omega, by go_num, HS, hb⟩
                  case measure => have := HJ.out; omega
                · obtain rfl : j = K.length := by omega
                  go_wp2
                  go_roundg (go - 1)
                  case rel => exact ⟨i + 1, by omega, by omega, by have := HG.out; omega, by go_num, by rw [HMN.out]; go_num, by rw [HVN.out], hb⟩
                  case measure => have := HG.out; omega
          · have blt : decide (i < (t.length : Int)) = false := decide_eq_false hlt
            obtain rfl : i = t.length := by omega
            have hMn : M = t.length := by rw [← hM]; exact T.many_all t
            have hVn : V = (T.leavesL t).length := by rw [← hV, Int.toNat_natCast]; exact T.leafN_all t
            obtain ⟨LL, hLL⟩ : ∃ LL, T.leavesL t = LL := ⟨_, rfl⟩
            rw [hLL] at hVn
            have HLL := Lib.hid hLL
            clear hLL hM hV
            subst hMn
            subst hVn
            go_wp2_with fail
            refine (leaves_is A c t LL _ (HA.out.below hb) hll HR.out HLL.out).mono ?_
            rintro e wx3 ⟨B3, cap3, rfl, hcap3, hseen, hx⟩
            clear hseen
            replace hb := bthen hb hx
            clear hx
            go_wp2_with fail
            refine (awake_any _).mono ?_
            rintro e wz ⟨rfl, hx⟩
            go_wp2
            go_ret
            exact ⟨rfl, bthen hb hx⟩
      · have HR := Lib.hid hR
        clear hR
        go_wp2_with fail
        refine (rightR_is A c t false _ (HA.out.below hb) hll (no_iff HR.out)).mono ?_
        rintro e wx2 ⟨rfl, hx⟩
        replace hb := bthen hb hx
        clear hx
        go_wp2_with fail
        refine (awake_any _).mono ?_
        rintro e wz ⟨rfl, hx⟩
        go_wp2
        go_ret
        exact ⟨rfl, bthen hb hx⟩
    · have b60 : decide ((60 : Int) < (t.length : Int)) = true := decide_eq_true (by omega)
      go_wp2_with fail
      refine (awake_any _).mono ?_
      rintro e wz ⟨rfl, hx⟩
      go_wp2
      go_ret
      exact ⟨rfl, bthen hb hx⟩
end Go.Proofs.Ytocaiojdmnfamaa
