/-
  The walk of layer 13's statement SchemaLess, from what schema does: it returns true whatever comes in. No conditions.
-/
import Derived.Test.YtikjdjfpoohieaaDoorBase11
namespace Go.Proofs.YtikjdjfpoohieaaDoor
open Go.RowKit
set_option linter.unusedVariables false

set_option maxRecDepth 100000 in
set_option maxHeartbeats 8000000 in
theorem schemaLess_walk (E : SchemaOk) (AW : ∀ w, RowsOk w → Calls Tryd.prog 11 #[] w (TrueS w)) (w : World) (HTAB : RowsOk w) (A : Option Addr) (c : Nat) (t : List T.Ln) (hc : t.length ≤ c) (hA : Seen eL w A t) (hlA : t.length ≤ maxLen) (hNA : NilOk A c) :
    Calls Tryd.prog 8 #[.slice A t.length c] w (TrueS w) := by
  have TAB := Lib.hid HTAB
  clear HTAB
  unfold maxLen at hlA
  obtain ⟨n, hnA⟩ : ∃ n, t.length = n := ⟨_, rfl⟩
  rw [hnA] at hc hlA ⊢
  have HNA := Lib.hid hnA
  have HA := Lib.hid hA
  have HOA := Lib.hid hNA
  clear hA hnA hNA
  have hb : Below w.heap.size w w := Below.refl _ _
  go_enter Tryd.func8, Tryd.ntmps8
  go_wp2_with fail
  refine (few13 A c n t _ HNA.out HA.out).mono ?_
  rintro e wx1 ⟨bs, rfl, hsm, hx⟩
  replace HA := Lib.hid (HA.out.below hx)
  replace hb := bthen hb hx
  clear hx
  cases bs with
  | false =>
    clear hsm
    go_wp2_with fail
    refine (AW _ (rowsAt TAB (by first | assumption | exact Below.refl _ _ | exact bthen (by assumption) (by assumption) | exact below_drawn13 (by first | assumption | exact Below.refl _ _) _))).mono ?_
    rintro e wz ⟨rfl, hx⟩
    go_wp2
    go_ret
    exact ⟨rfl, bthen hb hx⟩
  | true =>
  have hn60 : n ≤ 60 := hsm rfl
  clear hsm
  replace HA := Lib.hid (LArgS.mk HNA.out (by omega) hc HOA.out HA.out)
  by_cases hR : T.RightT t
  · have HR := Lib.hid hR
    clear hR
    go_wp2_with fail
    refine (right13 A c n t true _ HNA.out HA.out.seen (by omega) (yes_iff HR.out)).mono ?_
    rintro e wx2 ⟨rfl, hx⟩
    replace HA := Lib.hid (HA.out.below hx)
    replace hb := bthen hb hx
    clear hx
    obtain ⟨L, hL⟩ : ∃ L, C.checkP (C.pths t) = L := ⟨_, rfl⟩
    have HI := Lib.hid (show CheckIs t L 0 from .inl ⟨HR.out, hL.symm, rfl⟩)
    have HLC := Lib.hid hL
    obtain ⟨m, hm⟩ : ∃ m, L.length = m := ⟨_, rfl⟩
    have HM := Lib.hid hm
    clear hm hL
    go_wp2_with fail
    refine (E.checkOf A c n m t L 0 _ HA.out HI.out HM.out (rowsAt TAB (by first | assumption | exact Below.refl _ _ | exact bthen (by assumption) (by assumption) | exact below_drawn13 (by first | assumption | exact Below.refl _ _) _))).mono ?_
    rintro e wx3 ⟨B, d, rfl, hmf, hx⟩
    replace HA := Lib.hid (HA.out.below hx)
    replace hb := bthen hb hx
    clear hx hmf
    by_cases hm0 : 0 < m
    · have d1 : decide ((m : Int) > 0) = true := decide_eq_true (by omega)
      have d1a : decide ((0 : Int) < (m : Int)) = true := decide_eq_true (by omega)
      have d1b : decide (0 < m) = true := decide_eq_true hm0
      go_wp2_with fail
      refine (AW _ (rowsAt TAB (by first | assumption | exact Below.refl _ _ | exact bthen (by assumption) (by assumption) | exact below_drawn13 (by first | assumption | exact Below.refl _ _) _))).mono ?_
      rintro e wz ⟨rfl, hx⟩
      go_wp2
      go_ret
      exact ⟨rfl, bthen hb hx⟩
    obtain rfl : m = 0 := by omega
    have HL0 := Lib.hid (show C.checkP (C.pths t) = [] by rw [HLC.out]; exact List.eq_nil_of_length_eq_zero HM.out)
    obtain ⟨kp, hkp⟩ : ∃ k : C.Wd → Bool, k = fun a => !(a == C.wPolicy) && !(a == C.wRoutes) := ⟨_, rfl⟩
    have HKP := Lib.hid hkp
    clear hm0 hkp
    go_wp2
    go_loopg [5, 39] n (fun gk vo vi wr => ∃ k : Nat, Hid (k + gk = n) ∧ k ≤ n ∧ vi = .int .i64 (k : Int) ∧ Hid (Own eL wr wx3.heap.size vo (C.keepTo kp t k)) ∧ Below wx3.heap.size wx3 wr)
    case atStart => exact ⟨0, Nat.zero_add _, Nat.zero_le _, rfl, Own.nil _ _, Below.refl _ _⟩
    case round =>
      obtain ⟨k, HG, hk, rfl, HO, hbr⟩ := hrel
      have hgk := HG.out
      by_cases hlt : k < n
      · have blt : decide ((k : Int) < (n : Int)) = true := decide_eq_true (by omega)
        have blt2 : decide (k < n) = true := decide_eq_true hlt
        have hki : (k : Int) < (n : Int) := by omega
        have hkt : k < t.length := by rw [HNA.out]; exact hlt
        obtain ⟨b, o, hAe, hbw, hL⟩ := HA.out.seen.lines (by omega)
        have HAS := Lib.hid HA.out.seen
        subst hAe
        obtain ⟨c0, c1, c2⟩ := (hL.below hbr hbw).line hkt
        obtain ⟨dd, hdd⟩ : ∃ x, T.dp t k = x := ⟨_, rfl⟩
        obtain ⟨ww, hww⟩ : ∃ x, T.wd t k = x := ⟨_, rfl⟩
        obtain ⟨mm, hmm⟩ : ∃ x, (T.at_ t k).mark = x := ⟨_, rfl⟩
        have hln : T.at_ t k = ⟨dd, ww, mm⟩ := by rw [← hdd, ← hww, ← hmm]; rfl
        rw [hdd] at c0
        rw [hww] at c1
        rw [hmm] at c2
        have hb2 := up wr (.cells #[.int .i64 dd, .string (sB ww), .int .i64 mm] 42)
        have HO2 := Lib.hid (HO.out.keep hb2)
        have HB2 := Lib.hid (bthen hbr hb2)
        have HL2 := Lib.hid (LineAt.laid wr ⟨dd, ww, mm⟩)
        have hlp : (T.pathL t k).length ≤ 17 := by
          have h1 := HR.out.path_len k k (Nat.le_refl _) hkt
          have h2 := HR.out.deep k hkt
          omega
        have HNX0 := Lib.hid (C.keep_next kp t k)
        have HLN := Lib.hid (show (C.keepTo kp t k).length + 1 ≤ 1099511627776 by
          unfold C.keepTo
          rw [List.length_map]
          have := List.length_filter_le (fun j => C.keepH kp (T.pathL t j)) (List.range k)
          rw [List.length_range] at this
          omega)
        clear hdd hww hmm hL hb2
        go_wp2_with fail
        refine (pathN13 (some ⟨b, o, none⟩) c n t k _ HNA.out (HAS.out.below HB2.out) hlt (by omega) HR.out).mono ?_
        rintro e w2 ⟨B2, d2, rfl, hd2, hs2, _, hx⟩
        obtain ⟨p, hp⟩ : ∃ p, T.pathL t k = p := ⟨_, rfl⟩
        rw [hp] at hd2 hs2 hlp HNX0 ⊢
        have hne : p ≠ [] := by rw [← hp]; exact T.path_ne
        obtain ⟨np, hnp⟩ : ∃ np, p.length = np := ⟨_, rfl⟩
        have hnp0 : (0 : Int) < (np : Int) := by have := List.length_pos_iff.2 hne; omega
        rw [hnp] at hd2 ⊢
        obtain ⟨x, rest, rfl⟩ : ∃ x rest, p = x :: rest := by
          cases p with
          | nil => exact absurd rfl hne
          | cons x rest => exact ⟨x, rest, rfl⟩
        obtain ⟨b3, o3, rfl, hw3, hL3⟩ := hs2 (by simp)
        have e0 : w2.cell? ⟨b3, o3, none⟩ = some (.string (sB x)) := cellS hL3 (i := 0) rfl
        have HO3 := Lib.hid (HO2.out.keep hx)
        have HB3 := Lib.hid (bthen HB2.out hx)
        have LL : LineAt w2 wr.heap.size ⟨dd, ww, mm⟩ := HL2.out.below hx
        obtain ⟨y0, y1, y2⟩ := LL.cells
        have y0 : w2.cell? ⟨wr.heap.size, 0, none⟩ = some (.int .i64 dd) := y0
        have y1 : w2.cell? ⟨wr.heap.size, 1, none⟩ = some (.string (sB ww)) := y1
        have y2 : w2.cell? ⟨wr.heap.size, 2, none⟩ = some (.int .i64 mm) := y2
        have hsz := HB3.out.size
        clear hx hs2 hp hne hnp hL3 LL hlp
        by_cases g1 : x = C.wPolicy
        · have q1 : ((sB x).toList == [112, 111, 108, 105, 99, 121]) = true := by rw [sB_toList, beq_iff_eq]; exact g1
          have q1b : ((sB x).toList != [112, 111, 108, 105, 99, 121]) = false := by unfold bne; rw [q1]; rfl
          have HE := Lib.hid (show C.keepTo kp t (k + 1) = C.keepTo kp t k by
            rw [HNX0.out, if_neg, List.append_nil]
            rw [HKP.out]; show ¬ (!(x == C.wPolicy) && _) = true
            rw [g1]; decide)
          clear g1
          go_wp2
          go_roundg (n - (k + 1))
          case rel => exact ⟨k + 1, (by show _ = _; omega), by omega, by go_num, (by rw [HE.out]; exact HO3.out), HB3.out⟩
          case measure => omega
        · have q1 : ((sB x).toList == [112, 111, 108, 105, 99, 121]) = false := by rw [sB_toList, beq_eq_false_iff_ne]; exact g1
          have q1b : ((sB x).toList != [112, 111, 108, 105, 99, 121]) = true := by unfold bne; rw [q1]; rfl
          by_cases g2 : x = C.wRoutes
          · have q2 : ((sB x).toList == [114, 111, 117, 116, 101, 115]) = true := by rw [sB_toList, beq_iff_eq]; exact g2
            have q2b : ((sB x).toList != [114, 111, 117, 116, 101, 115]) = false := by unfold bne; rw [q2]; rfl
            have HE := Lib.hid (show C.keepTo kp t (k + 1) = C.keepTo kp t k by
              rw [HNX0.out, if_neg, List.append_nil]
              rw [HKP.out]; show ¬ (_ && !(x == C.wRoutes)) = true
              rw [g2]; decide)
            clear g1 g2
            go_wp2
            go_roundg (n - (k + 1))
            case rel => exact ⟨k + 1, (by show _ = _; omega), by omega, by go_num, (by rw [HE.out]; exact HO3.out), HB3.out⟩
            case measure => omega
          · have q2 : ((sB x).toList == [114, 111, 117, 116, 101, 115]) = false := by rw [sB_toList, beq_eq_false_iff_ne]; exact g2
            have q2b : ((sB x).toList != [114, 111, 117, 116, 101, 115]) = true := by unfold bne; rw [q2]; rfl
            have HE := Lib.hid (show C.keepTo kp t (k + 1) = C.keepTo kp t k ++ [⟨dd, ww, mm⟩] by
              rw [HNX0.out, if_pos, hln]
              rw [HKP.out]; show (!(x == C.wPolicy) && !(x == C.wRoutes)) = true
              rw [beq_eq_false_iff_ne.2 g1, beq_eq_false_iff_ne.2 g2]; rfl)
            clear g1 g2
            go_wp2_with (at_builtin; refine wpList_appG eL w2 rfl (.tmp 55) (.tmp 57) rfl wx3.heap.size u5 (C.keepTo kp t k) rfl HO3.out ⟨dd, ww, mm⟩ 1 _ rfl w2.heap.size rfl rfl HLN.out hsz ?_; intro v5 w5 hown5 hb5)
            go_roundg (n - (k + 1))
            case rel => exact ⟨k + 1, (by show _ = _; omega), by omega, by go_num, (by rw [HE.out]; exact hown5), HB3.out.trans hb5⟩
            case measure => omega
      · have blt : decide ((k : Int) < (n : Int)) = false := decide_eq_false (by omega)
        have blt2 : decide (k < n) = false := decide_eq_false hlt
        obtain ⟨u, hu⟩ : ∃ u, C.keepL kp t = u := ⟨_, rfl⟩
        have hE : C.keepTo kp t k = u := by rw [show k = t.length by rw [HNA.out]; omega]; exact hu
        have hlu : u.length ≤ n := by
          rw [← hu]; unfold C.keepL C.keepTo
          rw [List.length_map]
          have := List.length_filter_le (fun j => C.keepH kp (T.pathL t j)) (List.range t.length)
          rw [List.length_range] at this
          exact Nat.le_trans this (Nat.le_of_eq HNA.out)
        have HIU := Lib.hid (show CheckIs u [] 0 from .inl ⟨by rw [← hu]; exact C.keep_right HR.out kp, by
          rw [← hu, C.keep_pths HR.out kp]
          exact (C.check_none (by rw [HKP.out]; decide) (by rw [HKP.out]; decide) HL0.out).symm, rfl⟩)
        obtain ⟨nu, hnu⟩ : ∃ nu, u.length = nu := ⟨_, rfl⟩
        obtain ⟨Bu, du, rfl, hau⟩ := own_arg (n := nu) (by rw [← hE]; exact HO.out) hnu (by omega)
        have HAU := Lib.hid hau
        replace hb := bthen hb hbr
        clear hau hbr HO hE hlu hu hnu
        go_wp2_with fail
        refine (E.checkOf Bu du nu 0 u [] 0 _ HAU.out HIU.out rfl (rowsAt TAB (by first | assumption | exact Below.refl _ _ | exact bthen (by assumption) (by assumption) | exact below_drawn13 (by first | assumption | exact Below.refl _ _) _))).mono ?_
        rintro e wx4 ⟨B2, d2, rfl, hmf, hx⟩
        replace hb := bthen hb hx
        clear hx hmf
        go_wp2_with fail
        refine (AW _ (rowsAt TAB (by first | assumption | exact Below.refl _ _ | exact bthen (by assumption) (by assumption) | exact below_drawn13 (by first | assumption | exact Below.refl _ _) _))).mono ?_
        rintro e wz ⟨rfl, hx⟩
        go_wp2
        go_ret
        exact ⟨rfl, bthen hb hx⟩
  · have HR := Lib.hid hR
    clear hR
    go_wp2_with fail
    refine (right13 A c n t false _ HNA.out HA.out.seen (by omega) (no_iff HR.out)).mono ?_
    rintro e wx2 ⟨rfl, hx⟩
    replace hb := bthen hb hx
    clear hx
    go_wp2_with fail
    refine (AW _ (rowsAt TAB (by first | assumption | exact Below.refl _ _ | exact bthen (by assumption) (by assumption) | exact below_drawn13 (by first | assumption | exact Below.refl _ _) _))).mono ?_
    rintro e wz ⟨rfl, hx⟩
    go_wp2
    go_ret
    exact ⟨rfl, bthen hb hx⟩
end Go.Proofs.YtikjdjfpoohieaaDoor
