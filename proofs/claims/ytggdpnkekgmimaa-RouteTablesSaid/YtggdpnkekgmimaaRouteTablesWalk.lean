/-
  The walk of layer 15's statement RouteTables, from what route does: it returns true whatever comes in. No conditions.
-/
import Derived.Test.YtggdpnkekgmimaaBase5
namespace Go.Proofs.Ytggdpnkekgmimaa
open Go.RowKit
set_option linter.unusedVariables false
set_option linter.unusedSimpArgs false
set_option maxRecDepth 100000 in
set_option maxHeartbeats 16000000 in
theorem routeTables_walk (E : RouteOk) (AW : ∀ w, Calls Try.prog 10 #[] w (TrueS w)) (w : World) (A : Option Addr) (c : Nat) (l : List H.En) (hc : l.length ≤ c) (hNA : NilOk A c) (hA : Seen eEc w A l) (hlA : l.length ≤ maxLen) :
    Calls Try.prog 6 #[.slice A l.length c] w (TrueS w) := by
  unfold maxLen at hlA
  obtain ⟨n, hnA⟩ : ∃ n, l.length = n := ⟨_, rfl⟩
  rw [hnA] at hc hlA ⊢
  have HNA := Lib.hid hnA
  have HA := Lib.hid hA
  have HOA := Lib.hid hNA
  clear hA hnA hNA
  have hb : Below w.heap.size w w := Below.refl _ _
  go_enter Try.func6, Try.ntmps6
  go_wp2_with fail
  refine (few15 A c n l _ HNA.out HA.out (by omega)).mono ?_
  rintro e wx1 ⟨bs, rfl, hsm, hx⟩
  replace HA := Lib.hid (HA.out.below hx)
  replace hb := bthen hb hx
  clear hx
  cases bs with
  | false =>
    clear hsm
    go_wp2_with fail
    refine (AW _).mono ?_
    rintro e wz ⟨rfl, hx⟩
    go_wp2
    go_ret
    exact ⟨rfl, bthen hb hx⟩
  | true =>
    obtain ⟨h60, hfit⟩ := hsm rfl
    have HF := Lib.hid hfit
    replace HA := Lib.hid (show EArg wx1 A c n l from ⟨HNA.out, by omega, hfit, hc, HA.out⟩)
    clear hsm hfit
    go_wp2
    go_loopg [3, 4, 5, 6, 7, 8, 9, 11, 18] n (fun g v3 v4 v5 v6 v7 v8 v9 v11 vi wr => ∃ k : Nat, Hid (k + g = n) ∧ vi = .int .i64 (k : Int) ∧ Hid (Below wx1.heap.size wx1 wr))
    case atStart => exact ⟨0, Nat.zero_add _, rfl, Below.refl _ _⟩
    case round =>
      obtain ⟨k, HGK, rfl, HB⟩ := hrel
      have hgk := HGK.out
      by_cases hlt : k < n
      · have blt : decide ((k : Int) < (n : Int)) = true := decide_eq_true (by omega)
        have blt2 : decide (k < n) = true := decide_eq_true hlt
        have hkz : (k : Int) < (n : Int) := by omega
        have hkl : k < l.length := by rw [HNA.out]; exact hlt
        have HAK := Lib.hid (earg_below HA.out HB.out)
        obtain ⟨b, o, rfl, hwb, hL⟩ := HA.out.seen (by omega)
        obtain ⟨l0, l1, l2, l3⟩ := (hL.below HB.out hwb).entry rfl rfl hkl
        have HXM := Lib.hid (List.getElem_mem hkl)
        have HFX := Lib.hid (HF.out l[k] (List.getElem_mem hkl))
        have HMR := Lib.hid (O.mem_rules (h := l[k].host) hkl)
        generalize l[k] = x at l0 l1 l2 l3 HXM HFX HMR
        obtain ⟨xh, xk, xy, xv⟩ := x
        simp only at l0 l1 l2 l3 HMR
        have HEX := Lib.hid (ent_laid wr xh xk xy xv)
        obtain ⟨y0, y1, y2, y3⟩ := (ent_laid wr xh xk xy xv).cells
        have hup := up wr (.cells #[.string (sB xh), .int .i64 xk, .string (sB xy), .string (sB xv)] 26)
        have HUP := Lib.hid hup
        obtain ⟨pn, pb, hpf⟩ : ∃ pn pb, N.prefL xy = (pn, pb) := ⟨_, _, rfl⟩
        have HPF := Lib.hid hpf
        have hpi : Int64 pn := by
          unfold Int64
          rcases N.pref_cases xy with k2 | ⟨a, b, k2, _, k3, _, _⟩
          · rw [k2] at hpf; have := congrArg Prod.fst hpf; simp only at this; omega
          · rw [k2] at hpf; have := congrArg Prod.fst hpf; simp only at this; omega
        have HPI := Lib.hid hpi
        obtain ⟨R, hR⟩ : ∃ z, O.rulesL l xh = z := ⟨_, rfl⟩
        rw [hR] at HMR
        have HRR := Lib.hid hR
        obtain ⟨rn, hrn⟩ : ∃ z, R.length = z := ⟨_, rfl⟩
        have HRN := Lib.hid hrn
        have hrn60 : rn ≤ 60000 := by
          rw [← hrn, ← hR, O.rules_len]
          exact O.rules_few HNA.out h60
        obtain ⟨nr, hnr⟩ : ∃ z, O.numE xh ⟨xh, xk, xy, xv⟩ = z := ⟨_, rfl⟩
        rw [hnr] at HMR
        have HNR := Lib.hid hnr
        clear hL hpf hpi hR hrn hnr hup
        go_wp2_with fail
        refine (pref15 xy pn pb _ (Nat.le_trans HFX.out.2.1 (by omega)) HPF.out).mono ?_
        rintro e w3 ⟨rfl, hx3⟩
        have HE3 := Lib.hid (ent_below HEX.out hx3)
        obtain ⟨z0, z1, z2, z3⟩ := (ent_below HEX.out hx3).cells
        have HB3 := Lib.hid (bthen HUP.out hx3)
        clear hx3 y0 y1 y2 y3 l0 l1 l2 l3
        by_cases e1 : xk = 4 ∧ 0 ≤ pn
        · have HLK := Lib.hid (show O.lookB l xh pn = true by
            have h1 := O.own_first (e := ⟨xh, xk, xy, xv⟩) (h := xh) rfl e1.1 (by simp only []; rw [HPF.out]; exact e1.2)
            simp only [] at h1
            rw [HPF.out] at h1
            exact O.look_ok HXM.out h1)
          have n1 : (xk == 4) = true := by rw [beq_iff_eq]; exact e1.1
          have n2 : decide ((0 : Int) ≤ pn) = true := decide_eq_true e1.2
          clear e1
          go_wp2_with fail
          refine (E.lookupOf _ c n l xh pn _ true _ (earg_below HAK.out HB3.out) HFX.out.1 HPI.out rfl HLK.out).mono ?_
          rintro e w4 ⟨rfl, hx4⟩
          obtain ⟨t0, t1, t2, t3⟩ := (ent_below HE3.out hx4).cells
          have HE4 := Lib.hid (ent_below HE3.out hx4)
          have HB4 := Lib.hid (bthen HB3.out hx4)
          clear hx4 z0 z1 z2 z3
          go_wp2_with fail
          refine (E.rulesOf _ c n rn l xh R _ (earg_below HAK.out HB4.out) HFX.out.1 HRR.out HRN.out).mono ?_
          rintro e w5 ⟨B5, d5, rfl, hd5, hs5, hx5⟩
          have HS5 := Lib.hid hs5
          have HE5 := Lib.hid (ent_below HE4.out hx5)
          have HB5 := Lib.hid (bthen HB4.out hx5)
          clear hs5 hx5 hd5
          go_wp2
          go_loopg [9, 11, 51] rn (fun g2 vb v11 vj w2 => ∃ (j : Nat) (q : Bool), Hid (j + g2 = rn) ∧ vj = .int .i64 (j : Int) ∧ vb = .bool q ∧ Hid (q = decide (k ∈ R.take j)) ∧ Hid (Below w5.heap.size w5 w2))
          case atStart => exact ⟨0, false, Nat.zero_add _, rfl, rfl, (by show _ = _; simp), Below.refl _ _⟩
          case round =>
            obtain ⟨j, q, HGJ, rfl, rfl, HQ, HBJ⟩ := hrel
            have hgj := HGJ.out
            by_cases hlj : j < rn
            · have blj : decide ((j : Int) < (rn : Int)) = true := decide_eq_true (by omega)
              have blj2 : decide (j < rn) = true := decide_eq_true hlj
              have hjz : (j : Int) < (rn : Int) := by omega
              have hjR : j < R.length := by rw [HRN.out]; exact hlj
              obtain ⟨b5, o5, rfl, hw5, hL5⟩ := HS5.out (by omega)
              have k5 := (hL5.below HBJ.out hw5).num hjR
              have HTK := Lib.hid (List.take_succ_eq_append_getElem hjR)
              generalize R[j] = rj at k5 HTK
              clear hL5
              cases q with
              | true =>
                have HNX := Lib.hid (show true = decide (k ∈ R.take (j + 1)) by rw [HTK.out]; exact (decide_eq_true (List.mem_append_left _ (of_decide_eq_true HQ.out.symm))).symm)
                go_wp2
                go_roundg (rn - (j + 1))
                case rel => exact ⟨j + 1, true, (by show _ = _; omega), by go_num, rfl, HNX.out, HBJ.out⟩
                case measure => omega
              | false =>
                by_cases e5 : rj = k
                · have n5 : ((rj : Int) == (k : Int)) = true := by rw [beq_iff_eq]; omega
                  have n6 : (rj == k) = true := by rw [beq_iff_eq]; exact e5
                  have HNX := Lib.hid (show true = decide (k ∈ R.take (j + 1)) by rw [HTK.out, e5]; exact (decide_eq_true (List.mem_append_right _ (List.mem_singleton.2 rfl))).symm)
                  clear e5
                  go_wp2
                  go_roundg (rn - (j + 1))
                  case rel => exact ⟨j + 1, true, (by show _ = _; omega), by go_num, rfl, HNX.out, HBJ.out⟩
                  case measure => omega
                · have n5 : ((rj : Int) == (k : Int)) = false := by rw [beq_eq_false_iff_ne]; omega
                  have n6 : (rj == k) = false := by rw [beq_eq_false_iff_ne]; exact e5
                  have HNX := Lib.hid (show false = decide (k ∈ R.take (j + 1)) by
                    rw [HTK.out]
                    refine (decide_eq_false fun hm => ?_).symm
                    rcases List.mem_append.1 hm with hm | hm
                    · exact of_decide_eq_false HQ.out.symm hm
                    · exact e5 (List.mem_singleton.1 hm).symm)
                  clear e5
                  go_wp2
                  go_roundg (rn - (j + 1))
                  case rel => exact ⟨j + 1, false, (by show _ = _; omega), by go_num, rfl, HNX.out, HBJ.out⟩
                  case measure => omega
            · have blj : decide ((j : Int) < (rn : Int)) = false := decide_eq_false (by omega)
              have blj2 : decide (j < rn) = false := decide_eq_false hlj
              have HQR := Lib.hid (show decide (0 < nr) = q by
                rw [HQ.out, List.take_of_length_le (by rw [HRN.out]; omega)]
                by_cases hm : k ∈ R
                · rw [decide_eq_true hm, decide_eq_true (HMR.out.1 hm)]
                · rw [decide_eq_false hm, decide_eq_false (fun h => hm (HMR.out.2 h))])
              have n7 := HQR.out
              have n8 : (q != q) = false := by simp
              obtain ⟨s0, s1, s2, s3⟩ := (ent_below HE5.out HBJ.out).cells
              have HBZ := Lib.hid (bthen HB5.out HBJ.out)
              clear HQ
              go_wp2_with fail
              refine (numberR15 ⟨xh, xk, xy, xv⟩ xh nr _ HFX.out HNR.out).mono ?_
              rintro e w6 ⟨rfl, hx6⟩
              have HB6 := Lib.hid (HB.out.trans ((bthen HBZ.out hx6).mono HB.out.size))
              clear hx6
              go_wp2
              go_roundg (n - (k + 1))
              case rel => exact ⟨k + 1, (by show _ = _; omega), by go_num, HB6.out⟩
              case measure => omega
        · have n1 : (xk == 4) = false ∨ ((xk == 4) = true ∧ decide ((0 : Int) ≤ pn) = false) := by
            by_cases h4 : xk = 4
            · exact .inr ⟨by rw [beq_iff_eq]; exact h4, decide_eq_false fun h => e1 ⟨h4, h⟩⟩
            · exact .inl (by rw [beq_eq_false_iff_ne]; exact h4)
          clear e1
          rcases n1 with n1 | ⟨n1, n2⟩
          · go_wp2_with fail
            refine (E.rulesOf _ c n rn l xh R _ (earg_below HAK.out HB3.out) HFX.out.1 HRR.out HRN.out).mono ?_
            rintro e w5 ⟨B5, d5, rfl, hd5, hs5, hx5⟩
            have HS5 := Lib.hid hs5
            have HE5 := Lib.hid (ent_below HE3.out hx5)
            have HB5 := Lib.hid (bthen HB3.out hx5)
            clear hs5 hx5 hd5
            go_wp2
            go_loopg [9, 11, 51] rn (fun g2 vb v11 vj w2 => ∃ (j : Nat) (q : Bool), Hid (j + g2 = rn) ∧ vj = .int .i64 (j : Int) ∧ vb = .bool q ∧ Hid (q = decide (k ∈ R.take j)) ∧ Hid (Below w5.heap.size w5 w2))
            case atStart => exact ⟨0, false, Nat.zero_add _, rfl, rfl, (by show _ = _; simp), Below.refl _ _⟩
            case round =>
              obtain ⟨j, q, HGJ, rfl, rfl, HQ, HBJ⟩ := hrel
              have hgj := HGJ.out
              by_cases hlj : j < rn
              · have blj : decide ((j : Int) < (rn : Int)) = true := decide_eq_true (by omega)
                have blj2 : decide (j < rn) = true := decide_eq_true hlj
                have hjz : (j : Int) < (rn : Int) := by omega
                have hjR : j < R.length := by rw [HRN.out]; exact hlj
                obtain ⟨b5, o5, rfl, hw5, hL5⟩ := HS5.out (by omega)
                have k5 := (hL5.below HBJ.out hw5).num hjR
                have HTK := Lib.hid (List.take_succ_eq_append_getElem hjR)
                generalize R[j] = rj at k5 HTK
                clear hL5
                cases q with
                | true =>
                  have HNX := Lib.hid (show true = decide (k ∈ R.take (j + 1)) by rw [HTK.out]; exact (decide_eq_true (List.mem_append_left _ (of_decide_eq_true HQ.out.symm))).symm)
                  go_wp2
                  go_roundg (rn - (j + 1))
                  case rel => exact ⟨j + 1, true, (by show _ = _; omega), by go_num, rfl, HNX.out, HBJ.out⟩
                  case measure => omega
                | false =>
                  by_cases e5 : rj = k
                  · have n5 : ((rj : Int) == (k : Int)) = true := by rw [beq_iff_eq]; omega
                    have n6 : (rj == k) = true := by rw [beq_iff_eq]; exact e5
                    have HNX := Lib.hid (show true = decide (k ∈ R.take (j + 1)) by rw [HTK.out, e5]; exact (decide_eq_true (List.mem_append_right _ (List.mem_singleton.2 rfl))).symm)
                    clear e5
                    go_wp2
                    go_roundg (rn - (j + 1))
                    case rel => exact ⟨j + 1, true, (by show _ = _; omega), by go_num, rfl, HNX.out, HBJ.out⟩
                    case measure => omega
                  · have n5 : ((rj : Int) == (k : Int)) = false := by rw [beq_eq_false_iff_ne]; omega
                    have n6 : (rj == k) = false := by rw [beq_eq_false_iff_ne]; exact e5
                    have HNX := Lib.hid (show false = decide (k ∈ R.take (j + 1)) by
                      rw [HTK.out]
                      refine (decide_eq_false fun hm => ?_).symm
                      rcases List.mem_append.1 hm with hm | hm
                      · exact of_decide_eq_false HQ.out.symm hm
                      · exact e5 (List.mem_singleton.1 hm).symm)
                    clear e5
                    go_wp2
                    go_roundg (rn - (j + 1))
                    case rel => exact ⟨j + 1, false, (by show _ = _; omega), by go_num, rfl, HNX.out, HBJ.out⟩
                    case measure => omega
              · have blj : decide ((j : Int) < (rn : Int)) = false := decide_eq_false (by omega)
                have blj2 : decide (j < rn) = false := decide_eq_false hlj
                have HQR := Lib.hid (show decide (0 < nr) = q by
                  rw [HQ.out, List.take_of_length_le (by rw [HRN.out]; omega)]
                  by_cases hm : k ∈ R
                  · rw [decide_eq_true hm, decide_eq_true (HMR.out.1 hm)]
                  · rw [decide_eq_false hm, decide_eq_false (fun h => hm (HMR.out.2 h))])
                have n7 := HQR.out
                have n8 : (q != q) = false := by simp
                obtain ⟨s0, s1, s2, s3⟩ := (ent_below HE5.out HBJ.out).cells
                have HBZ := Lib.hid (bthen HB5.out HBJ.out)
                clear HQ
                go_wp2_with fail
                refine (numberR15 ⟨xh, xk, xy, xv⟩ xh nr _ HFX.out HNR.out).mono ?_
                rintro e w6 ⟨rfl, hx6⟩
                have HB6 := Lib.hid (HB.out.trans ((bthen HBZ.out hx6).mono HB.out.size))
                clear hx6
                go_wp2
                go_roundg (n - (k + 1))
                case rel => exact ⟨k + 1, (by show _ = _; omega), by go_num, HB6.out⟩
                case measure => omega
          · go_wp2_with fail
            refine (E.rulesOf _ c n rn l xh R _ (earg_below HAK.out HB3.out) HFX.out.1 HRR.out HRN.out).mono ?_
            rintro e w5 ⟨B5, d5, rfl, hd5, hs5, hx5⟩
            have HS5 := Lib.hid hs5
            have HE5 := Lib.hid (ent_below HE3.out hx5)
            have HB5 := Lib.hid (bthen HB3.out hx5)
            clear hs5 hx5 hd5
            go_wp2
            go_loopg [9, 11, 51] rn (fun g2 vb v11 vj w2 => ∃ (j : Nat) (q : Bool), Hid (j + g2 = rn) ∧ vj = .int .i64 (j : Int) ∧ vb = .bool q ∧ Hid (q = decide (k ∈ R.take j)) ∧ Hid (Below w5.heap.size w5 w2))
            case atStart => exact ⟨0, false, Nat.zero_add _, rfl, rfl, (by show _ = _; simp), Below.refl _ _⟩
            case round =>
              obtain ⟨j, q, HGJ, rfl, rfl, HQ, HBJ⟩ := hrel
              have hgj := HGJ.out
              by_cases hlj : j < rn
              · have blj : decide ((j : Int) < (rn : Int)) = true := decide_eq_true (by omega)
                have blj2 : decide (j < rn) = true := decide_eq_true hlj
                have hjz : (j : Int) < (rn : Int) := by omega
                have hjR : j < R.length := by rw [HRN.out]; exact hlj
                obtain ⟨b5, o5, rfl, hw5, hL5⟩ := HS5.out (by omega)
                have k5 := (hL5.below HBJ.out hw5).num hjR
                have HTK := Lib.hid (List.take_succ_eq_append_getElem hjR)
                generalize R[j] = rj at k5 HTK
                clear hL5
                cases q with
                | true =>
                  have HNX := Lib.hid (show true = decide (k ∈ R.take (j + 1)) by rw [HTK.out]; exact (decide_eq_true (List.mem_append_left _ (of_decide_eq_true HQ.out.symm))).symm)
                  go_wp2
                  go_roundg (rn - (j + 1))
                  case rel => exact ⟨j + 1, true, (by show _ = _; omega), by go_num, rfl, HNX.out, HBJ.out⟩
                  case measure => omega
                | false =>
                  by_cases e5 : rj = k
                  · have n5 : ((rj : Int) == (k : Int)) = true := by rw [beq_iff_eq]; omega
                    have n6 : (rj == k) = true := by rw [beq_iff_eq]; exact e5
                    have HNX := Lib.hid (show true = decide (k ∈ R.take (j + 1)) by rw [HTK.out, e5]; exact (decide_eq_true (List.mem_append_right _ (List.mem_singleton.2 rfl))).symm)
                    clear e5
                    go_wp2
                    go_roundg (rn - (j + 1))
                    case rel => exact ⟨j + 1, true, (by show _ = _; omega), by go_num, rfl, HNX.out, HBJ.out⟩
                    case measure => omega
                  · have n5 : ((rj : Int) == (k : Int)) = false := by rw [beq_eq_false_iff_ne]; omega
                    have n6 : (rj == k) = false := by rw [beq_eq_false_iff_ne]; exact e5
                    have HNX := Lib.hid (show false = decide (k ∈ R.take (j + 1)) by
                      rw [HTK.out]
                      refine (decide_eq_false fun hm => ?_).symm
                      rcases List.mem_append.1 hm with hm | hm
                      · exact of_decide_eq_false HQ.out.symm hm
                      · exact e5 (List.mem_singleton.1 hm).symm)
                    clear e5
                    go_wp2
                    go_roundg (rn - (j + 1))
                    case rel => exact ⟨j + 1, false, (by show _ = _; omega), by go_num, rfl, HNX.out, HBJ.out⟩
                    case measure => omega
              · have blj : decide ((j : Int) < (rn : Int)) = false := decide_eq_false (by omega)
                have blj2 : decide (j < rn) = false := decide_eq_false hlj
                have HQR := Lib.hid (show decide (0 < nr) = q by
                  rw [HQ.out, List.take_of_length_le (by rw [HRN.out]; omega)]
                  by_cases hm : k ∈ R
                  · rw [decide_eq_true hm, decide_eq_true (HMR.out.1 hm)]
                  · rw [decide_eq_false hm, decide_eq_false (fun h => hm (HMR.out.2 h))])
                have n7 := HQR.out
                have n8 : (q != q) = false := by simp
                obtain ⟨s0, s1, s2, s3⟩ := (ent_below HE5.out HBJ.out).cells
                have HBZ := Lib.hid (bthen HB5.out HBJ.out)
                clear HQ
                go_wp2_with fail
                refine (numberR15 ⟨xh, xk, xy, xv⟩ xh nr _ HFX.out HNR.out).mono ?_
                rintro e w6 ⟨rfl, hx6⟩
                have HB6 := Lib.hid (HB.out.trans ((bthen HBZ.out hx6).mono HB.out.size))
                clear hx6
                go_wp2
                go_roundg (n - (k + 1))
                case rel => exact ⟨k + 1, (by show _ = _; omega), by go_num, HB6.out⟩
                case measure => omega
      · have blt : decide ((k : Int) < (n : Int)) = false := decide_eq_false (by omega)
        have blt2 : decide (k < n) = false := decide_eq_false hlt
        go_wp2_with fail
        refine (AW _).mono ?_
        rintro e wy ⟨rfl, hx⟩
        go_wp2
        go_ret
        exact ⟨rfl, bthen (bthen hb HB.out) hx⟩
end Go.Proofs.Ytggdpnkekgmimaa
