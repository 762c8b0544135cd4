/-
  The document's side of layer 10 (ferryslipref10), last: Prefix. Condition: texts of at most 2^30 bytes.
  The document's side of layer 10 (ferryslipref10), last: MAC. Condition: texts of at most 2^30 bytes.
  Layer 11, plain laws: IEEE 754's words of 64 bits: what a word stands for, in whole multiples of the least number; their order. No conditions.
  Layer 11, plain laws: rounding: the word nearest to a number; how far off it is. No conditions.
  Layer 11, plain laws: thousandths: a whole number as a float64, and divided by 1000. No conditions.
  Layer 11: float64's operations, as the model runs them: a result that is no number is some such one, and one draw is made; 1 / 0; sums. No conditions.
  The document's Nan, Rank, Ahead, Same of layer 11, on any words of 64 bits. No conditions.
  Plain laws for layer 11: sums of float64: signs, zeros, infinite ones; what is no number stays so. No conditions.
  Plain laws for layer 11: what a text means and the text of a metric, read back; the least of a list; sums. No conditions.
-/
import Derived.Test.YtikjdjfpoohieaaDoorBase5
import Derived.Deep.RegionHeld3
import Derived.Deep.QuietTactic
import Derived.BigQuiet
import Derived.Deep.RegionWith
import Derived.Laws.FloatArith
import Derived.Laws.Cover2
import Derived.Laws.Externs
import Derived.WalkLawsBesides
import Derived.Lib.Hide
import Derived.Deep.LoopGhost

namespace Go.Proofs.YtikjdjfpoohieaaDoor
open Go.RowKit
set_option linter.unusedVariables false

theorem pref_other {s : List UInt8} {L : List (List UInt8)} (h : N.splitL 47 s = L) (hl : L.length ≠ 2) : N.prefL s = (-1, 0) := by
  unfold N.prefL
  rw [h]
  match L, hl with
  | [], _ => rfl
  | [_], _ => rfl
  | [_, _], hl => exact absurd rfl hl
  | _ :: _ :: _ :: _, _ => rfl
theorem ip_range10 (x : List UInt8) : -1 ≤ N.ipL x ∧ N.ipL x < 4294967296 := by
  rcases N.ip_cases x with h | ⟨n, h, hn, _⟩ <;> rw [h] <;> omega
theorem ipQ (x : List UInt8) (z : Int) (w : World) (hs : x.length ≤ 1073741824) (h : N.ipL x = z) : Calls Tryd.prog 51 #[.string (sB x)] w (fun e w' => e = .returned (.int .i64 z) ∧ Below w.heap.size w w') := by
  subst h; exact ipR (sB x) w (by rw [sB_size]; exact hs)
set_option maxRecDepth 100000 in
set_option maxHeartbeats 4000000 in
theorem prefR (s : ByteArray) (w : World) (hs : s.size ≤ 1073741824) : Calls Tryd.prog 52 #[.string s] w (fun e w' => e = .returned (.tuple #[.int .i64 (N.prefL s.data.toList).1, .int .i64 (N.prefL s.data.toList).2]) ∧ Below w.heap.size w w') := by
  obtain ⟨L, hL⟩ : ∃ L, N.splitL 47 s.data.toList = L := ⟨_, rfl⟩
  obtain ⟨r, hr⟩ : ∃ r, N.prefL s.data.toList = r := ⟨_, rfl⟩
  obtain ⟨r1, r2⟩ := r
  obtain ⟨m, hm⟩ : ∃ m, L.length = m := ⟨_, rfl⟩
  have hparts := partsR s 47 w hs
  rw [hL] at hparts
  rw [hr]
  have HEA := Lib.hid (show ∀ x ∈ L, x.length ≤ 1073741824 from fun x hx => by
    have h := split_mem (c := 47) (hL ▸ hx)
    have h2 : s.data.toList.length = s.size := by simp
    omega)
  have HL := Lib.hid hL
  have HR := Lib.hid hr
  have HM := Lib.hid hm
  clear hL hr
  show Calls _ _ _ _ (fun e w' => e = .returned (.tuple #[.int .i64 r1, .int .i64 r2]) ∧ Below w.heap.size w w')
  by_cases h4 : m = 2
  · have b4 : ((m : Int) != 2) = false := by simp; omega
    have H4 := Lib.hid h4
    obtain ⟨xa, xb, rfl⟩ : ∃ xa xb, L = [xa, xb] := by
      subst h4
      match L, hm with
      | [a, b], _ => exact ⟨a, b, rfl⟩
    clear h4 hm
    obtain ⟨z, hz⟩ : ∃ z, N.ipL xa = z := ⟨_, rfl⟩
    obtain ⟨k, hk⟩ : ∃ k, N.numL xb = k := ⟨_, rfl⟩
    obtain ⟨rr, hrr⟩ : ∃ rr, N.rightB z k = rr := ⟨_, rfl⟩
    have rz := ip_range10 xa
    have rk := N.num_ge xb
    rw [hz] at rz
    rw [hk] at rk
    have hsp : (if rr = true then (z, k) else ((-1 : Int), (0 : Int))) = (r1, r2) := by
      rw [← HR.out]
      unfold N.prefL
      rw [HL.out]
      show _ = if N.rightB (N.ipL xa) (N.numL xb) = true then (N.ipL xa, N.numL xb) else (-1, 0)
      rw [hz, hk, hrr]
    have HNO := Lib.hid (show rr = false → r1 = -1 ∧ r2 = 0 from fun h => by rw [h, if_neg (by decide)] at hsp; exact ⟨(congrArg Prod.fst hsp).symm, (congrArg Prod.snd hsp).symm⟩)
    have HYES := Lib.hid (show rr = true → r1 = z ∧ r2 = k from fun h => by rw [h, if_pos rfl] at hsp; exact ⟨(congrArg Prod.fst hsp).symm, (congrArg Prod.snd hsp).symm⟩)
    have HBD := Lib.hid (show rr = true → 0 ≤ z ∧ 0 ≤ k ∧ k ≤ 32 from fun h => by have h5 := right_nums (hrr.trans h); exact ⟨h5.1, h5.2.2.1, h5.2.2.2⟩)
    clear hsp
    have HZ := Lib.hid hz
    have HK := Lib.hid hk
    have HRR := Lib.hid hrr
    clear hz hk hrr
    go_enter Tryd.func52, Tryd.ntmps52
    go_wp2_with fail
    refine hparts.mono ?_
    rintro e w1 ⟨v1, rfl, hown, hx⟩
    obtain ⟨A1, c1, e1, hc1, hs1⟩ := hown.seen
    rw [HM.out] at e1 hc1
    subst e1
    obtain ⟨b, o, rfl, hb, hH⟩ := hs1 (by rw [HM.out, H4.out]; omega)
    obtain rfl : m = 2 := H4.out
    have z0 := hH.str (i := 0) (by show 0 < 2; omega)
    have z1 := hH.str (i := 1) (by show 1 < 2; omega)
    have HKP := Lib.hid (fun w' (h : Below w1.heap.size w1 w') => show w'.cell? ⟨b, o, none⟩ = some (.string (sB xa)) ∧ w'.cell? ⟨b, o + 1, none⟩ = some (.string (sB xb)) from ⟨(h.cell hb).trans z0, (h.cell hb).trans z1⟩)
    have HX := Lib.hid hx
    have HIP := Lib.hid (fun w' => ipQ xa z w' (HEA.out xa (by simp)) HZ.out)
    have HNU := Lib.hid (fun w' => numQ xb k w' (HEA.out xb (by simp)) HK.out)
    have hbd : Below w1.heap.size w1 w1.drew := (Below.refl _ _).drew
    clear hown hs1 hH hparts hx
    by_cases y1 : z < 0
    · have c1 : decide (z < 0) = true := decide_eq_true y1
      have hrf : rr = false := by cases hrc : rr with | false => rfl | true => exact absurd (HBD.out hrc).1 (by omega)
      clear y1
      have HE1 := Lib.hid (HNO.out hrf).1
      have HE2 := Lib.hid (HNO.out hrf).2
      clear hrf
      go_wp2
      go_region_held3 (fun w' => Below w1.heap.size w1 w' ∧ w'.cell? ⟨b, o, none⟩ = some (.string (sB xa)) ∧ w'.cell? ⟨b, o + 1, none⟩ = some (.string (sB xb))) (first | ((refine ⟨?_, HKP.out _ ?_⟩) <;> (first | assumption | (refine Below.drew ?_; assumption))) | go_keep) (first | (go_at_call 51; refine (HIP.out _).mono ?_; rintro e w' ⟨rfl, hx⟩; have hbx := bthen (show Below w1.heap.size w1 _ by assumption) hx) | (go_at_call 49; refine (HNU.out _).mono ?_; rintro e w' ⟨rfl, rfl⟩))
      all_goals go_wp2
      all_goals go_ret2
      all_goals exact ⟨by rw [show r1 = -1 from HE1.out, show r2 = 0 from HE2.out]; rfl, bthen HX.out (by first | assumption | (refine Below.drew ?_; assumption))⟩
    · have c1 : decide (z < 0) = false := decide_eq_false y1
      by_cases y2 : k < 0
      · have c2 : decide (k < 0) = true := decide_eq_true y2
        have hrf : rr = false := by cases hrc : rr with | false => rfl | true => exact absurd (HBD.out hrc).2.1 (by omega)
        clear y1 y2
        have HE1 := Lib.hid (HNO.out hrf).1
        have HE2 := Lib.hid (HNO.out hrf).2
        clear hrf
        go_wp2
        go_region_held3 (fun w' => Below w1.heap.size w1 w' ∧ w'.cell? ⟨b, o, none⟩ = some (.string (sB xa)) ∧ w'.cell? ⟨b, o + 1, none⟩ = some (.string (sB xb))) (first | ((refine ⟨?_, HKP.out _ ?_⟩) <;> (first | assumption | (refine Below.drew ?_; assumption))) | go_keep) (first | (go_at_call 51; refine (HIP.out _).mono ?_; rintro e w' ⟨rfl, hx⟩; have hbx := bthen (show Below w1.heap.size w1 _ by assumption) hx) | (go_at_call 49; refine (HNU.out _).mono ?_; rintro e w' ⟨rfl, rfl⟩))
        all_goals go_wp2
        all_goals go_ret2
        all_goals exact ⟨by rw [show r1 = -1 from HE1.out, show r2 = 0 from HE2.out]; rfl, bthen HX.out (by first | assumption | (refine Below.drew ?_; assumption))⟩
      · have c2 : decide (k < 0) = false := decide_eq_false y2
        by_cases y3 : 32 < k
        · have c3 : decide (32 < k) = true := decide_eq_true y3
          have hrf : rr = false := by cases hrc : rr with | false => rfl | true => exact absurd (HBD.out hrc).2.2 (by omega)
          clear y1 y2 y3
          have HE1 := Lib.hid (HNO.out hrf).1
          have HE2 := Lib.hid (HNO.out hrf).2
          clear hrf
          go_wp2
          go_region_held3 (fun w' => Below w1.heap.size w1 w' ∧ w'.cell? ⟨b, o, none⟩ = some (.string (sB xa)) ∧ w'.cell? ⟨b, o + 1, none⟩ = some (.string (sB xb))) (first | ((refine ⟨?_, HKP.out _ ?_⟩) <;> (first | assumption | (refine Below.drew ?_; assumption))) | go_keep) (first | (go_at_call 51; refine (HIP.out _).mono ?_; rintro e w' ⟨rfl, hx⟩; have hbx := bthen (show Below w1.heap.size w1 _ by assumption) hx) | (go_at_call 49; refine (HNU.out _).mono ?_; rintro e w' ⟨rfl, rfl⟩))
          all_goals go_wp2
          all_goals go_ret2
          all_goals exact ⟨by rw [show r1 = -1 from HE1.out, show r2 = 0 from HE2.out]; rfl, bthen HX.out (by first | assumption | (refine Below.drew ?_; assumption))⟩
        · have c3 : decide (32 < k) = false := decide_eq_false y3
          clear y1 y2 y3
          cases rr with
          | false =>
            have hrf : false = false := rfl
            have HE1 := Lib.hid (HNO.out hrf).1
            have HE2 := Lib.hid (HNO.out hrf).2
            clear hrf
            go_wp2
            go_region_held3 (fun w' => Below w1.heap.size w1 w' ∧ w'.cell? ⟨b, o, none⟩ = some (.string (sB xa)) ∧ w'.cell? ⟨b, o + 1, none⟩ = some (.string (sB xb))) (first | ((refine ⟨?_, HKP.out _ ?_⟩) <;> (first | assumption | (refine Below.drew ?_; assumption))) | go_keep) (first | (go_at_call 51; refine (HIP.out _).mono ?_; rintro e w' ⟨rfl, hx⟩; have hbx := bthen (show Below w1.heap.size w1 _ by assumption) hx) | (go_at_call 49; refine (HNU.out _).mono ?_; rintro e w' ⟨rfl, rfl⟩))
            all_goals go_wp2_with fail
            all_goals (refine (rightQ10 z k _ _ HRR.out).mono ?_; rintro e w' ⟨rfl, rfl⟩)
            all_goals go_wp2
            all_goals go_ret2
            all_goals exact ⟨by rw [show r1 = -1 from HE1.out, show r2 = 0 from HE2.out]; rfl, bthen HX.out (by first | assumption | (refine Below.drew ?_; assumption))⟩
          | true =>
            have HE1 := Lib.hid (HYES.out rfl).1
            have HE2 := Lib.hid (HYES.out rfl).2
            go_wp2
            go_region_held3 (fun w' => Below w1.heap.size w1 w' ∧ w'.cell? ⟨b, o, none⟩ = some (.string (sB xa)) ∧ w'.cell? ⟨b, o + 1, none⟩ = some (.string (sB xb))) (first | ((refine ⟨?_, HKP.out _ ?_⟩) <;> (first | assumption | (refine Below.drew ?_; assumption))) | go_keep) (first | (go_at_call 51; refine (HIP.out _).mono ?_; rintro e w' ⟨rfl, hx⟩; have hbx := bthen (show Below w1.heap.size w1 _ by assumption) hx) | (go_at_call 49; refine (HNU.out _).mono ?_; rintro e w' ⟨rfl, rfl⟩))
            all_goals go_wp2_with fail
            all_goals (refine (rightQ10 z k _ _ HRR.out).mono ?_; rintro e w' ⟨rfl, rfl⟩)
            all_goals go_wp2
            all_goals go_ret2
            all_goals exact ⟨by rw [show r1 = z from HE1.out, show r2 = k from HE2.out]; rfl, bthen HX.out (by first | assumption | (refine Below.drew ?_; assumption))⟩
  · have b4 : ((m : Int) != 2) = true := by simp; omega
    have HE := Lib.hid (show (r1, r2) = ((-1 : Int), (0 : Int)) by rw [← HR.out]; exact pref_other HL.out (by rw [hm]; exact h4))
    have HE1 := Lib.hid (congrArg Prod.fst HE.out)
    have HE2 := Lib.hid (congrArg Prod.snd HE.out)
    clear h4 hm
    go_enter Tryd.func52, Tryd.ntmps52
    go_wp2_with fail
    refine hparts.mono ?_
    rintro e w1 ⟨v1, rfl, hown, hx⟩
    obtain ⟨A1, c1, e1, hc1, hs1⟩ := hown.seen
    rw [HM.out] at e1 hc1
    subst e1
    clear hown hs1 hparts
    go_wp2
    go_ret2
    exact ⟨by rw [show r1 = -1 from HE1.out, show r2 = 0 from HE2.out]; rfl, hx⟩
end Go.Proofs.YtikjdjfpoohieaaDoor

namespace Go.Proofs.YtikjdjfpoohieaaDoor
open Go.RowKit
set_option linter.unusedVariables false

theorem pair_short {x : List UInt8} (h : x.length ≠ 2) : N.pairV x = -1 := by
  match x with
  | [] => rfl
  | [_] => rfl
  | [_, _] => exact absurd rfl h
  | _ :: _ :: _ :: _ => rfl
theorem hexV_range (c : UInt8) : -1 ≤ N.hexV c ∧ N.hexV c ≤ 15 := by
  rcases N.hex_cases c with h | ⟨n, h, hn, _⟩ <;> rw [h] <;> omega
theorem valueQ (c : UInt8) (z : Int) (w : World) (h : N.hexV c = z) : Calls Tryd.prog 83 #[.int .u8 c.toNat] w (fun e w' => e = .returned (.int .i64 z) ∧ w = w') := by subst h; exact valueR10 c w
set_option maxRecDepth 100000 in
set_option maxHeartbeats 4000000 in
theorem macR (s : ByteArray) (w : World) (hs : s.size ≤ 1073741824) : Calls Tryd.prog 53 #[.string s] w (fun e w' => e = .returned (.int .i64 (N.macL s.data.toList)) ∧ Below w.heap.size w w') := by
  obtain ⟨L, hL⟩ : ∃ L, N.splitL 58 s.data.toList = L := ⟨_, rfl⟩
  obtain ⟨r, hr⟩ : ∃ r, N.macL s.data.toList = r := ⟨_, rfl⟩
  obtain ⟨m, hm⟩ : ∃ m, L.length = m := ⟨_, rfl⟩
  have hparts := partsR s 58 w hs
  rw [hL] at hparts
  rw [hr]
  have HEA := Lib.hid (show ∀ x ∈ L, x.length ≤ 1073741824 from fun x hx => by
    have h := split_mem (c := 58) (hL ▸ hx)
    have h2 : s.data.toList.length = s.size := by simp
    omega)
  have HL := Lib.hid hL
  have HR := Lib.hid hr
  have HM := Lib.hid hm
  clear hL hr
  by_cases h4 : m = 6
  · have b4 : ((m : Int) != 6) = false := by simp; omega
    have H4 := Lib.hid h4
    clear h4 hm
    go_enter Tryd.func53, Tryd.ntmps53
    go_wp2_with fail
    refine hparts.mono ?_
    rintro e w1 ⟨v1, rfl, hown, hx⟩
    obtain ⟨A1, c1, e1, hc1, hs1⟩ := hown.seen
    rw [HM.out] at e1 hc1
    subst e1
    obtain ⟨b, o, rfl, hb, hH⟩ := hs1 (by rw [HM.out, H4.out]; omega)
    have HH := Lib.hid hH
    clear hown hs1 hH hparts
    go_wp2
    go_loopg [4, 5] 6 (fun gk vn vi wr => ∃ k v : Nat, Hid (k + gk = 6) ∧ k ≤ 6 ∧ vi = .int .i64 (k : Int) ∧ vn = .int .i64 (v : Int) ∧ Hid (N.accL N.pairV (L.take k) = v) ∧ Hid (∀ x ∈ L.take k, 0 ≤ N.pairV x) ∧ Hid (Below w.heap.size w wr) ∧ Hid (Holds eS wr b o L))
    case atStart => exact ⟨0, 0, Nat.zero_add _, Nat.zero_le _, rfl, rfl, rfl, (fun x hx => by simp at hx), hx, HH.out⟩
    case round =>
      obtain ⟨k, v, HG, hk, rfl, rfl, HV, HD, HBW, HHr⟩ := hrel
      by_cases hlt : k < 6
      · have blt : decide ((k : Int) < 6) = true := decide_eq_true (by omega)
        have blt2 : decide (k < 6) = true := decide_eq_true hlt
        have hkL : k < L.length := by rw [HM.out, H4.out]; exact hlt
        have hki : (k : Int) < (m : Int) := by have := H4.out; omega
        have z0 := HHr.out.str hkL
        have hsn := List.take_succ_eq_append_getElem hkL
        obtain ⟨x, hx⟩ : ∃ x, L[k] = x := ⟨_, rfl⟩
        have hmem : x ∈ L := hx ▸ List.getElem_mem hkL
        rw [hx] at z0 hsn
        have hv : v < 281474976710656 := by
          have h5 := (N.acc_range N.pairV (fun x => (N.pair_range x).2) 6 (L.take k) (by rw [List.length_take]; omega) HD.out).2
          rw [HV.out] at h5
          omega
        have hgk := HG.out
        have HSN := Lib.hid hsn
        have HXM := Lib.hid hmem
        by_cases hx2 : x.length = 2
        · obtain ⟨ca, cb, rfl⟩ : ∃ ca cb, x = [ca, cb] := by
            match x, hx2 with
            | [a, b], _ => exact ⟨a, b, rfl⟩
          clear hx hsn hmem hx2
          obtain ⟨za, hza⟩ : ∃ z, N.hexV ca = z := ⟨_, rfl⟩
          obtain ⟨zb, hzb⟩ : ∃ z, N.hexV cb = z := ⟨_, rfl⟩
          have ra := hexV_range ca
          have rb := hexV_range cb
          rw [hza] at ra
          rw [hzb] at rb
          have HZA := Lib.hid hza
          have HZB := Lib.hid hzb
          obtain ⟨q, hq⟩ : ∃ q, sB [ca, cb] = q := ⟨_, rfl⟩
          have q2 : q.size = 2 := by rw [← hq]; rfl
          have qa : q[0]'(by omega) = ca := by subst hq; rfl
          have qb : q[1]'(by omega) = cb := by subst hq; rfl
          rw [hq] at z0
          clear hza hzb hq
          by_cases ha : za < 0
          · have c1 : decide (za < 0) = true := decide_eq_true ha
            have HE := Lib.hid (show r = -1 by
              rw [← HR.out]
              refine N.mac_bad HL.out HXM.out ?_
              show (if N.hexV ca < 0 ∨ N.hexV cb < 0 then (-1 : Int) else _) < 0
              rw [HZA.out, if_pos (.inl ha)]; omega)
            clear ha
            go_wp2_with fail
            refine (valueQ ca za _ HZA.out).mono ?_
            rintro e w2 ⟨rfl, rfl⟩
            go_wp2
            go_ret
            exact ⟨by rw [HE.out]; rfl, HBW.out⟩
          · have c1 : decide (za < 0) = false := decide_eq_false ha
            by_cases hb0 : zb < 0
            · have c2 : decide (zb < 0) = true := decide_eq_true hb0
              have HE := Lib.hid (show r = -1 by
                rw [← HR.out]
                refine N.mac_bad HL.out HXM.out ?_
                show (if N.hexV ca < 0 ∨ N.hexV cb < 0 then (-1 : Int) else _) < 0
                rw [HZB.out, if_pos (.inr hb0)]; omega)
              clear ha hb0
              go_wp2_with fail
              refine (valueQ ca za _ HZA.out).mono ?_
              rintro e w2 ⟨rfl, rfl⟩
              go_wp2_with fail
              refine (valueQ cb zb _ HZB.out).mono ?_
              rintro e w2 ⟨rfl, rfl⟩
              go_wp2
              go_ret
              exact ⟨by rw [HE.out]; rfl, HBW.out⟩
            · have c2 : decide (zb < 0) = false := decide_eq_false hb0
              obtain ⟨na, rfl⟩ := Int.eq_ofNat_of_zero_le (show 0 ≤ za by omega)
              obtain ⟨nb, rfl⟩ := Int.eq_ofNat_of_zero_le (show 0 ≤ zb by omega)
              have hpv : N.pairV [ca, cb] = ((16 * na + nb : Nat) : Int) := by
                show (if N.hexV ca < 0 ∨ N.hexV cb < 0 then (-1 : Int) else _) = _
                rw [HZA.out, HZB.out, if_neg (by omega)]; omega
              have HV2 := Lib.hid (show N.accL N.pairV (L.take (k + 1)) = ((256 * v + 16 * na + nb : Nat) : Int) by rw [HSN.out, N.acc_snoc, HV.out, hpv]; omega)
              have HD2 := Lib.hid (show ∀ y ∈ L.take (k + 1), 0 ≤ N.pairV y from fun y hy => by
                rw [HSN.out] at hy
                rcases List.mem_append.1 hy with hy | hy
                · exact HD.out y hy
                · rw [List.mem_singleton.1 hy, hpv]; omega)
              have hna : na ≤ 15 := by omega
              have hnb : nb ≤ 15 := by omega
              clear ha hb0 hpv
              go_wp2_with fail
              refine (valueQ ca na _ HZA.out).mono ?_
              rintro e w2 ⟨rfl, rfl⟩
              go_wp2_with fail
              refine (valueQ cb nb _ HZB.out).mono ?_
              rintro e w2 ⟨rfl, rfl⟩
              go_wp2
              go_quiet (first | (go_at_call_of 83 ca; exact Calls.quiet_of_same (calls_sym (valueQ ca na _ HZA.out))) | (go_at_call_of 83 cb; exact Calls.quiet_of_same (calls_sym (valueQ cb nb _ HZB.out))))
              go_wp2
              go_roundg (6 - (k + 1))
              case rel => exact ⟨k + 1, 256 * v + 16 * na + nb, (by show _ = _; omega), by omega, by go_num, by go_num, HV2, HD2, Lib.hid (below_drawn10 HBW.out _), Lib.hid HHr.out⟩
              case measure => omega
        · clear hx hsn hmem
          have HE := Lib.hid (show r = -1 by rw [← HR.out]; exact N.mac_bad HL.out HXM.out (by rw [pair_short hx2]; omega))
          obtain ⟨n2, hn2⟩ : ∃ n2, x.length = n2 := ⟨_, rfl⟩
          have hxl := HEA.out x HXM.out
          obtain ⟨q, hq⟩ : ∃ q, sB x = q := ⟨_, rfl⟩
          have q2 : q.size = n2 := by rw [← hq, sB_size, hn2]
          have bn : ((n2 : Int) != 2) = true := by simp; omega
          rw [hq] at z0
          rw [hn2] at hxl
          clear hq hn2 hx2
          go_wp2
          go_ret
          exact ⟨by rw [HE.out]; rfl, HBW.out⟩
      · have blt : decide ((k : Int) < 6) = false := decide_eq_false (by omega)
        have blt2 : decide (k < 6) = false := decide_eq_false hlt
        have HE := Lib.hid (show r = (v : Int) by
          have htk : L.take k = L := List.take_of_length_le (by rw [HM.out, H4.out]; omega)
          have h5 := HV.out
          have h6 := HD.out
          rw [htk] at h5 h6
          rw [← HR.out, N.mac_good HL.out (HM.out.trans H4.out) h6, h5])
        go_wp2
        go_ret
        exact ⟨by rw [HE.out]; rfl, HBW.out⟩
  · have b4 : ((m : Int) != 6) = true := by simp; omega
    have HE := Lib.hid (show r = -1 by rw [← HR.out]; exact N.mac_len HL.out (by rw [hm]; exact h4))
    clear h4 hm
    go_enter Tryd.func53, Tryd.ntmps53
    go_wp2_with fail
    refine hparts.mono ?_
    rintro e w1 ⟨v1, rfl, hown, hx⟩
    obtain ⟨A1, c1, e1, hc1, hs1⟩ := hown.seen
    rw [HM.out] at e1 hc1
    subst e1
    clear hown hs1 hparts
    go_wp2
    go_ret
    exact ⟨by rw [HE.out]; rfl, hx⟩
end Go.Proofs.YtikjdjfpoohieaaDoor

namespace Go.Proofs.YtikjdjfpoohieaaDoor.F
set_option linter.unusedVariables false
open Ieee

/-- The magnitude of a rung, in multiples of the least number above 0. -/
def U (r : Nat) : Nat := if r < 4503599627370496 then r else (4503599627370496 + r % 4503599627370496) * 2 ^ (r / 4503599627370496 - 1)
theorem pow_pos3 (k : Nat) : 0 < 2 ^ k := Nat.pow_pos (by omega)
/-- Is the word's sign set; its rung. -/
def negB (x : Nat) : Bool := decide (9223372036854775808 ≤ x)
def rung (x : Nat) : Nat := x % 9223372036854775808
def nanB (x : Nat) : Bool := decide (9218868437227405312 < rung x)
theorem lit_sign : double.signWeight = 9223372036854775808 := by decide
theorem lit_binade : double.binade = 4503599627370496 := by decide
theorem lit_inf : double.infRung = 9218868437227405312 := by decide
theorem lit_least : double.leastPlace = -1074 := by decide
theorem neg_bit {x : Nat} (h : x < 18446744073709551616) : (x / 9223372036854775808 % 2 == 1) = negB x := by
  unfold negB
  by_cases h1 : 9223372036854775808 ≤ x
  · rw [decide_eq_true h1, beq_iff_eq]; omega
  · rw [decide_eq_false h1, beq_eq_false_iff_ne]; omega
theorem read_num {x : Nat} (h : x < 18446744073709551616) (hr : rung x < 9218868437227405312) : ∃ (m k : Nat), double.read x = .number (negB x) m ((k : Int) - 1074) ∧ m * 2 ^ k = U (rung x) := by
  unfold Format.read
  simp only [lit_sign, lit_binade, lit_inf, lit_least, neg_bit h]
  show ∃ m k, (if rung x < 4503599627370496 then Datum.number (negB x) (rung x) (-1074) else if rung x < 9218868437227405312 then Datum.number (negB x) (4503599627370496 + rung x % 4503599627370496) (-1074 + ((rung x / 4503599627370496 - 1 : Nat) : Int)) else _) = _ ∧ _
  by_cases h1 : rung x < 4503599627370496
  · rw [if_pos h1]
    exact ⟨rung x, 0, by congr 1, by unfold U; rw [if_pos h1]; omega⟩
  · rw [if_neg h1, if_pos hr]
    exact ⟨_, rung x / 4503599627370496 - 1, by congr 1 <;> omega, by unfold U; rw [if_neg h1]⟩
theorem read_inf {x : Nat} (h : x < 18446744073709551616) (hr : rung x = 9218868437227405312) : double.read x = .infinity (negB x) := by
  unfold Format.read
  simp only [lit_sign, lit_binade, lit_inf, lit_least, neg_bit h]
  show (if rung x < 4503599627370496 then Datum.number (negB x) (rung x) (-1074) else if rung x < 9218868437227405312 then _ else if rung x = 9218868437227405312 then Datum.infinity (negB x) else _) = _
  rw [if_neg (by omega), if_neg (by omega), if_pos hr]
-- THE ORDER
theorem nan_no {x : Nat} (h : nanB x = false) : rung x ≤ 9218868437227405312 := by unfold nanB at h; have := of_decide_eq_false h; omega
end Go.Proofs.YtikjdjfpoohieaaDoor.F

namespace Go.Proofs.YtikjdjfpoohieaaDoor.F
set_option linter.unusedVariables false
open Ieee

theorem U_rung (L k : Nat) (h : k ≤ 9007199254740992) (h2 : L = 0 ∨ 4503599627370496 ≤ k) : U (L * 4503599627370496 + k) = k * 2 ^ L := by
  by_cases hk : k < 4503599627370496
  · obtain rfl : L = 0 := by omega
    unfold U; rw [if_pos (by omega)]; omega
  · unfold U
    rw [if_neg (by omega)]
    by_cases hb : k = 9007199254740992
    · subst hb
      have e1 : (L * 4503599627370496 + 9007199254740992) % 4503599627370496 = 0 := by omega
      have e2 : (L * 4503599627370496 + 9007199254740992) / 4503599627370496 - 1 = L + 1 := by omega
      rw [e1, e2, Nat.pow_succ]; omega
    · have e1 : (L * 4503599627370496 + k) % 4503599627370496 = k - 4503599627370496 := by omega
      have e2 : (L * 4503599627370496 + k) / 4503599627370496 - 1 = L := by omega
      rw [e1, e2, Nat.add_sub_cancel' (show 4503599627370496 ≤ k by omega)]
/-- Rounded to the nearest whole number: at most half of one off. -/
theorem cut_near (neg : Bool) (n drop : Nat) (h : drop ≤ n.log2 + 2) : 2 * n ≤ 2 * (Toward.even.cut neg n drop * 2 ^ drop) + 2 ^ drop ∧ 2 * (Toward.even.cut neg n drop * 2 ^ drop) ≤ 2 * n + 2 ^ drop := by
  have hg : 1 <<< min drop (n.log2 + 2) = 2 ^ drop := by rw [Nat.min_eq_left h, Nat.shiftLeft_eq, Nat.one_mul]
  unfold Toward.cut
  simp only [hg]
  have hp := pow_pos3 drop
  generalize 2 ^ drop = g at hp
  have hd := Nat.div_add_mod n g
  have hm := Nat.mod_lt n hp
  rw [Nat.mul_comm] at hd
  generalize n / g = q at hd
  generalize n % g = r at hd hm
  generalize hq : q * g = qg at hd
  by_cases h1 : g < 2 * r
  · rw [decide_eq_true h1]
    show _ ≤ 2 * ((q + 1) * g) + g ∧ 2 * ((q + 1) * g) ≤ _
    rw [Nat.add_mul, hq]; omega
  · rw [decide_eq_false h1, Bool.false_or]
    by_cases h2 : g = 2 * r
    · cases (g == 2 * r && q % 2 == 1) with
      | true =>
        show _ ≤ 2 * ((q + 1) * g) + g ∧ 2 * ((q + 1) * g) ≤ _
        rw [Nat.add_mul, hq]; omega
      | false =>
        show _ ≤ 2 * ((q + 0) * g) + g ∧ 2 * ((q + 0) * g) ≤ _
        rw [Nat.add_zero, hq]; omega
    · rw [beq_eq_false_iff_ne.2 h2, Bool.false_and]
      show _ ≤ 2 * ((q + 0) * g) + g ∧ 2 * ((q + 0) * g) ≤ _
      rw [Nat.add_zero, hq]; omega
/-- Nothing dropped: exact. -/
theorem cut_zero (neg : Bool) (n : Nat) : Toward.even.cut neg n 0 = n := by
  have h := cut_near neg n 0 (by omega)
  simp only [Nat.pow_zero, Nat.mul_one] at h
  omega
theorem log_bounds {n : Nat} (h : n ≠ 0) : 2 ^ n.log2 ≤ n ∧ n < 2 ^ (n.log2 + 1) := ⟨Nat.log2_self_le h, Nat.lt_log2_self⟩
theorem nearest_pos (mag : Nat) (place : Int) (hm : mag ≠ 0) : double.nearest false mag place = min ((max (place + mag.log2 - 52) (-1074) + 1074).toNat * 4503599627370496 + Toward.even.cut false (mag <<< (place - max (place + mag.log2 - 52) (-1074)).toNat) (max (place + mag.log2 - 52) (-1074) - place).toNat) 9218868437227405312 := by
  unfold Format.nearest
  rw [if_neg hm]
  have hf : (double.fractionBits : Int) = 52 := rfl
  simp only [lit_binade, lit_inf, lit_least, hf]
  unfold Format.word
  rw [if_neg (by decide), Int.sub_neg]
/-- A number that needs no rounding: what stands for it. -/
theorem nearest_exact (mag : Nat) (place : Int) (k : Nat) (hk : mag.log2 = k) (h0 : mag ≠ 0) (h1 : k ≤ 52) (h2 : -1000 ≤ place) (h3 : place + k ≤ 1000) :
    double.nearest false mag place = (place + k - 52 + 1074).toNat * 4503599627370496 + mag * 2 ^ (52 - k) ∧ rung (double.nearest false mag place) = double.nearest false mag place ∧ double.nearest false mag place < 9218868437227405312 ∧ U (double.nearest false mag place) = mag * 2 ^ (place + 1074).toNat := by
  have hb := log_bounds h0
  rw [hk] at hb
  have e1 : max (place + (k : Int) - 52) (-1074) = place + k - 52 := by omega
  have e2 : (place - (place + (k : Int) - 52)).toNat = 52 - k := by omega
  have e3 : (place + (k : Int) - 52 - place).toNat = 0 := by omega
  have e4 : mag <<< (52 - k) = mag * 2 ^ (52 - k) := Nat.shiftLeft_eq ..
  have hp : (2 : Nat) ^ (k + 1) * 2 ^ (52 - k) = 9007199254740992 := by rw [← Nat.pow_add, show k + 1 + (52 - k) = 53 by omega]
  have hp2 : (2 : Nat) ^ k * 2 ^ (52 - k) = 4503599627370496 := by rw [← Nat.pow_add, show k + (52 - k) = 52 by omega]
  have hlo : 4503599627370496 ≤ mag * 2 ^ (52 - k) := by rw [← hp2]; exact Nat.mul_le_mul_right _ hb.1
  have hhi : mag * 2 ^ (52 - k) < 9007199254740992 := by rw [← hp]; exact Nat.mul_lt_mul_of_pos_right hb.2 (pow_pos3 _)
  obtain ⟨L, hL⟩ : ∃ L, (place + (k : Int) - 52 + 1074).toNat = L := ⟨_, rfl⟩
  have hE : double.nearest false mag place = L * 4503599627370496 + mag * 2 ^ (52 - k) := by
    rw [nearest_pos mag place h0, hk, e1, e2, e3, cut_zero, e4, hL]
    exact Nat.min_eq_left (by omega)
  refine ⟨by rw [hE, hL], ?_, ?_, ?_⟩
  · rw [hE]; unfold rung; exact Nat.mod_eq_of_lt (by omega)
  · rw [hE]; omega
  · rw [hE, U_rung _ _ (by omega) (.inr hlo), Nat.mul_assoc, ← Nat.pow_add]
    congr 2; omega
/-- A number of 53 digits or more: what stands for it is at most half of one of its last digits off. -/
theorem nearest_round (mag : Nat) (place : Int) (k d L : Nat) (hk : mag.log2 = k) (hd : k = 52 + d) (h0 : mag ≠ 0) (hL : place + (d : Int) + 1074 = (L : Int)) (h3 : place + k ≤ 1000) :
    ∃ K, double.nearest false mag place = L * 4503599627370496 + K ∧ rung (double.nearest false mag place) = double.nearest false mag place ∧ double.nearest false mag place < 9218868437227405312 ∧
      4503599627370496 ≤ K ∧ K ≤ 9007199254740992 ∧ U (double.nearest false mag place) = K * 2 ^ L ∧ 2 * mag ≤ 2 * (K * 2 ^ d) + 2 ^ d ∧ 2 * (K * 2 ^ d) ≤ 2 * mag + 2 ^ d := by
  have hb := log_bounds h0
  have hdl : d ≤ mag.log2 + 2 := by omega
  rw [hk, hd] at hb
  have e1 : max (place + (k : Int) - 52) (-1074) = place + d := by omega
  have e2 : (place - (place + (d : Int))).toNat = 0 := by omega
  have e3 : (place + (d : Int) - place).toNat = d := by omega
  have e4 : (place + (d : Int) + 1074).toNat = L := by omega
  have hc := cut_near false mag d hdl
  obtain ⟨K, hK⟩ : ∃ K, Toward.even.cut false mag d = K := ⟨_, rfl⟩
  rw [hK] at hc
  have hp := pow_pos3 d
  have hp1 : (2 : Nat) ^ (52 + d) = 4503599627370496 * 2 ^ d := by rw [Nat.pow_add]
  have hp2 : (2 : Nat) ^ (52 + d + 1) = 9007199254740992 * 2 ^ d := by rw [show 52 + d + 1 = 53 + d by omega, Nat.pow_add]
  rw [hp1, hp2] at hb
  have hlo : 4503599627370496 ≤ K := by
    apply Nat.le_of_not_lt
    intro h
    have h1 : (K + 1) * 2 ^ d ≤ 4503599627370496 * 2 ^ d := Nat.mul_le_mul_right _ (by omega)
    rw [Nat.add_mul] at h1
    omega
  have hhi : K ≤ 9007199254740992 := by
    apply Nat.le_of_not_lt
    intro h
    have h1 : (9007199254740992 + 1) * 2 ^ d ≤ K * 2 ^ d := Nat.mul_le_mul_right _ (by omega)
    rw [Nat.add_mul] at h1
    omega
  have hE : double.nearest false mag place = L * 4503599627370496 + K := by
    rw [nearest_pos mag place h0, hk, e1, e2, e3, e4, Nat.shiftLeft_zero, hK]
    exact Nat.min_eq_left (by omega)
  refine ⟨K, hE, ?_, ?_, hlo, hhi, ?_, hc⟩
  · rw [hE]; unfold rung; exact Nat.mod_eq_of_lt (by omega)
  · rw [hE]; omega
  · rw [hE, U_rung _ _ hhi (.inr hlo)]
end Go.Proofs.YtikjdjfpoohieaaDoor.F

namespace Go.Proofs.YtikjdjfpoohieaaDoor.F
set_option linter.unusedVariables false
open Ieee

/-- A word that stands for a number above 0 that is no small one: its digits. -/
theorem read_pos {x : Nat} (h1 : 4503599627370496 ≤ x) (h2 : x < 9218868437227405312) : ∃ (m k : Nat), double.read x = .number false m ((k : Int) - 1074) ∧ m * 2 ^ k = U x ∧ 4503599627370496 ≤ m ∧ m < 9007199254740992 := by
  have hr : rung x = x := Nat.mod_eq_of_lt (by omega)
  have hn : negB x = false := decide_eq_false (by omega)
  refine ⟨4503599627370496 + x % 4503599627370496, x / 4503599627370496 - 1, ?_, by unfold U; rw [if_neg (by omega)], by omega, by omega⟩
  unfold Format.read
  simp only [lit_sign, lit_binade, lit_inf, lit_least, neg_bit (show x < 18446744073709551616 by omega), hn]
  show (if rung x < 4503599627370496 then Datum.number false (rung x) (-1074) else if rung x < 9218868437227405312 then Datum.number false (4503599627370496 + rung x % 4503599627370496) (-1074 + ((rung x / 4503599627370496 - 1 : Nat) : Int)) else _) = _
  rw [hr, if_neg (by omega), if_pos h2]
  congr 1 <;> omega
/-- The place of the least number above 0, turned. -/
@[irreducible] def unitE : Nat := 1074
theorem unitE_is : unitE = 1074 := by unfold unitE; rfl
/-- A whole number as a float64: exact. -/
theorem whole_word (n : Nat) (h0 : n ≠ 0) (h : n < 9007199254740992) : 4503599627370496 ≤ double.nearest false n 0 ∧ double.nearest false n 0 < 9218868437227405312 ∧ U (double.nearest false n 0) = n * 2 ^ unitE := by
  have hl : n.log2 < 53 := (Nat.log2_lt h0).2 h
  obtain ⟨e, _, h2, h3⟩ := nearest_exact n 0 n.log2 rfl h0 (by omega) (by omega) (by omega)
  refine ⟨?_, h2, by rw [h3, show ((0 : Int) + 1074).toNat = unitE by rw [unitE_is]; rfl]⟩
  rw [e, show (0 + (n.log2 : Int) - 52 + 1074).toNat = n.log2 + 1022 by omega]
  generalize n * 2 ^ (52 - n.log2) = z
  generalize n.log2 = k
  omega
theorem read_1000 : double.read (double.nearest false 1000 0) = .number false 8796093022208000 (-43) := by decide +kernel
theorem pow_lt {a b : Nat} (h : 2 ^ a < 2 ^ b) : a < b := (Nat.pow_lt_pow_iff_right (by omega)).1 h
/-- A normal number, divided by 1000. -/
theorem quot_1000 (m i : Nat) (h1 : 4503599627370496 ≤ m) (h2 : m < 9007199254740992) : (Datum.number false m ((i : Int) - 1074)).quotient 54 (.number false 8796093022208000 (-43)) = some (.number false (2 * (m * 18014398509481984 / 8796093022208000) + (m * 18014398509481984 % 8796093022208000 != 0).toNat) ((i : Int) - 1086)) := by
  have hl : m.log2 = 52 := (Nat.log2_eq_iff (by omega)).2 ⟨h1, h2⟩
  have hk : Nat.log2 8796093022208000 = 52 := by decide +kernel
  have hs : m <<< 54 = m * 18014398509481984 := Nat.shiftLeft_eq ..
  unfold Datum.quotient
  simp only [hl, hk, hs]
  refine (if_neg (show ¬ (8796093022208000 = 0) by omega)).trans ?_
  rw [Bool.false_xor, show ((i : Int) - 1074 - -43 - ((54 + 52 - 52 : Nat) : Int) - 1) = (i : Int) - 1086 by omega]
/-- How far off the quotient is: less than one of 2^54. -/
theorem quot_near (m g b : Nat) (h1 : 4503599627370496 ≤ m) (h2 : m < 9007199254740992) (hg : 2 * (m * 18014398509481984 / 8796093022208000) + (m * 18014398509481984 % 8796093022208000 != 0).toNat = g) :
    g * 1000 ≤ m * 4096 + 2000 ∧ m * 4096 ≤ g * 1000 + 2000 ∧ 18014398509481984 ≤ g ∧ g < 72057594037927936 := by
  have hd := Nat.div_add_mod (m * 18014398509481984) 8796093022208000
  have hm := Nat.mod_lt (m * 18014398509481984) (show 0 < 8796093022208000 by omega)
  have hb : (m * 18014398509481984 % 8796093022208000 != 0).toNat ≤ 1 := by cases (m * 18014398509481984 % 8796093022208000 != 0) <;> decide
  generalize (m * 18014398509481984 % 8796093022208000 != 0).toNat = s at hg hb
  generalize m * 18014398509481984 / 8796093022208000 = q at hg hd
  generalize m * 18014398509481984 % 8796093022208000 = r at hd hm
  omega
theorem thou_arith {m g X D : Nat} (m1 : 4503599627370496 ≤ m) (b1 : g * 1000 ≤ m * 4096 + 2000) (b2 : m * 4096 ≤ g * 1000 + 2000) (k7 : 2 * g ≤ 2 * X + D) (k8 : 2 * X ≤ 2 * g + D) (hD : 4503599627370496 * D ≤ X) :
    X * 1000 * 4503599627370496 ≤ m * 4096 * 4503599627370497 ∧ m * 4096 * 4503599627370495 ≤ X * 1000 * 4503599627370496 := by omega
/-- A whole number divided by 1000: a normal number, at most one of 2^52 off. -/
theorem thou_div (n : Nat) (h0 : n ≠ 0) (h : n < 9007199254740992) : ∃ r, double.div (double.nearest false n 0) (double.nearest false 1000 0) = some r ∧ rung r = r ∧ 4503599627370496 ≤ r ∧ r < 9218868437227405312 ∧
    U r * 1000 * 4503599627370496 ≤ n * 2 ^ unitE * 4503599627370497 ∧ n * 2 ^ unitE * 4503599627370495 ≤ U r * 1000 * 4503599627370496 := by
  obtain ⟨w1, w2, w3⟩ := whole_word n h0 h
  obtain ⟨m, i, e1, e2, m1, m2⟩ := read_pos w1 w2
  rw [w3] at e2
  have hi1 : i < unitE + 1 := by
    have h1 : 2 ^ (52 + i) < 2 ^ (53 + unitE) := by
      rw [Nat.pow_add, Nat.pow_add]
      refine Nat.lt_of_le_of_lt (Nat.mul_le_mul_right _ m1) ?_
      rw [e2]
      exact Nat.mul_lt_mul_of_pos_right h (pow_pos3 _)
    have := pow_lt h1
    omega
  have hi2 : unitE < 53 + i := by
    refine pow_lt ?_
    rw [Nat.pow_add]
    refine Nat.lt_of_le_of_lt (?_ : _ ≤ m * 2 ^ i) (Nat.mul_lt_mul_of_pos_right m2 (pow_pos3 _))
    rw [e2]
    exact Nat.le_mul_of_pos_left _ (by omega)
  rw [unitE_is] at hi1 hi2
  obtain ⟨g, hg⟩ : ∃ g, 2 * (m * 18014398509481984 / 8796093022208000) + (m * 18014398509481984 % 8796093022208000 != 0).toNat = g := ⟨_, rfl⟩
  obtain ⟨b1, b2, b3, b4⟩ := quot_near m g 0 m1 m2 hg
  have hdiv : double.div (double.nearest false n 0) (double.nearest false 1000 0) = some (double.nearest false g ((i : Int) - 1086)) := by
    unfold Format.div
    rw [e1, read_1000]
    show ((Datum.number false m ((i : Int) - 1074)).quotient 54 (.number false 8796093022208000 (-43))).map double.write = _
    rw [quot_1000 m i m1 m2, hg]
    rfl
  obtain ⟨d, hd, hd3⟩ : ∃ d, g.log2 = 52 + d ∧ d ≤ 3 := by
    have l1 : 54 ≤ g.log2 := (Nat.le_log2 (by omega)).2 b3
    have l2 : g.log2 < 56 := (Nat.log2_lt (by omega)).2 b4
    exact ⟨g.log2 - 52, by omega, by omega⟩
  obtain ⟨K, k1, k2, k3, k4, k5, k6, k7, k8⟩ := nearest_round g ((i : Int) - 1086) _ d (i - 12 + d) hd rfl (by omega) (by omega) (by omega)
  obtain ⟨y, hy⟩ : ∃ y, i = y + 12 := ⟨i - 12, by omega⟩
  refine ⟨_, hdiv, k2, ?_, k3, ?_⟩
  · rw [k1]
    have : 1 ≤ i - 12 + d := by omega
    generalize i - 12 + d = L at this
    omega
  rw [k6, ← e2, show i - 12 + d = d + y by omega, Nat.pow_add, hy, Nat.pow_add, ← Nat.mul_assoc]
  have hD : 4503599627370496 * 2 ^ d ≤ K * 2 ^ d := Nat.mul_le_mul_right _ k4
  generalize K * 2 ^ d = X at k7 k8 hD
  generalize 2 ^ d = D at k7 k8 hD
  generalize 2 ^ y = Y
  obtain ⟨a1, a2⟩ := thou_arith m1 b1 b2 k7 k8 hD
  constructor
  · have := Nat.mul_le_mul_right Y a1
    rw [show (2 : Nat) ^ 12 = 4096 from rfl]
    calc X * Y * 1000 * 4503599627370496 = X * 1000 * 4503599627370496 * Y := by ac_rfl
      _ ≤ m * 4096 * 4503599627370497 * Y := this
      _ = m * (Y * 4096) * 4503599627370497 := by ac_rfl
  · have := Nat.mul_le_mul_right Y a2
    rw [show (2 : Nat) ^ 12 = 4096 from rfl]
    calc m * (Y * 4096) * 4503599627370495 = m * 4096 * 4503599627370495 * Y := by ac_rfl
      _ ≤ X * 1000 * 4503599627370496 * Y := this
      _ = X * Y * 1000 * 4503599627370496 := by ac_rfl
end Go.Proofs.YtikjdjfpoohieaaDoor.F

namespace Go.Proofs.YtikjdjfpoohieaaDoor.F
set_option linter.unusedVariables false
open Ieee Go

def infB (x : Nat) : Bool := decide (rung x = 9218868437227405312)
theorem word_inf (s : Bool) : double.word s 9218868437227405312 = if s = true then 18442240474082181120 else 9218868437227405312 := by cases s <;> rfl
/-- An infinite one, and one that is not: the infinite one. -/
theorem add_inf_left {x y : Nat} (hx : x < 18446744073709551616) (hy : y < 18446744073709551616) (ix : infB x = true) (ny : nanB y = false) (h : infB y = true → negB x = negB y) : floatBits .add .f64 x y = some x := by
  show double.add x y = some x
  have e : double.write (.infinity (negB x)) = x := by
    show double.word (negB x) double.infRung = x
    rw [lit_inf, word_inf]
    have hi := of_decide_eq_true ix
    unfold rung at hi
    cases hn : negB x with
    | true => have := of_decide_eq_true hn; rw [if_pos rfl]; omega
    | false => have := of_decide_eq_false hn; rw [if_neg (by decide)]; omega
  unfold Format.add
  rw [read_inf hx (of_decide_eq_true ix)]
  by_cases iy : infB y = true
  · rw [read_inf hy (of_decide_eq_true iy)]
    show ((if negB x = negB y then some (Datum.infinity (negB x)) else none : Option Datum)).map _ = _
    rw [if_pos (h iy)]
    show some (double.write (.infinity (negB x))) = _
    rw [e]
  · obtain ⟨m, k, e1, _⟩ := read_num hy (by
      have := nan_no ny
      have h2 : ¬ rung y = 9218868437227405312 := fun hh => iy (decide_eq_true hh)
      omega)
    rw [e1]
    show some (double.write (.infinity (negB x))) = _
    rw [e]
end Go.Proofs.YtikjdjfpoohieaaDoor.F

namespace Go.Proofs.YtikjdjfpoohieaaDoor
open Go.RowKit
open F
set_option linter.unusedVariables false

theorem ext_bits (x : Nat) (w : World) : (callFunc 98 #[.float .f64 x]).run Tryd.prog w = .ok (.value (.int .u64 x)) w := by
  rw [run_callFunc_extern (fn := Tryd.f98) (e := Extern.MathFloatBits.float64bits) (by kernel_rfl) (by kernel_rfl) (by kernel_rfl) (by kernel_rfl) (by kernel_rfl)]
  rfl
theorem ext_from (x : Nat) (w : World) : (callFunc 94 #[.int .u64 (x : Int)]).run Tryd.prog w = .ok (.value (.float .f64 x)) w := by
  rw [run_callFunc_extern (fn := Tryd.f94) (e := Extern.MathFloatBits.float64frombits) (by kernel_rfl) (by kernel_rfl) (by kernel_rfl) (by kernel_rfl) (by kernel_rfl)]
  rfl
/-- A plain answer; the world is as it was. -/
def Yes (w : World) (v : Value) (e : Ending) (w' : World) : Prop := e = .returned v ∧ w' = w
theorem wrap_big {x : Nat} (h : x < 9223372036854775808) : IntKind.i64.wrap (x : Int) = (x : Int) := by rw [IntKind.wrap_i64]; omega
end Go.Proofs.YtikjdjfpoohieaaDoor

namespace Go.Proofs.YtikjdjfpoohieaaDoor.F
set_option linter.unusedVariables false
open Ieee

theorem word_no (r : Nat) : double.word false r = r := by unfold Format.word; rw [if_neg (by decide)]
theorem cut_even (neg : Bool) (n d : Nat) : Toward.even.cut neg n d = Toward.even.cut false n d := rfl
theorem near_nought (neg : Bool) (place : Int) : double.nearest neg 0 place = double.word neg 0 := by unfold Format.nearest; rw [if_pos rfl]
theorem near_sign (neg : Bool) (mag : Nat) (place : Int) : double.nearest neg mag place = double.word neg (double.nearest false mag place) := by
  by_cases h : mag = 0
  · rw [h, near_nought, near_nought, word_no]
  · unfold Format.nearest
    rw [if_neg h, if_neg h, word_no]
    simp only [cut_even neg]
theorem word_parts (neg : Bool) {r : Nat} (h : r ≤ 9218868437227405312) : rung (double.word neg r) = r ∧ negB (double.word neg r) = neg ∧ double.word neg r < 18446744073709551616 := by
  unfold Format.word
  rw [lit_sign]
  cases neg with
  | true => exact ⟨by show (9223372036854775808 + r) % 9223372036854775808 = r; omega, decide_eq_true (by show 9223372036854775808 ≤ 9223372036854775808 + r; omega), by show 9223372036854775808 + r < _; omega⟩
  | false => exact ⟨by show r % 9223372036854775808 = r; omega, decide_eq_false (by show ¬ 9223372036854775808 ≤ r; omega), by show r < _; omega⟩
theorem of_parts {x y : Nat} (hx : x < 18446744073709551616) (hy : y < 18446744073709551616) (h1 : rung x = rung y) (h2 : negB x = negB y) : x = y := by
  unfold rung at h1
  unfold negB at h2
  have := decide_eq_decide.1 h2
  omega
/-- A number, written, is the word that it was read of. -/
theorem write_read {x : Nat} (hx : x < 18446744073709551616) (hr : rung x < 9218868437227405312) : double.write (double.read x) = x ∧ (∃ m i, double.read x = .number (negB x) m i ∧ (-1074) ≤ i ∧ (m = 0 ↔ rung x = 0)) := by
  have hread : double.read x = if rung x < 4503599627370496 then .number (negB x) (rung x) (-1074) else .number (negB x) (4503599627370496 + rung x % 4503599627370496) (-1074 + ((rung x / 4503599627370496 - 1 : Nat) : Int)) := by
    unfold Format.read
    simp only [lit_sign, lit_binade, lit_inf, lit_least, neg_bit hx]
    show (if rung x < 4503599627370496 then _ else if rung x < 9218868437227405312 then _ else _) = _
    rw [if_pos hr]
    rfl
  rw [hread]
  by_cases h : rung x < 4503599627370496
  · rw [if_pos h]
    refine ⟨?_, _, _, rfl, by omega, Iff.rfl⟩
    show double.nearest (negB x) (rung x) (-1074) = x
    rw [near_sign]
    have e : double.nearest false (rung x) (-1074) = rung x := by
      by_cases h0 : rung x = 0
      · rw [h0]; rfl
      · have hl : (rung x).log2 ≤ 51 := by have := (Nat.log2_lt h0).2 (show rung x < 2 ^ 52 from h); omega
        rw [nearest_pos _ _ h0, show max ((-1074 : Int) + ((rung x).log2 : Int) - 52) (-1074) = -1074 by omega]
        show min (0 * 4503599627370496 + Toward.even.cut false (rung x <<< 0) 0) 9218868437227405312 = rung x
        rw [Nat.shiftLeft_zero, cut_zero]; omega
    rw [e]
    have hp := word_parts (negB x) (r := rung x) (by omega)
    exact of_parts hp.2.2 hx hp.1 hp.2.1
  · rw [if_neg h]
    refine ⟨?_, _, _, rfl, by omega, ⟨fun h0 => absurd h0 (by omega), fun h0 => absurd h0 (by omega)⟩⟩
    show double.nearest (negB x) (4503599627370496 + rung x % 4503599627370496) (-1074 + ((rung x / 4503599627370496 - 1 : Nat) : Int)) = x
    rw [near_sign]
    obtain ⟨q, hq⟩ : ∃ q, rung x / 4503599627370496 = q + 1 := ⟨rung x / 4503599627370496 - 1, by omega⟩
    obtain ⟨f, hf⟩ : ∃ f, rung x % 4503599627370496 = f := ⟨_, rfl⟩
    have e : double.nearest false (4503599627370496 + rung x % 4503599627370496) (-1074 + ((rung x / 4503599627370496 - 1 : Nat) : Int)) = rung x := by
      have hl : (4503599627370496 + rung x % 4503599627370496).log2 = 52 := (Nat.log2_eq_iff (by omega)).2 ⟨by show 4503599627370496 ≤ _; omega, by show _ < 9007199254740992; omega⟩
      rw [nearest_pos _ _ (by omega), hl, hq, hf]
      rw [show max ((-1074 : Int) + ((q + 1 - 1 : Nat) : Int) + ((52 : Nat) : Int) - 52) (-1074) = -1074 + (q : Int) by omega]
      rw [show ((-1074 : Int) + ((q + 1 - 1 : Nat) : Int) - (-1074 + (q : Int))).toNat = 0 by omega, show ((-1074 : Int) + (q : Int) - (-1074 + ((q + 1 - 1 : Nat) : Int))).toNat = 0 by omega, Nat.shiftLeft_zero, cut_zero, show ((-1074 : Int) + (q : Int) + 1074).toNat = q by omega]
      omega
    rw [e]
    have hp := word_parts (negB x) (r := rung x) (by omega)
    exact of_parts hp.2.2 hx hp.1 hp.2.1
theorem sum_comm (a b : Datum) : a.sum b = b.sum a := by
  cases a <;> cases b <;> try rfl
  · rename_i s m i t n j
    show some (Datum.number _ _ _) = some (Datum.number _ _ _)
    rw [show min i j = min j i by omega, Int.add_comm, Bool.and_comm]
  · rename_i s t
    show (if s = t then some (Datum.infinity s) else none) = if t = s then some (Datum.infinity t) else none
    by_cases h : s = t
    · rw [if_pos h, if_pos h.symm, h]
    · rw [if_neg h, if_neg (fun e => h e.symm)]
theorem add_comm (x y : Nat) : floatBits .add .f64 x y = floatBits .add .f64 y x := by
  show double.add x y = double.add y x
  unfold Format.add
  rw [sum_comm]
theorem signed_zero (s : Bool) (m u : Nat) (h : m = 0) : signed s m u = 0 := by subst h; unfold signed; cases s <;> simp
/-- 0, with the sign. -/
def nilN : Nat := 9223372036854775808
/-- 0 and a number that is not 0 with the sign. -/
theorem zero_add {x : Nat} (hx : x < 18446744073709551616) (nx : nanB x = false) (h0 : x ≠ nilN) : floatBits .add .f64 0 x = some x := by
  by_cases hi : rung x = 9218868437227405312
  · rw [add_comm]
    exact add_inf_left hx (by omega) (decide_eq_true hi) (by decide) (fun h => absurd h (by decide))
  · have rx : rung x < 9218868437227405312 := by have := nan_no nx; omega
    obtain ⟨e, m, i, e3, hi2, hm0⟩ := write_read hx rx
    show double.add 0 x = some x
    unfold Format.add
    have er : double.read 0 = .number false 0 (-1074) := by decide +kernel
    rw [er, e3]
    simp only [Datum.sum, Option.map_some]
    congr 1
    rw [signed_zero false 0 _ rfl, Int.zero_add, show min (-1074 : Int) i = -1074 by omega, Bool.false_and]
    rw [e3] at e
    by_cases hm : m = 0
    · rw [signed_zero _ m _ hm, if_pos rfl]
      have hxr := hm0.1 hm
      have hx0 : x = 0 := by
        refine of_parts hx (by omega) (hxr.trans (by decide)) ?_
        cases hs : negB x with
        | false => decide
        | true => exact absurd (of_parts hx (by decide) (hxr.trans (by decide)) (hs.trans (by decide))) h0
      rw [hx0]; decide +kernel
    · have hne : signed (negB x) m (i - -1074).toNat ≠ 0 := by
        unfold signed
        rw [Nat.shiftLeft_eq]
        have : 0 < m * 2 ^ (i - -1074).toNat := Nat.mul_pos (by omega) (pow_pos3 _)
        split <;> omega
      rw [if_neg hne]
      have hsg : decide (signed (negB x) m (i - -1074).toNat < 0) = negB x := by
        unfold signed
        rw [Nat.shiftLeft_eq]
        have : 0 < m * 2 ^ (i - -1074).toNat := Nat.mul_pos (by omega) (pow_pos3 _)
        cases negB x with
        | true => rw [if_pos rfl]; exact decide_eq_true (by omega)
        | false => rw [if_neg (by decide)]; exact decide_eq_false (by omega)
      have hab : (signed (negB x) m (i - -1074).toNat).natAbs = m * 2 ^ (i - -1074).toNat := by
        unfold signed
        rw [Nat.shiftLeft_eq]
        split <;> omega
      rw [hsg, hab]
      refine Eq.trans ?_ e
      show double.nearest (negB x) (m * 2 ^ (i - -1074).toNat) (-1074) = double.nearest (negB x) m i
      rw [near_sign, near_sign (negB x) m i]
      congr 1
      obtain ⟨u, hu⟩ : ∃ u : Nat, i = -1074 + (u : Int) := ⟨(i - -1074).toNat, by omega⟩
      subst hu
      rw [show (-1074 + (u : Int) - -1074).toNat = u by omega]
      have hlog : (m * 2 ^ u).log2 = m.log2 + u := by
        obtain ⟨l1, l2⟩ := log_bounds hm
        have hne2 : m * 2 ^ u ≠ 0 := Nat.mul_ne_zero hm (by have := pow_pos3 u; omega)
        refine (Nat.log2_eq_iff hne2).2 ⟨?_, ?_⟩
        · rw [Nat.pow_add]; exact Nat.mul_le_mul_right _ l1
        · rw [show m.log2 + u + 1 = (m.log2 + 1) + u by omega, Nat.pow_add]; exact Nat.mul_lt_mul_of_pos_right l2 (pow_pos3 u)
      have hne2 : m * 2 ^ u ≠ 0 := Nat.mul_ne_zero hm (by have := pow_pos3 u; omega)
      rw [nearest_pos _ _ hne2, nearest_pos _ _ hm, hlog]
      rw [show (-1074 : Int) + ((m.log2 + u : Nat) : Int) - 52 = -1074 + (u : Int) + (m.log2 : Int) - 52 by omega]
      obtain ⟨L, hL⟩ : ∃ L : Int, max (-1074 + (u : Int) + (m.log2 : Int) - 52) (-1074) = L := ⟨_, rfl⟩
      rw [hL]
      congr 2
      -- m is the digits of x: at most 53 of them
      have hlast : L ≤ -1074 + (u : Int) := by
        rw [← hL]
        have hm53 : m.log2 ≤ 52 := by
          have hrd : double.read x = .number (negB x) m (-1074 + (u : Int)) := e3
          unfold Format.read at hrd
          simp only [lit_sign, lit_binade, lit_inf, lit_least, neg_bit hx] at hrd
          have hrd2 : (if rung x < 4503599627370496 then Datum.number (negB x) (rung x) (-1074) else if rung x < 9218868437227405312 then Datum.number (negB x) (4503599627370496 + rung x % 4503599627370496) (-1074 + ((rung x / 4503599627370496 - 1 : Nat) : Int)) else _) = Datum.number (negB x) m (-1074 + (u : Int)) := hrd
          rw [if_pos rx] at hrd2
          by_cases hsub : rung x < 4503599627370496
          · rw [if_pos hsub] at hrd2
            injection hrd2 with _ h2 _
            have := (Nat.log2_lt hm).2 (show m < 2 ^ 52 by omega)
            omega
          · rw [if_neg hsub] at hrd2
            injection hrd2 with _ h2 _
            have := (Nat.log2_lt hm).2 (show m < 2 ^ 53 by omega)
            omega
        omega
      have hL0 : -1074 ≤ L := by omega
      obtain ⟨v, hv⟩ : ∃ v : Nat, L = -1074 + (v : Int) := ⟨(L + 1074).toNat, by omega⟩
      subst hv
      rw [show (-1074 - (-1074 + (v : Int))).toNat = 0 by omega, show (-1074 + (v : Int) - -1074).toNat = v by omega, show (-1074 + (u : Int) - (-1074 + (v : Int))).toNat = u - v by omega, show (-1074 + (v : Int) - (-1074 + (u : Int))).toNat = 0 by omega, Nat.shiftLeft_zero, cut_zero, Nat.shiftLeft_eq]
      -- a multiple of 2^v, cut at v
      have hsplit : m * 2 ^ u = m * 2 ^ (u - v) * 2 ^ v := by rw [Nat.mul_assoc, ← Nat.pow_add, show u - v + v = u by omega]
      rw [hsplit]
      have hz : m * 2 ^ (u - v) ≠ 0 := Nat.mul_ne_zero hm (by have := pow_pos3 (u - v); omega)
      unfold Toward.cut
      have hlz : (m * 2 ^ (u - v) * 2 ^ v).log2 = m.log2 + u := by rw [← hsplit]; exact hlog
      rw [hlz, Nat.min_eq_left (show v ≤ m.log2 + u + 2 by omega)]
      simp only [Nat.shiftLeft_eq, Nat.one_mul]
      rw [Nat.mul_div_cancel _ (pow_pos3 v), Nat.mul_mod_left]
      have hpv := pow_pos3 v
      rw [show (decide (2 ^ v < 2 * 0) : Bool) = false from decide_eq_false (by omega), show ((2 ^ v == 2 * 0 : Bool)) = false from beq_eq_false_iff_ne.2 (by omega)]
      rfl
end Go.Proofs.YtikjdjfpoohieaaDoor.F

namespace Go.Proofs.YtikjdjfpoohieaaDoor.F
set_option linter.unusedVariables false
open Ieee

theorem w_1000 : double.nearest false 1000 0 = 4652007308841189376 := by decide +kernel
/-- The word of thousandths. -/
def thouW (n : Nat) : Nat := if n = 0 then 0 else (double.div (double.nearest false n 0) (double.nearest false 1000 0)).getD 0
theorem ofint_nat (n : Nat) : floatOfInt .f64 (n : Int) = double.nearest false n 0 := by
  show double.nearest (decide ((n : Int) < 0)) (n : Int).natAbs 0 = _
  rw [decide_eq_false (by omega), Int.natAbs_natCast]
theorem thou_word {n : Nat} (h : n < 1000000000) : double.div (double.nearest false n 0) 4652007308841189376 = some (thouW n) ∧ thouW n < 9218868437227405312 ∧ (n ≠ 0 → 4503599627370496 ≤ thouW n) := by
  by_cases h0 : n = 0
  · subst h0
    rw [near_nought, word_no]
    refine ⟨by decide +kernel, by decide, fun h => absurd rfl h⟩
  · obtain ⟨r, h1, h2, h3, h4, _⟩ := thou_div n h0 (by omega)
    have e : thouW n = r := by unfold thouW; rw [if_neg h0, h1]; rfl
    rw [e, ← w_1000]
    exact ⟨h1, h4, fun _ => h3⟩
theorem thou_quo {n : Nat} (h : n < 1000000000) : floatBits .quo .f64 (floatOfInt .f64 (n : Int)) 4652007308841189376 = some (thouW n) := by
  rw [ofint_nat]; exact (thou_word h).1
/-- With the other sign. -/
def negW (x : Nat) : Nat := x ^^^ 9223372036854775808
theorem neg_parts {x : Nat} (hx : x < 18446744073709551616) : rung (negW x) = rung x ∧ negB (negW x) = !negB x ∧ negW x < 18446744073709551616 := by
  have e1 : (x ^^^ 2 ^ 63) % 2 ^ 63 = x % 2 ^ 63 := by rw [Nat.xor_mod_two_pow, Nat.mod_self, Nat.xor_zero]
  have e2 : (x ^^^ 2 ^ 63) / 2 ^ 63 = x / 2 ^ 63 ^^^ 1 := by rw [Nat.xor_div_two_pow, Nat.div_self (by omega)]
  have hn : negW x = x ^^^ 2 ^ 63 := rfl
  rw [← hn] at e1 e2
  have e3 : negW x % 9223372036854775808 = x % 9223372036854775808 := e1
  have e4 : negW x / 9223372036854775808 = x / 9223372036854775808 ^^^ 1 := e2
  have hq : x / 9223372036854775808 = 0 ∨ x / 9223372036854775808 = 1 := by omega
  unfold rung negB
  refine ⟨e3, ?_, ?_⟩
  · rcases hq with hq | hq
    · rw [hq] at e4
      have e5 : negW x / 9223372036854775808 = 1 := e4
      rw [decide_eq_true (by omega), decide_eq_false (by omega)]; rfl
    · rw [hq] at e4
      have e5 : negW x / 9223372036854775808 = 0 := e4
      rw [decide_eq_false (by omega), decide_eq_true (by omega)]; rfl
  · rcases hq with hq | hq
    · rw [hq] at e4
      have e5 : negW x / 9223372036854775808 = 1 := e4
      omega
    · rw [hq] at e4
      have e5 : negW x / 9223372036854775808 = 0 := e4
      omega
/-- What a text means: nothing, what is no number, or a word. -/
inductive RM where
  | no
  | nan
  | wd (x : Nat)
def posInf : Nat := 9218868437227405312
def negInf : Nat := 18442240474082181120
def readM (s : List UInt8) : RM :=
  if s = [110, 97, 110] then .nan else if s = [105, 110, 102] then .wd posInf else if s = [45, 105, 110, 102] then .wd negInf
  else if s.head? = some 45 then (match thoL s.tail with | none => .no | some n => .wd (negW (thouW n)))
  else match thoL s with | none => .no | some n => .wd (thouW n)
/-- A word, and whether there is one, are what a text means. -/
def ReadIs (s : List UInt8) (x : Nat) (ok : Bool) : Prop := x < 18446744073709551616 ∧ match readM s with
  | .no => x = 0 ∧ ok = false
  | .nan => nanB x = true ∧ ok = true
  | .wd y => x = y ∧ ok = true
end Go.Proofs.YtikjdjfpoohieaaDoor.F
