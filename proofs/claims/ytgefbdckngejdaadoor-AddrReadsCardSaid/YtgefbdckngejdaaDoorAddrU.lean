/-
  The document's side of layer 10 (ferryslipref10), last: Prefix. Condition: texts of at most 2^30 bytes.
-/
import Derived.Test.YtgefbdckngejdaaDoorAddrT
import Derived.Deep.RegionHeld3
namespace Go.Proofs.YtgefbdckngejdaaDoor
open Go.RowKit
set_option linter.unusedVariables false

theorem pref_other {s : List UInt8} {L : List (List UInt8)} (h : N.splitL 47 s = L) (hl : L.length ≠ 2) : N.prefL s = (-1, 0) := by
  unfold N.prefL
  rw [h]
  match L, hl with
  | [], _ => rfl
  | [_], _ => rfl
  | [_, _], hl => exact absurd rfl hl
  | _ :: _ :: _ :: _, _ => rfl
theorem ip_range10 (x : List UInt8) : -1 ≤ N.ipL x ∧ N.ipL x < 4294967296 := by
  rcases N.ip_cases x with h | ⟨n, h, hn, _⟩ <;> rw [h] <;> omega
theorem ipQ (x : List UInt8) (z : Int) (w : World) (hs : x.length ≤ 1073741824) (h : N.ipL x = z) : Calls Tryd.prog 14 #[.string (sB x)] w (fun e w' => e = .returned (.int .i64 z) ∧ Below w.heap.size w w') := by
  subst h; exact ipR (sB x) w (by rw [sB_size]; exact hs)
set_option maxRecDepth 100000 in
set_option maxHeartbeats 4000000 in
theorem prefR (s : ByteArray) (w : World) (hs : s.size ≤ 1073741824) : Calls Tryd.prog 16 #[.string s] w (fun e w' => e = .returned (.tuple #[.int .i64 (N.prefL s.data.toList).1, .int .i64 (N.prefL s.data.toList).2]) ∧ Below w.heap.size w w') := by
  obtain ⟨L, hL⟩ : ∃ L, N.splitL 47 s.data.toList = L := ⟨_, rfl⟩
  obtain ⟨r, hr⟩ : ∃ r, N.prefL s.data.toList = r := ⟨_, rfl⟩
  obtain ⟨r1, r2⟩ := r
  obtain ⟨m, hm⟩ : ∃ m, L.length = m := ⟨_, rfl⟩
  have hparts := partsR s 47 w hs
  rw [hL] at hparts
  rw [hr]
  have HEA := Lib.hid (show ∀ x ∈ L, x.length ≤ 1073741824 from fun x hx => by
    have h := split_mem (c := 47) (hL ▸ hx)
    have h2 : s.data.toList.length = s.size := by simp
    omega)
  have HL := Lib.hid hL
  have HR := Lib.hid hr
  have HM := Lib.hid hm
  clear hL hr
  show Calls _ _ _ _ (fun e w' => e = .returned (.tuple #[.int .i64 r1, .int .i64 r2]) ∧ Below w.heap.size w w')
  by_cases h4 : m = 2
  · have b4 : ((m : Int) != 2) = false := by simp; omega
    have H4 := Lib.hid h4
    obtain ⟨xa, xb, rfl⟩ : ∃ xa xb, L = [xa, xb] := by
      subst h4
      match L, hm with
      | [a, b], _ => exact ⟨a, b, rfl⟩
    clear h4 hm
    obtain ⟨z, hz⟩ : ∃ z, N.ipL xa = z := ⟨_, rfl⟩
    obtain ⟨k, hk⟩ : ∃ k, N.numL xb = k := ⟨_, rfl⟩
    obtain ⟨rr, hrr⟩ : ∃ rr, N.rightB z k = rr := ⟨_, rfl⟩
    have rz := ip_range10 xa
    have rk := N.num_ge xb
    rw [hz] at rz
    rw [hk] at rk
    have hsp : (if rr = true then (z, k) else ((-1 : Int), (0 : Int))) = (r1, r2) := by
      rw [← HR.out]
      unfold N.prefL
      rw [HL.out]
      show _ = if N.rightB (N.ipL xa) (N.numL xb) = true then (N.ipL xa, N.numL xb) else (-1, 0)
      rw [hz, hk, hrr]
    have HNO := Lib.hid (show rr = false → r1 = -1 ∧ r2 = 0 from fun h => by rw [h, if_neg (by decide)] at hsp; exact ⟨(congrArg Prod.fst hsp).symm, (congrArg Prod.snd hsp).symm⟩)
    have HYES := Lib.hid (show rr = true → r1 = z ∧ r2 = k from fun h => by rw [h, if_pos rfl] at hsp; exact ⟨(congrArg Prod.fst hsp).symm, (congrArg Prod.snd hsp).symm⟩)
    have HBD := Lib.hid (show rr = true → 0 ≤ z ∧ 0 ≤ k ∧ k ≤ 32 from fun h => by have h5 := right_nums (hrr.trans h); exact ⟨h5.1, h5.2.2.1, h5.2.2.2⟩)
    clear hsp
    have HZ := Lib.hid hz
    have HK := Lib.hid hk
    have HRR := Lib.hid hrr
    clear hz hk hrr
    go_enter Tryd.func16, Tryd.ntmps16
    go_wp2_with fail
    refine hparts.mono ?_
    rintro e w1 ⟨v1, rfl, hown, hx⟩
    obtain ⟨A1, c1, e1, hc1, hs1⟩ := hown.seen
    rw [HM.out] at e1 hc1
    subst e1
    obtain ⟨b, o, rfl, hb, hH⟩ := hs1 (by rw [HM.out, H4.out]; omega)
    obtain rfl : m = 2 := H4.out
    have z0 := hH.str (i := 0) (by show 0 < 2; omega)
    have z1 := hH.str (i := 1) (by show 1 < 2; omega)
    have HKP := Lib.hid (fun w' (h : Below w1.heap.size w1 w') => show w'.cell? ⟨b, o, none⟩ = some (.string (sB xa)) ∧ w'.cell? ⟨b, o + 1, none⟩ = some (.string (sB xb)) from ⟨(h.cell hb).trans z0, (h.cell hb).trans z1⟩)
    have HX := Lib.hid hx
    have HIP := Lib.hid (fun w' => ipQ xa z w' (HEA.out xa (by simp)) HZ.out)
    have HNU := Lib.hid (fun w' => numQ xb k w' (HEA.out xb (by simp)) HK.out)
    have hbd : Below w1.heap.size w1 w1.drew := (Below.refl _ _).drew
    clear hown hs1 hH hparts hx
    by_cases y1 : z < 0
    · have c1 : decide (z < 0) = true := decide_eq_true y1
      have hrf : rr = false := by cases hrc : rr with | false => rfl | true => exact absurd (HBD.out hrc).1 (by omega)
      clear y1
      have HE1 := Lib.hid (HNO.out hrf).1
      have HE2 := Lib.hid (HNO.out hrf).2
      clear hrf
      go_wp2
      go_region_held3 (fun w' => Below w1.heap.size w1 w' ∧ w'.cell? ⟨b, o, none⟩ = some (.string (sB xa)) ∧ w'.cell? ⟨b, o + 1, none⟩ = some (.string (sB xb))) (first | ((refine ⟨?_, HKP.out _ ?_⟩) <;> (first | assumption | (refine Below.drew ?_; assumption))) | go_keep) (first | (go_at_call 14; refine (HIP.out _).mono ?_; rintro e w' ⟨rfl, hx⟩; have hbx := bthen (show Below w1.heap.size w1 _ by assumption) hx) | (go_at_call 12; refine (HNU.out _).mono ?_; rintro e w' ⟨rfl, rfl⟩))
      all_goals go_wp2
      all_goals go_ret2
      all_goals exact ⟨by rw [show r1 = -1 from HE1.out, show r2 = 0 from HE2.out]; rfl, bthen HX.out (by first | assumption | (refine Below.drew ?_; assumption))⟩
    · have c1 : decide (z < 0) = false := decide_eq_false y1
      by_cases y2 : k < 0
      · have c2 : decide (k < 0) = true := decide_eq_true y2
        have hrf : rr = false := by cases hrc : rr with | false => rfl | true => exact absurd (HBD.out hrc).2.1 (by omega)
        clear y1 y2
        have HE1 := Lib.hid (HNO.out hrf).1
        have HE2 := Lib.hid (HNO.out hrf).2
        clear hrf
        go_wp2
        go_region_held3 (fun w' => Below w1.heap.size w1 w' ∧ w'.cell? ⟨b, o, none⟩ = some (.string (sB xa)) ∧ w'.cell? ⟨b, o + 1, none⟩ = some (.string (sB xb))) (first | ((refine ⟨?_, HKP.out _ ?_⟩) <;> (first | assumption | (refine Below.drew ?_; assumption))) | go_keep) (first | (go_at_call 14; refine (HIP.out _).mono ?_; rintro e w' ⟨rfl, hx⟩; have hbx := bthen (show Below w1.heap.size w1 _ by assumption) hx) | (go_at_call 12; refine (HNU.out _).mono ?_; rintro e w' ⟨rfl, rfl⟩))
        all_goals go_wp2
        all_goals go_ret2
        all_goals exact ⟨by rw [show r1 = -1 from HE1.out, show r2 = 0 from HE2.out]; rfl, bthen HX.out (by first | assumption | (refine Below.drew ?_; assumption))⟩
      · have c2 : decide (k < 0) = false := decide_eq_false y2
        by_cases y3 : 32 < k
        · have c3 : decide (32 < k) = true := decide_eq_true y3
          have hrf : rr = false := by cases hrc : rr with | false => rfl | true => exact absurd (HBD.out hrc).2.2 (by omega)
          clear y1 y2 y3
          have HE1 := Lib.hid (HNO.out hrf).1
          have HE2 := Lib.hid (HNO.out hrf).2
          clear hrf
          go_wp2
          go_region_held3 (fun w' => Below w1.heap.size w1 w' ∧ w'.cell? ⟨b, o, none⟩ = some (.string (sB xa)) ∧ w'.cell? ⟨b, o + 1, none⟩ = some (.string (sB xb))) (first | ((refine ⟨?_, HKP.out _ ?_⟩) <;> (first | assumption | (refine Below.drew ?_; assumption))) | go_keep) (first | (go_at_call 14; refine (HIP.out _).mono ?_; rintro e w' ⟨rfl, hx⟩; have hbx := bthen (show Below w1.heap.size w1 _ by assumption) hx) | (go_at_call 12; refine (HNU.out _).mono ?_; rintro e w' ⟨rfl, rfl⟩))
          all_goals go_wp2
          all_goals go_ret2
          all_goals exact ⟨by rw [show r1 = -1 from HE1.out, show r2 = 0 from HE2.out]; rfl, bthen HX.out (by first | assumption | (refine Below.drew ?_; assumption))⟩
        · have c3 : decide (32 < k) = false := decide_eq_false y3
          clear y1 y2 y3
          cases rr with
          | false =>
            have hrf : false = false := rfl
            have HE1 := Lib.hid (HNO.out hrf).1
            have HE2 := Lib.hid (HNO.out hrf).2
            clear hrf
            go_wp2
            go_region_held3 (fun w' => Below w1.heap.size w1 w' ∧ w'.cell? ⟨b, o, none⟩ = some (.string (sB xa)) ∧ w'.cell? ⟨b, o + 1, none⟩ = some (.string (sB xb))) (first | ((refine ⟨?_, HKP.out _ ?_⟩) <;> (first | assumption | (refine Below.drew ?_; assumption))) | go_keep) (first | (go_at_call 14; refine (HIP.out _).mono ?_; rintro e w' ⟨rfl, hx⟩; have hbx := bthen (show Below w1.heap.size w1 _ by assumption) hx) | (go_at_call 12; refine (HNU.out _).mono ?_; rintro e w' ⟨rfl, rfl⟩))
            all_goals go_wp2_with fail
            all_goals (refine (rightQ10 z k _ _ HRR.out).mono ?_; rintro e w' ⟨rfl, rfl⟩)
            all_goals go_wp2
            all_goals go_ret2
            all_goals exact ⟨by rw [show r1 = -1 from HE1.out, show r2 = 0 from HE2.out]; rfl, bthen HX.out (by first | assumption | (refine Below.drew ?_; assumption))⟩
          | true =>
            have HE1 := Lib.hid (HYES.out rfl).1
            have HE2 := Lib.hid (HYES.out rfl).2
            go_wp2
            go_region_held3 (fun w' => Below w1.heap.size w1 w' ∧ w'.cell? ⟨b, o, none⟩ = some (.string (sB xa)) ∧ w'.cell? ⟨b, o + 1, none⟩ = some (.string (sB xb))) (first | ((refine ⟨?_, HKP.out _ ?_⟩) <;> (first | assumption | (refine Below.drew ?_; assumption))) | go_keep) (first | (go_at_call 14; refine (HIP.out _).mono ?_; rintro e w' ⟨rfl, hx⟩; have hbx := bthen (show Below w1.heap.size w1 _ by assumption) hx) | (go_at_call 12; refine (HNU.out _).mono ?_; rintro e w' ⟨rfl, rfl⟩))
            all_goals go_wp2_with fail
            all_goals (refine (rightQ10 z k _ _ HRR.out).mono ?_; rintro e w' ⟨rfl, rfl⟩)
            all_goals go_wp2
            all_goals go_ret2
            all_goals exact ⟨by rw [show r1 = z from HE1.out, show r2 = k from HE2.out]; rfl, bthen HX.out (by first | assumption | (refine Below.drew ?_; assumption))⟩
  · have b4 : ((m : Int) != 2) = true := by simp; omega
    have HE := Lib.hid (show (r1, r2) = ((-1 : Int), (0 : Int)) by rw [← HR.out]; exact pref_other HL.out (by rw [hm]; exact h4))
    have HE1 := Lib.hid (congrArg Prod.fst HE.out)
    have HE2 := Lib.hid (congrArg Prod.snd HE.out)
    clear h4 hm
    go_enter Tryd.func16, Tryd.ntmps16
    go_wp2_with fail
    refine hparts.mono ?_
    rintro e w1 ⟨v1, rfl, hown, hx⟩
    obtain ⟨A1, c1, e1, hc1, hs1⟩ := hown.seen
    rw [HM.out] at e1 hc1
    subst e1
    clear hown hs1 hparts
    go_wp2
    go_ret2
    exact ⟨by rw [show r1 = -1 from HE1.out, show r2 = 0 from HE2.out]; rfl, hx⟩
end Go.Proofs.YtgefbdckngejdaaDoor
