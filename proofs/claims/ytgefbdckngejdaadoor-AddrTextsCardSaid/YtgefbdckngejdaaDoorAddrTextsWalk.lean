/-
  The walk of layer 10's statement AddrTexts, from what addr does: it returns true whatever the numbers are. No conditions.
-/
import Derived.Test.YtgefbdckngejdaaDoorAddrA
import Derived.Test.YtgefbdckngejdaaDoorAddrT
namespace Go.Proofs.YtgefbdckngejdaaDoor
open Go.RowKit
set_option linter.unusedVariables false

theorem ipTextQ (n : Nat) (v : ByteArray) (w : World) (hn : n < 4294967296) (h : sB (N.ipT n) = v) : Calls Tryd.prog 23 #[.int .i64 (n : Int)] w (fun e w' => e = .returned (.string v) ∧ Below w.heap.size w w') := by subst h; exact ipTextR n w hn
theorem macTextQ (n : Nat) (v : ByteArray) (w : World) (hn : n < 281474976710656) (h : sB (N.macT n) = v) : Calls Tryd.prog 25 #[.int .i64 (n : Int)] w (fun e w' => e = .returned (.string v) ∧ Below w.heap.size w w') := by subst h; exact macTextR n w hn
theorem digQv (n : Int) (k : Nat) (v : ByteArray) (w : World) (hn : n = (k : Int)) (hk : k < 10000000000) (h : sB (T.decL k) = v) : Calls Tryd.prog 24 #[.int .i64 n] w (fun e w' => e = .returned (.string v) ∧ Below w.heap.size w w') := by subst h; exact digQ n k _ w hn hk rfl
theorem inQ10 (n bits ip : Int) (r : Bool) (w : World) (h : N.inB n bits ip = r) : Calls Tryd.prog 27 #[.int .i64 n, .int .i64 bits, .int .i64 ip] w (fun e w' => e = .returned (.bool r) ∧ Below w.heap.size w w') := by subst h; exact inR10 n bits ip w
theorem ipT_len (n : Nat) (h : n < 4294967296) : (N.ipT n).length ≤ 15 := by
  have h1 := dec3_len (n / 16777216) (by omega)
  have h2 := dec3_len (n / 65536 % 256) (by omega)
  have h3 := dec3_len (n / 256 % 256) (by omega)
  have h4 := dec3_len (n % 256) (by omega)
  unfold N.ipT
  simp only [List.length_append, List.length_cons]
  omega
theorem ipTA_no {n : Int} (h : ¬ (0 ≤ n ∧ n < 4294967296)) : ipTA n = (sB [], false) := by unfold ipTA; rw [if_neg h]
theorem macTA_no {n : Int} (h : ¬ (0 ≤ n ∧ n < 281474976710656)) : macTA n = (sB [], false) := by unfold macTA; rw [if_neg h]
theorem prefTA_no {n b : Int} (h : N.rightB n b = false) : prefTA n b = (sB [], false) := by unfold prefTA; rw [if_neg (by rw [h]; decide)]
theorem right_of_big {n b : Int} (h : ¬ (0 ≤ n ∧ n < 4294967296)) : N.rightB n b = false := by
  cases hr : N.rightB n b with
  | false => rfl
  | true => exact absurd ⟨(right_nums hr).1, (right_nums hr).2.1⟩ h
set_option maxRecDepth 100000 in
set_option maxHeartbeats 4000000 in
theorem addrTexts_walk (E : AddrOk) (AW : ∀ w, TabOk w → Calls Tryd.prog 10 #[] w (TrueS w)) (w : World) (HT : TabOk w) (n : Int) (wn : (Lit.int .i64 n).wf = true) (bits : Int) (wb : (Lit.int .i64 bits).wf = true) (ip : Int) (wi : (Lit.int .i64 ip).wf = true) :
    Calls Tryd.prog 4 #[.int .i64 n, .int .i64 bits, .int .i64 ip] w (TrueS w) := by
  have TAB := Lib.hid HT
  clear HT
  have IN := Lib.hid (show I64 n from bounds_i64 wn)
  have IB := Lib.hid (show I64 bits from bounds_i64 wb)
  have II := Lib.hid (show I64 ip from bounds_i64 wi)
  clear wn wb wi
  obtain ⟨ri, hri⟩ : ∃ r, N.inB n bits ip = r := ⟨_, rfl⟩
  have HRI := Lib.hid hri
  clear hri
  have qe : (sB []).toList = [] := sB_toList []
  have qe2 : (sB [] != ⟨#[]⟩) = false := by decide
  by_cases y0 : 0 ≤ n
  · have c0 : decide (0 ≤ n) = true := decide_eq_true y0
    obtain ⟨m, rfl⟩ := Int.eq_ofNat_of_zero_le y0
    by_cases y1 : m < 4294967296
    · have c1 : decide ((m : Int) < 4294967296) = true := decide_eq_true (by omega)
      have c1n : decide (m < 4294967296) = true := decide_eq_true y1
      have c2 : decide ((m : Int) < 281474976710656) = true := decide_eq_true (by omega)
      have c2n : decide (m < 281474976710656) = true := decide_eq_true (by omega)
      have HM := Lib.hid y1
      have HM2 := Lib.hid (show m < 281474976710656 by omega)
      obtain ⟨v1, hl1⟩ : ∃ v, sB (N.ipT m) = v := ⟨_, rfl⟩
      obtain ⟨v3, hl3⟩ : ∃ v, sB (N.macT m) = v := ⟨_, rfl⟩
      have len1 : v1.size ≤ 15 := by rw [← hl1, sB_size]; exact ipT_len m y1
      have HL1 := Lib.hid hl1
      have HL3 := Lib.hid hl3
      have HQ1 := Lib.hid (show ipTA (m : Int) = (v1, true) by rw [ipTA_of y1 rfl, hl1])
      have HQ3 := Lib.hid (show macTA (m : Int) = (v3, true) by rw [macTA_of (show m < 281474976710656 by omega) rfl, hl3])
      obtain ⟨rr, hrr⟩ : ∃ r, N.rightB (m : Int) bits = r := ⟨_, rfl⟩
      have HRR := Lib.hid hrr
      cases rr with
      | true =>
        obtain ⟨_, _, g3, g4⟩ := right_nums hrr
        obtain ⟨b, rfl⟩ := Int.eq_ofNat_of_zero_le g3
        obtain ⟨v2, hl2⟩ : ∃ v, sB (T.decL b) = v := ⟨_, rfl⟩
        have len2 : v2.size ≤ 3 := by rw [← hl2, sB_size]; exact dec3_len b (by omega)
        have HL2 := Lib.hid hl2
        have HB := Lib.hid (show b < 10000000000 by omega)
        obtain ⟨vt, hvt⟩ : ∃ v, sB (N.prefT m b) = v := ⟨_, rfl⟩
        have HQ2 := Lib.hid (show prefTA (m : Int) (b : Int) = (vt, true) by rw [prefTA_of (n := m) (b := b) hrr rfl, hvt])
        have hsum : v1 ++ ⟨#[47]⟩ ++ v2 = vt := by
          rw [← hvt, ← hl1, ← hl2]; unfold N.prefT; exact ByteArray.ext (by simp [ByteArray.data_append, sB])
        clear hvt
        clear y0 y1 hl1 hl3 hl2 hrr g3 g4
        go_enter Tryd.func4, Tryd.ntmps4
        go_wp2_with fail
        refine (E.ipText _ v1 true _ IN.out (tabAt TAB (by first | assumption | exact Below.refl _ _ | exact below_drawn10 (by first | assumption | exact Below.refl _ _) _)) HQ1.out).mono ?_
        rintro e w1 ⟨rfl, hb⟩
        go_wp2_with fail
        refine (E.prefText _ (b : Int) vt true _ IN.out IB.out (tabAt TAB (by first | assumption | exact Below.refl _ _ | exact below_drawn10 (by first | assumption | exact Below.refl _ _) _)) HQ2.out).mono ?_
        rintro e w2 ⟨rfl, hx⟩
        replace hb := bthen hb hx
        clear hx
        go_wp2_with fail
        refine (E.macText _ v3 true _ IN.out HQ3.out).mono ?_
        rintro e w2 ⟨rfl, hx⟩
        replace hb := bthen hb hx
        clear hx
        go_wp2_with fail
        refine (rightQ10 _ (b : Int) true _ HRR.out).mono ?_
        rintro e w2 ⟨rfl, rfl⟩
        go_wp2_with fail
        refine (ipTextQ m v1 _ HM.out HL1.out).mono ?_
        rintro e w2 ⟨rfl, hx⟩
        replace hb := bthen hb hx
        clear hx
        go_wp2_with fail
        refine (ipTextQ m v1 _ HM.out HL1.out).mono ?_
        rintro e w2 ⟨rfl, hx⟩
        replace hb := bthen hb hx
        clear hx
        go_wp2_with fail
        refine (digQv _ b v2 _ rfl HB.out HL2.out).mono ?_
        rintro e w2 ⟨rfl, hx⟩
        replace hb := bthen hb hx
        clear hx
        go_wp2_with fail
        refine (macTextQ m v3 _ HM2.out HL3.out).mono ?_
        rintro e w2 ⟨rfl, hx⟩
        replace hb := bthen hb hx
        clear hx
        go_wp2_with fail
        refine (E.inOf _ (b : Int) ip ri _ IN.out IB.out II.out HRI.out).mono ?_
        rintro e w2 ⟨rfl, hx⟩
        replace hb := bthen hb hx
        clear hx
        go_wp2_with fail
        refine (inQ10 _ (b : Int) ip ri _ HRI.out).mono ?_
        rintro e w2 ⟨rfl, hx⟩
        replace hb := bthen hb hx
        clear hx
        go_wp2_with fail
        refine (AW _ (tabAt TAB (by first | assumption | exact Below.refl _ _ | exact below_drawn10 (by first | assumption | exact Below.refl _ _) _))).mono ?_
        rintro e w2 ⟨rfl, hx⟩
        replace hb := bthen hb hx
        clear hx
        go_wp2
        go_ret
        exact ⟨rfl, hb⟩
      | false =>
        have HQ2 := Lib.hid (prefTA_no hrr)
        clear y0 y1 hl1 hl3 hrr
        go_enter Tryd.func4, Tryd.ntmps4
        go_wp2_with fail
        refine (E.ipText _ v1 true _ IN.out (tabAt TAB (by first | assumption | exact Below.refl _ _ | exact below_drawn10 (by first | assumption | exact Below.refl _ _) _)) HQ1.out).mono ?_
        rintro e w1 ⟨rfl, hb⟩
        go_wp2_with fail
        refine (E.prefText _ bits (sB []) false _ IN.out IB.out (tabAt TAB (by first | assumption | exact Below.refl _ _ | exact below_drawn10 (by first | assumption | exact Below.refl _ _) _)) HQ2.out).mono ?_
        rintro e w2 ⟨rfl, hx⟩
        replace hb := bthen hb hx
        clear hx
        go_wp2_with fail
        refine (E.macText _ v3 true _ IN.out HQ3.out).mono ?_
        rintro e w2 ⟨rfl, hx⟩
        replace hb := bthen hb hx
        clear hx
        go_wp2_with fail
        refine (rightQ10 _ bits false _ HRR.out).mono ?_
        rintro e w2 ⟨rfl, rfl⟩
        go_wp2_with fail
        refine (ipTextQ m v1 _ HM.out HL1.out).mono ?_
        rintro e w2 ⟨rfl, hx⟩
        replace hb := bthen hb hx
        clear hx
        go_wp2_with fail
        refine (macTextQ m v3 _ HM2.out HL3.out).mono ?_
        rintro e w2 ⟨rfl, hx⟩
        replace hb := bthen hb hx
        clear hx
        go_wp2_with fail
        refine (E.inOf _ bits ip ri _ IN.out IB.out II.out HRI.out).mono ?_
        rintro e w2 ⟨rfl, hx⟩
        replace hb := bthen hb hx
        clear hx
        go_wp2_with fail
        refine (inQ10 _ bits ip ri _ HRI.out).mono ?_
        rintro e w2 ⟨rfl, hx⟩
        replace hb := bthen hb hx
        clear hx
        go_wp2_with fail
        refine (AW _ (tabAt TAB (by first | assumption | exact Below.refl _ _ | exact below_drawn10 (by first | assumption | exact Below.refl _ _) _))).mono ?_
        rintro e w2 ⟨rfl, hx⟩
        replace hb := bthen hb hx
        clear hx
        go_wp2
        go_ret
        exact ⟨rfl, hb⟩
    · have c1 : decide ((m : Int) < 4294967296) = false := decide_eq_false (by omega)
      have c1n : decide (m < 4294967296) = false := decide_eq_false y1
      have HRR := Lib.hid (show N.rightB (m : Int) bits = false from right_of_big (by omega))
      have HQ1 := Lib.hid (show ipTA (m : Int) = (sB [], false) from ipTA_no (by omega))
      have HQ2 := Lib.hid (prefTA_no HRR.out)
      by_cases y2 : m < 281474976710656
      · have c2 : decide ((m : Int) < 281474976710656) = true := decide_eq_true (by omega)
        have c2n : decide (m < 281474976710656) = true := decide_eq_true y2
        have HM2 := Lib.hid y2
        obtain ⟨v3, hl3⟩ : ∃ v, sB (N.macT m) = v := ⟨_, rfl⟩
        have HL3 := Lib.hid hl3
        have HQ3 := Lib.hid (show macTA (m : Int) = (v3, true) by rw [macTA_of y2 rfl, hl3])
        clear y0 y1 y2 hl3
        go_enter Tryd.func4, Tryd.ntmps4
        go_wp2_with fail
        refine (E.ipText _ (sB []) false _ IN.out (tabAt TAB (by first | assumption | exact Below.refl _ _ | exact below_drawn10 (by first | assumption | exact Below.refl _ _) _)) HQ1.out).mono ?_
        rintro e w1 ⟨rfl, hb⟩
        go_wp2_with fail
        refine (E.prefText _ bits (sB []) false _ IN.out IB.out (tabAt TAB (by first | assumption | exact Below.refl _ _ | exact below_drawn10 (by first | assumption | exact Below.refl _ _) _)) HQ2.out).mono ?_
        rintro e w2 ⟨rfl, hx⟩
        replace hb := bthen hb hx
        clear hx
        go_wp2_with fail
        refine (E.macText _ v3 true _ IN.out HQ3.out).mono ?_
        rintro e w2 ⟨rfl, hx⟩
        replace hb := bthen hb hx
        clear hx
        go_wp2_with fail
        refine (rightQ10 _ bits false _ HRR.out).mono ?_
        rintro e w2 ⟨rfl, rfl⟩
        go_wp2_with fail
        refine (macTextQ m v3 _ HM2.out HL3.out).mono ?_
        rintro e w2 ⟨rfl, hx⟩
        replace hb := bthen hb hx
        clear hx
        go_wp2_with fail
        refine (E.inOf _ bits ip ri _ IN.out IB.out II.out HRI.out).mono ?_
        rintro e w2 ⟨rfl, hx⟩
        replace hb := bthen hb hx
        clear hx
        go_wp2_with fail
        refine (inQ10 _ bits ip ri _ HRI.out).mono ?_
        rintro e w2 ⟨rfl, hx⟩
        replace hb := bthen hb hx
        clear hx
        go_wp2_with fail
        refine (AW _ (tabAt TAB (by first | assumption | exact Below.refl _ _ | exact below_drawn10 (by first | assumption | exact Below.refl _ _) _))).mono ?_
        rintro e w2 ⟨rfl, hx⟩
        replace hb := bthen hb hx
        clear hx
        go_wp2
        go_ret
        exact ⟨rfl, hb⟩
      · have c2 : decide ((m : Int) < 281474976710656) = false := decide_eq_false (by omega)
        have c2n : decide (m < 281474976710656) = false := decide_eq_false y2
        have HQ3 := Lib.hid (show macTA (m : Int) = (sB [], false) from macTA_no (by omega))
        clear y0 y1 y2
        go_enter Tryd.func4, Tryd.ntmps4
        go_wp2_with fail
        refine (E.ipText _ (sB []) false _ IN.out (tabAt TAB (by first | assumption | exact Below.refl _ _ | exact below_drawn10 (by first | assumption | exact Below.refl _ _) _)) HQ1.out).mono ?_
        rintro e w1 ⟨rfl, hb⟩
        go_wp2_with fail
        refine (E.prefText _ bits (sB []) false _ IN.out IB.out (tabAt TAB (by first | assumption | exact Below.refl _ _ | exact below_drawn10 (by first | assumption | exact Below.refl _ _) _)) HQ2.out).mono ?_
        rintro e w2 ⟨rfl, hx⟩
        replace hb := bthen hb hx
        clear hx
        go_wp2_with fail
        refine (E.macText _ (sB []) false _ IN.out HQ3.out).mono ?_
        rintro e w2 ⟨rfl, hx⟩
        replace hb := bthen hb hx
        clear hx
        go_wp2_with fail
        refine (rightQ10 _ bits false _ HRR.out).mono ?_
        rintro e w2 ⟨rfl, rfl⟩
        go_wp2_with fail
        refine (E.inOf _ bits ip ri _ IN.out IB.out II.out HRI.out).mono ?_
        rintro e w2 ⟨rfl, hx⟩
        replace hb := bthen hb hx
        clear hx
        go_wp2_with fail
        refine (inQ10 _ bits ip ri _ HRI.out).mono ?_
        rintro e w2 ⟨rfl, hx⟩
        replace hb := bthen hb hx
        clear hx
        go_wp2_with fail
        refine (AW _ (tabAt TAB (by first | assumption | exact Below.refl _ _ | exact below_drawn10 (by first | assumption | exact Below.refl _ _) _))).mono ?_
        rintro e w2 ⟨rfl, hx⟩
        replace hb := bthen hb hx
        clear hx
        go_wp2
        go_ret
        exact ⟨rfl, hb⟩
  · have c0 : decide (0 ≤ n) = false := decide_eq_false y0
    have HRR := Lib.hid (show N.rightB n bits = false from right_of_big (by omega))
    have HQ1 := Lib.hid (show ipTA n = (sB [], false) from ipTA_no (by omega))
    have HQ2 := Lib.hid (prefTA_no HRR.out)
    have HQ3 := Lib.hid (show macTA n = (sB [], false) from macTA_no (by omega))
    clear y0
    go_enter Tryd.func4, Tryd.ntmps4
    go_wp2_with fail
    refine (E.ipText _ (sB []) false _ IN.out (tabAt TAB (by first | assumption | exact Below.refl _ _ | exact below_drawn10 (by first | assumption | exact Below.refl _ _) _)) HQ1.out).mono ?_
    rintro e w1 ⟨rfl, hb⟩
    go_wp2_with fail
    refine (E.prefText _ bits (sB []) false _ IN.out IB.out (tabAt TAB (by first | assumption | exact Below.refl _ _ | exact below_drawn10 (by first | assumption | exact Below.refl _ _) _)) HQ2.out).mono ?_
    rintro e w2 ⟨rfl, hx⟩
    replace hb := bthen hb hx
    clear hx
    go_wp2_with fail
    refine (E.macText _ (sB []) false _ IN.out HQ3.out).mono ?_
    rintro e w2 ⟨rfl, hx⟩
    replace hb := bthen hb hx
    clear hx
    go_wp2_with fail
    refine (rightQ10 _ bits false _ HRR.out).mono ?_
    rintro e w2 ⟨rfl, rfl⟩
    go_wp2_with fail
    refine (E.inOf _ bits ip ri _ IN.out IB.out II.out HRI.out).mono ?_
    rintro e w2 ⟨rfl, hx⟩
    replace hb := bthen hb hx
    clear hx
    go_wp2_with fail
    refine (inQ10 _ bits ip ri _ HRI.out).mono ?_
    rintro e w2 ⟨rfl, hx⟩
    replace hb := bthen hb hx
    clear hx
    go_wp2_with fail
    refine (AW _ (tabAt TAB (by first | assumption | exact Below.refl _ _ | exact below_drawn10 (by first | assumption | exact Below.refl _ _) _))).mono ?_
    rintro e w2 ⟨rfl, hx⟩
    replace hb := bthen hb hx
    clear hx
    go_wp2
    go_ret
    exact ⟨rfl, hb⟩
end Go.Proofs.YtgefbdckngejdaaDoor
