/-
  The walk of layer 10's statement AddrReads, from what addr does: it returns true whatever the text is. No conditions.
-/
import Derived.Test.YtgefbdckngejdaaDoorAddrA
import Derived.Test.YtgefbdckngejdaaDoorAddrU
import Derived.Test.YtgefbdckngejdaaDoorAddrV
namespace Go.Proofs.YtgefbdckngejdaaDoor
open Go.RowKit
set_option linter.unusedVariables false

theorem macQ (s : ByteArray) (z : Int) (w : World) (hs : s.size ≤ 100) (h : N.macL s.data.toList = z) : Calls Tryd.prog 18 #[.string s] w (fun e w' => e = .returned (.int .i64 z) ∧ Below w.heap.size w w') := by subst h; exact macR s w (by omega)
theorem ipQs (s : ByteArray) (z : Int) (w : World) (hs : s.size ≤ 100) (h : N.ipL s.data.toList = z) : Calls Tryd.prog 14 #[.string s] w (fun e w' => e = .returned (.int .i64 z) ∧ Below w.heap.size w w') := by subst h; exact ipR s w (by omega)
theorem numQs (s : ByteArray) (z : Int) (w : World) (hs : s.size ≤ 100) (h : N.numL s.data.toList = z) : Calls Tryd.prog 12 #[.string s] w (fun e w' => e = .returned (.int .i64 z) ∧ w = w') := by subst h; exact numR s w (by omega)
theorem prefQs (s : ByteArray) (n b : Int) (w : World) (hs : s.size ≤ 100) (h : N.prefL s.data.toList = (n, b)) : Calls Tryd.prog 16 #[.string s] w (fun e w' => e = .returned (.tuple #[.int .i64 n, .int .i64 b]) ∧ Below w.heap.size w w') := by
  have := prefR s w (by omega); rw [h] at this; exact this
theorem okA_max {z x : Int} {ok : Bool} (h : okA z = (x, ok)) : decide (0 ≤ z) = ok ∧ (if z < 0 then 0 else z) = x := by
  unfold okA at h
  by_cases hz : 0 ≤ z
  · rw [if_pos hz] at h; cases h; exact ⟨decide_eq_true hz, if_neg (by omega)⟩
  · rw [if_neg hz] at h; cases h; exact ⟨decide_eq_false hz, if_pos (by omega)⟩
theorem prefA_max {l : List UInt8} {n b x y : Int} {ok : Bool} (h : prefA l = (x, y, ok)) (e : N.prefL l = (n, b)) : decide (0 ≤ n) = ok ∧ (if n < 0 then 0 else n) = x ∧ y = b := by
  unfold prefA at h
  rw [e] at h
  by_cases hz : 0 ≤ n
  · rw [if_pos hz] at h; cases h; exact ⟨decide_eq_true hz, if_neg (by omega), rfl⟩
  · rw [if_neg hz] at h; cases h
    refine ⟨decide_eq_false hz, if_pos (by omega), ?_⟩
    rcases N.pref_cases l with h2 | ⟨n2, b2, h2, _⟩
    · rw [h2] at e; cases e; rfl
    · rw [h2] at e; cases e; omega
set_option maxRecDepth 100000 in
set_option maxHeartbeats 4000000 in
theorem addrReads_walk (E : AddrOk) (AW : ∀ w, TabOk w → Calls Tryd.prog 10 #[] w (TrueS w)) (w : World) (HT : TabOk w) (s : ByteArray) (ws : s.size ≤ maxLen) (least : Int) (wl : (Lit.int .i64 least).wf = true) (most : Int) (wm : (Lit.int .i64 most).wf = true) :
    Calls Tryd.prog 3 #[.string s, .int .i64 least, .int .i64 most] w (TrueS w) := by
  have TAB := Lib.hid HT
  clear HT
  have IL := Lib.hid (show I64 least from bounds_i64 wl)
  have IM := Lib.hid (show I64 most from bounds_i64 wm)
  clear wl wm
  by_cases h100 : s.size ≤ 100
  · have bl : decide ((100 : Int) < (s.size : Int)) = false := decide_eq_false (by omega)
    have bl2 : decide (100 < s.size) = false := decide_eq_false (by omega)
    have HS := Lib.hid (show s.size ≤ 100 by omega)
    obtain ⟨k, hk⟩ : ∃ k, N.numL s.data.toList = k := ⟨_, rfl⟩
    obtain ⟨ki, hki⟩ : ∃ k, N.ipL s.data.toList = k := ⟨_, rfl⟩
    obtain ⟨km, hkm⟩ : ∃ k, N.macL s.data.toList = k := ⟨_, rfl⟩
    obtain ⟨kp, kb, hkp⟩ : ∃ k b, N.prefL s.data.toList = (k, b) := ⟨_, _, rfl⟩
    obtain ⟨zi, oi, hzi⟩ : ∃ z ok, okA (N.ipL s.data.toList) = (z, ok) := ⟨_, _, rfl⟩
    obtain ⟨zm, om, hzm⟩ : ∃ z ok, okA (N.macL s.data.toList) = (z, ok) := ⟨_, _, rfl⟩
    obtain ⟨zp, zb, op, hzp⟩ : ∃ z b ok, prefA s.data.toList = (z, b, ok) := ⟨_, _, _, rfl⟩
    have HZI := Lib.hid hzi
    have HZM := Lib.hid hzm
    have HZP := Lib.hid hzp
    obtain ⟨f1, f2⟩ := okA_max hzi
    obtain ⟨f3, f4⟩ := okA_max hzm
    obtain ⟨f5, f6, rfl⟩ := prefA_max hzp hkp
    rw [hki] at f1 f2
    rw [hkm] at f3 f4
    have HK := Lib.hid hk
    have HKI := Lib.hid hki
    have HKM := Lib.hid hkm
    have HKP := Lib.hid hkp
    have hnum : numA s.data.toList least most = if 0 ≤ k ∧ least ≤ k ∧ k ≤ most then (k, true) else (0, false) := by unfold numA; rw [hk]
    clear hzi hzm hzp hki hkm hkp hk h100 ws
    by_cases y0 : 0 ≤ k
    · have c0 : decide (0 ≤ k) = true := decide_eq_true y0
      by_cases y1 : least ≤ k
      · have c1 : decide (least ≤ k) = true := decide_eq_true y1
        by_cases y2 : k ≤ most
        · have c2 : decide (k ≤ most) = true := decide_eq_true y2
          rw [if_pos ⟨y0, y1, y2⟩] at hnum
          have HNU := Lib.hid hnum
          clear hnum y0 y1 y2
          go_enter Tryd.func3, Tryd.ntmps3
          go_wp2_with fail
          refine (E.numOf s least most k true _ HS.out IL.out IM.out HNU.out).mono ?_
          rintro e w1 ⟨rfl, hb⟩
          go_wp2_with fail
          refine (numQs s k _ HS.out HK.out).mono ?_
          rintro e w2 ⟨rfl, rfl⟩
          go_wp2_with fail
          refine (E.ipOf s zi oi _ HS.out HZI.out).mono ?_
          rintro e w2 ⟨rfl, hx⟩
          replace hb := bthen hb hx
          clear hx
          go_wp2_with fail
          refine (ipQs s ki _ HS.out HKI.out).mono ?_
          rintro e w3 ⟨rfl, hx⟩
          replace hb := bthen hb hx
          clear hx
          go_wp2_with fail
          refine (E.prefOf s zp zb op _ HS.out HZP.out).mono ?_
          rintro e w4 ⟨rfl, hx⟩
          replace hb := bthen hb hx
          clear hx
          go_wp2_with fail
          refine (prefQs s kp zb _ HS.out HKP.out).mono ?_
          rintro e w5 ⟨rfl, hx⟩
          replace hb := bthen hb hx
          clear hx
          go_wp2_with fail
          refine (E.macOf s zm om _ HS.out HZM.out).mono ?_
          rintro e w6 ⟨rfl, hx⟩
          replace hb := bthen hb hx
          clear hx
          go_wp2_with fail
          refine (macQ s km _ HS.out HKM.out).mono ?_
          rintro e w7 ⟨rfl, hx⟩
          replace hb := bthen hb hx
          clear hx
          go_wp2_with fail
          refine (AW _ (tabAt TAB (by first | assumption | exact Below.refl _ _ | exact below_drawn10 (by first | assumption | exact Below.refl _ _) _))).mono ?_
          rintro e w8 ⟨rfl, hx⟩
          replace hb := bthen hb hx
          clear hx
          go_wp2
          go_ret
          exact ⟨rfl, hb⟩
        · have c2 : decide (k ≤ most) = false := decide_eq_false y2
          rw [if_neg (fun h => y2 h.2.2)] at hnum
          have HNU := Lib.hid hnum
          clear hnum y0 y1 y2
          go_enter Tryd.func3, Tryd.ntmps3
          go_wp2_with fail
          refine (E.numOf s least most 0 false _ HS.out IL.out IM.out HNU.out).mono ?_
          rintro e w1 ⟨rfl, hb⟩
          go_wp2_with fail
          refine (numQs s k _ HS.out HK.out).mono ?_
          rintro e w2 ⟨rfl, rfl⟩
          go_wp2_with fail
          refine (E.ipOf s zi oi _ HS.out HZI.out).mono ?_
          rintro e w2 ⟨rfl, hx⟩
          replace hb := bthen hb hx
          clear hx
          go_wp2_with fail
          refine (ipQs s ki _ HS.out HKI.out).mono ?_
          rintro e w3 ⟨rfl, hx⟩
          replace hb := bthen hb hx
          clear hx
          go_wp2_with fail
          refine (E.prefOf s zp zb op _ HS.out HZP.out).mono ?_
          rintro e w4 ⟨rfl, hx⟩
          replace hb := bthen hb hx
          clear hx
          go_wp2_with fail
          refine (prefQs s kp zb _ HS.out HKP.out).mono ?_
          rintro e w5 ⟨rfl, hx⟩
          replace hb := bthen hb hx
          clear hx
          go_wp2_with fail
          refine (E.macOf s zm om _ HS.out HZM.out).mono ?_
          rintro e w6 ⟨rfl, hx⟩
          replace hb := bthen hb hx
          clear hx
          go_wp2_with fail
          refine (macQ s km _ HS.out HKM.out).mono ?_
          rintro e w7 ⟨rfl, hx⟩
          replace hb := bthen hb hx
          clear hx
          go_wp2_with fail
          refine (AW _ (tabAt TAB (by first | assumption | exact Below.refl _ _ | exact below_drawn10 (by first | assumption | exact Below.refl _ _) _))).mono ?_
          rintro e w8 ⟨rfl, hx⟩
          replace hb := bthen hb hx
          clear hx
          go_wp2
          go_ret
          exact ⟨rfl, hb⟩
      · have c1 : decide (least ≤ k) = false := decide_eq_false y1
        rw [if_neg (fun h => y1 h.2.1)] at hnum
        have HNU := Lib.hid hnum
        clear hnum y0 y1
        go_enter Tryd.func3, Tryd.ntmps3
        go_wp2_with fail
        refine (E.numOf s least most 0 false _ HS.out IL.out IM.out HNU.out).mono ?_
        rintro e w1 ⟨rfl, hb⟩
        go_wp2_with fail
        refine (numQs s k _ HS.out HK.out).mono ?_
        rintro e w2 ⟨rfl, rfl⟩
        go_wp2_with fail
        refine (E.ipOf s zi oi _ HS.out HZI.out).mono ?_
        rintro e w2 ⟨rfl, hx⟩
        replace hb := bthen hb hx
        clear hx
        go_wp2_with fail
        refine (ipQs s ki _ HS.out HKI.out).mono ?_
        rintro e w3 ⟨rfl, hx⟩
        replace hb := bthen hb hx
        clear hx
        go_wp2_with fail
        refine (E.prefOf s zp zb op _ HS.out HZP.out).mono ?_
        rintro e w4 ⟨rfl, hx⟩
        replace hb := bthen hb hx
        clear hx
        go_wp2_with fail
        refine (prefQs s kp zb _ HS.out HKP.out).mono ?_
        rintro e w5 ⟨rfl, hx⟩
        replace hb := bthen hb hx
        clear hx
        go_wp2_with fail
        refine (E.macOf s zm om _ HS.out HZM.out).mono ?_
        rintro e w6 ⟨rfl, hx⟩
        replace hb := bthen hb hx
        clear hx
        go_wp2_with fail
        refine (macQ s km _ HS.out HKM.out).mono ?_
        rintro e w7 ⟨rfl, hx⟩
        replace hb := bthen hb hx
        clear hx
        go_wp2_with fail
        refine (AW _ (tabAt TAB (by first | assumption | exact Below.refl _ _ | exact below_drawn10 (by first | assumption | exact Below.refl _ _) _))).mono ?_
        rintro e w8 ⟨rfl, hx⟩
        replace hb := bthen hb hx
        clear hx
        go_wp2
        go_ret
        exact ⟨rfl, hb⟩
    · have c0 : decide (0 ≤ k) = false := decide_eq_false y0
      rw [if_neg (fun h => y0 h.1)] at hnum
      have HNU := Lib.hid hnum
      clear hnum y0
      go_enter Tryd.func3, Tryd.ntmps3
      go_wp2_with fail
      refine (E.numOf s least most 0 false _ HS.out IL.out IM.out HNU.out).mono ?_
      rintro e w1 ⟨rfl, hb⟩
      go_wp2_with fail
      refine (numQs s k _ HS.out HK.out).mono ?_
      rintro e w2 ⟨rfl, rfl⟩
      go_wp2_with fail
      refine (E.ipOf s zi oi _ HS.out HZI.out).mono ?_
      rintro e w2 ⟨rfl, hx⟩
      replace hb := bthen hb hx
      clear hx
      go_wp2_with fail
      refine (ipQs s ki _ HS.out HKI.out).mono ?_
      rintro e w3 ⟨rfl, hx⟩
      replace hb := bthen hb hx
      clear hx
      go_wp2_with fail
      refine (E.prefOf s zp zb op _ HS.out HZP.out).mono ?_
      rintro e w4 ⟨rfl, hx⟩
      replace hb := bthen hb hx
      clear hx
      go_wp2_with fail
      refine (prefQs s kp zb _ HS.out HKP.out).mono ?_
      rintro e w5 ⟨rfl, hx⟩
      replace hb := bthen hb hx
      clear hx
      go_wp2_with fail
      refine (E.macOf s zm om _ HS.out HZM.out).mono ?_
      rintro e w6 ⟨rfl, hx⟩
      replace hb := bthen hb hx
      clear hx
      go_wp2_with fail
      refine (macQ s km _ HS.out HKM.out).mono ?_
      rintro e w7 ⟨rfl, hx⟩
      replace hb := bthen hb hx
      clear hx
      go_wp2_with fail
      refine (AW _ (tabAt TAB (by first | assumption | exact Below.refl _ _ | exact below_drawn10 (by first | assumption | exact Below.refl _ _) _))).mono ?_
      rintro e w8 ⟨rfl, hx⟩
      replace hb := bthen hb hx
      clear hx
      go_wp2
      go_ret
      exact ⟨rfl, hb⟩
  · have bl : decide ((100 : Int) < (s.size : Int)) = true := decide_eq_true (by omega)
    have bl2 : decide (100 < s.size) = true := decide_eq_true (by omega)
    clear h100
    go_enter Tryd.func3, Tryd.ntmps3
    go_wp2_with fail
    refine (AW _ (tabAt TAB (by first | assumption | exact Below.refl _ _ | exact below_drawn10 (by first | assumption | exact Below.refl _ _) _))).mono ?_
    rintro e w1 ⟨rfl, hb⟩
    go_wp2
    go_ret
    exact ⟨rfl, hb⟩
end Go.Proofs.YtgefbdckngejdaaDoor
