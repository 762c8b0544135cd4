/-
  The walk of layer 10's statement AddrNums, from what addr.Num does: it returns true whatever the number and the bounds are. No conditions.
-/
import Derived.Test.YtgefbdckngejdaaDoorAddrA
import Derived.Test.YtgefbdckngejdaaDoorAddrT
namespace Go.Proofs.YtgefbdckngejdaaDoor
open Go.RowKit
set_option linter.unusedVariables false

theorem digQn (n : Int) (k : Nat) (v : ByteArray) (w : World) (hn : n = (k : Int)) (hk : k < 10000000000) (h : sB (T.decL k) = v) : Calls Tryd.prog 24 #[.int .i64 n] w (fun e w' => e = .returned (.string v) ∧ Below w.heap.size w w') := by subst h; exact digQ n k _ w hn hk rfl
set_option maxRecDepth 100000 in
set_option maxHeartbeats 4000000 in
theorem addrNums_walk (E : AddrOk) (AW : ∀ w, TabOk w → Calls Tryd.prog 10 #[] w (TrueS w)) (w : World) (HT : TabOk w) (n : Int) (wn : (Lit.int .u64 n).wf = true) (least : Int) (wl : (Lit.int .i64 least).wf = true) (most : Int) (wm : (Lit.int .i64 most).wf = true) :
    Calls Tryd.prog 8 #[.int .u64 n, .int .i64 least, .int .i64 most] w (TrueS w) := by
  have TAB := Lib.hid HT
  clear HT
  have IL := Lib.hid (show I64 least from bounds_i64 wl)
  have IM := Lib.hid (show I64 most from bounds_i64 wm)
  obtain ⟨n0, n1⟩ := bounds_u64 wn
  clear wl wm wn
  obtain ⟨m, rfl⟩ := Int.eq_ofNat_of_zero_le n0
  obtain ⟨k, hk⟩ : ∃ k, m % 10000000000 = k := ⟨_, rfl⟩
  have hk10 : k < 10000000000 := by omega
  have e1 : Int.tmod (m : Int) 10000000000 = (k : Int) := by rw [Int.tmod_eq_emod_of_nonneg (by omega)]; omega
  obtain ⟨v, hv⟩ : ∃ v, sB (T.decL k) = v := ⟨_, rfl⟩
  have hnum : numA v.data.toList least most = if 0 ≤ (k : Int) ∧ least ≤ (k : Int) ∧ (k : Int) ≤ most then ((k : Int), true) else (0, false) := by
    unfold numA; rw [← hv, sB_data, N.num_dec k hk10]
  have HS := Lib.hid (show v.size ≤ 100 by have := T.decL_len 9 k (by omega); rw [← hv, sB_size]; omega)
  have HV := Lib.hid hv
  have HK10 := Lib.hid hk10
  clear hv hk
  by_cases y1 : least ≤ (k : Int)
  · have c1 : decide (least ≤ (k : Int)) = true := decide_eq_true y1
    by_cases y2 : (k : Int) ≤ most
    · have c2 : decide ((k : Int) ≤ most) = true := decide_eq_true y2
      rw [if_pos ⟨by omega, y1, y2⟩] at hnum
      have HNU := Lib.hid hnum
      clear hnum y1 y2
      go_enter Tryd.func8, Tryd.ntmps8
      go_wp2_with fail
      refine (digQn _ k v _ (by go_num) HK10.out HV.out).mono ?_
      rintro e w1 ⟨rfl, hb⟩
      go_wp2_with fail
      refine (E.numOf v least most (k : Int) true _ HS.out IL.out IM.out HNU.out).mono ?_
      rintro e w2 ⟨rfl, hx⟩
      replace hb := bthen hb hx
      clear hx
      go_wp2_with fail
      refine (AW _ (tabAt TAB (by first | assumption | exact Below.refl _ _ | exact below_drawn10 (by first | assumption | exact Below.refl _ _) _))).mono ?_
      rintro e w3 ⟨rfl, hx⟩
      go_wp2
      go_ret
      exact ⟨rfl, bthen hb hx⟩
    · have c2 : decide ((k : Int) ≤ most) = false := decide_eq_false y2
      rw [if_neg (fun h => y2 h.2.2)] at hnum
      have HNU := Lib.hid hnum
      clear hnum y1 y2
      go_enter Tryd.func8, Tryd.ntmps8
      go_wp2_with fail
      refine (digQn _ k v _ (by go_num) HK10.out HV.out).mono ?_
      rintro e w1 ⟨rfl, hb⟩
      go_wp2_with fail
      refine (E.numOf v least most 0 false _ HS.out IL.out IM.out HNU.out).mono ?_
      rintro e w2 ⟨rfl, hx⟩
      replace hb := bthen hb hx
      clear hx
      go_wp2_with fail
      refine (AW _ (tabAt TAB (by first | assumption | exact Below.refl _ _ | exact below_drawn10 (by first | assumption | exact Below.refl _ _) _))).mono ?_
      rintro e w3 ⟨rfl, hx⟩
      go_wp2
      go_ret
      exact ⟨rfl, bthen hb hx⟩
  · have c1 : decide (least ≤ (k : Int)) = false := decide_eq_false y1
    rw [if_neg (fun h => y1 h.2.1)] at hnum
    have HNU := Lib.hid hnum
    clear hnum y1
    go_enter Tryd.func8, Tryd.ntmps8
    go_wp2_with fail
    refine (digQn _ k v _ (by go_num) HK10.out HV.out).mono ?_
    rintro e w1 ⟨rfl, hb⟩
    go_wp2_with fail
    refine (E.numOf v least most 0 false _ HS.out IL.out IM.out HNU.out).mono ?_
    rintro e w2 ⟨rfl, hx⟩
    replace hb := bthen hb hx
    clear hx
    go_wp2_with fail
    refine (AW _ (tabAt TAB (by first | assumption | exact Below.refl _ _ | exact below_drawn10 (by first | assumption | exact Below.refl _ _) _))).mono ?_
    rintro e w3 ⟨rfl, hx⟩
    go_wp2
    go_ret
    exact ⟨rfl, bthen hb hx⟩
end Go.Proofs.YtgefbdckngejdaaDoor
