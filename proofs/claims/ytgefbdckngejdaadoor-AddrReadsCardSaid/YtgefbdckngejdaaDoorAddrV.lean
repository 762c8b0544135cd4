/-
  The document's side of layer 10 (ferryslipref10), last: MAC. Condition: texts of at most 2^30 bytes.
-/
import Derived.Test.YtgefbdckngejdaaDoorAddrT
import Derived.Deep.QuietTactic
import Derived.BigQuiet
import Derived.Deep.RegionHeld3
import Derived.Deep.RegionWith
namespace Go.Proofs.YtgefbdckngejdaaDoor
open Go.RowKit
set_option linter.unusedVariables false

theorem pair_short {x : List UInt8} (h : x.length ≠ 2) : N.pairV x = -1 := by
  match x with
  | [] => rfl
  | [_] => rfl
  | [_, _] => exact absurd rfl h
  | _ :: _ :: _ :: _ => rfl
theorem hexV_range (c : UInt8) : -1 ≤ N.hexV c ∧ N.hexV c ≤ 15 := by
  rcases N.hex_cases c with h | ⟨n, h, hn, _⟩ <;> rw [h] <;> omega
theorem valueQ (c : UInt8) (z : Int) (w : World) (h : N.hexV c = z) : Calls Tryd.prog 33 #[.int .u8 c.toNat] w (fun e w' => e = .returned (.int .i64 z) ∧ w = w') := by subst h; exact valueR10 c w
theorem sB2 (a b : UInt8) : (sB [a, b]).size = 2 := rfl
set_option maxRecDepth 100000 in
set_option maxHeartbeats 4000000 in
theorem macR (s : ByteArray) (w : World) (hs : s.size ≤ 1073741824) : Calls Tryd.prog 18 #[.string s] w (fun e w' => e = .returned (.int .i64 (N.macL s.data.toList)) ∧ Below w.heap.size w w') := by
  obtain ⟨L, hL⟩ : ∃ L, N.splitL 58 s.data.toList = L := ⟨_, rfl⟩
  obtain ⟨r, hr⟩ : ∃ r, N.macL s.data.toList = r := ⟨_, rfl⟩
  obtain ⟨m, hm⟩ : ∃ m, L.length = m := ⟨_, rfl⟩
  have hparts := partsR s 58 w hs
  rw [hL] at hparts
  rw [hr]
  have HEA := Lib.hid (show ∀ x ∈ L, x.length ≤ 1073741824 from fun x hx => by
    have h := split_mem (c := 58) (hL ▸ hx)
    have h2 : s.data.toList.length = s.size := by simp
    omega)
  have HL := Lib.hid hL
  have HR := Lib.hid hr
  have HM := Lib.hid hm
  clear hL hr
  by_cases h4 : m = 6
  · have b4 : ((m : Int) != 6) = false := by simp; omega
    have H4 := Lib.hid h4
    clear h4 hm
    go_enter Tryd.func18, Tryd.ntmps18
    go_wp2_with fail
    refine hparts.mono ?_
    rintro e w1 ⟨v1, rfl, hown, hx⟩
    obtain ⟨A1, c1, e1, hc1, hs1⟩ := hown.seen
    rw [HM.out] at e1 hc1
    subst e1
    obtain ⟨b, o, rfl, hb, hH⟩ := hs1 (by rw [HM.out, H4.out]; omega)
    have HH := Lib.hid hH
    clear hown hs1 hH hparts
    go_wp2
    go_loopg [4, 5] 6 (fun gk vn vi wr => ∃ k v : Nat, Hid (k + gk = 6) ∧ k ≤ 6 ∧ vi = .int .i64 (k : Int) ∧ vn = .int .i64 (v : Int) ∧ Hid (N.accL N.pairV (L.take k) = v) ∧ Hid (∀ x ∈ L.take k, 0 ≤ N.pairV x) ∧ Hid (Below w.heap.size w wr) ∧ Hid (Holds eS wr b o L))
    case atStart => exact ⟨0, 0, Nat.zero_add _, Nat.zero_le _, rfl, rfl, rfl, (fun x hx => by simp at hx), hx, HH.out⟩
    case round =>
      obtain ⟨k, v, HG, hk, rfl, rfl, HV, HD, HBW, HHr⟩ := hrel
      by_cases hlt : k < 6
      · have blt : decide ((k : Int) < 6) = true := decide_eq_true (by omega)
        have blt2 : decide (k < 6) = true := decide_eq_true hlt
        have hkL : k < L.length := by rw [HM.out, H4.out]; exact hlt
        have hki : (k : Int) < (m : Int) := by have := H4.out; omega
        have z0 := HHr.out.str hkL
        have hsn := List.take_succ_eq_append_getElem hkL
        obtain ⟨x, hx⟩ : ∃ x, L[k] = x := ⟨_, rfl⟩
        have hmem : x ∈ L := hx ▸ List.getElem_mem hkL
        rw [hx] at z0 hsn
        have hv : v < 281474976710656 := by
          have h5 := (N.acc_range N.pairV (fun x => (N.pair_range x).2) 6 (L.take k) (by rw [List.length_take]; omega) HD.out).2
          rw [HV.out] at h5
          omega
        have hgk := HG.out
        have HSN := Lib.hid hsn
        have HXM := Lib.hid hmem
        by_cases hx2 : x.length = 2
        · obtain ⟨ca, cb, rfl⟩ : ∃ ca cb, x = [ca, cb] := by
            match x, hx2 with
            | [a, b], _ => exact ⟨a, b, rfl⟩
          clear hx hsn hmem hx2
          obtain ⟨za, hza⟩ : ∃ z, N.hexV ca = z := ⟨_, rfl⟩
          obtain ⟨zb, hzb⟩ : ∃ z, N.hexV cb = z := ⟨_, rfl⟩
          have ra := hexV_range ca
          have rb := hexV_range cb
          rw [hza] at ra
          rw [hzb] at rb
          have HZA := Lib.hid hza
          have HZB := Lib.hid hzb
          obtain ⟨q, hq⟩ : ∃ q, sB [ca, cb] = q := ⟨_, rfl⟩
          have q2 : q.size = 2 := by rw [← hq]; rfl
          have qa : q[0]'(by omega) = ca := by subst hq; rfl
          have qb : q[1]'(by omega) = cb := by subst hq; rfl
          rw [hq] at z0
          clear hza hzb hq
          by_cases ha : za < 0
          · have c1 : decide (za < 0) = true := decide_eq_true ha
            have HE := Lib.hid (show r = -1 by
              rw [← HR.out]
              refine N.mac_bad HL.out HXM.out ?_
              show (if N.hexV ca < 0 ∨ N.hexV cb < 0 then (-1 : Int) else _) < 0
              rw [HZA.out, if_pos (.inl ha)]; omega)
            clear ha
            go_wp2_with fail
            refine (valueQ ca za _ HZA.out).mono ?_
            rintro e w2 ⟨rfl, rfl⟩
            go_wp2
            go_ret
            exact ⟨by rw [HE.out]; rfl, HBW.out⟩
          · have c1 : decide (za < 0) = false := decide_eq_false ha
            by_cases hb0 : zb < 0
            · have c2 : decide (zb < 0) = true := decide_eq_true hb0
              have HE := Lib.hid (show r = -1 by
                rw [← HR.out]
                refine N.mac_bad HL.out HXM.out ?_
                show (if N.hexV ca < 0 ∨ N.hexV cb < 0 then (-1 : Int) else _) < 0
                rw [HZB.out, if_pos (.inr hb0)]; omega)
              clear ha hb0
              go_wp2_with fail
              refine (valueQ ca za _ HZA.out).mono ?_
              rintro e w2 ⟨rfl, rfl⟩
              go_wp2_with fail
              refine (valueQ cb zb _ HZB.out).mono ?_
              rintro e w2 ⟨rfl, rfl⟩
              go_wp2
              go_ret
              exact ⟨by rw [HE.out]; rfl, HBW.out⟩
            · have c2 : decide (zb < 0) = false := decide_eq_false hb0
              obtain ⟨na, rfl⟩ := Int.eq_ofNat_of_zero_le (show 0 ≤ za by omega)
              obtain ⟨nb, rfl⟩ := Int.eq_ofNat_of_zero_le (show 0 ≤ zb by omega)
              have hpv : N.pairV [ca, cb] = ((16 * na + nb : Nat) : Int) := by
                show (if N.hexV ca < 0 ∨ N.hexV cb < 0 then (-1 : Int) else _) = _
                rw [HZA.out, HZB.out, if_neg (by omega)]; omega
              have HV2 := Lib.hid (show N.accL N.pairV (L.take (k + 1)) = ((256 * v + 16 * na + nb : Nat) : Int) by rw [HSN.out, N.acc_snoc, HV.out, hpv]; omega)
              have HD2 := Lib.hid (show ∀ y ∈ L.take (k + 1), 0 ≤ N.pairV y from fun y hy => by
                rw [HSN.out] at hy
                rcases List.mem_append.1 hy with hy | hy
                · exact HD.out y hy
                · rw [List.mem_singleton.1 hy, hpv]; omega)
              have hna : na ≤ 15 := by omega
              have hnb : nb ≤ 15 := by omega
              clear ha hb0 hpv
              go_wp2_with fail
              refine (valueQ ca na _ HZA.out).mono ?_
              rintro e w2 ⟨rfl, rfl⟩
              go_wp2_with fail
              refine (valueQ cb nb _ HZB.out).mono ?_
              rintro e w2 ⟨rfl, rfl⟩
              go_wp2
              go_quiet (first | (go_at_call_of 33 ca; exact Calls.quiet_of_same (calls_sym (valueQ ca na _ HZA.out))) | (go_at_call_of 33 cb; exact Calls.quiet_of_same (calls_sym (valueQ cb nb _ HZB.out))))
              go_wp2
              go_roundg (6 - (k + 1))
              case rel => exact ⟨k + 1, 256 * v + 16 * na + nb, (by show _ = _; omega), by omega, by go_num, by go_num, HV2, HD2, Lib.hid (below_drawn10 HBW.out _), Lib.hid HHr.out⟩
              case measure => omega
        · clear hx hsn hmem
          have HE := Lib.hid (show r = -1 by rw [← HR.out]; exact N.mac_bad HL.out HXM.out (by rw [pair_short hx2]; omega))
          obtain ⟨n2, hn2⟩ : ∃ n2, x.length = n2 := ⟨_, rfl⟩
          have hxl := HEA.out x HXM.out
          obtain ⟨q, hq⟩ : ∃ q, sB x = q := ⟨_, rfl⟩
          have q2 : q.size = n2 := by rw [← hq, sB_size, hn2]
          have bn : ((n2 : Int) != 2) = true := by simp; omega
          rw [hq] at z0
          rw [hn2] at hxl
          clear hq hn2 hx2
          go_wp2
          go_ret
          exact ⟨by rw [HE.out]; rfl, HBW.out⟩
      · have blt : decide ((k : Int) < 6) = false := decide_eq_false (by omega)
        have blt2 : decide (k < 6) = false := decide_eq_false hlt
        have HE := Lib.hid (show r = (v : Int) by
          have htk : L.take k = L := List.take_of_length_le (by rw [HM.out, H4.out]; omega)
          have h5 := HV.out
          have h6 := HD.out
          rw [htk] at h5 h6
          rw [← HR.out, N.mac_good HL.out (HM.out.trans H4.out) h6, h5])
        go_wp2
        go_ret
        exact ⟨by rw [HE.out]; rfl, HBW.out⟩
  · have b4 : ((m : Int) != 6) = true := by simp; omega
    have HE := Lib.hid (show r = -1 by rw [← HR.out]; exact N.mac_len HL.out (by rw [hm]; exact h4))
    clear h4 hm
    go_enter Tryd.func18, Tryd.ntmps18
    go_wp2_with fail
    refine hparts.mono ?_
    rintro e w1 ⟨v1, rfl, hown, hx⟩
    obtain ⟨A1, c1, e1, hc1, hs1⟩ := hown.seen
    rw [HM.out] at e1 hc1
    subst e1
    clear hown hs1 hparts
    go_wp2
    go_ret
    exact ⟨by rw [HE.out]; rfl, hx⟩
end Go.Proofs.YtgefbdckngejdaaDoor
