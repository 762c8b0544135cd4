/-
  The walk of layer 10's statement AddrFore, from what addr does: it returns true whatever the text is. No conditions.
-/
import Derived.Test.YtgefbdckngejdaaDoorAddrA
import Derived.Test.YtgefbdckngejdaaDoorAddrT
namespace Go.Proofs.YtgefbdckngejdaaDoor
open Go.RowKit
set_option linter.unusedVariables false

theorem fore_ip (s : ByteArray) : (okA (N.ipL s.data.toList) = (0, false)) ∨ (∃ n : Nat, okA (N.ipL s.data.toList) = ((n : Int), true) ∧ I64 (n : Int) ∧ ipTA (n : Int) = (s, true)) := by
  rcases N.ip_cases s.data.toList with h | ⟨n, h, hn, e⟩
  · exact .inl (by rw [h]; rfl)
  · refine .inr ⟨n, by rw [h]; unfold okA; rw [if_pos (by omega)], by unfold I64; omega, ?_⟩
    rw [ipTA_of hn e, sB_of]
theorem fore_mac (s : ByteArray) : (okA (N.macL s.data.toList) = (0, false)) ∨ (∃ n : Nat, okA (N.macL s.data.toList) = ((n : Int), true) ∧ I64 (n : Int) ∧ macTA (n : Int) = (s, true)) := by
  rcases N.mac_cases s.data.toList with h | ⟨n, h, hn, e⟩
  · exact .inl (by rw [h]; rfl)
  · refine .inr ⟨n, by rw [h]; unfold okA; rw [if_pos (by omega)], by unfold I64; omega, ?_⟩
    rw [macTA_of hn e, sB_of]
theorem fore_pref (s : ByteArray) : (prefA s.data.toList = (0, 0, false)) ∨ (∃ n b : Nat, prefA s.data.toList = ((n : Int), (b : Int), true) ∧ I64 (n : Int) ∧ I64 (b : Int) ∧ prefTA (n : Int) (b : Int) = (s, true)) := by
  rcases N.pref_cases s.data.toList with h | ⟨n, b, h, hr, hn, hb, e⟩
  · exact .inl (by unfold prefA; rw [h]; rfl)
  · refine .inr ⟨n, b, by unfold prefA; rw [h, if_pos (show 0 ≤ ((n : Int), (b : Int)).1 by show (0 : Int) ≤ (n : Int); omega)], by unfold I64; omega, by unfold I64; omega, ?_⟩
    rw [prefTA_of hr e, sB_of]
set_option maxRecDepth 100000 in
set_option maxHeartbeats 4000000 in
theorem addrFore_walk (E : AddrOk) (AW : ∀ w, TabOk w → Calls Tryd.prog 10 #[] w (TrueS w)) (w : World) (HT : TabOk w) (s : ByteArray) (ws : s.size ≤ maxLen) :
    Calls Tryd.prog 6 #[.string s] w (TrueS w) := by
  have TAB := Lib.hid HT
  clear HT
  by_cases h100 : s.size ≤ 100
  · have bl : decide ((100 : Int) < (s.size : Int)) = false := decide_eq_false (by omega)
    have bl2 : decide (100 < s.size) = false := decide_eq_false (by omega)
    have HS := Lib.hid (show s.size ≤ 100 by omega)
    have h1 := fore_ip s
    have h2 := fore_pref s
    have h3 := fore_mac s
    have H2 := Lib.hid h2
    have H3 := Lib.hid h3
    clear h2 h3 h100 ws
    rcases h1 with h1 | ⟨n, h1, hn, ht⟩
    · have HA := Lib.hid h1
      clear h1
      go_enter Tryd.func6, Tryd.ntmps6
      go_wp2_with fail
      refine (E.ipOf s 0 false _ HS.out HA.out).mono ?_
      rintro e w1 ⟨rfl, hb⟩
      rcases H2.out with h2 | ⟨p, b, h2, hp, hb2, ht2⟩
      · have HB := Lib.hid h2
        clear h2
        go_wp2_with fail
        refine (E.prefOf s 0 0 false _ HS.out HB.out).mono ?_
        rintro e w3 ⟨rfl, hx⟩
        replace hb := bthen hb hx
        clear hx
        rcases H3.out with h3 | ⟨q, h3, hq, ht3⟩
        · have HC := Lib.hid h3
          clear h3
          go_wp2_with fail
          refine (E.macOf s 0 false _ HS.out HC.out).mono ?_
          rintro e w5 ⟨rfl, hx⟩
          replace hb := bthen hb hx
          clear hx
          go_wp2_with fail
          refine (AW _ (tabAt TAB (by first | assumption | exact Below.refl _ _ | exact below_drawn10 (by first | assumption | exact Below.refl _ _) _))).mono ?_
          rintro e w7 ⟨rfl, hx⟩
          go_wp2
          go_ret
          exact ⟨rfl, bthen hb hx⟩
        · have HC := Lib.hid h3
          have HCN := Lib.hid hq
          have HCT := Lib.hid ht3
          clear h3 hq ht3
          go_wp2_with fail
          refine (E.macOf s q true _ HS.out HC.out).mono ?_
          rintro e w5 ⟨rfl, hx⟩
          replace hb := bthen hb hx
          clear hx
          go_wp2_with fail
          refine (E.macText _ s true _ HCN.out HCT.out).mono ?_
          rintro e w6 ⟨rfl, hx⟩
          replace hb := bthen hb hx
          clear hx
          go_wp2_with fail
          refine (AW _ (tabAt TAB (by first | assumption | exact Below.refl _ _ | exact below_drawn10 (by first | assumption | exact Below.refl _ _) _))).mono ?_
          rintro e w7 ⟨rfl, hx⟩
          go_wp2
          go_ret
          exact ⟨rfl, bthen hb hx⟩
      · have HB := Lib.hid h2
        have HBN := Lib.hid hp
        have HBB := Lib.hid hb2
        have HBT := Lib.hid ht2
        clear h2 hp hb2 ht2
        go_wp2_with fail
        refine (E.prefOf s p b true _ HS.out HB.out).mono ?_
        rintro e w3 ⟨rfl, hx⟩
        replace hb := bthen hb hx
        clear hx
        go_wp2_with fail
        refine (E.prefText _ _ s true _ HBN.out HBB.out (tabAt TAB (by first | assumption | exact Below.refl _ _ | exact below_drawn10 (by first | assumption | exact Below.refl _ _) _)) HBT.out).mono ?_
        rintro e w4 ⟨rfl, hx⟩
        replace hb := bthen hb hx
        clear hx
        rcases H3.out with h3 | ⟨q, h3, hq, ht3⟩
        · have HC := Lib.hid h3
          clear h3
          go_wp2_with fail
          refine (E.macOf s 0 false _ HS.out HC.out).mono ?_
          rintro e w5 ⟨rfl, hx⟩
          replace hb := bthen hb hx
          clear hx
          go_wp2_with fail
          refine (AW _ (tabAt TAB (by first | assumption | exact Below.refl _ _ | exact below_drawn10 (by first | assumption | exact Below.refl _ _) _))).mono ?_
          rintro e w7 ⟨rfl, hx⟩
          go_wp2
          go_ret
          exact ⟨rfl, bthen hb hx⟩
        · have HC := Lib.hid h3
          have HCN := Lib.hid hq
          have HCT := Lib.hid ht3
          clear h3 hq ht3
          go_wp2_with fail
          refine (E.macOf s q true _ HS.out HC.out).mono ?_
          rintro e w5 ⟨rfl, hx⟩
          replace hb := bthen hb hx
          clear hx
          go_wp2_with fail
          refine (E.macText _ s true _ HCN.out HCT.out).mono ?_
          rintro e w6 ⟨rfl, hx⟩
          replace hb := bthen hb hx
          clear hx
          go_wp2_with fail
          refine (AW _ (tabAt TAB (by first | assumption | exact Below.refl _ _ | exact below_drawn10 (by first | assumption | exact Below.refl _ _) _))).mono ?_
          rintro e w7 ⟨rfl, hx⟩
          go_wp2
          go_ret
          exact ⟨rfl, bthen hb hx⟩
    · have HA := Lib.hid h1
      have HAN := Lib.hid hn
      have HAT := Lib.hid ht
      clear h1 hn ht
      go_enter Tryd.func6, Tryd.ntmps6
      go_wp2_with fail
      refine (E.ipOf s n true _ HS.out HA.out).mono ?_
      rintro e w1 ⟨rfl, hb⟩
      go_wp2_with fail
      refine (E.ipText _ s true _ HAN.out (tabAt TAB (by first | assumption | exact Below.refl _ _ | exact below_drawn10 (by first | assumption | exact Below.refl _ _) _)) HAT.out).mono ?_
      rintro e w2 ⟨rfl, hx⟩
      replace hb := bthen hb hx
      clear hx
      rcases H2.out with h2 | ⟨p, b, h2, hp, hb2, ht2⟩
      · have HB := Lib.hid h2
        clear h2
        go_wp2_with fail
        refine (E.prefOf s 0 0 false _ HS.out HB.out).mono ?_
        rintro e w3 ⟨rfl, hx⟩
        replace hb := bthen hb hx
        clear hx
        rcases H3.out with h3 | ⟨q, h3, hq, ht3⟩
        · have HC := Lib.hid h3
          clear h3
          go_wp2_with fail
          refine (E.macOf s 0 false _ HS.out HC.out).mono ?_
          rintro e w5 ⟨rfl, hx⟩
          replace hb := bthen hb hx
          clear hx
          go_wp2_with fail
          refine (AW _ (tabAt TAB (by first | assumption | exact Below.refl _ _ | exact below_drawn10 (by first | assumption | exact Below.refl _ _) _))).mono ?_
          rintro e w7 ⟨rfl, hx⟩
          go_wp2
          go_ret
          exact ⟨rfl, bthen hb hx⟩
        · have HC := Lib.hid h3
          have HCN := Lib.hid hq
          have HCT := Lib.hid ht3
          clear h3 hq ht3
          go_wp2_with fail
          refine (E.macOf s q true _ HS.out HC.out).mono ?_
          rintro e w5 ⟨rfl, hx⟩
          replace hb := bthen hb hx
          clear hx
          go_wp2_with fail
          refine (E.macText _ s true _ HCN.out HCT.out).mono ?_
          rintro e w6 ⟨rfl, hx⟩
          replace hb := bthen hb hx
          clear hx
          go_wp2_with fail
          refine (AW _ (tabAt TAB (by first | assumption | exact Below.refl _ _ | exact below_drawn10 (by first | assumption | exact Below.refl _ _) _))).mono ?_
          rintro e w7 ⟨rfl, hx⟩
          go_wp2
          go_ret
          exact ⟨rfl, bthen hb hx⟩
      · have HB := Lib.hid h2
        have HBN := Lib.hid hp
        have HBB := Lib.hid hb2
        have HBT := Lib.hid ht2
        clear h2 hp hb2 ht2
        go_wp2_with fail
        refine (E.prefOf s p b true _ HS.out HB.out).mono ?_
        rintro e w3 ⟨rfl, hx⟩
        replace hb := bthen hb hx
        clear hx
        go_wp2_with fail
        refine (E.prefText _ _ s true _ HBN.out HBB.out (tabAt TAB (by first | assumption | exact Below.refl _ _ | exact below_drawn10 (by first | assumption | exact Below.refl _ _) _)) HBT.out).mono ?_
        rintro e w4 ⟨rfl, hx⟩
        replace hb := bthen hb hx
        clear hx
        rcases H3.out with h3 | ⟨q, h3, hq, ht3⟩
        · have HC := Lib.hid h3
          clear h3
          go_wp2_with fail
          refine (E.macOf s 0 false _ HS.out HC.out).mono ?_
          rintro e w5 ⟨rfl, hx⟩
          replace hb := bthen hb hx
          clear hx
          go_wp2_with fail
          refine (AW _ (tabAt TAB (by first | assumption | exact Below.refl _ _ | exact below_drawn10 (by first | assumption | exact Below.refl _ _) _))).mono ?_
          rintro e w7 ⟨rfl, hx⟩
          go_wp2
          go_ret
          exact ⟨rfl, bthen hb hx⟩
        · have HC := Lib.hid h3
          have HCN := Lib.hid hq
          have HCT := Lib.hid ht3
          clear h3 hq ht3
          go_wp2_with fail
          refine (E.macOf s q true _ HS.out HC.out).mono ?_
          rintro e w5 ⟨rfl, hx⟩
          replace hb := bthen hb hx
          clear hx
          go_wp2_with fail
          refine (E.macText _ s true _ HCN.out HCT.out).mono ?_
          rintro e w6 ⟨rfl, hx⟩
          replace hb := bthen hb hx
          clear hx
          go_wp2_with fail
          refine (AW _ (tabAt TAB (by first | assumption | exact Below.refl _ _ | exact below_drawn10 (by first | assumption | exact Below.refl _ _) _))).mono ?_
          rintro e w7 ⟨rfl, hx⟩
          go_wp2
          go_ret
          exact ⟨rfl, bthen hb hx⟩
  · have bl : decide ((100 : Int) < (s.size : Int)) = true := decide_eq_true (by omega)
    have bl2 : decide (100 < s.size) = true := decide_eq_true (by omega)
    clear h100
    go_enter Tryd.func6, Tryd.ntmps6
    go_wp2_with fail
    refine (AW _ (tabAt TAB (by first | assumption | exact Below.refl _ _ | exact below_drawn10 (by first | assumption | exact Below.refl _ _) _))).mono ?_
    rintro e w1 ⟨rfl, hb⟩
    go_wp2
    go_ret
    exact ⟨rfl, hb⟩
end Go.Proofs.YtgefbdckngejdaaDoor
