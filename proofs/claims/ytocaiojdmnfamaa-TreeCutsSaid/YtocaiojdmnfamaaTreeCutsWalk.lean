/-
  The walk of layer 3's statement TreeCuts: it returns true whatever the lines and the number are. No conditions.
-/
import Derived.Test.YtocaiojdmnfamaaTreeHead
namespace Go.Proofs.Ytocaiojdmnfamaa
open Go.RowKit

set_option maxRecDepth 100000 in
set_option maxHeartbeats 2000000 in
theorem treeCuts_walk (w : World) (A : Option Addr) (c : Nat) (t : List T.Ln) (hc : t.length ≤ c) (hA : Seen eL w A t) (hl : t.length ≤ maxLen) (a : Int) (wa : (Lit.int .u8 a).wf = true) :
    Calls Try.prog 8 #[.slice A t.length c, .int .u8 a] w (TrueS w) := by
  obtain ⟨ha0, ha1⟩ := bounds_u8 wa
  obtain ⟨m, rfl⟩ := Int.eq_ofNat_of_zero_le ha0
  clear wa ha0
  unfold maxLen at hl
  have HA := Lib.hid hA
  clear hA
  have hb : Below w.heap.size w w := Below.refl _ _
  go_enter Try.func8, Try.ntmps8
  go_wp2_with fail
  refine (small_is A c t _ HA.out).mono ?_
  rintro e w1 ⟨bs, rfl, hsm, hx⟩
  replace HA := Lib.hid (HA.out.below hx)
  replace hb := bthen hb hx
  clear hx
  cases bs with
  | false =>
    clear hsm
    go_wp2_with fail
    refine (awake_any _).mono ?_
    rintro e wz ⟨rfl, hx⟩
    go_wp2
    go_ret
    exact ⟨rfl, bthen hb hx⟩
  | true =>
    replace hsm := hsm rfl
    by_cases h60 : t.length ≤ 60
    · have b60 : decide ((60 : Int) < (t.length : Int)) = false := decide_eq_false (by omega)
      by_cases h0 : t.length = 0
      · have b0 : ((t.length : Int) == 0) = true := beq_iff_eq.2 (by omega)
        clear h0
        go_wp2_with fail
        refine (awake_any _).mono ?_
        rintro e wz ⟨rfl, hx⟩
        go_wp2
        go_ret
        exact ⟨rfl, bthen hb hx⟩
      · have b0 : ((t.length : Int) == 0) = false := beq_eq_false_iff_ne.2 (by omega)
        by_cases hR : T.RightT t
        · have HR := Lib.hid hR
          clear hR
          go_wp2_with fail
          refine (rightR_is A c t true _ HA.out (by omega) (yes_iff HR.out)).mono ?_
          rintro e w2 ⟨rfl, hx⟩
          replace HA := Lib.hid (HA.out.below hx)
          replace hb := bthen hb hx
          clear hx
          obtain ⟨b, o, rfl, hbw, hL⟩ := HA.out.lines (by omega)
          obtain ⟨k, hk⟩ : ∃ k, m % t.length = k := ⟨_, rfl⟩
          have hkl : k < t.length := by rw [← hk]; exact Nat.mod_lt _ (by omega)
          have hkc : k ≤ c := by omega
          have HL := Lib.hid hL
          clear hL
          have hk2 : (m : Int) % (t.length : Int) = (k : Int) := by rw [← hk]; omega
          obtain ⟨e, he⟩ : ∃ e, T.endL t k = e := ⟨_, rfl⟩
          have hspec := T.end_spec t k hkl
          rw [he] at hspec
          have he1 := hspec.1
          have he2 := hspec.2.1
          have HE := Lib.hid he
          have hnil := Own.nil (E := eL) w2 w.heap.size
          have hsz := hb.size
          have HM := Lib.hid (show (t.take k).length = k by rw [List.length_take]; omega)
          have HM2 := Lib.hid (show (t.drop e).length = t.length - e by rw [List.length_drop])
          have hec : e ≤ c := by omega
          clear he hspec
          go_wp2_with (at_builtin; refine wpList_appSrc eL w2 rfl (.tmp 31) (.tmp 34) rfl w2.heap.size (.slice none 0 0) [] rfl (Own.nil _ _) b o (t.take k) k c HM.out rfl (HL.out.take k) (by simp; omega) (Nat.le_refl _) ?_; intro v3 w3 hown3 hx)
          replace HA := Lib.hid (HA.out.below hx)
          replace HL := Lib.hid (HL.out.below hx hbw)
          replace hb := bthen hb hx
          have hbw3 : b < w3.heap.size := Nat.lt_of_lt_of_le hbw hx.size
          have hs3 := hx.size
          clear hx
          refine (End_is _ c t k e _ HA.out (by omega) hkl HR.out HE.out).mono ?_
          rintro x w4 ⟨rfl, hx⟩
          replace HA := Lib.hid (HA.out.below hx)
          replace HL := Lib.hid (HL.out.below hx hbw3)
          replace hown3 := hown3.keep hx
          replace hb := bthen hb hx
          have hbw4 : b < w4.heap.size := Nat.lt_of_lt_of_le hbw3 hx.size
          have hs4 := hx.size
          clear hx
          by_cases hlast : e < c
          · go_wp2_with (at_builtin; refine wpList_appSrc eL w4 rfl (.tmp 36) (.tmp 41) rfl w2.heap.size v3 ([] ++ t.take k) rfl hown3 b (o + e * 3) (t.drop e) (t.length - e) (c - e) HM2.out rfl (HL.out.drop e) (by rw [List.nil_append, HM.out]; omega) (by omega) ?_; intro v5 w5 hown5 hx)
            replace HL := Lib.hid (HL.out.belowN hx hbw)
            replace hb := hb.trans (hx.mono hsz)
            have hbw5 : b < w5.heap.size := Nat.lt_of_lt_of_le hbw4 hx.size
            clear hx
            have hcut : [] ++ t.take k ++ t.drop e = T.cutL t k := by unfold T.cutL; rw [HE.out]; rfl
            rw [hcut] at hown5
            obtain ⟨A5, cap5, hv5, _, hs5⟩ := hown5.seen
            have hcl := T.cut_len t k hkl
            rw [HE.out] at hcl
            obtain ⟨r, hr⟩ : ∃ r, (T.cutL t k).length = r := ⟨_, rfl⟩
            rw [hr] at hcl hv5
            have hrl : r < t.length := by omega
            subst hv5
            have HS := Lib.hid hs5
            have HRL := Lib.hid hr
            clear hown5 hcut hs5 hr hcl
            go_wp2_with fail
            refine (right_n _ c (t.take k) k _ ((HL.out.take k).seen hbw5) HM.out (by omega) (HR.out.take k)).mono ?_
            rintro x w6 ⟨rfl, hx⟩
            replace HS := Lib.hid (HS.out.below hx)
            replace hb := bthen hb hx
            clear hx
            go_wp2_with fail
            refine (right_n _ _ (T.cutL t k) r _ HS.out HRL.out (by omega) (HR.out.cut k hkl)).mono ?_
            rintro x w7 ⟨rfl, hx⟩
            replace hb := bthen hb hx
            clear hx
            go_wp2_with fail
            refine (awake_any _).mono ?_
            rintro e wz ⟨rfl, hx⟩
            go_wp2
            go_ret
            exact ⟨rfl, bthen hb hx⟩
          · obtain rfl : e = c := by omega
            obtain rfl : e = t.length := by omega
            go_wp2_with (at_builtin; refine wpList_appSrc eL w4 rfl (.tmp 36) (.tmp 41) rfl w2.heap.size v3 ([] ++ t.take k) rfl hown3 b o (t.drop t.length) 0 0 (by simp) rfl (fun i hi => by simp at hi) (by rw [List.nil_append, HM.out]; omega) (by omega) ?_; intro v5 w5 hown5 hx)
            replace HL := Lib.hid (HL.out.belowN hx hbw)
            replace hb := hb.trans (hx.mono hsz)
            have hbw5 : b < w5.heap.size := Nat.lt_of_lt_of_le hbw4 hx.size
            clear hx
            have hcut : [] ++ t.take k ++ t.drop t.length = T.cutL t k := by unfold T.cutL; rw [HE.out]; rfl
            rw [hcut] at hown5
            obtain ⟨A5, cap5, hv5, _, hs5⟩ := hown5.seen
            have hcl := T.cut_len t k hkl
            rw [HE.out] at hcl
            obtain ⟨r, hr⟩ : ∃ r, (T.cutL t k).length = r := ⟨_, rfl⟩
            rw [hr] at hcl hv5
            have hrl : r < t.length := by omega
            subst hv5
            have HS := Lib.hid hs5
            have HRL := Lib.hid hr
            clear hown5 hcut hs5 hr hcl
            go_wp2_with fail
            refine (right_n _ _ (t.take k) k _ ((HL.out.take k).seen hbw5) HM.out (by omega) (HR.out.take k)).mono ?_
            rintro x w6 ⟨rfl, hx⟩
            replace HS := Lib.hid (HS.out.below hx)
            replace hb := bthen hb hx
            clear hx
            go_wp2_with fail
            refine (right_n _ _ (T.cutL t k) r _ HS.out HRL.out (by omega) (HR.out.cut k hkl)).mono ?_
            rintro x w7 ⟨rfl, hx⟩
            replace hb := bthen hb hx
            clear hx
            go_wp2_with fail
            refine (awake_any _).mono ?_
            rintro e wz ⟨rfl, hx⟩
            go_wp2
            go_ret
            exact ⟨rfl, bthen hb hx⟩
        · have HR := Lib.hid hR
          clear hR
          go_wp2_with fail
          refine (rightR_is A c t false _ HA.out (by omega) (no_iff HR.out)).mono ?_
          rintro e w2 ⟨rfl, hx⟩
          replace hb := bthen hb hx
          clear hx
          go_wp2_with fail
          refine (awake_any _).mono ?_
          rintro e wz ⟨rfl, hx⟩
          go_wp2
          go_ret
          exact ⟨rfl, bthen hb hx⟩
    · have b60 : decide ((60 : Int) < (t.length : Int)) = true := decide_eq_true (by omega)
      go_wp2_with fail
      refine (awake_any _).mono ?_
      rintro e wz ⟨rfl, hx⟩
      go_wp2
      go_ret
      exact ⟨rfl, bthen hb hx⟩
end Go.Proofs.Ytocaiojdmnfamaa
