/-
  The walk of layer 15's statement RoutePermits, from what route does: it returns true whatever comes in. No conditions.
-/
import Derived.Test.YtggdpnkekgmimaaBase5
namespace Go.Proofs.Ytggdpnkekgmimaa
open Go.RowKit
set_option linter.unusedVariables false
set_option linter.unusedSimpArgs false
set_option maxRecDepth 100000 in
set_option maxHeartbeats 16000000 in
theorem routePermits_walk (E : RouteOk) (AW : ∀ w, Calls Try.prog 10 #[] w (TrueS w)) (w : World) (A : Option Addr) (c : Nat) (l : List H.En) (hc : l.length ≤ c) (hNA : NilOk A c) (hA : Seen eEc w A l) (hlA : l.length ≤ maxLen) (hw : ByteArray) (hhw : hw.size ≤ maxLen) (fr1 : Int) (wfr : (Lit.int .u32 fr1).wf = true) (to1 : Int) (wto : (Lit.int .u32 to1).wf = true) (pm : Bool) :
    Calls Try.prog 8 #[.slice A l.length c, .string hw, .int .u32 fr1, .int .u32 to1, .bool pm] w (TrueS w) := by
  unfold maxLen at hlA
  obtain ⟨h, hs⟩ : ∃ s, hw.data.toList = s := ⟨_, rfl⟩
  obtain rfl : hw = sB h := by rw [← hs]; exact (sB_of hw).symm
  clear hs hhw
  obtain ⟨hv0, hv1⟩ := bounds_u32 wfr
  obtain ⟨fr, rfl⟩ := Int.eq_ofNat_of_zero_le hv0
  have hfr : fr < 4294967296 := by omega
  obtain ⟨hv2, hv3⟩ := bounds_u32 wto
  obtain ⟨to, rfl⟩ := Int.eq_ofNat_of_zero_le hv2
  have hto : to < 4294967296 := by omega
  clear wfr wto hv0 hv1 hv2 hv3
  obtain ⟨n, hnA⟩ : ∃ n, l.length = n := ⟨_, rfl⟩
  rw [hnA] at hc hlA ⊢
  have HNA := Lib.hid hnA
  have HA := Lib.hid hA
  have HOA := Lib.hid hNA
  clear hA hnA hNA
  have hb : Below w.heap.size w w := Below.refl _ _
  go_enter Try.func8, Try.ntmps8
  go_wp2_with fail
  refine (few15 A c n l _ HNA.out HA.out (by omega)).mono ?_
  rintro e wx1 ⟨bs, rfl, hsm, hx⟩
  replace HA := Lib.hid (HA.out.below hx)
  replace hb := bthen hb hx
  clear hx
  cases bs with
  | false =>
    clear hsm
    go_wp2_with fail
    refine (AW _).mono ?_
    rintro e wz ⟨rfl, hx⟩
    go_wp2
    go_ret
    exact ⟨rfl, bthen hb hx⟩
  | true =>
    obtain ⟨h60, hfit⟩ := hsm rfl
    have HF := Lib.hid hfit
    replace HA := Lib.hid (show EArg wx1 A c n l from ⟨HNA.out, by omega, hfit, hc, HA.out⟩)
    clear hsm hfit
    cases pm with
    | true =>
      by_cases hg : h.length ≤ 100
      · have hg2 := long_no hg
        have HG := Lib.hid hg
        clear hg
        obtain ⟨mo, hmo⟩ : ∃ z, l ++ [O.ruleE h true] = z := ⟨_, rfl⟩
        have HMO := Lib.hid hmo
        have HML := Lib.hid (show mo.length = n + 1 by rw [← hmo, List.length_append, HNA.out]; rfl)
        have HMF := Lib.hid (show ∀ x ∈ mo, Fit15 x by
          intro x hx
          rw [← hmo] at hx
          rcases List.mem_append.1 hx with hx | hx
          · exact HF.out x hx
          · rw [List.mem_singleton.1 hx]; exact ⟨HG.out, (by show ([49] : List UInt8).length ≤ 100; decide), by show (O.ruleE h true).val.length ≤ 100; exact (by decide : (O.wPermit ++ 32 :: (H.wAny ++ 32 :: H.wAny)).length ≤ 100)⟩)
        have HBB := Lib.hid hb
        have HAE := Lib.hid HA.out
        clear hmo hb
        go_wp2
        go_loopg [12, 26] n (fun g v12 vi wr => ∃ k : Nat, Hid (k + g = n) ∧ vi = .int .i64 (k : Int) ∧ Hid (∀ j (hj : j < l.length), j < k → l[j].key ≠ [49]) ∧ Hid (Below wx1.heap.size wx1 wr))
        case atStart => exact ⟨0, Nat.zero_add _, rfl, (fun j hj h => absurd h (Nat.not_lt_zero j)), Below.refl _ _⟩
        case round =>
          obtain ⟨k, HGK, rfl, HKY, HB⟩ := hrel
          have hgk := HGK.out
          by_cases hlt : k < n
          · have blt : decide ((k : Int) < (n : Int)) = true := decide_eq_true (by omega)
            have blt2 : decide (k < n) = true := decide_eq_true hlt
            have hkz : (k : Int) < (n : Int) := by omega
            have hkl : k < l.length := by rw [HNA.out]; exact hlt
            obtain ⟨b, o, rfl, hwb, hL⟩ := HA.out.seen (by omega)
            obtain ⟨l0, l1, l2, l3⟩ := (hL.below HB.out hwb).entry rfl rfl hkl
            have HNX := Lib.hid (fun (hne : l[k].key ≠ [49]) => show ∀ j (hj : j < l.length), j < k + 1 → l[j].key ≠ [49] from fun j hj h1 => by
              rcases Nat.lt_or_ge j k with h2 | h2
              · exact HKY.out j hj h2
              · obtain rfl : j = k := by omega
                exact hne)
            generalize l[k] = x at l0 l1 l2 l3 HNX
            obtain ⟨xh, xk, xy, xv⟩ := x
            simp only at l0 l1 l2 l3 HNX
            obtain ⟨y0, y1, y2, y3⟩ := (ent_laid wr xh xk xy xv).cells
            have HBU := Lib.hid (HB.out.trans ((up wr (.cells #[.string (sB xh), .int .i64 xk, .string (sB xy), .string (sB xv)] 26)).mono HB.out.size))
            clear hL
            by_cases e1 : xy = [49]
            · have n1 : ((sB xy).toList == [49]) = true := by rw [sB_toList, beq_iff_eq]; exact e1
              clear e1
              go_wp2_with fail
              refine (AW _).mono ?_
              rintro e wy ⟨rfl, hx⟩
              go_wp2
              go_ret
              exact ⟨rfl, bthen HBB.out (HBU.out.trans (hx.mono HBU.out.size))⟩
            · have n1 : ((sB xy).toList == [49]) = false := by rw [sB_toList, beq_eq_false_iff_ne]; exact e1
              have HN2 := Lib.hid (HNX.out e1)
              clear e1
              go_wp2
              go_roundg (n - (k + 1))
              case rel => exact ⟨k + 1, (by show _ = _; omega), by go_num, HN2.out, HBU.out⟩
              case measure => omega
          · have blt : decide ((k : Int) < (n : Int)) = false := decide_eq_false (by omega)
            have blt2 : decide (k < n) = false := decide_eq_false hlt
            have HKA := Lib.hid (show ∀ x ∈ l, x.key ≠ [49] by
              intro x hx
              obtain ⟨j, hj, rfl⟩ := List.getElem_of_mem hx
              exact HKY.out j hj (by have := HNA.out; omega))
            obtain ⟨wt, hwt⟩ : ∃ z, z = wr := ⟨_, rfl⟩
            subst hwt
            replace HAE := Lib.hid (earg_below HAE.out HB.out)
            replace HA := Lib.hid HAE.out
            replace HBB := Lib.hid (bthen HBB.out HB.out)
            obtain ⟨R, hR⟩ : ∃ z, O.rulesL l h = z := ⟨_, rfl⟩
            obtain ⟨rn, hrn⟩ : ∃ z, R.length = z := ⟨_, rfl⟩
            obtain ⟨R2, hR2⟩ : ∃ z, O.rulesL mo h = z := ⟨_, rfl⟩
            have HR := Lib.hid hR
            have HRN := Lib.hid hrn
            have HR2 := Lib.hid hR2
            have HRN2 := Lib.hid (show R2.length = rn + 1 by rw [← hR2, ← hrn, ← hR, ← HMO.out]; exact O.rules_more)
            have HPE := Lib.hid (show O.permB mo h (fr : Int) (to : Int) = true by rw [← HMO.out]; exact O.perm_rule HKA.out)
            have hrn60 : rn ≤ 60000 := by
              rw [← hrn, ← hR, O.rules_len]
              exact O.rules_few HNA.out h60
            clear hR hrn hR2
            go_wp2_with (first
              | (at_builtin; refine wpList_appL15 _ rfl (.tmp 36) (.tmp 37) rfl wt.heap.size _ [] rfl (Own.empty eEc wt) A n c l HNA.out HOA.out (HA.out.seen.below (up _ _)) rfl (by simp; omega) (up _ _).size ?_; intro v6 w6 ho6 hb6; have HO6 := Lib.hid ho6; have HB6 := Lib.hid ((up wt (.cells #[] eEc.T)).trans hb6); have hsz6 := HB6.out.size; clear ho6 hb6)
              | (at_builtin; refine wpList_appG eEc w6 rfl (.tmp 38) (.tmp 42) rfl wt.heap.size v6 _ rfl HO6.out (O.ruleE h true) 1 #[.string (sB h), .int .i64 5, .string ⟨#[49]⟩, .string ⟨#[112, 101, 114, 109, 105, 116, 32, 97, 110, 121, 32, 97, 110, 121]⟩] rfl w6.heap.size rfl rfl (by rw [List.nil_append, HNA.out]; omega) hsz6 ?_; intro v7 w7 ho7 hb7; have HB7 := Lib.hid (HB6.out.trans hb7); rw [List.nil_append, HMO.out] at ho7; obtain ⟨A7, c7, rfl, hc7, hs7⟩ := ho7.seen; rw [HML.out] at hc7 ⊢; have HME := Lib.hid (show EArg w7 A7 c7 (n + 1) mo from ⟨HML.out, by omega, HMF.out, hc7, hs7⟩); clear ho7 hb7 hc7 hs7))
            have HAE2 := Lib.hid (earg_below HAE.out HB7.out)
            replace HBB := Lib.hid (bthen HBB.out HB7.out)
            go_wp2_with fail
            refine (E.permitOf A7 c7 (n + 1) mo h (fr : Int) (to : Int) true _ HME.out HG.out (by unfold Int64; omega) (by unfold Int64; omega) HPE.out).mono ?_
            rintro e w11 ⟨rfl, hx⟩
            replace HME := Lib.hid (earg_below HME.out hx)
            replace HAE2 := Lib.hid (earg_below HAE2.out hx)
            replace HBB := Lib.hid (bthen HBB.out hx)
            clear hx
            go_wp2_with fail
            refine (E.rulesOf A7 c7 (n + 1) (rn + 1) mo h R2 _ HME.out HG.out HR2.out HRN2.out).mono ?_
            rintro e w12 ⟨B8, d8, rfl, hd8, _, hx⟩
            replace HAE2 := Lib.hid (earg_below HAE2.out hx)
            replace HBB := Lib.hid (bthen HBB.out hx)
            clear hx
            go_wp2_with fail
            refine (E.rulesOf A c n rn l h R _ HAE2.out HG.out HR.out HRN.out).mono ?_
            rintro e w13 ⟨B9, d9, rfl, hd9, _, hx⟩
            replace HBB := Lib.hid (bthen HBB.out hx)
            have q3 : (((rn + 1 : Nat) : Int) == 1 + (rn : Int)) = true := by rw [beq_iff_eq]; omega
            have q4 : ((rn : Int) + 1 == 1 + (rn : Int)) = true := by rw [beq_iff_eq]; omega
            clear hx
            go_wp2_with fail
            refine (AW _).mono ?_
            rintro e wy ⟨rfl, hx⟩
            go_wp2
            go_ret
            exact ⟨rfl, bthen HBB.out hx⟩
      · have hg2 := long_yes hg
        clear hg
        go_wp2_with fail
        refine (AW _).mono ?_
        rintro e wz ⟨rfl, hx⟩
        go_wp2
        go_ret
        exact ⟨rfl, bthen hb hx⟩
    | false =>
      by_cases hg : h.length ≤ 100
      · have hg2 := long_no hg
        have HG := Lib.hid hg
        clear hg
        obtain ⟨mo, hmo⟩ : ∃ z, l ++ [O.ruleE h false] = z := ⟨_, rfl⟩
        have HMO := Lib.hid hmo
        have HML := Lib.hid (show mo.length = n + 1 by rw [← hmo, List.length_append, HNA.out]; rfl)
        have HMF := Lib.hid (show ∀ x ∈ mo, Fit15 x by
          intro x hx
          rw [← hmo] at hx
          rcases List.mem_append.1 hx with hx | hx
          · exact HF.out x hx
          · rw [List.mem_singleton.1 hx]; exact ⟨HG.out, (by show ([49] : List UInt8).length ≤ 100; decide), by show (O.ruleE h false).val.length ≤ 100; exact (by decide : (O.wDeny ++ 32 :: (H.wAny ++ 32 :: H.wAny)).length ≤ 100)⟩)
        have HBB := Lib.hid hb
        have HAE := Lib.hid HA.out
        clear hmo hb
        go_wp2
        go_loopg [12, 26] n (fun g v12 vi wr => ∃ k : Nat, Hid (k + g = n) ∧ vi = .int .i64 (k : Int) ∧ Hid (∀ j (hj : j < l.length), j < k → l[j].key ≠ [49]) ∧ Hid (Below wx1.heap.size wx1 wr))
        case atStart => exact ⟨0, Nat.zero_add _, rfl, (fun j hj h => absurd h (Nat.not_lt_zero j)), Below.refl _ _⟩
        case round =>
          obtain ⟨k, HGK, rfl, HKY, HB⟩ := hrel
          have hgk := HGK.out
          by_cases hlt : k < n
          · have blt : decide ((k : Int) < (n : Int)) = true := decide_eq_true (by omega)
            have blt2 : decide (k < n) = true := decide_eq_true hlt
            have hkz : (k : Int) < (n : Int) := by omega
            have hkl : k < l.length := by rw [HNA.out]; exact hlt
            obtain ⟨b, o, rfl, hwb, hL⟩ := HA.out.seen (by omega)
            obtain ⟨l0, l1, l2, l3⟩ := (hL.below HB.out hwb).entry rfl rfl hkl
            have HNX := Lib.hid (fun (hne : l[k].key ≠ [49]) => show ∀ j (hj : j < l.length), j < k + 1 → l[j].key ≠ [49] from fun j hj h1 => by
              rcases Nat.lt_or_ge j k with h2 | h2
              · exact HKY.out j hj h2
              · obtain rfl : j = k := by omega
                exact hne)
            generalize l[k] = x at l0 l1 l2 l3 HNX
            obtain ⟨xh, xk, xy, xv⟩ := x
            simp only at l0 l1 l2 l3 HNX
            obtain ⟨y0, y1, y2, y3⟩ := (ent_laid wr xh xk xy xv).cells
            have HBU := Lib.hid (HB.out.trans ((up wr (.cells #[.string (sB xh), .int .i64 xk, .string (sB xy), .string (sB xv)] 26)).mono HB.out.size))
            clear hL
            by_cases e1 : xy = [49]
            · have n1 : ((sB xy).toList == [49]) = true := by rw [sB_toList, beq_iff_eq]; exact e1
              clear e1
              go_wp2_with fail
              refine (AW _).mono ?_
              rintro e wy ⟨rfl, hx⟩
              go_wp2
              go_ret
              exact ⟨rfl, bthen HBB.out (HBU.out.trans (hx.mono HBU.out.size))⟩
            · have n1 : ((sB xy).toList == [49]) = false := by rw [sB_toList, beq_eq_false_iff_ne]; exact e1
              have HN2 := Lib.hid (HNX.out e1)
              clear e1
              go_wp2
              go_roundg (n - (k + 1))
              case rel => exact ⟨k + 1, (by show _ = _; omega), by go_num, HN2.out, HBU.out⟩
              case measure => omega
          · have blt : decide ((k : Int) < (n : Int)) = false := decide_eq_false (by omega)
            have blt2 : decide (k < n) = false := decide_eq_false hlt
            have HKA := Lib.hid (show ∀ x ∈ l, x.key ≠ [49] by
              intro x hx
              obtain ⟨j, hj, rfl⟩ := List.getElem_of_mem hx
              exact HKY.out j hj (by have := HNA.out; omega))
            obtain ⟨wt, hwt⟩ : ∃ z, z = wr := ⟨_, rfl⟩
            subst hwt
            replace HAE := Lib.hid (earg_below HAE.out HB.out)
            replace HA := Lib.hid HAE.out
            replace HBB := Lib.hid (bthen HBB.out HB.out)
            obtain ⟨R, hR⟩ : ∃ z, O.rulesL l h = z := ⟨_, rfl⟩
            obtain ⟨rn, hrn⟩ : ∃ z, R.length = z := ⟨_, rfl⟩
            obtain ⟨R2, hR2⟩ : ∃ z, O.rulesL mo h = z := ⟨_, rfl⟩
            have HR := Lib.hid hR
            have HRN := Lib.hid hrn
            have HR2 := Lib.hid hR2
            have HRN2 := Lib.hid (show R2.length = rn + 1 by rw [← hR2, ← hrn, ← hR, ← HMO.out]; exact O.rules_more)
            have HPE := Lib.hid (show O.permB mo h (fr : Int) (to : Int) = false by rw [← HMO.out]; exact O.perm_rule HKA.out)
            have hrn60 : rn ≤ 60000 := by
              rw [← hrn, ← hR, O.rules_len]
              exact O.rules_few HNA.out h60
            clear hR hrn hR2
            go_wp2_with (first
              | (at_builtin; refine wpList_appL15 _ rfl (.tmp 36) (.tmp 37) rfl wt.heap.size _ [] rfl (Own.empty eEc wt) A n c l HNA.out HOA.out (HA.out.seen.below (up _ _)) rfl (by simp; omega) (up _ _).size ?_; intro v6 w6 ho6 hb6; have HO6 := Lib.hid ho6; have HB6 := Lib.hid ((up wt (.cells #[] eEc.T)).trans hb6); have hsz6 := HB6.out.size; clear ho6 hb6)
              | (at_builtin; refine wpList_appG eEc w6 rfl (.tmp 38) (.tmp 42) rfl wt.heap.size v6 _ rfl HO6.out (O.ruleE h false) 1 #[.string (sB h), .int .i64 5, .string ⟨#[49]⟩, .string ⟨#[100, 101, 110, 121, 32, 97, 110, 121, 32, 97, 110, 121]⟩] rfl w6.heap.size rfl rfl (by rw [List.nil_append, HNA.out]; omega) hsz6 ?_; intro v7 w7 ho7 hb7; have HB7 := Lib.hid (HB6.out.trans hb7); rw [List.nil_append, HMO.out] at ho7; obtain ⟨A7, c7, rfl, hc7, hs7⟩ := ho7.seen; rw [HML.out] at hc7 ⊢; have HME := Lib.hid (show EArg w7 A7 c7 (n + 1) mo from ⟨HML.out, by omega, HMF.out, hc7, hs7⟩); clear ho7 hb7 hc7 hs7))
            have HAE2 := Lib.hid (earg_below HAE.out HB7.out)
            replace HBB := Lib.hid (bthen HBB.out HB7.out)
            go_wp2_with fail
            refine (E.permitOf A7 c7 (n + 1) mo h (fr : Int) (to : Int) false _ HME.out HG.out (by unfold Int64; omega) (by unfold Int64; omega) HPE.out).mono ?_
            rintro e w11 ⟨rfl, hx⟩
            replace HME := Lib.hid (earg_below HME.out hx)
            replace HAE2 := Lib.hid (earg_below HAE2.out hx)
            replace HBB := Lib.hid (bthen HBB.out hx)
            clear hx
            go_wp2_with fail
            refine (E.rulesOf A7 c7 (n + 1) (rn + 1) mo h R2 _ HME.out HG.out HR2.out HRN2.out).mono ?_
            rintro e w12 ⟨B8, d8, rfl, hd8, _, hx⟩
            replace HAE2 := Lib.hid (earg_below HAE2.out hx)
            replace HBB := Lib.hid (bthen HBB.out hx)
            clear hx
            go_wp2_with fail
            refine (E.rulesOf A c n rn l h R _ HAE2.out HG.out HR.out HRN.out).mono ?_
            rintro e w13 ⟨B9, d9, rfl, hd9, _, hx⟩
            replace HBB := Lib.hid (bthen HBB.out hx)
            have q3 : (((rn + 1 : Nat) : Int) == 1 + (rn : Int)) = true := by rw [beq_iff_eq]; omega
            have q4 : ((rn : Int) + 1 == 1 + (rn : Int)) = true := by rw [beq_iff_eq]; omega
            clear hx
            go_wp2_with fail
            refine (AW _).mono ?_
            rintro e wy ⟨rfl, hx⟩
            go_wp2
            go_ret
            exact ⟨rfl, bthen HBB.out hx⟩
      · have hg2 := long_yes hg
        clear hg
        go_wp2_with fail
        refine (AW _).mono ?_
        rintro e wz ⟨rfl, hx⟩
        go_wp2
        go_ret
        exact ⟨rfl, bthen hb hx⟩
end Go.Proofs.Ytggdpnkekgmimaa
