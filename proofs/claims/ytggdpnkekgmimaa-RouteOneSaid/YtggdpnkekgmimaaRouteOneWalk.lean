/-
  The walk of layer 15's statement RouteOne, from what route does: it returns true whatever comes in. No conditions.
-/
import Derived.Test.YtggdpnkekgmimaaBase5
namespace Go.Proofs.Ytggdpnkekgmimaa
open Go.RowKit
set_option linter.unusedVariables false
set_option linter.unusedSimpArgs false
set_option maxRecDepth 100000 in
set_option maxHeartbeats 16000000 in
theorem routeOne_walk (E : RouteOk) (AW : ∀ w, Calls Try.prog 10 #[] w (TrueS w)) (w : World) (A : Option Addr) (c : Nat) (l : List H.En) (hc : l.length ≤ c) (hNA : NilOk A c) (hA : Seen eEc w A l) (hlA : l.length ≤ maxLen) (hw : ByteArray) (hhw : hw.size ≤ maxLen) (at1 : Int) (wat : (Lit.int .u32 at1).wf = true) (bo1 : Int) (wbo : (Lit.int .u32 bo1).wf = true) :
    Calls Try.prog 7 #[.slice A l.length c, .string hw, .int .u32 at1, .int .u32 bo1] w (TrueS w) := by
  unfold maxLen at hlA
  obtain ⟨h, hs⟩ : ∃ s, hw.data.toList = s := ⟨_, rfl⟩
  obtain rfl : hw = sB h := by rw [← hs]; exact (sB_of hw).symm
  clear hs hhw
  obtain ⟨hv0, hv1⟩ := bounds_u32 wat
  obtain ⟨at0, rfl⟩ := Int.eq_ofNat_of_zero_le hv0
  have hat : at0 < 4294967296 := by omega
  obtain ⟨hv2, hv3⟩ := bounds_u32 wbo
  obtain ⟨bo, rfl⟩ := Int.eq_ofNat_of_zero_le hv2
  have hbo : bo < 4294967296 := by omega
  clear wat wbo hv0 hv1 hv2 hv3
  obtain ⟨n, hnA⟩ : ∃ n, l.length = n := ⟨_, rfl⟩
  rw [hnA] at hc hlA ⊢
  have HNA := Lib.hid hnA
  have HA := Lib.hid hA
  have HOA := Lib.hid hNA
  clear hA hnA hNA
  have hb : Below w.heap.size w w := Below.refl _ _
  go_enter Try.func7, Try.ntmps7
  go_wp2_with fail
  refine (few15 A c n l _ HNA.out HA.out (by omega)).mono ?_
  rintro e wx1 ⟨bs, rfl, hsm, hx⟩
  replace HA := Lib.hid (HA.out.below hx)
  replace hb := bthen hb hx
  clear hx
  cases bs with
  | false =>
    clear hsm
    go_wp2_with fail
    refine (AW _).mono ?_
    rintro e wz ⟨rfl, hx⟩
    go_wp2
    go_ret
    exact ⟨rfl, bthen hb hx⟩
  | true =>
    obtain ⟨h60, hfit⟩ := hsm rfl
    have HF := Lib.hid hfit
    replace HA := Lib.hid (show EArg wx1 A c n l from ⟨HNA.out, by omega, hfit, hc, HA.out⟩)
    clear hsm hfit
    by_cases hg : h.length ≤ 100
    · have hg2 := long_no hg
      have HG := Lib.hid hg
      clear hg
      obtain ⟨ky, hky⟩ : ∃ z, N.prefT at0 32 = z := ⟨_, rfl⟩
      have HKE := Lib.hid hky
      have hipl : (N.ipT at0).length ≤ 60 := by
        have h1 := dec3_len (at0 / 16777216) (by omega)
        have h2 := dec3_len (at0 / 65536 % 256) (by omega)
        have h3 := dec3_len (at0 / 256 % 256) (by omega)
        have h4 := dec3_len (at0 % 256) (by omega)
        unfold N.ipT
        simp only [List.length_append, List.length_cons]
        omega
      have HIL := Lib.hid hipl
      have hk32 : N.ipT at0 ++ [47, 51, 50] = ky := by
        rw [← hky]
        unfold N.prefT
        rw [show T.decL 32 = [51, 50] by decide +kernel]
      have HK32 := Lib.hid hk32
      have a1 : ∀ w : World, Sem.run Try.prog (Op.stringOp .add (sB (N.ipT at0)) (⟨#[47, 51, 50]⟩ : ByteArray)) w = .ok (.string (sB ky)) w := fun w => by
        rw [← HK32.out, show (⟨#[47, 51, 50]⟩ : ByteArray) = sB [47, 51, 50] from rfl, ← sB_add]
        exact run_string_add_sum (P := Try.prog) (w := w) (sB (N.ipT at0)) (sB [47, 51, 50]) (by rw [sB_size, sB_size]; have := HIL.out; simp; omega)
      have HKL := Lib.hid (show ky.length ≤ 100 by rw [← hk32, List.length_append]; simp; omega)
      obtain ⟨mo, hmo⟩ : ∃ z, l ++ [⟨h, 4, ky, [110, 101, 119]⟩] = z := ⟨_, rfl⟩
      have HMO := Lib.hid hmo
      have HML := Lib.hid (show mo.length = n + 1 by rw [← hmo, List.length_append, HNA.out]; rfl)
      have HMF := Lib.hid (show ∀ x ∈ mo, Fit15 x by
        intro x hx
        rw [← hmo] at hx
        rcases List.mem_append.1 hx with hx | hx
        · exact HF.out x hx
        · rw [List.mem_singleton.1 hx]; exact ⟨HG.out, HKL.out, by simp⟩)
      clear hky hipl hk32 hmo
      go_wp2_with fail
      refine (ipTextR at0 _ hat).mono ?_
      rintro e w3 ⟨rfl, hx⟩
      replace HA := Lib.hid (earg_below HA.out hx)
      have HBB3 := Lib.hid (bthen hb hx)
      clear hx hb
      go_wp2_with (first
        | (at_builtin; refine wpList_appL15 _ rfl (.tmp 37) (.tmp 38) rfl w3.heap.size _ [] rfl (Own.empty eEc w3) A n c l HNA.out HOA.out (HA.out.seen.below (up _ _)) rfl (by simp; omega) (up _ _).size ?_; intro v6 w6 ho6 hb6; have HO6 := Lib.hid ho6; have HB6 := Lib.hid ((up w3 (.cells #[] eEc.T)).trans hb6); have hsz6 := HB6.out.size; clear ho6 hb6)
        | (at_builtin; refine wpList_appG eEc w6 rfl (.tmp 39) (.tmp 43) rfl w3.heap.size v6 _ rfl HO6.out ⟨h, 4, ky, [110, 101, 119]⟩ 1 #[.string (sB h), .int .i64 4, .string (sB ky), .string ⟨#[110, 101, 119]⟩] rfl w6.heap.size rfl rfl (by rw [List.nil_append, HNA.out]; omega) hsz6 ?_; intro v7 w7 ho7 hb7; have HB7 := Lib.hid (HB6.out.trans hb7); rw [List.nil_append, HMO.out] at ho7; obtain ⟨A7, c7, rfl, hc7, hs7⟩ := ho7.seen; rw [HML.out] at hc7 ⊢; have HME := Lib.hid (show EArg w7 A7 c7 (n + 1) mo from ⟨HML.out, by omega, HMF.out, hc7, hs7⟩); clear ho7 hb7 hc7 hs7))
      have HAE := Lib.hid (earg_below HA.out HB7.out)
      have HBB := Lib.hid (bthen HBB3.out HB7.out)
      clear HB6
      go_loopg [14, 47] n (fun g v14 vi wr => ∃ k : Nat, Hid (k + g = n) ∧ vi = .int .i64 (k : Int) ∧ Hid (∀ j (hj : j < l.length), j < k → l[j].key ≠ ky) ∧ Hid (Below w7.heap.size w7 wr))
      case atStart => exact ⟨0, Nat.zero_add _, rfl, (fun j hj h => absurd h (Nat.not_lt_zero j)), Below.refl _ _⟩
      case round =>
        obtain ⟨k, HGK, rfl, HKY, HB⟩ := hrel
        have hgk := HGK.out
        by_cases hlt : k < n
        · have blt : decide ((k : Int) < (n : Int)) = true := decide_eq_true (by omega)
          have blt2 : decide (k < n) = true := decide_eq_true hlt
          have hkz : (k : Int) < (n : Int) := by omega
          have hkl : k < l.length := by rw [HNA.out]; exact hlt
          obtain ⟨b, o, rfl, hwb, hL⟩ := HAE.out.seen (by omega)
          obtain ⟨l0, l1, l2, l3⟩ := (hL.below HB.out hwb).entry rfl rfl hkl
          have HNX := Lib.hid (fun (hne : l[k].key ≠ ky) => show ∀ j (hj : j < l.length), j < k + 1 → l[j].key ≠ ky from fun j hj h1 => by
            rcases Nat.lt_or_ge j k with h2 | h2
            · exact HKY.out j hj h2
            · obtain rfl : j = k := by omega
              exact hne)
          generalize l[k] = x at l0 l1 l2 l3 HNX
          obtain ⟨xh, xk, xy, xv⟩ := x
          simp only at l0 l1 l2 l3 HNX
          obtain ⟨y0, y1, y2, y3⟩ := (ent_laid wr xh xk xy xv).cells
          have HBU := Lib.hid (HB.out.trans ((up wr (.cells #[.string (sB xh), .int .i64 xk, .string (sB xy), .string (sB xv)] 26)).mono HB.out.size))
          clear hL
          by_cases e1 : xy = ky
          · have n1 := sB_eq e1
            clear e1
            go_wp2_with fail
            refine (AW _).mono ?_
            rintro e wy ⟨rfl, hx⟩
            go_wp2
            go_ret
            exact ⟨rfl, bthen HBB.out (HBU.out.trans (hx.mono HBU.out.size))⟩
          · have n1 := sB_ne e1
            have HN2 := Lib.hid (HNX.out e1)
            clear e1
            go_wp2
            go_roundg (n - (k + 1))
            case rel => exact ⟨k + 1, (by show _ = _; omega), by go_num, HN2.out, HBU.out⟩
            case measure => omega
        · have blt : decide ((k : Int) < (n : Int)) = false := decide_eq_false (by omega)
          have blt2 : decide (k < n) = false := decide_eq_false hlt
          have HKA := Lib.hid (show ∀ x ∈ l, x.key ≠ ky by
            intro x hx
            obtain ⟨j, hj, rfl⟩ := List.getElem_of_mem hx
            exact HKY.out j hj (by have := HNA.out; omega))
          obtain ⟨wt, hwt⟩ : ∃ z, z = wr := ⟨_, rfl⟩
          subst hwt
          obtain ⟨u, hu⟩ : ∃ z, O.lookS l h (bo : Int) = z := ⟨_, rfl⟩
          obtain ⟨q, hq⟩ : ∃ z, O.lookB l h (bo : Int) = z := ⟨_, rfl⟩
          have HS3 := Lib.hid hu
          have HQ3 := Lib.hid hq
          have HS1 := Lib.hid (show O.lookS mo h (at0 : Int) = [110, 101, 119] by rw [← HMO.out, ← HKE.out]; unfold O.lookS; rw [show l ++ [(⟨h, 4, N.prefT at0 32, [110, 101, 119]⟩ : H.En)] = l ++ [O.oneE h at0] from rfl, O.look_one hat (by rw [HKE.out]; exact HKA.out)]; rfl)
          have HQ1 := Lib.hid (show O.lookB mo h (at0 : Int) = true by rw [← HMO.out, ← HKE.out]; unfold O.lookB; rw [show l ++ [(⟨h, 4, N.prefT at0 32, [110, 101, 119]⟩ : H.En)] = l ++ [O.oneE h at0] from rfl, O.look_one hat (by rw [HKE.out]; exact HKA.out)]; rfl)
          replace HAE := Lib.hid (earg_below HAE.out HB.out)
          replace HME := Lib.hid (earg_below HME.out HB.out)
          replace HBB := Lib.hid (bthen HBB.out HB.out)
          have n1 : ((sB [110, 101, 119]).toList == [110, 101, 119]) = true := by rw [sB_toList]; rfl
          have s1 : ((sB u).toList == (sB u).toList) = true := by simp
          have s2 : (q == q) = true := by simp
          clear hu hq
          by_cases e1 : at0 = bo
          · have n2 : ((at0 : Int) == (bo : Int)) = true := by rw [beq_iff_eq]; omega
            obtain ⟨u2, hu2⟩ : ∃ z, O.lookS mo h (bo : Int) = z := ⟨_, rfl⟩
            obtain ⟨q2, hq2⟩ : ∃ z, O.lookB mo h (bo : Int) = z := ⟨_, rfl⟩
            have HS2 := Lib.hid hu2
            have HQ2 := Lib.hid hq2
            clear e1 hu2 hq2
            go_wp2_with fail
            refine (E.lookupOf A7 c7 (n + 1) mo h (at0 : Int) [110, 101, 119] true _ HME.out HG.out (by unfold Int64; omega) HS1.out HQ1.out).mono ?_
            rintro e w11 ⟨rfl, hx⟩
            replace HME := Lib.hid (earg_below HME.out hx)
            replace HAE := Lib.hid (earg_below HAE.out hx)
            replace HBB := Lib.hid (bthen HBB.out hx)
            clear hx
            go_wp2_with fail
            refine (E.lookupOf A7 c7 (n + 1) mo h (bo : Int) u2 q2 _ HME.out HG.out (by unfold Int64; omega) HS2.out HQ2.out).mono ?_
            rintro e w12 ⟨rfl, hx⟩
            replace HAE := Lib.hid (earg_below HAE.out hx)
            replace HBB := Lib.hid (bthen HBB.out hx)
            clear hx
            go_wp2_with fail
            refine (E.lookupOf A c (n) l h (bo : Int) u q _ HAE.out HG.out (by unfold Int64; omega) HS3.out HQ3.out).mono ?_
            rintro e w13 ⟨rfl, hx⟩
            replace HBB := Lib.hid (bthen HBB.out hx)
            clear hx
            go_wp2_with fail
            refine (AW _).mono ?_
            rintro e wy ⟨rfl, hx⟩
            go_wp2
            go_ret
            exact ⟨rfl, bthen HBB.out hx⟩
          · have n2 : ((at0 : Int) == (bo : Int)) = false := by rw [beq_eq_false_iff_ne]; omega
            have HS2 := Lib.hid (show O.lookS mo h (bo : Int) = u by rw [← HS3.out, ← HMO.out, ← HKE.out]; unfold O.lookS; rw [show l ++ [(⟨h, 4, N.prefT at0 32, [110, 101, 119]⟩ : H.En)] = l ++ [O.oneE h at0] from rfl, O.look_other hat (by omega)])
            have HQ2 := Lib.hid (show O.lookB mo h (bo : Int) = q by rw [← HQ3.out, ← HMO.out, ← HKE.out]; unfold O.lookB; rw [show l ++ [(⟨h, 4, N.prefT at0 32, [110, 101, 119]⟩ : H.En)] = l ++ [O.oneE h at0] from rfl, O.look_other hat (by omega)])
            clear e1
            go_wp2_with fail
            refine (E.lookupOf A7 c7 (n + 1) mo h (at0 : Int) [110, 101, 119] true _ HME.out HG.out (by unfold Int64; omega) HS1.out HQ1.out).mono ?_
            rintro e w11 ⟨rfl, hx⟩
            replace HME := Lib.hid (earg_below HME.out hx)
            replace HAE := Lib.hid (earg_below HAE.out hx)
            replace HBB := Lib.hid (bthen HBB.out hx)
            clear hx
            go_wp2_with fail
            refine (E.lookupOf A7 c7 (n + 1) mo h (bo : Int) u q _ HME.out HG.out (by unfold Int64; omega) HS2.out HQ2.out).mono ?_
            rintro e w12 ⟨rfl, hx⟩
            replace HAE := Lib.hid (earg_below HAE.out hx)
            replace HBB := Lib.hid (bthen HBB.out hx)
            clear hx
            go_wp2_with fail
            refine (E.lookupOf A c (n) l h (bo : Int) u q _ HAE.out HG.out (by unfold Int64; omega) HS3.out HQ3.out).mono ?_
            rintro e w13 ⟨rfl, hx⟩
            replace HBB := Lib.hid (bthen HBB.out hx)
            clear hx
            go_wp2_with fail
            refine (AW _).mono ?_
            rintro e wy ⟨rfl, hx⟩
            go_wp2
            go_ret
            exact ⟨rfl, bthen HBB.out hx⟩
    · have hg2 := long_yes hg
      clear hg
      go_wp2_with fail
      refine (AW _).mono ?_
      rintro e wz ⟨rfl, hx⟩
      go_wp2
      go_ret
      exact ⟨rfl, bthen hb hx⟩
end Go.Proofs.Ytggdpnkekgmimaa
