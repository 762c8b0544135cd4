/-
  The walk of layer 15's statement RouteOwn, from what route does: it returns true whatever comes in. No conditions.
-/
import Derived.Test.YtggdpnkekgmimaaBase5
namespace Go.Proofs.Ytggdpnkekgmimaa
open Go.RowKit
set_option linter.unusedVariables false
set_option linter.unusedSimpArgs false
set_option maxRecDepth 100000 in
set_option maxHeartbeats 16000000 in
theorem routeOwn_walk (E : RouteOk) (AW : ∀ w, Calls Try.prog 10 #[] w (TrueS w)) (w : World) (A : Option Addr) (c : Nat) (l : List H.En) (hc : l.length ≤ c) (hNA : NilOk A c) (hA : Seen eEc w A l) (hlA : l.length ≤ maxLen) (hw : ByteArray) (hhw : hw.size ≤ maxLen) (fr : Int) (wfr : (Lit.int .i64 fr).wf = true) (ip : Int) (wip : (Lit.int .i64 ip).wf = true) :
    Calls Try.prog 3 #[.slice A l.length c, .string hw, .int .i64 fr, .int .i64 ip] w (TrueS w) := by
  unfold maxLen at hlA
  obtain ⟨h, hs⟩ : ∃ s, hw.data.toList = s := ⟨_, rfl⟩
  obtain rfl : hw = sB h := by rw [← hs]; exact (sB_of hw).symm
  clear hs hhw
  have HI2 := Lib.hid (int_of wfr)
  have HI := Lib.hid (int_of wip)
  clear wfr wip
  obtain ⟨n, hnA⟩ : ∃ n, l.length = n := ⟨_, rfl⟩
  rw [hnA] at hc hlA ⊢
  have HNA := Lib.hid hnA
  have HA := Lib.hid hA
  have HOA := Lib.hid hNA
  clear hA hnA hNA
  have hb : Below w.heap.size w w := Below.refl _ _
  go_enter Try.func3, Try.ntmps3
  go_wp2_with fail
  refine (few15 A c n l _ HNA.out HA.out (by omega)).mono ?_
  rintro e wx1 ⟨bs, rfl, hsm, hx⟩
  replace HA := Lib.hid (HA.out.below hx)
  replace hb := bthen hb hx
  clear hx
  cases bs with
  | false =>
    clear hsm
    go_wp2_with fail
    refine (AW _).mono ?_
    rintro e wz ⟨rfl, hx⟩
    go_wp2
    go_ret
    exact ⟨rfl, bthen hb hx⟩
  | true =>
    obtain ⟨h60, hfit⟩ := hsm rfl
    have HF := Lib.hid hfit
    replace HA := Lib.hid (show EArg wx1 A c n l from ⟨HNA.out, by omega, hfit, hc, HA.out⟩)
    clear hsm hfit
    by_cases hg : h.length ≤ 100
    · have hg2 := long_no hg
      have HG := Lib.hid hg
      clear hg
      go_wp2
      go_loopg [9, 11, 27] n (fun g vo v11 vi wr => ∃ k : Nat, Hid (k + g = n) ∧ vi = .int .i64 (k : Int) ∧ Hid (Own eEc wr wx1.heap.size vo ((l.take k).filter (O.ownB h))) ∧ Hid (Below wx1.heap.size wx1 wr))
      case atStart => exact ⟨0, Nat.zero_add _, rfl, Own.nil _ _, Below.refl _ _⟩
      case round =>
        obtain ⟨k, HGK, rfl, HO, HB⟩ := hrel
        have hgk := HGK.out
        by_cases hlt : k < n
        · have blt : decide ((k : Int) < (n : Int)) = true := decide_eq_true (by omega)
          have blt2 : decide (k < n) = true := decide_eq_true hlt
          have hkz : (k : Int) < (n : Int) := by omega
          have hkl : k < l.length := by rw [HNA.out]; exact hlt
          obtain ⟨b, o, rfl, hwb, hL⟩ := HA.out.seen (by omega)
          obtain ⟨l0, l1, l2, l3⟩ := (hL.below HB.out hwb).entry rfl rfl hkl
          have HON := Lib.hid (fun (k1 : O.ownB h l[k] = true) => show (l.take (k + 1)).filter (O.ownB h) = (l.take k).filter (O.ownB h) ++ [l[k]] by rw [List.take_succ_eq_append_getElem hkl, List.filter_append, List.filter_cons_of_pos k1]; rfl)
          have HOF := Lib.hid (fun (k1 : O.ownB h l[k] = false) => show (l.take (k + 1)).filter (O.ownB h) = (l.take k).filter (O.ownB h) by rw [List.take_succ_eq_append_getElem hkl, List.filter_append, List.filter_cons_of_neg (by rw [k1]; decide)]; simp)
          generalize l[k] = x at l0 l1 l2 l3 HON HOF
          obtain ⟨xh, xk, xy, xv⟩ := x
          simp only at l0 l1 l2 l3
          obtain ⟨y0, y1, y2, y3⟩ := (ent_laid wr xh xk xy xv).cells
          have HUP := Lib.hid (up wr (.cells #[.string (sB xh), .int .i64 xk, .string (sB xy), .string (sB xv)] 26))
          have HBU := Lib.hid (HB.out.trans (HUP.out.mono HB.out.size))
          have HOU := Lib.hid (HO.out.keep HUP.out)
          have HLN := Lib.hid (show ((l.take k).filter (O.ownB h)).length ≤ 60 by
            refine Nat.le_trans (List.length_filter_le _ _) ?_
            rw [List.length_take]; omega)
          have hsz := HBU.out.size
          clear hL
          by_cases e1 : xh = h
          · have n1 := sB_eq e1
            by_cases e2 : xk = 4
            · have n2 : (xk == 4) = true := by rw [beq_iff_eq]; exact e2
              have HNX := Lib.hid (HON.out (by unfold O.ownB; rw [decide_eq_true e1, decide_eq_true e2]; rfl))
              clear e1 e2
              go_wp2_with (at_builtin; refine wpList_appG eEc _ rfl (.tmp 45) (.tmp 47) rfl wx1.heap.size u9 _ rfl HOU.out ⟨xh, xk, xy, xv⟩ 1 _ rfl (wr.heap.size + 1) (by simp) rfl (by have := HLN.out; omega) hsz ?_; intro v5 w5 hown5 hb5; have HB5 := Lib.hid (HBU.out.trans hb5); have HO5 := Lib.hid hown5; clear hown5 hb5)
              go_roundg (n - (k + 1))
              case rel => exact ⟨k + 1, (by show _ = _; omega), by go_num, (by rw [HNX.out]; exact HO5.out), HB5.out⟩
              case measure => omega
            · have n2 : (xk == 4) = false := by rw [beq_eq_false_iff_ne]; exact e2
              by_cases e3 : xk = 5
              · have n3 : (xk == 5) = true := by rw [beq_iff_eq]; exact e3
                have HNX := Lib.hid (HON.out (by unfold O.ownB; rw [decide_eq_true e1, decide_eq_true e3, Bool.or_true]; rfl))
                clear e1 e2 e3
                go_wp2_with (at_builtin; refine wpList_appG eEc _ rfl (.tmp 45) (.tmp 47) rfl wx1.heap.size u9 _ rfl HOU.out ⟨xh, xk, xy, xv⟩ 1 _ rfl (wr.heap.size + 1) (by simp) rfl (by have := HLN.out; omega) hsz ?_; intro v5 w5 hown5 hb5; have HB5 := Lib.hid (HBU.out.trans hb5); have HO5 := Lib.hid hown5; clear hown5 hb5)
                go_roundg (n - (k + 1))
                case rel => exact ⟨k + 1, (by show _ = _; omega), by go_num, (by rw [HNX.out]; exact HO5.out), HB5.out⟩
                case measure => omega
              · have n3 : (xk == 5) = false := by rw [beq_eq_false_iff_ne]; exact e3
                have HNX := Lib.hid (HOF.out (by unfold O.ownB; rw [decide_eq_true e1, decide_eq_false e2, decide_eq_false e3]; rfl))
                clear e1 e2 e3
                go_wp2
                go_roundg (n - (k + 1))
                case rel => exact ⟨k + 1, (by show _ = _; omega), by go_num, (by rw [HNX.out]; exact HOU.out), HBU.out⟩
                case measure => omega
          · have n1 := sB_ne e1
            have HNX := Lib.hid (HOF.out (by unfold O.ownB; rw [decide_eq_false e1]; rfl))
            clear e1
            go_wp2
            go_roundg (n - (k + 1))
            case rel => exact ⟨k + 1, (by show _ = _; omega), by go_num, (by rw [HNX.out]; exact HOU.out), HBU.out⟩
            case measure => omega
        · have blt : decide ((k : Int) < (n : Int)) = false := decide_eq_false (by omega)
          have blt2 : decide (k < n) = false := decide_eq_false hlt
          have hown := HO.out
          rw [List.take_of_length_le (show l.length ≤ k by rw [HNA.out]; omega)] at hown
          obtain ⟨ow, how⟩ : ∃ z, l.filter (O.ownB h) = z := ⟨_, rfl⟩
          rw [how] at hown
          obtain ⟨on, hon⟩ : ∃ z, ow.length = z := ⟨_, rfl⟩
          obtain ⟨A6, c6, rfl, hc6, hs6⟩ := hown.seen
          rw [hon] at hc6 ⊢
          have HOE := Lib.hid (show EArg wr A6 c6 on ow from ⟨hon, by
            rw [← hon, ← how]
            have := List.length_filter_le (O.ownB h) l
            have := HNA.out
            omega, fun x hx => by
            rw [← how] at hx
            exact HF.out x (List.mem_filter.1 hx).1, hc6, hs6⟩)
          have HAE := Lib.hid (earg_below HA.out HB.out)
          have HBB := Lib.hid (bthen hb HB.out)
          obtain ⟨s, hs⟩ : ∃ z, O.lookS l h ip = z := ⟨_, rfl⟩
          obtain ⟨q, hq⟩ : ∃ z, O.lookB l h ip = z := ⟨_, rfl⟩
          obtain ⟨p, hp⟩ : ∃ z, O.permB l h fr ip = z := ⟨_, rfl⟩
          have HS1 := Lib.hid hs
          have HQ1 := Lib.hid hq
          have HP1 := Lib.hid hp
          have HS2 := Lib.hid (show O.lookS ow h ip = s by rw [← hs, ← how]; unfold O.lookS; rw [O.look_own])
          have HQ2 := Lib.hid (show O.lookB ow h ip = q by rw [← hq, ← how]; unfold O.lookB; rw [O.look_own])
          have HP2 := Lib.hid (show O.permB ow h fr ip = p by rw [← hp, ← how]; exact O.perm_own l h fr ip)
          have s1 : ((sB s).toList == (sB s).toList) = true := by simp
          have s2 : (q == q) = true := by simp
          have s3 : (p == p) = true := by simp
          clear hown hon hc6 hs6 how hs hq hp hb
          go_wp2_with fail
          refine (E.lookupOf A c n l h ip s q _ HAE.out HG.out HI.out HS1.out HQ1.out).mono ?_
          rintro e w1 ⟨rfl, hx⟩
          replace HAE := Lib.hid (earg_below HAE.out hx)
          replace HOE := Lib.hid (earg_below HOE.out hx)
          replace HBB := Lib.hid (bthen HBB.out hx)
          clear hx
          go_wp2_with fail
          refine (E.lookupOf A6 c6 on ow h ip s q _ HOE.out HG.out HI.out HS2.out HQ2.out).mono ?_
          rintro e w2 ⟨rfl, hx⟩
          replace HAE := Lib.hid (earg_below HAE.out hx)
          replace HOE := Lib.hid (earg_below HOE.out hx)
          replace HBB := Lib.hid (bthen HBB.out hx)
          clear hx
          go_wp2_with fail
          refine (E.permitOf A c n l h fr ip p _ HAE.out HG.out HI2.out HI.out HP1.out).mono ?_
          rintro e w3 ⟨rfl, hx⟩
          replace HOE := Lib.hid (earg_below HOE.out hx)
          replace HBB := Lib.hid (bthen HBB.out hx)
          clear hx
          go_wp2_with fail
          refine (E.permitOf A6 c6 on ow h fr ip p _ HOE.out HG.out HI2.out HI.out HP2.out).mono ?_
          rintro e w4 ⟨rfl, hx⟩
          replace HBB := Lib.hid (bthen HBB.out hx)
          clear hx
          go_wp2_with fail
          refine (AW _).mono ?_
          rintro e wz ⟨rfl, hx⟩
          go_wp2
          go_ret
          exact ⟨rfl, bthen HBB.out hx⟩
    · have hg2 := long_yes hg
      clear hg
      go_wp2_with fail
      refine (AW _).mono ?_
      rintro e wz ⟨rfl, hx⟩
      go_wp2
      go_ret
      exact ⟨rfl, bthen hb hx⟩
end Go.Proofs.Ytggdpnkekgmimaa
