/-
  The walk of layer 15's statement RouteLong, from what route does: it returns true whatever comes in. No conditions.
-/
import Derived.Test.YtggdpnkekgmimaaBase5
namespace Go.Proofs.Ytggdpnkekgmimaa
open Go.RowKit
set_option linter.unusedVariables false
set_option linter.unusedSimpArgs false

namespace O
/-- The greatest length of a route that takes an address; -1: there is none. -/
def bestI (l : List H.En) (h : Wd) (ip : Int) : Int := match lookE l h ip with | none => -1 | some x => bitsE x
/-- Is there a route of this length that takes an address, and has this value? -/
def thereB (l : List H.En) (h : Wd) (ip : Int) (s : Wd) (B : Int) : Bool := l.any fun e => hitB h ip e && decide (bitsE e = B) && decide (e.val = s)
theorem there_snoc (l : List H.En) (h : Wd) (ip : Int) (s : Wd) (B : Int) (e : H.En) : thereB (l ++ [e]) h ip s B = (thereB l h ip s B || (hitB h ip e && decide (bitsE e = B) && decide (e.val = s))) := by
  unfold thereB
  rw [List.any_append]; simp
theorem hit_bitsL {h : Wd} {ip : Int} {e : H.En} (k : hitB h ip e = true) : 0 ≤ bitsE e := by
  obtain ⟨_, _, h1, _⟩ := hit_parts k
  unfold bitsE
  rcases N.pref_cases e.key with k2 | ⟨n, b, k2, _⟩
  · rw [k2] at h1; exact absurd h1 (by decide)
  · rw [k2]; show (0 : Int) ≤ (b : Int); omega
theorem best_top {l : List H.En} {h : Wd} {ip : Int} {e : H.En} (he : e ∈ l) (hh : hitB h ip e = true) : bitsE e ≤ bestI l h ip := by
  unfold bestI
  cases k : lookE l h ip with
  | none => rw [look_no.1 k e he] at hh; cases hh
  | some x => exact (look_yes k).2.2 e he hh
theorem there_over {l : List H.En} {h : Wd} {ip : Int} {s : Wd} {B : Int} (hB : bestI l h ip < B) : thereB l h ip s B = false := by
  unfold thereB
  rw [List.any_eq_false]
  intro e he hk
  rw [Bool.and_eq_true, Bool.and_eq_true, decide_eq_true_eq] at hk
  have := best_top he hk.1.1
  omega
theorem best_skip {l : List H.En} {h : Wd} {ip : Int} {s : Wd} {i : Nat} (hi : i < l.length) (hh : hitB h ip l[i] = false) : bestI (l.take (i + 1)) h ip = bestI (l.take i) h ip ∧ ∀ B, thereB (l.take (i + 1)) h ip s B = thereB (l.take i) h ip s B := by
  constructor
  · unfold bestI
    rw [look_next hi, if_neg (by rw [hh]; decide)]
  · intro B
    rw [List.take_succ_eq_append_getElem hi, there_snoc, hh]; simp
theorem best_hit {l : List H.En} {h : Wd} {ip : Int} {i : Nat} (hi : i < l.length) (hh : hitB h ip l[i] = true) : bestI (l.take (i + 1)) h ip = if bestI (l.take i) h ip < bitsE l[i] then bitsE l[i] else bestI (l.take i) h ip := by
  have h0 := hit_bitsL hh
  unfold bestI
  rw [look_next hi, if_pos hh]
  cases k : lookE (l.take i) h ip with
  | none =>
    simp only []
    rw [if_pos (show (-1 : Int) < bitsE l[i] by omega)]
  | some x =>
    simp only []
    by_cases hb : bitsE x < bitsE l[i]
    · rw [if_pos hb]; simp only [if_pos hb]
    · rw [if_neg hb]; simp only [if_neg hb]
theorem there_hit {l : List H.En} {h : Wd} {ip : Int} {s : Wd} {i : Nat} (hi : i < l.length) (hh : hitB h ip l[i] = true) (B : Int) : thereB (l.take (i + 1)) h ip s B = (thereB (l.take i) h ip s B || (decide (bitsE l[i] = B) && decide (l[i].val = s))) := by
  rw [List.take_succ_eq_append_getElem hi, there_snoc, hh, Bool.true_and]
end O
set_option maxRecDepth 100000 in
set_option maxHeartbeats 16000000 in
theorem routeLong_walk (E : RouteOk) (AW : ∀ w, Calls Try.prog 10 #[] w (TrueS w)) (w : World) (A : Option Addr) (c : Nat) (l : List H.En) (hc : l.length ≤ c) (hNA : NilOk A c) (hA : Seen eEc w A l) (hlA : l.length ≤ maxLen) (hw : ByteArray) (hhw : hw.size ≤ maxLen) (ip : Int) (wip : (Lit.int .i64 ip).wf = true) :
    Calls Try.prog 4 #[.slice A l.length c, .string hw, .int .i64 ip] w (TrueS w) := by
  unfold maxLen at hlA
  obtain ⟨h, hs⟩ : ∃ s, hw.data.toList = s := ⟨_, rfl⟩
  obtain rfl : hw = sB h := by rw [← hs]; exact (sB_of hw).symm
  clear hs hhw
  have HI := Lib.hid (int_of wip)
  clear wip
  obtain ⟨n, hnA⟩ : ∃ n, l.length = n := ⟨_, rfl⟩
  rw [hnA] at hc hlA ⊢
  have HNA := Lib.hid hnA
  have HA := Lib.hid hA
  have HOA := Lib.hid hNA
  clear hA hnA hNA
  have hb : Below w.heap.size w w := Below.refl _ _
  go_enter Try.func4, Try.ntmps4
  go_wp2_with fail
  refine (few15 A c n l _ HNA.out HA.out (by omega)).mono ?_
  rintro e wx1 ⟨bs, rfl, hsm, hx⟩
  replace HA := Lib.hid (HA.out.below hx)
  replace hb := bthen hb hx
  clear hx
  cases bs with
  | false =>
    clear hsm
    go_wp2_with fail
    refine (AW _).mono ?_
    rintro e wz ⟨rfl, hx⟩
    go_wp2
    go_ret
    exact ⟨rfl, bthen hb hx⟩
  | true =>
    obtain ⟨h60, hfit⟩ := hsm rfl
    have HF := Lib.hid hfit
    replace HA := Lib.hid (show EArg wx1 A c n l from ⟨HNA.out, by omega, hfit, hc, HA.out⟩)
    clear hsm hfit
    by_cases hg : h.length ≤ 100
    · have hg2 := long_no hg
      have HG := Lib.hid hg
      clear hg
      obtain ⟨s, hs⟩ : ∃ z, O.lookS l h ip = z := ⟨_, rfl⟩
      obtain ⟨q, hq⟩ : ∃ z, O.lookB l h ip = z := ⟨_, rfl⟩
      have HS1 := Lib.hid hs
      have HQ1 := Lib.hid hq
      clear hs hq
      go_wp2_with fail
      refine (E.lookupOf A c n l h ip s q _ HA.out HG.out HI.out HS1.out HQ1.out).mono ?_
      rintro e w1 ⟨rfl, hx⟩
      replace HA := Lib.hid (earg_below HA.out hx)
      have HBB := Lib.hid (bthen hb hx)
      clear hx hb
      go_wp2
      go_loopg [9, 10, 12, 13, 14, 33] n (fun g vb vt v12 v13 v14 vi wr => ∃ (k : Nat) (B : Int) (tb : Bool), Hid (k + g = n) ∧ vi = .int .i64 (k : Int) ∧ vb = .int .i64 B ∧ vt = .bool tb ∧ Hid (O.bestI (l.take k) h ip = B) ∧ Hid (O.thereB (l.take k) h ip s B = tb) ∧ Hid (Below w1.heap.size w1 wr))
      case atStart => exact ⟨0, -1, false, Nat.zero_add _, rfl, rfl, rfl, rfl, rfl, Below.refl _ _⟩
      case round =>
        obtain ⟨k, B, tb, HGK, rfl, rfl, rfl, HBI, HTB, HB⟩ := hrel
        have hgk := HGK.out
        by_cases hlt : k < n
        · have blt : decide ((k : Int) < (n : Int)) = true := decide_eq_true (by omega)
          have blt2 : decide (k < n) = true := decide_eq_true hlt
          have hkz : (k : Int) < (n : Int) := by omega
          have hkl : k < l.length := by rw [HNA.out]; exact hlt
          obtain ⟨b, o, rfl, hwb, hL⟩ := HA.out.seen (by omega)
          obtain ⟨l0, l1, l2, l3⟩ := (hL.below HB.out hwb).entry rfl rfl hkl
          have HSK := Lib.hid (fun (k1 : O.hitB h ip l[k] = false) => O.best_skip (s := s) hkl k1)
          have HBH := Lib.hid (fun (k1 : O.hitB h ip l[k] = true) => O.best_hit hkl k1)
          have HTH := Lib.hid (fun (k1 : O.hitB h ip l[k] = true) => O.there_hit (s := s) hkl k1)
          have HFT := Lib.hid (HF.out l[k] (List.getElem_mem hkl))
          generalize l[k] = x at l0 l1 l2 l3 HSK HBH HTH HFT
          obtain ⟨xh, xk, xy, xv⟩ := x
          simp only at l0 l1 l2 l3
          obtain ⟨y0, y1, y2, y3⟩ := (ent_laid wr xh xk xy xv).cells
          have HEX := Lib.hid (ent_laid wr xh xk xy xv)
          have HUP := Lib.hid (up wr (.cells #[.string (sB xh), .int .i64 xk, .string (sB xy), .string (sB xv)] 26))
          have HBU := Lib.hid (HB.out.trans (HUP.out.mono HB.out.size))
          obtain ⟨pn, pb, hpf⟩ : ∃ pn pb, N.prefL xy = (pn, pb) := ⟨_, _, rfl⟩
          have HPF := Lib.hid hpf
          have HBE := Lib.hid (show O.bitsE ⟨xh, xk, xy, xv⟩ = pb by unfold O.bitsE; simp only []; rw [hpf])
          clear hL hpf
          go_wp2_with fail
          refine (pref15 xy pn pb _ (Nat.le_trans HFT.out.2.1 (by omega)) HPF.out).mono ?_
          rintro e w3 ⟨rfl, hx3⟩
          obtain ⟨z0, z1, z2, z3⟩ := (ent_below HEX.out hx3).cells
          have HE3 := Lib.hid (ent_below HEX.out hx3)
          have HB3 := Lib.hid (HBU.out.trans (hx3.mono HBU.out.size))
          clear hx3 y0 y1 y2 y3 l0 l1 l2 l3
          by_cases e1 : xh = h
          · have n1 := sB_eq e1
            by_cases e2 : xk = 4
            · subst e2
              by_cases e3 : pn < 0
              · have n3 : decide (pn < 0) = true := decide_eq_true e3
                have HNX := Lib.hid (HSK.out (by unfold O.hitB; simp only []; rw [HPF.out, decide_eq_false (show ¬ (0 : Int) ≤ (pn, pb).1 by show ¬ (0 : Int) ≤ pn; omega), Bool.and_false]; rfl))
                clear e1 e3
                go_wp2
                go_roundg (n - (k + 1))
                case rel => exact ⟨k + 1, B, tb, (by show _ = _; omega), by go_num, rfl, rfl, HNX.out.1.trans HBI.out, (HNX.out.2 B).trans HTB.out, HB3.out⟩
                case measure => omega
              · have n3 : decide (pn < 0) = false := decide_eq_false e3
                obtain ⟨r, hr⟩ : ∃ r, N.inB pn pb ip = r := ⟨_, rfl⟩
                have HR := Lib.hid hr
                have hhit : O.hitB h ip ⟨xh, 4, xy, xv⟩ = r := by
                  unfold O.hitB
                  simp only []
                  rw [HPF.out, decide_eq_true e1, decide_eq_true (show (0 : Int) ≤ (pn, pb).1 by show (0 : Int) ≤ pn; omega)]
                  exact hr
                have HHT := Lib.hid hhit
                clear e1 e3 hr hhit
                go_wp2_with fail
                refine (in15 pn pb ip r _ HR.out).mono ?_
                rintro e w4 ⟨rfl, hx4⟩
                obtain ⟨t0, t1, t2, t3⟩ := (ent_below HE3.out hx4).cells
                replace HB3 := Lib.hid (HB3.out.trans (hx4.mono HB3.out.size))
                clear hx4 z0 z1 z2 z3
                cases r with
                | false =>
                  have HNX := Lib.hid (HSK.out HHT.out)
                  go_wp2
                  go_roundg (n - (k + 1))
                  case rel => exact ⟨k + 1, B, tb, (by show _ = _; omega), by go_num, rfl, rfl, HNX.out.1.trans HBI.out, (HNX.out.2 B).trans HTB.out, HB3.out⟩
                  case measure => omega
                | true =>
                  have HBN := Lib.hid (HBH.out HHT.out)
                  have HTN := Lib.hid (HTH.out HHT.out)
                  by_cases e4 : B < pb
                  · have n4 : decide (B < pb) = true := decide_eq_true e4
                    have HB2 := Lib.hid (show O.bestI (l.take (k + 1)) h ip = pb by rw [HBN.out, HBE.out, HBI.out, if_pos e4])
                    have HOV := Lib.hid (show O.thereB (l.take k) h ip s pb = false from O.there_over (by rw [HBI.out]; exact e4))
                    have n5 : (pb == pb) = true := by simp
                    by_cases e5 : xv = s
                    · have n6 := sB_eq e5
                      have HT2 := Lib.hid (show O.thereB (l.take (k + 1)) h ip s pb = true by rw [HTN.out, HBE.out, HOV.out, decide_eq_true rfl, decide_eq_true e5]; rfl)
                      clear e4 e5
                      go_wp2
                      go_roundg (n - (k + 1))
                      case rel => exact ⟨k + 1, pb, true, (by show _ = _; omega), by go_num, rfl, rfl, HB2.out, HT2.out, HB3.out⟩
                      case measure => omega
                    · have n6 := sB_ne e5
                      have HT2 := Lib.hid (show O.thereB (l.take (k + 1)) h ip s pb = false by rw [HTN.out, HBE.out, HOV.out, decide_eq_false e5, Bool.and_false]; rfl)
                      clear e4 e5
                      go_wp2
                      go_roundg (n - (k + 1))
                      case rel => exact ⟨k + 1, pb, false, (by show _ = _; omega), by go_num, rfl, rfl, HB2.out, HT2.out, HB3.out⟩
                      case measure => omega
                  · have n4 : decide (B < pb) = false := decide_eq_false e4
                    have HB2 := Lib.hid (show O.bestI (l.take (k + 1)) h ip = B by rw [HBN.out, HBE.out, HBI.out, if_neg e4])
                    cases tb with
                    | true =>
                      have HT2 := Lib.hid (show O.thereB (l.take (k + 1)) h ip s B = true by rw [HTN.out, HTB.out]; rfl)
                      clear e4
                      go_wp2
                      go_roundg (n - (k + 1))
                      case rel => exact ⟨k + 1, B, true, (by show _ = _; omega), by go_num, rfl, rfl, HB2.out, HT2.out, HB3.out⟩
                      case measure => omega
                    | false =>
                      by_cases e6 : pb = B
                      · have n5 : (pb == B) = true := by rw [beq_iff_eq]; exact e6
                        by_cases e5 : xv = s
                        · have n6 := sB_eq e5
                          have HT2 := Lib.hid (show O.thereB (l.take (k + 1)) h ip s B = true by rw [HTN.out, HBE.out, decide_eq_true e6, decide_eq_true e5, Bool.and_true, Bool.or_true])
                          clear e4 e5 e6
                          go_wp2
                          go_roundg (n - (k + 1))
                          case rel => exact ⟨k + 1, B, true, (by show _ = _; omega), by go_num, rfl, rfl, HB2.out, HT2.out, HB3.out⟩
                          case measure => omega
                        · have n6 := sB_ne e5
                          have HT2 := Lib.hid (show O.thereB (l.take (k + 1)) h ip s B = false by rw [HTN.out, HTB.out, decide_eq_false e5, Bool.and_false]; rfl)
                          clear e4 e5 e6
                          go_wp2
                          go_roundg (n - (k + 1))
                          case rel => exact ⟨k + 1, B, false, (by show _ = _; omega), by go_num, rfl, rfl, HB2.out, HT2.out, HB3.out⟩
                          case measure => omega
                      · have n5 : (pb == B) = false := by rw [beq_eq_false_iff_ne]; exact e6
                        have HT2 := Lib.hid (show O.thereB (l.take (k + 1)) h ip s B = false by rw [HTN.out, HTB.out, HBE.out, decide_eq_false e6, Bool.false_and]; rfl)
                        clear e4 e6
                        go_wp2
                        go_roundg (n - (k + 1))
                        case rel => exact ⟨k + 1, B, false, (by show _ = _; omega), by go_num, rfl, rfl, HB2.out, HT2.out, HB3.out⟩
                        case measure => omega
            · have n2 : (xk == 4) = false := by rw [beq_eq_false_iff_ne]; exact e2
              have n2b : (xk != 4) = true := by rw [bne, n2]; rfl
              have n2c : decide (xk = 4) = false := decide_eq_false e2
              have HNX := Lib.hid (HSK.out (by unfold O.hitB; simp only []; rw [decide_eq_false e2, Bool.and_false]; rfl))
              clear e1
              go_wp2
              go_roundg (n - (k + 1))
              case rel => exact ⟨k + 1, B, tb, (by show _ = _; omega), by go_num, rfl, rfl, HNX.out.1.trans HBI.out, (HNX.out.2 B).trans HTB.out, HB3.out⟩
              case measure => omega
          · have n1 := sB_ne e1
            have HNX := Lib.hid (HSK.out (by unfold O.hitB; simp only []; rw [decide_eq_false e1]; rfl))
            clear e1
            go_wp2
            go_roundg (n - (k + 1))
            case rel => exact ⟨k + 1, B, tb, (by show _ = _; omega), by go_num, rfl, rfl, HNX.out.1.trans HBI.out, (HNX.out.2 B).trans HTB.out, HB3.out⟩
            case measure => omega
        · have blt : decide ((k : Int) < (n : Int)) = false := decide_eq_false (by omega)
          have blt2 : decide (k < n) = false := decide_eq_false hlt
          have hta : l.take k = l := List.take_of_length_le (by rw [HNA.out]; omega)
          have hbi := HBI.out
          have htb := HTB.out
          rw [hta] at hbi htb
          cases hk : O.lookE l h ip with
          | none =>
            have HQ2 := Lib.hid (show q = false by rw [← HQ1.out]; unfold O.lookB; rw [hk]; rfl)
            have HS2 := Lib.hid (show s = [] by rw [← HS1.out]; unfold O.lookS; rw [hk])
            have HB2 := Lib.hid (show B = -1 by rw [← hbi]; unfold O.bestI; rw [hk])
            obtain rfl := HQ2.out
            obtain rfl := HS2.out
            obtain rfl := HB2.out
            have n1 : ((sB []).toList == []) = true := by rw [sB_toList]; rfl
            clear hta hbi htb hk
            go_wp2_with fail
            refine (AW _).mono ?_
            rintro e wz ⟨rfl, hx⟩
            go_wp2
            go_ret
            exact ⟨rfl, bthen (bthen HBB.out HB.out) hx⟩
          | some x =>
            obtain ⟨x1, x2, _⟩ := O.look_yes hk
            have HQ2 := Lib.hid (show q = true by rw [← HQ1.out]; unfold O.lookB; rw [hk]; rfl)
            have HS2 := Lib.hid (show s = x.val by rw [← HS1.out]; unfold O.lookS; rw [hk])
            have hB2 : B = O.bitsE x := by rw [← hbi]; unfold O.bestI; rw [hk]
            have h0 := O.hit_bitsL x2
            have n1 : decide ((0 : Int) ≤ B) = true := decide_eq_true (by omega)
            have HT2 := Lib.hid (show tb = true by
              rw [← htb]
              unfold O.thereB
              rw [List.any_eq_true]
              exact ⟨x, x1, by rw [x2, decide_eq_true hB2.symm, decide_eq_true HS2.out.symm]; rfl⟩)
            obtain rfl := HQ2.out
            obtain rfl := HT2.out
            clear hta hbi htb hk x1 x2 hB2 h0
            go_wp2_with fail
            refine (AW _).mono ?_
            rintro e wz ⟨rfl, hx⟩
            go_wp2
            go_ret
            exact ⟨rfl, bthen (bthen HBB.out HB.out) hx⟩
    · have hg2 := long_yes hg
      clear hg
      go_wp2_with fail
      refine (AW _).mono ?_
      rintro e wz ⟨rfl, hx⟩
      go_wp2
      go_ret
      exact ⟨rfl, bthen hb hx⟩
end Go.Proofs.Ytggdpnkekgmimaa
