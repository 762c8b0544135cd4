/-
  The walk of layer 12's statement GroupsPaths, from what groups does: it returns true whatever comes in. No conditions.
-/
import Derived.Test.YtkifapbiimlafaaGroupB
namespace Go.Proofs.Ytkifapbiimlafaa
open Go.RowKit
set_option linter.unusedVariables false

set_option maxRecDepth 100000 in
set_option maxHeartbeats 8000000 in
theorem groupsPaths_walk (E : GroupsOk) (AW : ∀ w, Calls Try.prog 11 #[] w (TrueS w)) (w : World) (A : Option Addr) (c : Nat) (t : List T.Ln) (hc : t.length ≤ c) (hA : Seen eL w A t) (hlA : t.length ≤ maxLen) (hNA : NilOk A c) (gs : ByteArray) (hgs : gs.size ≤ maxLen) :
    Calls Try.prog 9 #[.slice A t.length c, .string gs] w (TrueS w) := by
  obtain ⟨s, hs⟩ : ∃ s, gs.data.toList = s := ⟨_, rfl⟩
  obtain rfl : gs = sB s := by rw [← hs]; exact (sv12 gs).symm
  have hsl : (sB s).size = s.length := sB_size s
  clear hs hgs
  unfold maxLen at hlA
  obtain ⟨n, hnA⟩ : ∃ n, t.length = n := ⟨_, rfl⟩
  rw [hnA] at hc hlA ⊢
  have HNA := Lib.hid hnA
  have HA := Lib.hid hA
  have HOA := Lib.hid hNA
  clear hA hnA hNA
  have hb : Below w.heap.size w w := Below.refl _ _
  go_enter Try.func9, Try.ntmps9
  go_wp2_with fail
  refine (few12 A c n t _ HNA.out HA.out).mono ?_
  rintro e wx1 ⟨bs, rfl, hsm, hx⟩
  replace HA := Lib.hid (HA.out.below hx)
  replace hb := bthen hb hx
  clear hx
  cases bs with
  | false =>
    clear hsm
    go_wp2_with fail
    refine (AW _).mono ?_
    rintro e wz ⟨rfl, hx⟩
    go_wp2
    go_ret
    exact ⟨rfl, bthen hb hx⟩
  | true =>
    have hn60 : n ≤ 60 := hsm rfl
    clear hsm
    replace HA := Lib.hid (LArg.mk HNA.out (by omega) hc HOA.out HA.out)
    by_cases hR : T.RightT t
    · have HR := Lib.hid hR
      clear hR
      go_wp2_with fail
      refine (right12 A c n t true _ HA.out.len HA.out.seen HA.out.small (yes_iff HR.out)).mono ?_
      rintro e wx2 ⟨rfl, hx⟩
      replace HA := Lib.hid (HA.out.below hx)
      replace hb := bthen hb hx
      clear hx
      go_wp2_with fail
      refine (brief12 A c n t _ HA.out.len HA.out.seen HA.out.small).mono ?_
      rintro e wx3 ⟨bb, rfl, hx⟩
      replace HA := Lib.hid (HA.out.below hx)
      replace hb := bthen hb hx
      clear hx
      cases bb with
      | false =>
        go_wp2_with fail
        refine (AW _).mono ?_
        rintro e wz ⟨rfl, hx⟩
        go_wp2
        go_ret
        exact ⟨rfl, bthen hb hx⟩
      | true =>
        by_cases hg : s.length ≤ 100
        · have hg2 : decide ((100 : Int) < ((sB s).size : Int)) = false := decide_eq_false (by omega)
          have hg3 : decide (100 < (sB s).size) = false := decide_eq_false (by omega)
          have HG := Lib.hid hg
          clear hg hsl
          obtain ⟨L, er2, hI⟩ := paths_ex t s
          have HIL := Lib.hid hI
          obtain ⟨lp, hm⟩ : ∃ k, L.length = k := ⟨_, rfl⟩
          have HLP := Lib.hid hm
          have hlp2 : lp ≤ 40200 := by rw [← hm]; exact (pathsAre_len hI).1
          have HFL := Lib.hid (pathsAre_len hI).2
          clear hI hm
          obtain ⟨x, er1, hI⟩ := explicit_ex t
          have HIx := Lib.hid hI
          obtain ⟨lx, hm⟩ : ∃ k, x.length = k := ⟨_, rfl⟩
          have HMx := Lib.hid hm
          have hmx : lx ≤ 200 := by rw [← hm]; exact explicit_len hI
          clear hI hm
          obtain ⟨u, er3, hI⟩ := expand_ex t
          have HIu := Lib.hid hI
          obtain ⟨lu, hm⟩ : ∃ k, u.length = k := ⟨_, rfl⟩
          have HMu := Lib.hid hm
          have hmu : lu ≤ 200 := by rw [← hm]; exact expand_len hI
          clear hI hm
          obtain ⟨rfl, rfl⟩ : x = T.expL t ∧ er1 = 0 := by
            rcases HIx.out with ⟨_, h⟩ | ⟨h, _⟩
            · exact h
            · exact absurd HR.out h
          go_wp2_with fail
          refine (E.pathsOf A c n lp t s L er2 _ HA.out HG.out HIL.out HLP.out).mono ?_
          rintro e wx4 ⟨B4, d4, rfl, hs4, hx⟩
          replace HA := Lib.hid (HA.out.below hx)
          have HL := Lib.hid hs4
          clear hs4
          replace hb := bthen hb hx
          clear hx
          go_wp2_with fail
          refine (E.explicitOf A c n lx t _ 0 _ HA.out HIx.out HMx.out).mono ?_
          rintro e wx5 ⟨B5, d5, rfl, hs5, hx⟩
          replace HA := Lib.hid (HA.out.below hx)
          replace HL := Lib.hid (HL.out.below hx)
          have HX := Lib.hid hs5
          clear hs5
          replace hb := bthen hb hx
          clear hx
          by_cases he : er2 = 0
          · subst he
            have HLI := Lib.hid (show L = T.pathsA t s by
              rcases pathsIs_of HIL.out HR.out with ⟨_, h, _⟩ | ⟨_, _, h⟩
              · exact h
              · exact absurd h (by decide))
            go_wp2_with fail
            refine (E.expandOf A c n lu t u er3 _ HA.out HIu.out HMu.out).mono ?_
            rintro e wx6 ⟨B6, d6, rfl, hs6, hx⟩
            replace HA := Lib.hid (HA.out.below hx)
            replace HL := Lib.hid (HL.out.below hx)
            replace HX := Lib.hid (HX.out.below hx)
            have HU := Lib.hid hs6
            clear hs6
            replace hb := bthen hb hx
            clear hx
            obtain ⟨a, ha⟩ : ∃ a, T.actL t = a := ⟨_, rfl⟩
            have HAC := Lib.hid ha
            have HRA := Lib.hid (show T.RightN 200 a by rw [← ha]; exact T.act_right HR.out)
            obtain ⟨la, hm⟩ : ∃ k, a.length = k := ⟨_, rfl⟩
            have HMa := Lib.hid hm
            have hla2 : la ≤ 200 := by rw [← hm]; exact HRA.out.len
            clear ha hm
            go_wp2_with fail
            refine (refActive12 A c n la t a _ HA.out HR.out HAC.out HMa.out).mono ?_
            rintro e wx7 ⟨B7, d7, rfl, hs7, hx⟩
            replace HA := Lib.hid (HA.out.below hx)
            replace HL := Lib.hid (HL.out.below hx)
            replace HX := Lib.hid (HX.out.below hx)
            replace HU := Lib.hid (HU.out.below hx)
            have HB := Lib.hid hs7
            clear hs7
            replace hb := bthen hb hx
            clear hx
            go_wp2_with fail
            refine (underR12 B7 d7 la a (some ⟨wx7.heap.size, 0, none⟩) 1 1 [T.wApply] _ HMa.out rfl (HB.out.seen.below (up _ _)) (lit_seen eS wx7 [T.wApply] _ rfl (by simp)) (by omega) (by decide) HRA.out).mono ?_
            rintro e wy ⟨A3, c3, rfl, hc3, hs3, hx0⟩
            have hx := bthen (up wx7 _) hx0
            replace HA := Lib.hid (HA.out.below hx)
            replace HL := Lib.hid (HL.out.below hx)
            replace HX := Lib.hid (HX.out.below hx)
            replace HU := Lib.hid (HU.out.below hx)
            replace HB := Lib.hid (HB.out.below hx)
            replace hb := bthen hb hx
            clear hx hx0
            obtain ⟨Ls, hLs⟩ : ∃ L, T.underW a [T.wApply] = L := ⟨_, rfl⟩
            have HLS := Lib.hid (show T.appL t = Ls by rw [← hLs]; exact (apps12 HAC.out).symm)
            rw [hLs] at hc3 hs3 ⊢
            obtain ⟨ln, hln⟩ : ∃ k, Ls.length = k := ⟨_, rfl⟩
            rw [hln] at hc3 ⊢
            have HLN := Lib.hid hln
            have HS3 := Lib.hid hs3
            obtain ⟨M, hM1, hM2, hM3⟩ := (HL.out.seenAt HLP.out).1
            have HM1 := Lib.hid (hM1.trans HLP.out)
            have HM2 := Lib.hid hM2
            have HM3 := Lib.hid hM3
            clear hLs hln hs3 hc3 hM1 hM2 hM3
            by_cases hz : er3 = 0
            · subst hz
              have HEX := Lib.hid (expandIs_of HIu.out HR.out)
              have HRU := Lib.hid (T.expand_ok HR.out HEX.out).right
              by_cases h1 : ln = 1
              · obtain ⟨g0, hg0⟩ : ∃ g0, Ls = [g0] := by
                  have := HLN.out
                  rw [h1] at this
                  exact List.length_eq_one_iff.1 this
                subst h1
                subst hg0
                obtain ⟨b3, o3, hA3, hw3, hL3⟩ := HS3.out (by simp)
                subst hA3
                have ka : wy.cell? ⟨b3, o3, none⟩ = some (.string (sB g0)) := hL3.str (i := 0) (by simp)
                have HKA := Lib.hid (fun w' (h : Below wy.heap.size wy w') => show w'.cell? ⟨b3, o3, none⟩ = some (.string (sB g0)) from (h.cell (p := ⟨b3, o3, none⟩) hw3).trans ka)
                clear hL3 ka
                cases hgg : (g0 == s) with
                | true =>
                  have qg : ((sB g0).toList == (sB s).toList) = true := by rw [sB_toList, sB_toList]; exact hgg
                  have qg2 : ((sB g0).toList != (sB s).toList) = false := by rw [bne, qg]; rfl
                  have HAP := Lib.hid (show s ∈ T.appL t by rw [HLS.out, ← beq_iff_eq.1 hgg]; exact List.mem_singleton.2 rfl)
                  clear hgg
                  go_wp2
                  go_loopg [13, 14, 15, 16, 70] lp (fun g0 v13 v14 v15 v16 vi wr => ∃ i : Nat, Hid (i + g0 = lp) ∧ vi = .int .i64 (i : Int) ∧ Hid (Below wy.heap.size wy wr))
                  case atStart => exact ⟨0, Nat.zero_add _, rfl, Below.refl _ _⟩
                  case round =>
                    obtain ⟨i, HG1, rfl, HB9⟩ := hrel
                    have hgk := HG1.out
                    by_cases hk : i < lp
                    · have bk : decide ((i : Int) < (lp : Int)) = true := decide_eq_true (by omega)
                      have bk2 : decide (i < lp) = true := decide_eq_true hk
                      have hkL : i < L.length := by rw [HLP.out]; exact hk
                      have hkM : i < M.length := by rw [HM1.out]; exact hk
                      have hkz : (i : Int) < (lp : Int) := by omega
                      obtain ⟨bq, oq, hBq, hwq, hLq⟩ := HM2.out (by omega)
                      subst hBq
                      have kq := (hLq.below HB9.out hwq).ptQ hkM
                      have hps := (HM3.out i hkM hkL).below HB9.out
                      obtain ⟨p, hp⟩ : ∃ p, L[i] = p := ⟨_, rfl⟩
                      obtain ⟨mk, hmk⟩ : ∃ m, M[i] = m := ⟨_, rfl⟩
                      rw [hmk] at kq
                      rw [hp, hmk] at hps
                      obtain ⟨PA, pn, pc⟩ := mk
                      have HFIT := Lib.hid (show T.FitP p from HFL.out p (by rw [← hp]; exact List.getElem_mem hkL))
                      have HPM := Lib.hid (show p ∈ L by rw [← hp]; exact List.getElem_mem hkL)
                      have HPS := Lib.hid hps
                      have hpn : p.length = pn := hps.len
                      have hpc : pn ≤ pc := hps.cap
                      have HPN := Lib.hid hpn
                      have hpn0 : 0 < pn := by rw [← hpn]; exact HFIT.out.pos
                      have hpn14 : pn ≤ 14 := by rw [← hpn]; exact HFIT.out.deep
                      obtain ⟨bp, op, ep, hwp, hLp⟩ := hps.seen (by omega)
                      have ep : PA = some ⟨bp, op, none⟩ := ep
                      subst ep
                      have hz0 : (0 : Int) < (pn : Int) := by omega
                      have hne0 : ((pn : Int) == 0) = false := beq_eq_false_iff_ne.2 (by omega)
                      have hne0b : (pn == 0) = false := beq_eq_false_iff_ne.2 (by omega)
                      have k0 := hLp.str (show 0 < p.length by omega)
                      obtain ⟨p0, hp0⟩ : ∃ q, p[0]'(by omega) = q := ⟨_, rfl⟩
                      rw [hp0, Nat.add_zero] at k0
                      have HIN := Lib.hid (show T.inhB (T.expL t) p = (!(p0 == T.wGroups) && !(p0 == T.wApply) && !(decide (1 < pn) && !(T.underW (T.expL t) p.dropLast).isEmpty)) by rw [inh_is _ HFIT.out.pos, hp0, hpn])
                      have ka := HKA.out _ HB9.out
                      clear hLp hp0 hps hp hmk hLq
                      cases e0 : (p0 == T.wGroups) with
                      | true =>
                        have q0 : ((sB p0).toList == [103, 114, 111, 117, 112, 115]) = true := by rw [sB_toList]; exact e0
                        clear e0
                        go_wp2
                        go_roundg (lp - (i + 1))
                        case rel => exact ⟨i + 1, (by show _ = _; omega), by go_num, HB9.out⟩
                        case measure => omega
                      | false =>
                        have q0 : ((sB p0).toList == [103, 114, 111, 117, 112, 115]) = false := by rw [sB_toList]; exact e0
                        cases e1 : (p0 == T.wApply) with
                        | true =>
                          have q1 : ((sB p0).toList == [97, 112, 112, 108, 121]) = true := by rw [sB_toList]; exact e1
                          clear e0 e1
                          go_wp2
                          go_roundg (lp - (i + 1))
                          case rel => exact ⟨i + 1, (by show _ = _; omega), by go_num, HB9.out⟩
                          case measure => omega
                        | false =>
                          have q1 : ((sB p0).toList == [97, 112, 112, 108, 121]) = false := by rw [sB_toList]; exact e1
                          have HIN2 := Lib.hid (show T.inhB (T.expL t) p = !(decide (1 < pn) && !(T.underW (T.expL t) p.dropLast).isEmpty) by rw [HIN.out, e0, e1]; rfl)
                          clear e0 e1
                          by_cases h1 : 1 < pn
                          · obtain ⟨q, rfl⟩ : ∃ q, pn = q + 1 := ⟨pn - 1, by omega⟩
                            have d1 : decide ((1 : Int) < (q : Int) + 1) = true := decide_eq_true (by omega)
                            have d1b : decide (1 < q + 1) = true := decide_eq_true h1
                            have HTK := Lib.hid (show (p.take q).length = q by rw [List.length_take, HPN.out]; omega)
                            have HST := Lib.hid (show Seen eS wr (some ⟨bp, op, none⟩) (p.take q) from ((PtK.take (k := 0) (A := some ⟨bp, op, none⟩) (n := q + 1) (c := pc) ⟨HPS.out, fun _ _ => Nat.zero_le _⟩ q (by omega)).pt.seen))
                            have HIN3 := Lib.hid (show T.inhB (T.expL t) p = (T.underW (T.expL t) (p.take q)).isEmpty by
                              rw [HIN2.out, decide_eq_true h1, Bool.true_and, Bool.not_not, List.dropLast_eq_take, HPN.out, Nat.add_sub_cancel])
                            obtain ⟨uw, huw⟩ : ∃ l, T.underW (T.expL t) (p.take q) = l := ⟨_, rfl⟩
                            obtain ⟨lw, hlw⟩ : ∃ k, uw.length = k := ⟨_, rfl⟩
                            have HUW := Lib.hid huw
                            have HLU := Lib.hid hlw
                            have hqc : (q : Int) ≤ (pc : Int) := by omega
                            have hwq1 : wrap64 ((q : Int) + 1 - 1) = (q : Int) := by rw [show (q : Int) + 1 - 1 = (q : Int) by omega]; exact Go.IntWalk.wrap64_in _ (by omega)
                            clear huw hlw h1
                            go_wp2_with fail
                            refine (underR12 B5 d5 lx (T.expL t) (some ⟨bp, op, none⟩) pc q (p.take q) _ HMx.out HTK.out (HX.out.seen.below HB9.out) HST.out (by omega) (by omega) (T.exp_right HR.out)).mono ?_
                            rintro e w8 ⟨A8, c8, rfl, hc8, hs8, hb8⟩
                            rw [HUW.out, HLU.out]
                            have HB8 := Lib.hid hb8
                            have HB98 := Lib.hid (HB9.out.trans (hb8.mono HB9.out.size))
                            clear hc8 hs8 hb8
                            by_cases h0 : 0 < lw
                            · have d0 : decide ((0 : Int) < (lw : Int)) = true := decide_eq_true (by omega)
                              have d0b : decide (0 < lw) = true := decide_eq_true h0
                              clear h0
                              go_wp2
                              go_roundg (lp - (i + 1))
                              case rel => exact ⟨i + 1, (by show _ = _; omega), by go_num, HB98.out⟩
                              case measure => omega
                            · have d0 : decide ((0 : Int) < (lw : Int)) = false := decide_eq_false (by omega)
                              have d0b : decide (0 < lw) = false := decide_eq_false h0
                              have HIU := Lib.hid (show T.isIn u p from T.expand_path HR.out HEX.out HAP.out (by rw [← HLI.out]; exact HPM.out) (by
                                rw [HIN3.out, HUW.out, List.isEmpty_iff]
                                exact List.eq_nil_of_length_eq_zero (by rw [HLU.out]; omega)))
                              clear h0
                              go_wp2_with fail
                              refine (findYes12 B6 (some ⟨bp, op, none⟩) d6 pc lu (q + 1) u p _ HMu.out HPN.out (HU.out.seen.below HB98.out) (HPS.out.seen.below HB8.out) (by omega) (by omega) HRU.out HIU.out).mono ?_
                              rintro e w9 ⟨i9, rfl, _, hb9⟩
                              have HB10 := Lib.hid (HB98.out.trans (hb9.mono HB98.out.size))
                              clear hb9
                              go_wp2
                              go_roundg (lp - (i + 1))
                              case rel => exact ⟨i + 1, (by show _ = _; omega), by go_num, HB10.out⟩
                              case measure => omega
                          · have d1 : decide ((1 : Int) < (pn : Int)) = false := decide_eq_false (by omega)
                            have d1b : decide (1 < pn) = false := decide_eq_false h1
                            have HIU := Lib.hid (show T.isIn u p from T.expand_path HR.out HEX.out HAP.out (by rw [← HLI.out]; exact HPM.out) (by rw [HIN2.out, d1b]; rfl))
                            clear h1
                            go_wp2_with fail
                            refine (findYes12 B6 (some ⟨bp, op, none⟩) d6 pc lu pn u p _ HMu.out HPN.out (HU.out.seen.below HB9.out) HPS.out.seen (by omega) (by omega) HRU.out HIU.out).mono ?_
                            rintro e w9 ⟨i9, rfl, _, hb9⟩
                            have HB10 := Lib.hid (HB9.out.trans (hb9.mono HB9.out.size))
                            clear hb9
                            go_wp2
                            go_roundg (lp - (i + 1))
                            case rel => exact ⟨i + 1, (by show _ = _; omega), by go_num, HB10.out⟩
                            case measure => omega
                    · have bk : decide ((i : Int) < (lp : Int)) = false := decide_eq_false (by omega)
                      have bk2 : decide (i < lp) = false := decide_eq_false hk
                      have hb2 := bthen hb HB9.out
                      go_wp2_with fail
                      refine (AW _).mono ?_
                      rintro e wz ⟨rfl, hx⟩
                      go_wp2
                      go_ret
                      exact ⟨rfl, bthen hb2 hx⟩
                | false =>
                  have qg : ((sB g0).toList == (sB s).toList) = false := by rw [sB_toList, sB_toList]; exact hgg
                  have qg2 : ((sB g0).toList != (sB s).toList) = true := by rw [bne, qg]; rfl
                  clear hgg
                  go_wp2
                  go_loopg [13, 14, 15, 16, 70] lp (fun g0 v13 v14 v15 v16 vi wr => ∃ i : Nat, Hid (i + g0 = lp) ∧ vi = .int .i64 (i : Int) ∧ Hid (Below wy.heap.size wy wr))
                  case atStart => exact ⟨0, Nat.zero_add _, rfl, Below.refl _ _⟩
                  case round =>
                    obtain ⟨i, HG1, rfl, HB9⟩ := hrel
                    have hgk := HG1.out
                    by_cases hk : i < lp
                    · have bk : decide ((i : Int) < (lp : Int)) = true := decide_eq_true (by omega)
                      have bk2 : decide (i < lp) = true := decide_eq_true hk
                      have hkL : i < L.length := by rw [HLP.out]; exact hk
                      have hkM : i < M.length := by rw [HM1.out]; exact hk
                      have hkz : (i : Int) < (lp : Int) := by omega
                      obtain ⟨bq, oq, hBq, hwq, hLq⟩ := HM2.out (by omega)
                      subst hBq
                      have kq := (hLq.below HB9.out hwq).ptQ hkM
                      have hps := (HM3.out i hkM hkL).below HB9.out
                      obtain ⟨p, hp⟩ : ∃ p, L[i] = p := ⟨_, rfl⟩
                      obtain ⟨mk, hmk⟩ : ∃ m, M[i] = m := ⟨_, rfl⟩
                      rw [hmk] at kq
                      rw [hp, hmk] at hps
                      obtain ⟨PA, pn, pc⟩ := mk
                      have HFIT := Lib.hid (show T.FitP p from HFL.out p (by rw [← hp]; exact List.getElem_mem hkL))
                      have HPM := Lib.hid (show p ∈ L by rw [← hp]; exact List.getElem_mem hkL)
                      have HPS := Lib.hid hps
                      have hpn : p.length = pn := hps.len
                      have hpc : pn ≤ pc := hps.cap
                      have HPN := Lib.hid hpn
                      have hpn0 : 0 < pn := by rw [← hpn]; exact HFIT.out.pos
                      have hpn14 : pn ≤ 14 := by rw [← hpn]; exact HFIT.out.deep
                      obtain ⟨bp, op, ep, hwp, hLp⟩ := hps.seen (by omega)
                      have ep : PA = some ⟨bp, op, none⟩ := ep
                      subst ep
                      have hz0 : (0 : Int) < (pn : Int) := by omega
                      have hne0 : ((pn : Int) == 0) = false := beq_eq_false_iff_ne.2 (by omega)
                      have hne0b : (pn == 0) = false := beq_eq_false_iff_ne.2 (by omega)
                      have k0 := hLp.str (show 0 < p.length by omega)
                      obtain ⟨p0, hp0⟩ : ∃ q, p[0]'(by omega) = q := ⟨_, rfl⟩
                      rw [hp0, Nat.add_zero] at k0
                      have HIN := Lib.hid (show T.inhB (T.expL t) p = (!(p0 == T.wGroups) && !(p0 == T.wApply) && !(decide (1 < pn) && !(T.underW (T.expL t) p.dropLast).isEmpty)) by rw [inh_is _ HFIT.out.pos, hp0, hpn])
                      have ka := HKA.out _ HB9.out
                      clear hLp hp0 hps hp hmk hLq
                      cases e0 : (p0 == T.wGroups) with
                      | true =>
                        have q0 : ((sB p0).toList == [103, 114, 111, 117, 112, 115]) = true := by rw [sB_toList]; exact e0
                        clear e0
                        go_wp2
                        go_roundg (lp - (i + 1))
                        case rel => exact ⟨i + 1, (by show _ = _; omega), by go_num, HB9.out⟩
                        case measure => omega
                      | false =>
                        have q0 : ((sB p0).toList == [103, 114, 111, 117, 112, 115]) = false := by rw [sB_toList]; exact e0
                        cases e1 : (p0 == T.wApply) with
                        | true =>
                          have q1 : ((sB p0).toList == [97, 112, 112, 108, 121]) = true := by rw [sB_toList]; exact e1
                          clear e0 e1
                          go_wp2
                          go_roundg (lp - (i + 1))
                          case rel => exact ⟨i + 1, (by show _ = _; omega), by go_num, HB9.out⟩
                          case measure => omega
                        | false =>
                          have q1 : ((sB p0).toList == [97, 112, 112, 108, 121]) = false := by rw [sB_toList]; exact e1
                          clear e0 e1
                          go_wp2
                          go_roundg (lp - (i + 1))
                          case rel => exact ⟨i + 1, (by show _ = _; omega), by go_num, HB9.out⟩
                          case measure => omega
                    · have bk : decide ((i : Int) < (lp : Int)) = false := decide_eq_false (by omega)
                      have bk2 : decide (i < lp) = false := decide_eq_false hk
                      have hb2 := bthen hb HB9.out
                      go_wp2_with fail
                      refine (AW _).mono ?_
                      rintro e wz ⟨rfl, hx⟩
                      go_wp2
                      go_ret
                      exact ⟨rfl, bthen hb2 hx⟩
              · have hl1 : ((ln : Int) == 1) = false := beq_eq_false_iff_ne.2 (by omega)
                have hl1b : (ln == 1) = false := beq_eq_false_iff_ne.2 h1
                have hl2 : ((ln : Int) != 1) = true := by rw [bne, hl1]; rfl
                have hl2b : (ln != 1) = true := by rw [bne, hl1b]; rfl
                clear h1
                go_wp2
                go_loopg [13, 14, 15, 16, 70] lp (fun g0 v13 v14 v15 v16 vi wr => ∃ i : Nat, Hid (i + g0 = lp) ∧ vi = .int .i64 (i : Int) ∧ Hid (Below wy.heap.size wy wr))
                case atStart => exact ⟨0, Nat.zero_add _, rfl, Below.refl _ _⟩
                case round =>
                  obtain ⟨i, HG1, rfl, HB9⟩ := hrel
                  have hgk := HG1.out
                  by_cases hk : i < lp
                  · have bk : decide ((i : Int) < (lp : Int)) = true := decide_eq_true (by omega)
                    have bk2 : decide (i < lp) = true := decide_eq_true hk
                    have hkL : i < L.length := by rw [HLP.out]; exact hk
                    have hkM : i < M.length := by rw [HM1.out]; exact hk
                    have hkz : (i : Int) < (lp : Int) := by omega
                    obtain ⟨bq, oq, hBq, hwq, hLq⟩ := HM2.out (by omega)
                    subst hBq
                    have kq := (hLq.below HB9.out hwq).ptQ hkM
                    have hps := (HM3.out i hkM hkL).below HB9.out
                    obtain ⟨p, hp⟩ : ∃ p, L[i] = p := ⟨_, rfl⟩
                    obtain ⟨mk, hmk⟩ : ∃ m, M[i] = m := ⟨_, rfl⟩
                    rw [hmk] at kq
                    rw [hp, hmk] at hps
                    obtain ⟨PA, pn, pc⟩ := mk
                    have HFIT := Lib.hid (show T.FitP p from HFL.out p (by rw [← hp]; exact List.getElem_mem hkL))
                    have HPM := Lib.hid (show p ∈ L by rw [← hp]; exact List.getElem_mem hkL)
                    have HPS := Lib.hid hps
                    have hpn : p.length = pn := hps.len
                    have hpc : pn ≤ pc := hps.cap
                    have HPN := Lib.hid hpn
                    have hpn0 : 0 < pn := by rw [← hpn]; exact HFIT.out.pos
                    have hpn14 : pn ≤ 14 := by rw [← hpn]; exact HFIT.out.deep
                    obtain ⟨bp, op, ep, hwp, hLp⟩ := hps.seen (by omega)
                    have ep : PA = some ⟨bp, op, none⟩ := ep
                    subst ep
                    have hz0 : (0 : Int) < (pn : Int) := by omega
                    have hne0 : ((pn : Int) == 0) = false := beq_eq_false_iff_ne.2 (by omega)
                    have hne0b : (pn == 0) = false := beq_eq_false_iff_ne.2 (by omega)
                    have k0 := hLp.str (show 0 < p.length by omega)
                    obtain ⟨p0, hp0⟩ : ∃ q, p[0]'(by omega) = q := ⟨_, rfl⟩
                    rw [hp0, Nat.add_zero] at k0
                    have HIN := Lib.hid (show T.inhB (T.expL t) p = (!(p0 == T.wGroups) && !(p0 == T.wApply) && !(decide (1 < pn) && !(T.underW (T.expL t) p.dropLast).isEmpty)) by rw [inh_is _ HFIT.out.pos, hp0, hpn])
                    clear hLp hp0 hps hp hmk hLq
                    cases e0 : (p0 == T.wGroups) with
                    | true =>
                      have q0 : ((sB p0).toList == [103, 114, 111, 117, 112, 115]) = true := by rw [sB_toList]; exact e0
                      clear e0
                      go_wp2
                      go_roundg (lp - (i + 1))
                      case rel => exact ⟨i + 1, (by show _ = _; omega), by go_num, HB9.out⟩
                      case measure => omega
                    | false =>
                      have q0 : ((sB p0).toList == [103, 114, 111, 117, 112, 115]) = false := by rw [sB_toList]; exact e0
                      cases e1 : (p0 == T.wApply) with
                      | true =>
                        have q1 : ((sB p0).toList == [97, 112, 112, 108, 121]) = true := by rw [sB_toList]; exact e1
                        clear e0 e1
                        go_wp2
                        go_roundg (lp - (i + 1))
                        case rel => exact ⟨i + 1, (by show _ = _; omega), by go_num, HB9.out⟩
                        case measure => omega
                      | false =>
                        have q1 : ((sB p0).toList == [97, 112, 112, 108, 121]) = false := by rw [sB_toList]; exact e1
                        clear e0 e1
                        go_wp2
                        go_roundg (lp - (i + 1))
                        case rel => exact ⟨i + 1, (by show _ = _; omega), by go_num, HB9.out⟩
                        case measure => omega
                  · have bk : decide ((i : Int) < (lp : Int)) = false := decide_eq_false (by omega)
                    have bk2 : decide (i < lp) = false := decide_eq_false hk
                    have hb2 := bthen hb HB9.out
                    go_wp2_with fail
                    refine (AW _).mono ?_
                    rintro e wz ⟨rfl, hx⟩
                    go_wp2
                    go_ret
                    exact ⟨rfl, bthen hb2 hx⟩
            · have hz2 : (er3 == 0) = false := beq_eq_false_iff_ne.2 hz
              have hz3 : (er3 != 0) = true := by rw [bne, hz2]; rfl
              clear hz
              go_wp2
              go_loopg [13, 14, 15, 16, 70] lp (fun g0 v13 v14 v15 v16 vi wr => ∃ i : Nat, Hid (i + g0 = lp) ∧ vi = .int .i64 (i : Int) ∧ Hid (Below wy.heap.size wy wr))
              case atStart => exact ⟨0, Nat.zero_add _, rfl, Below.refl _ _⟩
              case round =>
                obtain ⟨i, HG1, rfl, HB9⟩ := hrel
                have hgk := HG1.out
                by_cases hk : i < lp
                · have bk : decide ((i : Int) < (lp : Int)) = true := decide_eq_true (by omega)
                  have bk2 : decide (i < lp) = true := decide_eq_true hk
                  have hkL : i < L.length := by rw [HLP.out]; exact hk
                  have hkM : i < M.length := by rw [HM1.out]; exact hk
                  have hkz : (i : Int) < (lp : Int) := by omega
                  obtain ⟨bq, oq, hBq, hwq, hLq⟩ := HM2.out (by omega)
                  subst hBq
                  have kq := (hLq.below HB9.out hwq).ptQ hkM
                  have hps := (HM3.out i hkM hkL).below HB9.out
                  obtain ⟨p, hp⟩ : ∃ p, L[i] = p := ⟨_, rfl⟩
                  obtain ⟨mk, hmk⟩ : ∃ m, M[i] = m := ⟨_, rfl⟩
                  rw [hmk] at kq
                  rw [hp, hmk] at hps
                  obtain ⟨PA, pn, pc⟩ := mk
                  have HFIT := Lib.hid (show T.FitP p from HFL.out p (by rw [← hp]; exact List.getElem_mem hkL))
                  have HPM := Lib.hid (show p ∈ L by rw [← hp]; exact List.getElem_mem hkL)
                  have HPS := Lib.hid hps
                  have hpn : p.length = pn := hps.len
                  have hpc : pn ≤ pc := hps.cap
                  have HPN := Lib.hid hpn
                  have hpn0 : 0 < pn := by rw [← hpn]; exact HFIT.out.pos
                  have hpn14 : pn ≤ 14 := by rw [← hpn]; exact HFIT.out.deep
                  obtain ⟨bp, op, ep, hwp, hLp⟩ := hps.seen (by omega)
                  have ep : PA = some ⟨bp, op, none⟩ := ep
                  subst ep
                  have hz0 : (0 : Int) < (pn : Int) := by omega
                  have hne0 : ((pn : Int) == 0) = false := beq_eq_false_iff_ne.2 (by omega)
                  have hne0b : (pn == 0) = false := beq_eq_false_iff_ne.2 (by omega)
                  have k0 := hLp.str (show 0 < p.length by omega)
                  obtain ⟨p0, hp0⟩ : ∃ q, p[0]'(by omega) = q := ⟨_, rfl⟩
                  rw [hp0, Nat.add_zero] at k0
                  have HIN := Lib.hid (show T.inhB (T.expL t) p = (!(p0 == T.wGroups) && !(p0 == T.wApply) && !(decide (1 < pn) && !(T.underW (T.expL t) p.dropLast).isEmpty)) by rw [inh_is _ HFIT.out.pos, hp0, hpn])
                  clear hLp hp0 hps hp hmk hLq
                  cases e0 : (p0 == T.wGroups) with
                  | true =>
                    have q0 : ((sB p0).toList == [103, 114, 111, 117, 112, 115]) = true := by rw [sB_toList]; exact e0
                    clear e0
                    go_wp2
                    go_roundg (lp - (i + 1))
                    case rel => exact ⟨i + 1, (by show _ = _; omega), by go_num, HB9.out⟩
                    case measure => omega
                  | false =>
                    have q0 : ((sB p0).toList == [103, 114, 111, 117, 112, 115]) = false := by rw [sB_toList]; exact e0
                    cases e1 : (p0 == T.wApply) with
                    | true =>
                      have q1 : ((sB p0).toList == [97, 112, 112, 108, 121]) = true := by rw [sB_toList]; exact e1
                      clear e0 e1
                      go_wp2
                      go_roundg (lp - (i + 1))
                      case rel => exact ⟨i + 1, (by show _ = _; omega), by go_num, HB9.out⟩
                      case measure => omega
                    | false =>
                      have q1 : ((sB p0).toList == [97, 112, 112, 108, 121]) = false := by rw [sB_toList]; exact e1
                      clear e0 e1
                      go_wp2
                      go_roundg (lp - (i + 1))
                      case rel => exact ⟨i + 1, (by show _ = _; omega), by go_num, HB9.out⟩
                      case measure => omega
                · have bk : decide ((i : Int) < (lp : Int)) = false := decide_eq_false (by omega)
                  have bk2 : decide (i < lp) = false := decide_eq_false hk
                  have hb2 := bthen hb HB9.out
                  go_wp2_with fail
                  refine (AW _).mono ?_
                  rintro e wz ⟨rfl, hx⟩
                  go_wp2
                  go_ret
                  exact ⟨rfl, bthen hb2 hx⟩
          · have hne : (er2 == 0) = false := beq_eq_false_iff_ne.2 he
            have hne2 : (er2 != 0) = true := by rw [bne, hne]; rfl
            obtain rfl : L = [] := by
              rcases pathsIs_of HIL.out HR.out with ⟨_, _, h⟩ | ⟨_, h, _⟩
              · exact absurd h he
              · exact h
            obtain rfl : lp = 0 := HLP.out.symm
            clear he
            go_wp2_with fail
            refine (AW _).mono ?_
            rintro e wz ⟨rfl, hx⟩
            go_wp2
            go_ret
            exact ⟨rfl, bthen hb hx⟩
        · have hg2 : decide ((100 : Int) < ((sB s).size : Int)) = true := decide_eq_true (by omega)
          have hg3 : decide (100 < (sB s).size) = true := decide_eq_true (by omega)
          clear hg hsl
          go_wp2_with fail
          refine (AW _).mono ?_
          rintro e wz ⟨rfl, hx⟩
          go_wp2
          go_ret
          exact ⟨rfl, bthen hb hx⟩
    · have HR := Lib.hid hR
      clear hR
      go_wp2_with fail
      refine (right12 A c n t false _ HA.out.len HA.out.seen HA.out.small (no_iff HR.out)).mono ?_
      rintro e wx2 ⟨rfl, hx⟩
      replace HA := Lib.hid (HA.out.below hx)
      replace hb := bthen hb hx
      clear hx
      go_wp2_with fail
      refine (AW _).mono ?_
      rintro e wz ⟨rfl, hx⟩
      go_wp2
      go_ret
      exact ⟨rfl, bthen hb hx⟩
end Go.Proofs.Ytkifapbiimlafaa
