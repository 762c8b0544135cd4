/-
  The walk of layer 12's statement GroupsOther, from what groups does: it returns true whatever comes in. No conditions.
-/
import Derived.Test.YtkifapbiimlafaaGroupD
import Derived.StillTailTactics
namespace Go.Proofs.Ytkifapbiimlafaa
open Go.RowKit
set_option linter.unusedVariables false

set_option maxRecDepth 100000 in
set_option maxHeartbeats 16000000 in
theorem groupsOther_walk (E : GroupsOk) (AW : ∀ w, Calls Try.prog 11 #[] w (TrueS w)) (w : World) (A : Option Addr) (c : Nat) (t : List T.Ln) (hc : t.length ≤ c) (hA : Seen eL w A t) (hlA : t.length ≤ maxLen) (hNA : NilOk A c) (B : Option Addr) (d : Nat) (g : List T.Ln) (hd : g.length ≤ d) (hB : Seen eL w B g) (hlB : g.length ≤ maxLen) (hNB : NilOk B d) :
    Calls Try.prog 8 #[.slice A t.length c, .slice B g.length d] w (TrueS w) := by
  unfold maxLen at hlA hlB
  obtain ⟨n, hnA⟩ : ∃ n, t.length = n := ⟨_, rfl⟩
  obtain ⟨m, hnB⟩ : ∃ n, g.length = n := ⟨_, rfl⟩
  rw [hnA] at hc hlA ⊢
  rw [hnB] at hd hlB ⊢
  have HNA := Lib.hid hnA
  have HNB := Lib.hid hnB
  have HA := Lib.hid hA
  have HB := Lib.hid hB
  have HOA := Lib.hid hNA
  have HOB := Lib.hid hNB
  clear hA hnA hNA hB hnB hNB
  have hb : Below w.heap.size w w := Below.refl _ _
  go_enter Try.func8, Try.ntmps8
  go_wp2_with fail
  refine (few12 A c n t _ HNA.out HA.out).mono ?_
  rintro e w1 ⟨bs, rfl, hsm, hx⟩
  replace HA := Lib.hid (HA.out.below hx)
  replace HB := Lib.hid (HB.out.below hx)
  replace hb := bthen hb hx
  clear hx
  cases bs with
  | false =>
    clear hsm
    go_wp2_with fail
    refine (AW _).mono ?_
    rintro e wz ⟨rfl, hx⟩
    go_wp2
    go_ret
    exact ⟨rfl, bthen hb hx⟩
  | true =>
    have hn60 : n ≤ 60 := hsm rfl
    clear hsm
    go_wp2_with fail
    refine (few12 B d m g _ HNB.out HB.out).mono ?_
    rintro e w2 ⟨bs, rfl, hsm, hx⟩
    replace HA := Lib.hid (HA.out.below hx)
    replace HB := Lib.hid (HB.out.below hx)
    replace hb := bthen hb hx
    clear hx
    cases bs with
    | false =>
      clear hsm
      go_wp2_with fail
      refine (AW _).mono ?_
      rintro e wz ⟨rfl, hx⟩
      go_wp2
      go_ret
      exact ⟨rfl, bthen hb hx⟩
    | true =>
      have hm60 : m ≤ 60 := hsm rfl
      clear hsm
      by_cases hn40 : n ≤ 40
      · have dn : decide ((40 : Int) < (n : Int)) = false := decide_eq_false (by omega)
        have dn2 : decide (40 < n) = false := decide_eq_false (by omega)
        by_cases hm40 : m ≤ 40
        · have dm : decide ((40 : Int) < (m : Int)) = false := decide_eq_false (by omega)
          have dm2 : decide (40 < m) = false := decide_eq_false (by omega)
          replace HA := Lib.hid (LArg.mk HNA.out (by omega) hc HOA.out HA.out)
          replace HB := Lib.hid (LArg.mk HNB.out (by omega) hd HOB.out HB.out)
          by_cases hR : T.RightT t
          · have HR := Lib.hid hR
            clear hR
            go_wp2_with fail
            refine (right12 A c n t true _ HA.out.len HA.out.seen HA.out.small (yes_iff HR.out)).mono ?_
            rintro e w3 ⟨rfl, hx⟩
            replace HA := Lib.hid (HA.out.below hx)
            replace HB := Lib.hid (HB.out.below hx)
            replace hb := bthen hb hx
            clear hx
            by_cases hG : T.RightT g
            · have HG := Lib.hid hG
              clear hG
              go_wp2_with fail
              refine (right12 B d m g true _ HB.out.len HB.out.seen HB.out.small (yes_iff HG.out)).mono ?_
              rintro e w4 ⟨rfl, hx⟩
              replace HA := Lib.hid (HA.out.below hx)
              replace HB := Lib.hid (HB.out.below hx)
              replace hb := bthen hb hx
              clear hx
              go_wp2_with fail
              refine (brief12 A c n t _ HA.out.len HA.out.seen HA.out.small).mono ?_
              rintro e w5 ⟨bb, rfl, hx⟩
              replace HA := Lib.hid (HA.out.below hx)
              replace HB := Lib.hid (HB.out.below hx)
              replace hb := bthen hb hx
              clear hx
              cases bb with
              | false =>
                go_wp2_with fail
                refine (AW _).mono ?_
                rintro e wz ⟨rfl, hx⟩
                go_wp2
                go_ret
                exact ⟨rfl, bthen hb hx⟩
              | true =>
                go_wp2_with fail
                refine (findN12 A (some ⟨w5.heap.size, 0, none⟩) c 2 n 2 t [T.wApply, T.zzW] _ HA.out.len rfl (HA.out.seen.below (up _ _)) (lit_seen eS w5 [T.wApply, T.zzW] _ rfl (by decide)) HA.out.small (by decide) HR.out).mono ?_
                rintro e w6 ⟨hfind, hx0⟩
                have hx := bthen (up w5 _) hx0
                clear hx0
                replace HA := Lib.hid (HA.out.below hx)
                replace HB := Lib.hid (HB.out.below hx)
                replace hb := bthen hb hx
                clear hx
                rcases hfind with ⟨i, _, _, rfl⟩ | ⟨hno1, rfl⟩
                · have di : decide ((0 : Int) ≤ (i : Int)) = true := decide_eq_true (by omega)
                  go_wp2_with fail
                  refine (AW _).mono ?_
                  rintro e wz ⟨rfl, hx⟩
                  go_wp2
                  go_ret
                  exact ⟨rfl, bthen hb hx⟩
                · have HNO1 := Lib.hid (show ¬ T.isIn t [T.wApply, T.zzW] from fun ⟨i, hi, e⟩ => hno1 i hi e)
                  clear hno1
                  go_wp2_with fail
                  refine (findN12 A (some ⟨w6.heap.size, 0, none⟩) c 2 n 2 t [T.wGroups, T.zzW] _ HA.out.len rfl (HA.out.seen.below (up _ _)) (lit_seen eS w6 [T.wGroups, T.zzW] _ rfl (by decide)) HA.out.small (by decide) HR.out).mono ?_
                  rintro e w7 ⟨hfind, hx0⟩
                  have hx := bthen (up w6 _) hx0
                  clear hx0
                  replace HA := Lib.hid (HA.out.below hx)
                  replace HB := Lib.hid (HB.out.below hx)
                  replace hb := bthen hb hx
                  clear hx
                  rcases hfind with ⟨i, _, _, rfl⟩ | ⟨hno2, rfl⟩
                  · have di : decide ((0 : Int) ≤ (i : Int)) = true := decide_eq_true (by omega)
                    go_wp2_with fail
                    refine (AW _).mono ?_
                    rintro e wz ⟨rfl, hx⟩
                    go_wp2
                    go_ret
                    exact ⟨rfl, bthen hb hx⟩
                  · have HNO2 := Lib.hid (show ¬ T.isIn t [T.wGroups, T.zzW] from fun ⟨i, hi, e⟩ => hno2 i hi e)
                    clear hno2
                    go_wp2_with fail
                    refine (findN12 A (some ⟨w7.heap.size, 0, none⟩) c 1 n 1 t [T.wGroups] _ HA.out.len rfl (HA.out.seen.below (up _ _)) (lit_seen eS w7 [T.wGroups] _ rfl (by decide)) HA.out.small (by decide) HR.out).mono ?_
                    rintro e w8 ⟨hfind, hx0⟩
                    have hx := bthen (up w7 _) hx0
                    clear hx0
                    replace HA := Lib.hid (HA.out.below hx)
                    replace HB := Lib.hid (HB.out.below hx)
                    replace hb := bthen hb hx
                    clear hx
                    rcases hfind with ⟨i, hi, hip, rfl⟩ | ⟨hno3, rfl⟩
                    · have di : decide ((i : Int) < 0) = false := decide_eq_false (by omega)
                      obtain ⟨y, hy⟩ : ∃ y, y = t := ⟨t, rfl⟩
                      obtain ⟨wu, hwu⟩ : ∃ x, x = w8 := ⟨_, rfl⟩
                      have HYI := Lib.hid (show T.isIn y [T.wGroups] by rw [hy]; exact ⟨i, hi, hip⟩)
                      have HYM := Lib.hid (show ∀ x, x ∈ T.entries y ↔ x ∈ T.entries t ∨ (x = ([T.wGroups], (0 : Int)) ∧ ¬ T.isIn t [T.wGroups]) by
                        intro x
                        rw [hy]
                        exact ⟨.inl, fun k => k.elim id fun k => absurd ⟨i, hi, hip⟩ k.2⟩)
                      have HRY := Lib.hid (show T.RightN 200 y by rw [hy]; exact HR.out)
                      have HYL := Lib.hid (show y.length = n by rw [hy]; exact HA.out.len)
                      have HYV := Lib.hid (show VecE wu (.slice A n c) y by rw [hy, hwu]; exact vecOf12 HA.out)
                      clear hi hip hy
                      subst hwu
                      have HOT := Lib.hid (T.oth_start (t := t) (g := g) (u := y) HRY.out (by rw [HYL.out]; omega) HYI.out HNO2.out HYM.out)
                      have HYO := Lib.hid (show T.Open y [T.wGroups] from .inr HYI.out)
                      go_wp2_with fail
                      refine (put_gen (N := 200) (by decide) _ _ y [T.wGroups] T.zzW 0 _ (HYV.out.below (up _ _)) (litVec12 (lit_seen eS wu [T.wGroups] _ rfl (by decide)) rfl (by decide)) HRY.out HYO.out (by decide)).mono ?_
                      rintro e wv ⟨v0, rfl, hv0, hx0⟩
                      have hx := bthen (up wu _) hx0
                      clear hx0
                      have HV0 := Lib.hid hv0
                      clear hv0
                      replace HA := Lib.hid (HA.out.below hx)
                      replace HB := Lib.hid (HB.out.below hx)
                      replace hb := bthen hb hx
                      clear hx
                      go_wp2
                      go_loopg [5, 6, 7, 8, 70] m (fun g0 vu v6 v7 v8 vi wr => ∃ (i : Nat) (u : List T.Ln), Hid (i + g0 = m) ∧ vi = .int .i64 (i : Int) ∧ Hid (VecAt eL wr vu u) ∧ Hid (T.OthAt t g i u) ∧ Hid (Below wv.heap.size wv wr))
                      case atStart => exact ⟨0, _, Nat.zero_add _, rfl, HV0.out, HOT.out, Below.refl _ _⟩
                      case round =>
                        obtain ⟨i, u, HG0, rfl, HVU, HS, HBR⟩ := hrel
                        have hgk := HG0.out
                        by_cases hlt : i < m
                        · have blt : decide ((i : Int) < (m : Int)) = true := decide_eq_true (by omega)
                          have blt2 : decide (i < m) = true := decide_eq_true hlt
                          have hig : i < g.length := by rw [HB.out.len]; exact hlt
                          have hiz : (i : Int) < (m : Int) := by omega
                          obtain ⟨b, o, hBg, hbw, hL⟩ := HB.out.seen.lines (by omega)
                          subst hBg
                          obtain ⟨c0, c1, c2⟩ := (hL.below HBR.out hbw).line hig
                          obtain ⟨q, hq⟩ : ∃ p, T.pathL g i = p := ⟨_, rfl⟩
                          have HQ := Lib.hid hq
                          have HQD := Lib.hid (show 0 < q.length ∧ q.length ≤ 16 by rw [← hq]; exact S.RightN.path_deep HG.out hig)
                          obtain ⟨qn, hqn⟩ : ∃ k, q.length = k := ⟨_, rfl⟩
                          have HQN := Lib.hid hqn
                          have hqn16 : qn ≤ 16 := by rw [← hqn]; exact HQD.out.2
                          have hqn0 : 0 < qn := by rw [← hqn]; exact HQD.out.1
                          obtain ⟨mk, hmk⟩ : ∃ k, (T.at_ g i).mark = k := ⟨_, rfl⟩
                          rw [hmk] at c2
                          have HMK := Lib.hid hmk
                          obtain ⟨wdg, hwd⟩ : ∃ k, T.wd g i = k := ⟨_, rfl⟩
                          rw [hwd] at c1
                          have HWD := Lib.hid hwd
                          obtain ⟨wB, hwB⟩ : ∃ x, wr.alloc (.cells #[.int .i64 (T.dp g i), .string (sB wdg), .int .i64 mk] 40) = x := ⟨_, rfl⟩
                          have HBX := Lib.hid (show wr.heap.size < wB.heap.size ∧ wB.cell? ⟨wr.heap.size, 0, none⟩ = some (.int .i64 (T.dp g i)) ∧ wB.cell? ⟨wr.heap.size, 1, none⟩ = some (.string (sB wdg)) ∧ wB.cell? ⟨wr.heap.size, 2, none⟩ = some (.int .i64 mk) by rw [← hwB]; exact lineBox3 wr (T.dp g i) wdg mk)
                          have HBA := Lib.hid (show Below wr.heap.size wr wB by rw [← hwB]; exact up wr _)
                          have HSB := Lib.hid (show wB.heap.size = wr.heap.size + 1 by rw [← hwB]; simp)
                          have HOW := Lib.hid (ownTwo12 wB T.wGroups T.zzW)
                          have HBC := Lib.hid (up wB (.cells #[.string (sB T.wGroups), .string (sB T.zzW)] 9))
                          have HWC := Lib.hid (HBR.out.trans ((HBA.out.trans (HBC.out.mono HBA.out.size)).mono HBR.out.size))
                          have HWB := Lib.hid hwB
                          rw [HSB.out] at HOW
                          clear hq hqn hmk hwd hL hwB
                          obtain ⟨P, hP⟩ : ∃ P, [T.wGroups, T.zzW] ++ q = P := ⟨_, rfl⟩
                          have HP := Lib.hid hP
                          obtain ⟨y, hy1⟩ : ∃ y, y = qn + 1 := ⟨_, rfl⟩
                          have HPL := Lib.hid (show P.length = y + 1 by rw [← hP, List.length_append, HQN.out]; show 2 + qn = _; omega)
                          clear hP hy1
                          go_wp2_with fail
                          rw [HWB.out]
                          refine (pathN12 _ d m g i _ HB.out.len (HB.out.seen.below HWC.out) hlt HB.out.small HG.out).mono ?_
                          rintro e w3 ⟨A3, c3, rfl, hc3, hs3, _, hb3⟩
                          rw [HQ.out] at hc3 hs3 ⊢
                          rw [HQN.out] at hc3 ⊢
                          have HO3 := Lib.hid (HOW.out.keep hb3)
                          have HB3 := Lib.hid (HBC.out.trans (hb3.mono HBC.out.size))
                          obtain ⟨b2, o2, hA3, hw3, hH3⟩ := hs3 (by rw [HQN.out]; omega)
                          subst hA3
                          have HH3 := Lib.hid hH3
                          have hsz3 : wr.heap.size + 1 ≤ w3.heap.size := by have := HB3.out.size; rw [HSB.out] at this; exact this
                          clear hc3 hs3 hb3 hH3 HOW HBC HWC
                          by_cases h16 : y + 1 ≤ 16
                          · have d16 : decide ((16 : Int) < (y : Int) + 1) = false := decide_eq_false (by omega)
                            have d162 : decide (16 < y + 1) = false := decide_eq_false (by omega)
                            go_wp2_with (at_builtin; refine wpList_appSrc eS w3 rfl (.tmp 75) (.tmp 78) rfl (wr.heap.size + 1) _ [T.wGroups, T.zzW] rfl HO3.out b2 o2 q qn c3 HQN.out rfl HH3.out (by simp; omega) hsz3 ?_; intro v4 w4 hown4 hb4; rw [HP.out] at hown4; obtain ⟨A4, c4, e4, hc4, hs4⟩ := hown4.seen; rw [HPL.out] at e4 hc4; subst e4; have HB4 := Lib.hid (HB3.out.trans (show Below wB.heap.size w3 w4 by rw [HSB.out]; exact hb4)); have HS4 := Lib.hid hs4; clear hown4 hb4 hs4)
                            have HVU4 := Lib.hid (HVU.out.below (HBA.out.trans (HB4.out.mono HBA.out.size)))
                            have HW4 := Lib.hid (HBR.out.trans ((HBA.out.trans (HB4.out.mono HBA.out.size)).mono HBR.out.size))
                            obtain ⟨b5, o5, hA5, hw5, hH5⟩ := HS4.out (by rw [HPL.out]; omega)
                            subst hA5
                            obtain ⟨hop, hnext⟩ := T.oth_next HS.out HR.out HG.out HNO2.out hig (by rw [HB.out.len]; exact hm40) (by rw [HQ.out, HP.out, HPL.out]; exact h16)
                            rw [HQ.out, HP.out] at hop hnext
                            rw [HWD.out, HMK.out] at hnext
                            have HOP := Lib.hid hop
                            have HNX := Lib.hid hnext
                            have HDL := Lib.hid (show P.dropLast.length = y by rw [List.length_dropLast, HPL.out]; omega)
                            have HVP := Lib.hid (show VecAt eS w4 (.slice (some ⟨b5, o5, none⟩) (y) c4) P.dropLast from by
                              refine .inr ⟨b5, o5, c4, by rw [HDL.out], by rw [HDL.out]; omega, hw5, ?_⟩
                              rw [List.dropLast_eq_take]
                              exact hH5.take _)
                            have l1 := (HB4.out.cell (p := ⟨wr.heap.size, 1, none⟩) HBX.out.1).trans HBX.out.2.2.1
                            have l2 := (HB4.out.cell (p := ⟨wr.heap.size, 2, none⟩) HBX.out.1).trans HBX.out.2.2.2
                            have hwj : IntKind.i64.wrap ((y : Int) + 1 - 1) = (y : Int) := by rw [wrapI _ (by omega)]; omega
                            have hwj2 : IntKind.i64.wrap ((y : Int)) = (y : Int) := wrapI _ (by omega)
                            have hyc : y ≤ c4 := by omega
                            have hyci : (y : Int) ≤ (c4 : Int) := by omega
                            clear hop hnext hH5 c0 c1 c2
                            go_wp2
                            go_still_tail 10, (by kernel_rfl)
                            change wpList _ _ _ _ _ w4.drew
                            clear hwj hwj2
                            go_wp2_with fail
                            refine (put_gen (N := 200) (by decide) _ _ u P.dropLast wdg mk _ (.inl (HVU4.out.below ((Below.refl _ _).drew))) (HVP.out.below ((Below.refl _ _).drew)) HS.out.right HOP.out (by rw [HDL.out]; omega)).mono ?_
                            rintro e w6 ⟨v6, rfl, hv6, hx6⟩
                            have HV6 := Lib.hid hv6
                            have HB6 := Lib.hid (HW4.out.drew.trans (hx6.mono HW4.out.size))
                            clear hv6 hx6 l1 l2
                            go_wp2
                            go_roundg (m - (i + 1))
                            case rel => exact ⟨i + 1, T.putL u P.dropLast wdg mk, (by show _ = _; omega), by go_num, HV6.out, HNX.out, HB6.out⟩
                            case measure => omega
                          · have d16 : decide ((16 : Int) < (y : Int) + 1) = true := decide_eq_true (by omega)
                            have d162 : decide (16 < y + 1) = true := decide_eq_true (by omega)
                            go_wp2_with (at_builtin; refine wpList_appSrc eS w3 rfl (.tmp 75) (.tmp 78) rfl (wr.heap.size + 1) _ [T.wGroups, T.zzW] rfl HO3.out b2 o2 q qn c3 HQN.out rfl HH3.out (by simp; omega) hsz3 ?_; intro v4 w4 hown4 hb4; rw [HP.out] at hown4; obtain ⟨A4, c4, e4, hc4, hs4⟩ := hown4.seen; rw [HPL.out] at e4 hc4; subst e4; have HB4 := Lib.hid (HB3.out.trans (show Below wB.heap.size w3 w4 by rw [HSB.out]; exact hb4)); clear hown4 hb4 hs4)
                            have HW4 := Lib.hid (HBR.out.trans ((HBA.out.trans (HB4.out.mono HBA.out.size)).mono HBR.out.size))
                            replace hb := bthen hb HW4.out
                            refine (AW _).mono ?_
                            rintro e wz ⟨rfl, hx⟩
                            go_wp2
                            go_ret
                            exact ⟨rfl, bthen hb hx⟩
                        · have blt : decide ((i : Int) < (m : Int)) = false := decide_eq_false (by omega)
                          have blt2 : decide (i < m) = false := decide_eq_false hlt
                          obtain ⟨wo, hwo⟩ : ∃ wo, wo = wr := ⟨_, rfl⟩
                          subst hwo
                          have HA2 := Lib.hid (HA.out.below HBR.out)
                          have hb2 := bthen hb HBR.out
                          have HEQ := Lib.hid ((T.oth_done HS.out HR.out HNO1.out).expand)
                          have HRU := Lib.hid HS.out.right
                          obtain ⟨lu, hlu⟩ : ∃ k, u.length = k := ⟨_, rfl⟩
                          have hlu2 : lu ≤ 200 := by rw [← hlu]; exact HRU.out.len
                          obtain ⟨Au, cu, rfl, hAu⟩ := vecArg12 HVU.out hlu hlu2
                          have HU := Lib.hid hAu
                          clear HA hb hAu HVU hlu
                          have HA := HA2
                          have hb := hb2
                          clear HA2 hb2
                          obtain ⟨x, er, hI⟩ := expand_ex t
                          have HIx := Lib.hid hI
                          have HIu := Lib.hid (show ExpandIs u x er from .inl ⟨HRU.out, by rw [HEQ.out]; exact expandIs_of hI HR.out⟩)
                          obtain ⟨lx, hm⟩ : ∃ k, x.length = k := ⟨_, rfl⟩
                          have HMx := Lib.hid hm
                          have hlx : lx ≤ 200 := by rw [← hm]; exact expand_len hI
                          clear hI hm
                          go_wp2_with fail
                          refine (E.expandOf A c n lx t x er _ HA.out HIx.out HMx.out).mono ?_
                          rintro e wa ⟨B1, d1, rfl, hs1, hx⟩
                          have HX1 := Lib.hid hs1
                          replace HU := Lib.hid (HU.out.below hx)
                          replace hb := bthen hb hx
                          clear hx hs1
                          go_wp2_with fail
                          refine (E.expandOf Au cu lu lx u x er _ HU.out HIu.out HMx.out).mono ?_
                          rintro e wc ⟨B2, d2, rfl, hs2, hx⟩
                          have HX2 := Lib.hid hs2
                          replace HX1 := Lib.hid (HX1.out.below hx)
                          replace hb := bthen hb hx
                          clear hx hs2
                          go_wp2_with fail
                          refine (same12 B1 B2 d1 d2 lx lx x x _ true (yes_iff rfl) HMx.out HMx.out (by omega) HX1.out.seen HX2.out.seen).mono ?_
                          rintro e wd ⟨rfl, hx⟩
                          replace hb := bthen hb hx
                          clear hx
                          go_wp2_with fail
                          refine (AW _).mono ?_
                          rintro e wz ⟨rfl, hx⟩
                          go_wp2
                          go_ret
                          exact ⟨rfl, bthen hb hx⟩
                    · have HNO3 := Lib.hid (show ¬ T.isIn t [T.wGroups] from fun ⟨i, hi, e⟩ => hno3 i hi e)
                      obtain ⟨hr1, hm1⟩ := T.oth_one HR.out (by rw [HA.out.len]; exact hn40) HNO3.out
                      have HR1 := Lib.hid hr1
                      have HM1 := Lib.hid hm1
                      clear hno3 hr1 hm1
                      go_wp2_with fail
                      refine (put_gen (N := 200) (by decide) (.slice A n c) (.slice none 0 0) t [] T.wGroups 0 _ (vecOf12 HA.out) (VecAt.nil _ _) HR.out (.inl rfl) (by decide)).mono ?_
                      rintro e wu ⟨vu0, rfl, hvu, hx⟩
                      have HVU0 := Lib.hid hvu
                      clear hvu
                      replace HA := Lib.hid (HA.out.below hx)
                      replace HB := Lib.hid (HB.out.below hx)
                      replace hb := bthen hb hx
                      clear hx
                      obtain ⟨y, hy⟩ : ∃ y, T.putL t [] T.wGroups 0 = y := ⟨_, rfl⟩
                      have HY := Lib.hid hy
                      have HYI := Lib.hid (show T.isIn y [T.wGroups] from T.isIn_entries.2 ⟨0, by rw [← HY.out]; exact (HM1.out _).2 (.inl rfl)⟩)
                      have HYM := Lib.hid (show ∀ x, x ∈ T.entries y ↔ x ∈ T.entries t ∨ (x = ([T.wGroups], (0 : Int)) ∧ ¬ T.isIn t [T.wGroups]) by
                        intro x
                        rw [← HY.out, HM1.out x]
                        exact ⟨fun k => k.elim (fun e => .inr ⟨e, HNO3.out⟩) .inl, fun k => k.elim .inr fun e => .inl e.1⟩)
                      have HRY := Lib.hid (show T.RightN 200 y by rw [← HY.out]; exact HR1.out)
                      have HYL := Lib.hid (show y.length = n + 1 by rw [← HY.out, T.putL_len, HA.out.len])
                      have HYV := Lib.hid (show VecE wu vu0 y by rw [← HY.out]; exact .inl HVU0.out)
                      clear hy HVU0
                      have HOT := Lib.hid (T.oth_start (t := t) (g := g) (u := y) HRY.out (by rw [HYL.out]; omega) HYI.out HNO2.out HYM.out)
                      have HYO := Lib.hid (show T.Open y [T.wGroups] from .inr HYI.out)
                      go_wp2_with fail
                      refine (put_gen (N := 200) (by decide) _ _ y [T.wGroups] T.zzW 0 _ (HYV.out.below (up _ _)) (litVec12 (lit_seen eS wu [T.wGroups] _ rfl (by decide)) rfl (by decide)) HRY.out HYO.out (by decide)).mono ?_
                      rintro e wv ⟨v0, rfl, hv0, hx0⟩
                      have hx := bthen (up wu _) hx0
                      clear hx0
                      have HV0 := Lib.hid hv0
                      clear hv0
                      replace HA := Lib.hid (HA.out.below hx)
                      replace HB := Lib.hid (HB.out.below hx)
                      replace hb := bthen hb hx
                      clear hx
                      go_wp2
                      go_loopg [5, 6, 7, 8, 70] m (fun g0 vu v6 v7 v8 vi wr => ∃ (i : Nat) (u : List T.Ln), Hid (i + g0 = m) ∧ vi = .int .i64 (i : Int) ∧ Hid (VecAt eL wr vu u) ∧ Hid (T.OthAt t g i u) ∧ Hid (Below wv.heap.size wv wr))
                      case atStart => exact ⟨0, _, Nat.zero_add _, rfl, HV0.out, HOT.out, Below.refl _ _⟩
                      case round =>
                        obtain ⟨i, u, HG0, rfl, HVU, HS, HBR⟩ := hrel
                        have hgk := HG0.out
                        by_cases hlt : i < m
                        · have blt : decide ((i : Int) < (m : Int)) = true := decide_eq_true (by omega)
                          have blt2 : decide (i < m) = true := decide_eq_true hlt
                          have hig : i < g.length := by rw [HB.out.len]; exact hlt
                          have hiz : (i : Int) < (m : Int) := by omega
                          obtain ⟨b, o, hBg, hbw, hL⟩ := HB.out.seen.lines (by omega)
                          subst hBg
                          obtain ⟨c0, c1, c2⟩ := (hL.below HBR.out hbw).line hig
                          obtain ⟨q, hq⟩ : ∃ p, T.pathL g i = p := ⟨_, rfl⟩
                          have HQ := Lib.hid hq
                          have HQD := Lib.hid (show 0 < q.length ∧ q.length ≤ 16 by rw [← hq]; exact S.RightN.path_deep HG.out hig)
                          obtain ⟨qn, hqn⟩ : ∃ k, q.length = k := ⟨_, rfl⟩
                          have HQN := Lib.hid hqn
                          have hqn16 : qn ≤ 16 := by rw [← hqn]; exact HQD.out.2
                          have hqn0 : 0 < qn := by rw [← hqn]; exact HQD.out.1
                          obtain ⟨mk, hmk⟩ : ∃ k, (T.at_ g i).mark = k := ⟨_, rfl⟩
                          rw [hmk] at c2
                          have HMK := Lib.hid hmk
                          obtain ⟨wdg, hwd⟩ : ∃ k, T.wd g i = k := ⟨_, rfl⟩
                          rw [hwd] at c1
                          have HWD := Lib.hid hwd
                          obtain ⟨wB, hwB⟩ : ∃ x, wr.alloc (.cells #[.int .i64 (T.dp g i), .string (sB wdg), .int .i64 mk] 40) = x := ⟨_, rfl⟩
                          have HBX := Lib.hid (show wr.heap.size < wB.heap.size ∧ wB.cell? ⟨wr.heap.size, 0, none⟩ = some (.int .i64 (T.dp g i)) ∧ wB.cell? ⟨wr.heap.size, 1, none⟩ = some (.string (sB wdg)) ∧ wB.cell? ⟨wr.heap.size, 2, none⟩ = some (.int .i64 mk) by rw [← hwB]; exact lineBox3 wr (T.dp g i) wdg mk)
                          have HBA := Lib.hid (show Below wr.heap.size wr wB by rw [← hwB]; exact up wr _)
                          have HSB := Lib.hid (show wB.heap.size = wr.heap.size + 1 by rw [← hwB]; simp)
                          have HOW := Lib.hid (ownTwo12 wB T.wGroups T.zzW)
                          have HBC := Lib.hid (up wB (.cells #[.string (sB T.wGroups), .string (sB T.zzW)] 9))
                          have HWC := Lib.hid (HBR.out.trans ((HBA.out.trans (HBC.out.mono HBA.out.size)).mono HBR.out.size))
                          have HWB := Lib.hid hwB
                          rw [HSB.out] at HOW
                          clear hq hqn hmk hwd hL hwB
                          obtain ⟨P, hP⟩ : ∃ P, [T.wGroups, T.zzW] ++ q = P := ⟨_, rfl⟩
                          have HP := Lib.hid hP
                          obtain ⟨y, hy1⟩ : ∃ y, y = qn + 1 := ⟨_, rfl⟩
                          have HPL := Lib.hid (show P.length = y + 1 by rw [← hP, List.length_append, HQN.out]; show 2 + qn = _; omega)
                          clear hP hy1
                          go_wp2_with fail
                          rw [HWB.out]
                          refine (pathN12 _ d m g i _ HB.out.len (HB.out.seen.below HWC.out) hlt HB.out.small HG.out).mono ?_
                          rintro e w3 ⟨A3, c3, rfl, hc3, hs3, _, hb3⟩
                          rw [HQ.out] at hc3 hs3 ⊢
                          rw [HQN.out] at hc3 ⊢
                          have HO3 := Lib.hid (HOW.out.keep hb3)
                          have HB3 := Lib.hid (HBC.out.trans (hb3.mono HBC.out.size))
                          obtain ⟨b2, o2, hA3, hw3, hH3⟩ := hs3 (by rw [HQN.out]; omega)
                          subst hA3
                          have HH3 := Lib.hid hH3
                          have hsz3 : wr.heap.size + 1 ≤ w3.heap.size := by have := HB3.out.size; rw [HSB.out] at this; exact this
                          clear hc3 hs3 hb3 hH3 HOW HBC HWC
                          by_cases h16 : y + 1 ≤ 16
                          · have d16 : decide ((16 : Int) < (y : Int) + 1) = false := decide_eq_false (by omega)
                            have d162 : decide (16 < y + 1) = false := decide_eq_false (by omega)
                            go_wp2_with (at_builtin; refine wpList_appSrc eS w3 rfl (.tmp 75) (.tmp 78) rfl (wr.heap.size + 1) _ [T.wGroups, T.zzW] rfl HO3.out b2 o2 q qn c3 HQN.out rfl HH3.out (by simp; omega) hsz3 ?_; intro v4 w4 hown4 hb4; rw [HP.out] at hown4; obtain ⟨A4, c4, e4, hc4, hs4⟩ := hown4.seen; rw [HPL.out] at e4 hc4; subst e4; have HB4 := Lib.hid (HB3.out.trans (show Below wB.heap.size w3 w4 by rw [HSB.out]; exact hb4)); have HS4 := Lib.hid hs4; clear hown4 hb4 hs4)
                            have HVU4 := Lib.hid (HVU.out.below (HBA.out.trans (HB4.out.mono HBA.out.size)))
                            have HW4 := Lib.hid (HBR.out.trans ((HBA.out.trans (HB4.out.mono HBA.out.size)).mono HBR.out.size))
                            obtain ⟨b5, o5, hA5, hw5, hH5⟩ := HS4.out (by rw [HPL.out]; omega)
                            subst hA5
                            obtain ⟨hop, hnext⟩ := T.oth_next HS.out HR.out HG.out HNO2.out hig (by rw [HB.out.len]; exact hm40) (by rw [HQ.out, HP.out, HPL.out]; exact h16)
                            rw [HQ.out, HP.out] at hop hnext
                            rw [HWD.out, HMK.out] at hnext
                            have HOP := Lib.hid hop
                            have HNX := Lib.hid hnext
                            have HDL := Lib.hid (show P.dropLast.length = y by rw [List.length_dropLast, HPL.out]; omega)
                            have HVP := Lib.hid (show VecAt eS w4 (.slice (some ⟨b5, o5, none⟩) (y) c4) P.dropLast from by
                              refine .inr ⟨b5, o5, c4, by rw [HDL.out], by rw [HDL.out]; omega, hw5, ?_⟩
                              rw [List.dropLast_eq_take]
                              exact hH5.take _)
                            have l1 := (HB4.out.cell (p := ⟨wr.heap.size, 1, none⟩) HBX.out.1).trans HBX.out.2.2.1
                            have l2 := (HB4.out.cell (p := ⟨wr.heap.size, 2, none⟩) HBX.out.1).trans HBX.out.2.2.2
                            have hwj : IntKind.i64.wrap ((y : Int) + 1 - 1) = (y : Int) := by rw [wrapI _ (by omega)]; omega
                            have hwj2 : IntKind.i64.wrap ((y : Int)) = (y : Int) := wrapI _ (by omega)
                            have hyc : y ≤ c4 := by omega
                            have hyci : (y : Int) ≤ (c4 : Int) := by omega
                            clear hop hnext hH5 c0 c1 c2
                            go_wp2
                            go_still_tail 10, (by kernel_rfl)
                            change wpList _ _ _ _ _ w4.drew
                            clear hwj hwj2
                            go_wp2_with fail
                            refine (put_gen (N := 200) (by decide) _ _ u P.dropLast wdg mk _ (.inl (HVU4.out.below ((Below.refl _ _).drew))) (HVP.out.below ((Below.refl _ _).drew)) HS.out.right HOP.out (by rw [HDL.out]; omega)).mono ?_
                            rintro e w6 ⟨v6, rfl, hv6, hx6⟩
                            have HV6 := Lib.hid hv6
                            have HB6 := Lib.hid (HW4.out.drew.trans (hx6.mono HW4.out.size))
                            clear hv6 hx6 l1 l2
                            go_wp2
                            go_roundg (m - (i + 1))
                            case rel => exact ⟨i + 1, T.putL u P.dropLast wdg mk, (by show _ = _; omega), by go_num, HV6.out, HNX.out, HB6.out⟩
                            case measure => omega
                          · have d16 : decide ((16 : Int) < (y : Int) + 1) = true := decide_eq_true (by omega)
                            have d162 : decide (16 < y + 1) = true := decide_eq_true (by omega)
                            go_wp2_with (at_builtin; refine wpList_appSrc eS w3 rfl (.tmp 75) (.tmp 78) rfl (wr.heap.size + 1) _ [T.wGroups, T.zzW] rfl HO3.out b2 o2 q qn c3 HQN.out rfl HH3.out (by simp; omega) hsz3 ?_; intro v4 w4 hown4 hb4; rw [HP.out] at hown4; obtain ⟨A4, c4, e4, hc4, hs4⟩ := hown4.seen; rw [HPL.out] at e4 hc4; subst e4; have HB4 := Lib.hid (HB3.out.trans (show Below wB.heap.size w3 w4 by rw [HSB.out]; exact hb4)); clear hown4 hb4 hs4)
                            have HW4 := Lib.hid (HBR.out.trans ((HBA.out.trans (HB4.out.mono HBA.out.size)).mono HBR.out.size))
                            replace hb := bthen hb HW4.out
                            refine (AW _).mono ?_
                            rintro e wz ⟨rfl, hx⟩
                            go_wp2
                            go_ret
                            exact ⟨rfl, bthen hb hx⟩
                        · have blt : decide ((i : Int) < (m : Int)) = false := decide_eq_false (by omega)
                          have blt2 : decide (i < m) = false := decide_eq_false hlt
                          obtain ⟨wo, hwo⟩ : ∃ wo, wo = wr := ⟨_, rfl⟩
                          subst hwo
                          have HA2 := Lib.hid (HA.out.below HBR.out)
                          have hb2 := bthen hb HBR.out
                          have HEQ := Lib.hid ((T.oth_done HS.out HR.out HNO1.out).expand)
                          have HRU := Lib.hid HS.out.right
                          obtain ⟨lu, hlu⟩ : ∃ k, u.length = k := ⟨_, rfl⟩
                          have hlu2 : lu ≤ 200 := by rw [← hlu]; exact HRU.out.len
                          obtain ⟨Au, cu, rfl, hAu⟩ := vecArg12 HVU.out hlu hlu2
                          have HU := Lib.hid hAu
                          clear HA hb hAu HVU hlu
                          have HA := HA2
                          have hb := hb2
                          clear HA2 hb2
                          obtain ⟨x, er, hI⟩ := expand_ex t
                          have HIx := Lib.hid hI
                          have HIu := Lib.hid (show ExpandIs u x er from .inl ⟨HRU.out, by rw [HEQ.out]; exact expandIs_of hI HR.out⟩)
                          obtain ⟨lx, hm⟩ : ∃ k, x.length = k := ⟨_, rfl⟩
                          have HMx := Lib.hid hm
                          have hlx : lx ≤ 200 := by rw [← hm]; exact expand_len hI
                          clear hI hm
                          go_wp2_with fail
                          refine (E.expandOf A c n lx t x er _ HA.out HIx.out HMx.out).mono ?_
                          rintro e wa ⟨B1, d1, rfl, hs1, hx⟩
                          have HX1 := Lib.hid hs1
                          replace HU := Lib.hid (HU.out.below hx)
                          replace hb := bthen hb hx
                          clear hx hs1
                          go_wp2_with fail
                          refine (E.expandOf Au cu lu lx u x er _ HU.out HIu.out HMx.out).mono ?_
                          rintro e wc ⟨B2, d2, rfl, hs2, hx⟩
                          have HX2 := Lib.hid hs2
                          replace HX1 := Lib.hid (HX1.out.below hx)
                          replace hb := bthen hb hx
                          clear hx hs2
                          go_wp2_with fail
                          refine (same12 B1 B2 d1 d2 lx lx x x _ true (yes_iff rfl) HMx.out HMx.out (by omega) HX1.out.seen HX2.out.seen).mono ?_
                          rintro e wd ⟨rfl, hx⟩
                          replace hb := bthen hb hx
                          clear hx
                          go_wp2_with fail
                          refine (AW _).mono ?_
                          rintro e wz ⟨rfl, hx⟩
                          go_wp2
                          go_ret
                          exact ⟨rfl, bthen hb hx⟩
            · have HG := Lib.hid hG
              clear hG
              go_wp2_with fail
              refine (right12 B d m g false _ HB.out.len HB.out.seen HB.out.small (no_iff HG.out)).mono ?_
              rintro e w4 ⟨rfl, hx⟩
              replace HA := Lib.hid (HA.out.below hx)
              replace HB := Lib.hid (HB.out.below hx)
              replace hb := bthen hb hx
              clear hx
              go_wp2_with fail
              refine (AW _).mono ?_
              rintro e wz ⟨rfl, hx⟩
              go_wp2
              go_ret
              exact ⟨rfl, bthen hb hx⟩
          · have HR := Lib.hid hR
            clear hR
            go_wp2_with fail
            refine (right12 A c n t false _ HA.out.len HA.out.seen HA.out.small (no_iff HR.out)).mono ?_
            rintro e w3 ⟨rfl, hx⟩
            replace HA := Lib.hid (HA.out.below hx)
            replace HB := Lib.hid (HB.out.below hx)
            replace hb := bthen hb hx
            clear hx
            go_wp2_with fail
            refine (AW _).mono ?_
            rintro e wz ⟨rfl, hx⟩
            go_wp2
            go_ret
            exact ⟨rfl, bthen hb hx⟩
        · have dm : decide ((40 : Int) < (m : Int)) = true := decide_eq_true (by omega)
          have dm2 : decide (40 < m) = true := decide_eq_true (by omega)
          go_wp2_with fail
          refine (AW _).mono ?_
          rintro e wz ⟨rfl, hx⟩
          go_wp2
          go_ret
          exact ⟨rfl, bthen hb hx⟩
      · have dn : decide ((40 : Int) < (n : Int)) = true := decide_eq_true (by omega)
        have dn2 : decide (40 < n) = true := decide_eq_true (by omega)
        go_wp2_with fail
        refine (AW _).mono ?_
        rintro e wz ⟨rfl, hx⟩
        go_wp2
        go_ret
        exact ⟨rfl, bthen hb hx⟩
end Go.Proofs.Ytkifapbiimlafaa
