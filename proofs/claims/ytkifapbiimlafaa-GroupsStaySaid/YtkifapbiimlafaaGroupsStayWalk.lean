/-
  The walk of layer 12's statement GroupsStay, from what groups does: it returns true whatever comes in. No conditions.
-/
import Derived.Test.YtkifapbiimlafaaGroupC
import Derived.Deep.QuietTactic
import Derived.BigQuiet
namespace Go.Proofs.Ytkifapbiimlafaa
open Go.RowKit
set_option linter.unusedVariables false

set_option maxRecDepth 100000 in
set_option maxHeartbeats 16000000 in
theorem groupsStay_walk (E : GroupsOk) (AW : ∀ w, Calls Try.prog 11 #[] w (TrueS w)) (w : World) (A : Option Addr) (c : Nat) (t : List T.Ln) (hc : t.length ≤ c) (hA : Seen eL w A t) (hlA : t.length ≤ maxLen) (hNA : NilOk A c) :
    Calls Try.prog 5 #[.slice A t.length c] w (TrueS w) := by
  unfold maxLen at hlA
  obtain ⟨n, hnA⟩ : ∃ n, t.length = n := ⟨_, rfl⟩
  rw [hnA] at hc hlA ⊢
  have HNA := Lib.hid hnA
  have HA := Lib.hid hA
  have HOA := Lib.hid hNA
  clear hA hnA hNA
  have hb : Below w.heap.size w w := Below.refl _ _
  go_enter Try.func5, Try.ntmps5
  go_wp2_with fail
  refine (few12 A c n t _ HNA.out HA.out).mono ?_
  rintro e wx1 ⟨bs, rfl, hsm, hx⟩
  replace HA := Lib.hid (HA.out.below hx)
  replace hb := bthen hb hx
  clear hx
  cases bs with
  | false =>
    clear hsm
    go_wp2_with fail
    refine (AW _).mono ?_
    rintro e wz ⟨rfl, hx⟩
    go_wp2
    go_ret
    exact ⟨rfl, bthen hb hx⟩
  | true =>
    have hn60 : n ≤ 60 := hsm rfl
    clear hsm
    replace HA := Lib.hid (LArg.mk HNA.out (by omega) hc HOA.out HA.out)
    by_cases hR : T.RightT t
    · have HR := Lib.hid hR
      clear hR
      go_wp2_with fail
      refine (right12 A c n t true _ HA.out.len HA.out.seen HA.out.small (yes_iff HR.out)).mono ?_
      rintro e wx2 ⟨rfl, hx⟩
      replace HA := Lib.hid (HA.out.below hx)
      replace hb := bthen hb hx
      clear hx
      go_wp2_with fail
      refine (brief12 A c n t _ HA.out.len HA.out.seen HA.out.small).mono ?_
      rintro e wx3 ⟨bb, rfl, hx⟩
      replace HA := Lib.hid (HA.out.below hx)
      replace hb := bthen hb hx
      clear hx
      cases bb with
      | false =>
        go_wp2_with fail
        refine (AW _).mono ?_
        rintro e wz ⟨rfl, hx⟩
        go_wp2
        go_ret
        exact ⟨rfl, bthen hb hx⟩
      | true =>
        obtain ⟨u, er, hI⟩ := expand_ex t
        have HIu := Lib.hid hI
        obtain ⟨lu, hm⟩ : ∃ k, u.length = k := ⟨_, rfl⟩
        have HMu := Lib.hid hm
        have hmu : lu ≤ 200 := by rw [← hm]; exact expand_len hI
        clear hI hm
        obtain ⟨x, er1, hI⟩ := explicit_ex t
        have HIx := Lib.hid hI
        obtain ⟨lx, hm⟩ : ∃ k, x.length = k := ⟨_, rfl⟩
        have HMx := Lib.hid hm
        have hmx : lx ≤ 200 := by rw [← hm]; exact explicit_len hI
        clear hI hm
        obtain ⟨hxe, rfl⟩ : x = T.expL t ∧ er1 = 0 := by
          rcases HIx.out with ⟨_, h⟩ | ⟨h, _⟩
          · exact h
          · exact absurd HR.out h
        have HXE := Lib.hid hxe
        clear hxe
        go_wp2_with fail
        refine (E.expandOf A c n lu t u er _ HA.out HIu.out HMu.out).mono ?_
        rintro e wx4 ⟨B4, d4, rfl, hs4, hx⟩
        replace HA := Lib.hid (HA.out.below hx)
        have HU := Lib.hid hs4
        clear hs4
        replace hb := bthen hb hx
        clear hx
        go_wp2_with fail
        refine (E.explicitOf A c n lx t x 0 _ HA.out HIx.out HMx.out).mono ?_
        rintro e wx5 ⟨B5, d5, rfl, hs5, hx⟩
        replace HA := Lib.hid (HA.out.below hx)
        replace HU := Lib.hid (HU.out.below hx)
        have HX := Lib.hid hs5
        clear hs5
        replace hb := bthen hb hx
        clear hx
        have HEX := Lib.hid (expandIs_of HIu.out HR.out)
        by_cases he : er = 0
        · subst he
          have HK := Lib.hid (show T.AllIn x (T.inhL t) u by rw [HXE.out]; exact T.expand_ok HR.out HEX.out)
          have HRU := Lib.hid HK.out.right
          have HRX := Lib.hid (show T.RightN 200 x by rw [HXE.out]; exact T.exp_right HR.out)
          have HXZ := Lib.hid (show ∀ y ∈ T.entries x, y.2 = 0 by rw [HXE.out]; exact fun y hy => T.exp_zero HR.out hy)
          have HUZ := Lib.hid ((T.expand_ok HR.out HEX.out).zero HR.out)
          have hle : lx ≤ lu := by have := T.stay_len HR.out (T.expand_ok HR.out HEX.out); rw [← HXE.out, HMx.out, HMu.out] at this; exact this
          have hlt0 : decide ((lu : Int) < (lx : Int)) = false := decide_eq_false (by omega)
          have hlt0b : decide (lu < lx) = false := decide_eq_false (by omega)
          go_wp2_with fail
          refine (codeRight12 B4 d4 lu u true _ HMu.out HU.out.seen HU.out.small (yes_iff HRU.out)).mono ?_
          rintro e wx6 ⟨rfl, hx⟩
          replace HA := Lib.hid (HA.out.below hx)
          replace HU := Lib.hid (HU.out.below hx)
          replace HX := Lib.hid (HX.out.below hx)
          replace hb := bthen hb hx
          clear hx
          go_wp2
          go_loopg [7, 8, 9, 10, 11, 12, 77] lx (fun g0 v7 v8 v9 v10 v11 v12 vi wr => ∃ i : Nat, Hid (i + g0 = lx) ∧ vi = .int .i64 (i : Int) ∧ Hid (Below wx6.heap.size wx6 wr))
          case atStart => exact ⟨0, Nat.zero_add _, rfl, Below.refl _ _⟩
          case round =>
            obtain ⟨i, HG, rfl, HB⟩ := hrel
            have hgk := HG.out
            by_cases hlt : i < lx
            · have blt : decide ((i : Int) < (lx : Int)) = true := decide_eq_true (by omega)
              have blt2 : decide (i < lx) = true := decide_eq_true hlt
              have hix : i < x.length := by rw [HMx.out]; exact hlt
              have hiz : (i : Int) < (lx : Int) := by omega
              obtain ⟨b, o, hBx, hbw, hL⟩ := HX.out.seen.lines (by omega)
              subst hBx
              obtain ⟨c0, c1, c2⟩ := (hL.below HB.out hbw).line hix
              rw [T.mark_zero HXZ.out hix] at c2
              obtain ⟨p, hp⟩ : ∃ p, T.pathL x i = p := ⟨_, rfl⟩
              have HP := Lib.hid hp
              obtain ⟨pn, hpn⟩ : ∃ k, p.length = k := ⟨_, rfl⟩
              have HPN := Lib.hid hpn
              have hpn16 : pn ≤ 16 := by rw [← hpn, ← hp]; exact (S.RightN.path_deep HRX.out hix).2
              have HIU := Lib.hid (show T.isIn u p from T.stay_in (T.expand_ok HR.out HEX.out) (by rw [← HXE.out]; exact ⟨i, hix, hp⟩))
              have HBX := Lib.hid (lineBox3 wr (T.dp x i) (T.wd x i) 0)
              have HBA := Lib.hid (up wr (.cells #[.int .i64 (T.dp x i), .string (sB (T.wd x i)), .int .i64 0] 40))
              have HWB := Lib.hid (HB.out.trans (HBA.out.mono HB.out.size))
              clear hp hpn hL
              go_wp2_with fail
              refine (pathC12 _ d5 lx x i p pn _ HMx.out (HX.out.seen.below HWB.out) HX.out.small hlt HRX.out HP.out HPN.out).mono ?_
              rintro e w3 ⟨A3, c3, rfl, hc3, hs3, hb3⟩
              have HS3 := Lib.hid hs3
              have HB3 := Lib.hid (HWB.out.trans (hb3.mono HWB.out.size))
              have HB3x := Lib.hid hb3
              clear hc3 hs3 hb3
              go_wp2_with fail
              refine (findYes12 B4 A3 d4 c3 lu pn u p _ HMu.out HPN.out (HU.out.seen.below HB3.out) HS3.out HU.out.small (by omega) HRU.out HIU.out).mono ?_
              rintro e w4 ⟨k, rfl, ⟨hk, hkp⟩, hb4⟩
              have hku : k < u.length := by rw [HMu.out]; exact hk
              obtain ⟨hd1, hd2⟩ := T.line_of HRX.out HRU.out hix hku (hkp.trans HP.out.symm)
              have HB4 := Lib.hid (HB3.out.trans (hb4.mono HB3.out.size))
              obtain ⟨bu, ou, hBu, hbuw, hLu⟩ := HU.out.seen.lines (by omega)
              subst hBu
              obtain ⟨e0, e1, e2⟩ := (hLu.below HB4.out hbuw).line hku
              rw [hd1] at e0
              rw [hd2] at e1
              rw [T.mark_zero HUZ.out hku] at e2
              have hkz : (k : Int) < (lu : Int) := by omega
              have hbb : Below (wr.alloc (.cells #[.int .i64 (T.dp x i), .string (sB (T.wd x i)), .int .i64 0] 40)).heap.size (wr.alloc (.cells #[.int .i64 (T.dp x i), .string (sB (T.wd x i)), .int .i64 0] 40)) w4 := HB3x.out.trans (hb4.mono HB3x.out.size)
              have l0 := (hbb.cell (p := ⟨wr.heap.size, 0, none⟩) HBX.out.1).trans HBX.out.2.1
              have l1 := (hbb.cell (p := ⟨wr.heap.size, 1, none⟩) HBX.out.1).trans HBX.out.2.2.1
              have l2 := (hbb.cell (p := ⟨wr.heap.size, 2, none⟩) HBX.out.1).trans HBX.out.2.2.2
              clear hd1 hd2 hLu hbb hb4 hkp
              go_wp2
              go_quiet (fail)
              go_wp2
              go_roundg (lx - (i + 1))
              case rel => exact ⟨i + 1, (by show _ = _; omega), by go_num, below_drawn12 HB4.out _⟩
              case measure => omega
            · have blt : decide ((i : Int) < (lx : Int)) = false := decide_eq_false (by omega)
              have blt2 : decide (i < lx) = false := decide_eq_false hlt
              obtain ⟨wo, hwo⟩ : ∃ wo, wo = wr := ⟨_, rfl⟩
              subst hwo
              replace HA := Lib.hid (HA.out.below HB.out)
              replace HU := Lib.hid (HU.out.below HB.out)
              replace HX := Lib.hid (HX.out.below HB.out)
              have hb2 := bthen hb HB.out
              clear hb blt blt2
              have hb := hb2
              clear hb2
              obtain ⟨a, ha⟩ : ∃ a, T.actL t = a := ⟨_, rfl⟩
              have HAC := Lib.hid ha
              have HRA := Lib.hid (show T.RightN 200 a by rw [← ha]; exact T.act_right HR.out)
              obtain ⟨la, hm⟩ : ∃ k, a.length = k := ⟨_, rfl⟩
              have HMa := Lib.hid hm
              have hla2 : la ≤ 200 := by rw [← hm]; exact HRA.out.len
              clear ha hm
              go_wp2_with fail
              refine (refActive12 A c n la t a _ HA.out HR.out HAC.out HMa.out).mono ?_
              rintro e wa ⟨Ba, da, rfl, hsa, hx⟩
              replace HA := Lib.hid (HA.out.below hx)
              replace HU := Lib.hid (HU.out.below hx)
              replace HX := Lib.hid (HX.out.below hx)
              have HS := Lib.hid hsa
              replace hb := bthen hb hx
              clear hx hsa
              go_wp2_with fail
              refine (underR12 Ba da la a (some ⟨wa.heap.size, 0, none⟩) 1 1 [T.wApply] _ HMa.out rfl (HS.out.seen.below (up _ _)) (lit_seen eS wa [T.wApply] _ rfl (by simp)) (by omega) (by decide) HRA.out).mono ?_
              rintro e wy ⟨A3, c3, rfl, hc3, hs3, hx0⟩
              have hx := bthen (up wa _) hx0
              replace HA := Lib.hid (HA.out.below hx)
              replace HU := Lib.hid (HU.out.below hx)
              replace HX := Lib.hid (HX.out.below hx)
              replace hb := bthen hb hx
              clear hx hx0 HS
              obtain ⟨Ls, hLs⟩ : ∃ L, T.underW a [T.wApply] = L := ⟨_, rfl⟩
              have HLS := Lib.hid (show T.appL t = Ls by rw [← hLs]; exact (apps12 HAC.out).symm)
              rw [hLs] at hc3 hs3 ⊢
              obtain ⟨ln, hln⟩ : ∃ k, Ls.length = k := ⟨_, rfl⟩
              rw [hln] at hc3 ⊢
              have HLN := Lib.hid hln
              have hln2 : ln ≤ 200 := by rw [← hln, ← hLs]; exact Nat.le_trans (T.underW_len HRA.out _) HRA.out.len
              have HS3 := Lib.hid hs3
              clear hLs hln hs3 hc3
              go_wp2
              go_loopg [13, 15, 16, 17, 110] ln (fun g0 v13 v15 v16 v17 vi wr => ∃ i : Nat, Hid (i + g0 = ln) ∧ vi = .int .i64 (i : Int) ∧ Hid (OwnK wr wy.heap.size 0 v13 (T.allTo t i)) ∧ Hid (Below wy.heap.size wy wr))
              case atStart => exact ⟨0, Nat.zero_add _, rfl, OwnK.nil _ _ _, Below.refl _ _⟩
              case round =>
                obtain ⟨i, HG, rfl, HO, HB⟩ := hrel
                have hgk := HG.out
                by_cases hlt : i < ln
                · have blt : decide ((i : Int) < (ln : Int)) = true := decide_eq_true (by omega)
                  have blt2 : decide (i < ln) = true := decide_eq_true hlt
                  have hiL : i < Ls.length := by rw [HLN.out]; exact hlt
                  have hiz : (i : Int) < (ln : Int) := by omega
                  obtain ⟨b3, o3, hA3, hw3, hL3⟩ := HS3.out (by omega)
                  subst hA3
                  have k3 := (hL3.below HB.out hw3).str hiL
                  obtain ⟨g, hg⟩ : ∃ g, Ls[i] = g := ⟨_, rfl⟩
                  rw [hg] at k3
                  have HGA := Lib.hid (show g ∈ T.appL t by rw [HLS.out, ← hg]; exact List.getElem_mem hiL)
                  have HGL := Lib.hid (T.app_long HR.out HGA.out)
                  have HI := Lib.hid (show PathsAre t g (T.pathsA t g) 0 from .inl ⟨HR.out, .inl ⟨T.expand_apps HR.out HEX.out g HGA.out, rfl, rfl⟩⟩)
                  have HNX := Lib.hid (show T.allTo t (i + 1) = T.allTo t i ++ T.pathsA t g by
                    have hi2 : i < (T.appL t).length := by rw [HLS.out]; exact hiL
                    have h := T.allTo_next hi2
                    have e1 : (T.appL t)[i] = g := by simp only [HLS.out]; exact hg
                    rw [e1] at h
                    exact h)
                  obtain ⟨lp, hlp⟩ : ∃ k, (T.pathsA t g).length = k := ⟨_, rfl⟩
                  have HLP := Lib.hid hlp
                  have HLL := Lib.hid (show (T.allTo t i).length + (T.pathsA t g).length ≤ 1099511627776 by
                    have h1 := T.allTo_len HR.out i
                    have h2 := T.paths_len HR.out g
                    omega)
                  clear hg hlp hL3
                  go_wp2_with fail
                  refine (E.pathsOf A c n lp t g _ 0 _ (HA.out.below HB.out) HGL.out HI.out HLP.out).mono ?_
                  rintro e w6 ⟨B6, d6, rfl, hm6, hb6⟩
                  have HM6 := Lib.hid hm6
                  have HW6 := Lib.hid hb6
                  have HSZ := Lib.hid (show wy.heap.size ≤ w6.heap.size from Nat.le_trans HB.out.size hb6.size)
                  clear hm6 hb6
                  go_wp2_with (at_builtin; refine wpList_appManyQ w6 rfl (.tmp 120) (.tmp 121) rfl wy.heap.size 0 u13 (T.allTo t i) rfl wr HO.out HW6.out wr.heap.size (Nat.le_refl _) (Nat.zero_le _) (.slice B6 lp d6) (T.pathsA t g) rfl HM6.out HLL.out HSZ.out ?_; intro v7 w7 ho7 hb7; have HO7 := Lib.hid ho7; have HB7 := Lib.hid hb7; clear ho7 hb7)
                  go_roundg (ln - (i + 1))
                  case rel => exact ⟨i + 1, (by show _ = _; omega), by go_num, (by rw [HNX.out]; exact HO7.out), (HB.out.trans (HW6.out.mono HB.out.size)).trans HB7.out⟩
                  case measure => omega
                · have blt : decide ((i : Int) < (ln : Int)) = false := decide_eq_false (by omega)
                  have blt2 : decide (i < ln) = false := decide_eq_false hlt
                  obtain ⟨wz, hwz⟩ : ∃ wz, wz = wr := ⟨_, rfl⟩
                  subst hwz
                  replace HA := Lib.hid (HA.out.below HB.out)
                  replace HU := Lib.hid (HU.out.below HB.out)
                  replace HX := Lib.hid (HX.out.below HB.out)
                  have hb2 := bthen hb HB.out
                  clear hb blt blt2
                  have hb := hb2
                  clear hb2
                  obtain ⟨ALL, hall⟩ : ∃ L, (T.appL t).flatMap (T.pathsA t) = L := ⟨_, rfl⟩
                  have HAL := Lib.hid hall
                  have hmany := HO.out.many
                  rw [show T.allTo t i = ALL by rw [← hall, ← T.allTo_all, show i = (T.appL t).length by rw [HLS.out, HLN.out]; omega]] at hmany
                  obtain ⟨A9, c9, e9, hc9, M, hM1, hM2, hM3⟩ := hmany.seen
                  subst e9
                  obtain ⟨lal, hlal⟩ : ∃ k, ALL.length = k := ⟨_, rfl⟩
                  rw [hlal] at hc9 hM1 ⊢
                  have HLA := Lib.hid hlal
                  have hlal2 : lal ≤ 8040000 := by rw [← hlal, ← hall, ← T.allTo_all]; exact T.allTo_len HR.out _
                  have HM1 := Lib.hid hM1
                  have HM2 := Lib.hid hM2
                  have HM3 := Lib.hid hM3
                  have HFL := Lib.hid (show ∀ q ∈ ALL, T.FitP q by rw [← hall]; exact fun q hq => T.all_fit HR.out hq)
                  clear hall hmany hc9 hM1 hM2 hM3 hlal HO
                  go_wp2
                  go_loopg [18, 19, 20, 21, 22, 24, 126] lu (fun g0 v18 v19 v20 v21 v22 v24 vi wr => ∃ j : Nat, Hid (j + g0 = lu) ∧ vi = .int .i64 (j : Int) ∧ Hid (Below wz.heap.size wz wr))
                  case atStart => exact ⟨0, Nat.zero_add _, rfl, Below.refl _ _⟩
                  case round =>
                    obtain ⟨j, HG, rfl, HB⟩ := hrel
                    have hgk := HG.out
                    by_cases hlt : j < lu
                    · have blt : decide ((j : Int) < (lu : Int)) = true := decide_eq_true (by omega)
                      have blt2 : decide (j < lu) = true := decide_eq_true hlt
                      have hju : j < u.length := by rw [HMu.out]; exact hlt
                      have hjz : (j : Int) < (lu : Int) := by omega
                      obtain ⟨p, hp⟩ : ∃ p, T.pathL u j = p := ⟨_, rfl⟩
                      have HP := Lib.hid hp
                      obtain ⟨pn, hpn⟩ : ∃ k, p.length = k := ⟨_, rfl⟩
                      have HPN := Lib.hid hpn
                      have hpn16 : pn ≤ 16 := by rw [← hpn, ← hp]; exact (S.RightN.path_deep HRU.out hju).2
                      have HNEW := Lib.hid (show T.isIn x p ∨ ∃ q ∈ ALL, pn ≤ q.length ∧ q.take pn = p by
                        have h := T.stay_new HR.out (T.expand_ok HR.out HEX.out) hju
                        rw [hp, hpn, HAL.out, ← HXE.out] at h
                        exact h)
                      clear hp hpn
                      go_wp2_with fail
                      refine (pathC12 B4 d4 lu u j p pn _ HMu.out (HU.out.seen.below HB.out) HU.out.small hlt HRU.out HP.out HPN.out).mono ?_
                      rintro e w3 ⟨A4, c4, rfl, hc4, hs4, hb3⟩
                      have HS4 := Lib.hid hs4
                      have HB3 := Lib.hid (HB.out.trans (hb3.mono HB.out.size))
                      clear hc4 hs4 hb3
                      go_wp2_with fail
                      refine (findAny12 B5 A4 d5 c4 lx pn x p _ HMx.out HPN.out (HX.out.seen.below HB3.out) HS4.out HX.out.small (by omega) (by rw [HXE.out]; exact T.exp_right HR.out)).mono ?_
                      rintro e w4 ⟨kf, was0, rfl, hw0, hb4⟩
                      have HW0 := Lib.hid (show was0 = true ∨ ∃ q ∈ ALL.drop 0, pn ≤ q.length ∧ q.take pn = p by
                        rcases HNEW.out with h | h
                        · exact .inl (hw0.2 h)
                        · exact .inr h)
                      have HB4 := Lib.hid (HB3.out.trans (hb4.mono HB3.out.size))
                      have HS5 := Lib.hid (HS4.out.below hb4)
                      clear hw0 hb4 HS4
                      go_wp2
                      go_loopg [22, 24, 143] lal (fun g1 vw v24 vk wr => ∃ (k : Nat) (was : Bool), Hid (k + g1 = lal) ∧ vw = .bool was ∧ vk = .int .i64 (k : Int) ∧ Hid (was = true ∨ ∃ q ∈ ALL.drop k, pn ≤ q.length ∧ q.take pn = p) ∧ Hid (Below w4.heap.size w4 wr))
                      case atStart => exact ⟨0, was0, Nat.zero_add _, rfl, rfl, HW0.out, Below.refl _ _⟩
                      case round =>
                        obtain ⟨k, was, HG1, rfl, rfl, HW, HB5⟩ := hrel
                        have hgk1 := HG1.out
                        have HBZ := Lib.hid (HB4.out.trans (HB5.out.mono HB4.out.size))
                        by_cases hk : k < lal
                        · have bk : decide ((k : Int) < (lal : Int)) = true := decide_eq_true (by omega)
                          have bk2 : decide (k < lal) = true := decide_eq_true hk
                          have hkL : k < ALL.length := by rw [HLA.out]; exact hk
                          have hkM : k < M.length := by rw [HM1.out]; exact hk
                          have hkz : (k : Int) < (lal : Int) := by omega
                          obtain ⟨bq, oq, hBq, hwq, hLq⟩ := HM2.out (by omega)
                          subst hBq
                          have kq := (hLq.below HBZ.out hwq).ptQ hkM
                          have hps := (HM3.out k hkM hkL).below HBZ.out
                          obtain ⟨q, hq⟩ : ∃ p, ALL[k] = p := ⟨_, rfl⟩
                          obtain ⟨mk, hmk⟩ : ∃ m, M[k] = m := ⟨_, rfl⟩
                          rw [hmk] at kq
                          rw [hq, hmk] at hps
                          obtain ⟨PA, qn, qc⟩ := mk
                          have HDR := Lib.hid (show ALL.drop k = q :: ALL.drop (k + 1) by rw [List.drop_eq_getElem_cons hkL, hq])
                          have HFIT := Lib.hid (show T.FitP q from HFL.out q (by rw [← hq]; exact List.getElem_mem hkL))
                          have HQS := Lib.hid hps
                          have hqn : q.length = qn := hps.len
                          have hqc : qn ≤ qc := hps.cap
                          have HQN := Lib.hid hqn
                          have hqn0 : 0 < qn := by rw [← hqn]; exact HFIT.out.pos
                          have hqn14 : qn ≤ 14 := by rw [← hqn]; exact HFIT.out.deep
                          obtain ⟨bp, op, ep, _, _⟩ := hps.seen (by omega)
                          have ep : PA = some ⟨bp, op, none⟩ := ep
                          subst ep
                          clear hps hq hmk hLq hqn
                          cases was with
                          | true =>
                            go_wp2
                            go_roundg (lal - (k + 1))
                            case rel => exact ⟨k + 1, true, (by show _ = _; omega), rfl, by go_num, .inl rfl, HB5.out⟩
                            case measure => omega
                          | false =>
                            have HEXQ := Lib.hid (show ∃ q' ∈ ALL.drop k, pn ≤ q'.length ∧ q'.take pn = p by
                              rcases HW.out with h | h
                              · cases h
                              · exact h)
                            clear HW
                            by_cases hge : pn ≤ qn
                            · have dg : decide ((pn : Int) ≤ (qn : Int)) = true := decide_eq_true (by omega)
                              have dg2 : decide (pn ≤ qn) = true := decide_eq_true hge
                              have hpc : (pn : Int) ≤ (qc : Int) := by omega
                              have HTL := Lib.hid (show (q.take pn).length = pn by rw [List.length_take, HQN.out]; omega)
                              have HTS := Lib.hid (show Seen eS wr (some ⟨bp, op, none⟩) (q.take pn) from ((PtK.take (k := 0) (A := some ⟨bp, op, none⟩) (n := qn) (c := qc) ⟨HQS.out, fun _ _ => Nat.zero_le _⟩ pn hge).pt.seen))
                              obtain ⟨r, hr⟩ : ∃ r, decide (q.take pn = p) = r := ⟨_, rfl⟩
                              have HRR := Lib.hid hr
                              have HNW := Lib.hid (show r = true ∨ ∃ q' ∈ ALL.drop (k + 1), pn ≤ q'.length ∧ q'.take pn = p by
                                obtain ⟨q', hq', h1, h2⟩ := HEXQ.out
                                rw [HDR.out] at hq'
                                rcases List.mem_cons.1 hq' with rfl | hq'
                                · exact .inl (by rw [← hr]; exact decide_eq_true h2)
                                · exact .inr ⟨q', hq', h1, h2⟩)
                              clear hr hge
                              go_wp2_with fail
                              refine (equal12 (some ⟨bp, op, none⟩) A4 qc c4 pn pn (q.take pn) p r _ HTL.out HPN.out (by omega) HTS.out (HS5.out.below HB5.out) HRR.out).mono ?_
                              rintro e w8 ⟨rfl, hb8⟩
                              have HB8 := Lib.hid (HB5.out.trans (hb8.mono HB5.out.size))
                              clear hb8
                              cases r with
                              | true =>
                                go_wp2
                                go_roundg (lal - (k + 1))
                                case rel => exact ⟨k + 1, true, (by show _ = _; omega), rfl, by go_num, .inl rfl, HB8.out⟩
                                case measure => omega
                              | false =>
                                have HNW2 := Lib.hid (show ∃ q' ∈ ALL.drop (k + 1), pn ≤ q'.length ∧ q'.take pn = p by
                                  rcases HNW.out with h | h
                                  · cases h
                                  · exact h)
                                clear HNW
                                go_wp2
                                go_roundg (lal - (k + 1))
                                case rel => exact ⟨k + 1, false, (by show _ = _; omega), rfl, by go_num, .inr HNW2.out, HB8.out⟩
                                case measure => omega
                            · have dg : decide ((pn : Int) ≤ (qn : Int)) = false := decide_eq_false (by omega)
                              have dg2 : decide (pn ≤ qn) = false := decide_eq_false hge
                              have HNW2 := Lib.hid (show ∃ q' ∈ ALL.drop (k + 1), pn ≤ q'.length ∧ q'.take pn = p by
                                obtain ⟨q', hq', h1, h2⟩ := HEXQ.out
                                rw [HDR.out] at hq'
                                rcases List.mem_cons.1 hq' with rfl | hq'
                                · exact absurd (by rw [← HQN.out]; exact h1) hge
                                · exact ⟨q', hq', h1, h2⟩)
                              clear hge
                              go_wp2
                              go_roundg (lal - (k + 1))
                              case rel => exact ⟨k + 1, false, (by show _ = _; omega), rfl, by go_num, .inr HNW2.out, HB5.out⟩
                              case measure => omega
                        · have bk : decide ((k : Int) < (lal : Int)) = false := decide_eq_false (by omega)
                          have bk2 : decide (k < lal) = false := decide_eq_false hk
                          obtain rfl : was = true := by
                            rcases HW.out with h | ⟨q, hq, _⟩
                            · exact h
                            · rw [List.drop_of_length_le (by rw [HLA.out]; omega)] at hq
                              cases hq
                          obtain ⟨bu, ou, hBu, hbuw, hLu⟩ := HU.out.seen.lines (by omega)
                          subst hBu
                          obtain ⟨_, _, e2⟩ := (hLu.below HBZ.out hbuw).line hju
                          rw [T.mark_zero HUZ.out hju] at e2
                          clear hLu
                          go_wp2
                          go_roundg (lu - (j + 1))
                          case rel => exact ⟨j + 1, (by show _ = _; omega), by go_num, HBZ.out⟩
                          case measure => omega
                    · have blt : decide ((j : Int) < (lu : Int)) = false := decide_eq_false (by omega)
                      have blt2 : decide (j < lu) = false := decide_eq_false hlt
                      have hb2 := bthen hb HB.out
                      go_wp2_with fail
                      refine (AW _).mono ?_
                      rintro e wv ⟨rfl, hx⟩
                      go_wp2
                      go_ret
                      exact ⟨rfl, bthen hb2 hx⟩
        · have hne : (er == 0) = false := beq_eq_false_iff_ne.2 he
          have hne2 : (er != 0) = true := by rw [bne, hne]; rfl
          obtain rfl : u = [] := by
            rcases T.expand_cases HR.out with ⟨e, _⟩ | ⟨e, _⟩ | ⟨v, e, _⟩
            · rw [HEX.out] at e; exact congrArg Prod.fst e
            · rw [HEX.out] at e; exact congrArg Prod.fst e
            · rw [HEX.out] at e; exact absurd (congrArg Prod.snd e) he
          obtain rfl : lu = 0 := HMu.out.symm
          clear he
          go_wp2_with fail
          refine (AW _).mono ?_
          rintro e wz ⟨rfl, hx⟩
          go_wp2
          go_ret
          exact ⟨rfl, bthen hb hx⟩
    · have HR := Lib.hid hR
      clear hR
      go_wp2_with fail
      refine (right12 A c n t false _ HA.out.len HA.out.seen HA.out.small (no_iff HR.out)).mono ?_
      rintro e wx2 ⟨rfl, hx⟩
      replace HA := Lib.hid (HA.out.below hx)
      replace hb := bthen hb hx
      clear hx
      go_wp2_with fail
      refine (AW _).mono ?_
      rintro e wz ⟨rfl, hx⟩
      go_wp2
      go_ret
      exact ⟨rfl, bthen hb hx⟩
end Go.Proofs.Ytkifapbiimlafaa
