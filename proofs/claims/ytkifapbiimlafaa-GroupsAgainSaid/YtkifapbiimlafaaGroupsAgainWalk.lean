/-
  The walk of layer 12's statement GroupsAgain, from what groups does: it returns true whatever comes in. No conditions.
-/
import Derived.Test.YtkifapbiimlafaaGroupB
namespace Go.Proofs.Ytkifapbiimlafaa
open Go.RowKit
set_option linter.unusedVariables false

set_option maxRecDepth 100000 in
set_option maxHeartbeats 8000000 in
theorem groupsAgain_walk (E : GroupsOk) (AW : ∀ w, Calls Try.prog 11 #[] w (TrueS w)) (w : World) (A : Option Addr) (c : Nat) (t : List T.Ln) (hc : t.length ≤ c) (hA : Seen eL w A t) (hlA : t.length ≤ maxLen) (hNA : NilOk A c) :
    Calls Try.prog 6 #[.slice A t.length c] w (TrueS w) := by
  unfold maxLen at hlA
  obtain ⟨n, hnA⟩ : ∃ n, t.length = n := ⟨_, rfl⟩
  rw [hnA] at hc hlA ⊢
  have HNA := Lib.hid hnA
  have HA := Lib.hid hA
  have HOA := Lib.hid hNA
  clear hA hnA hNA
  have hb : Below w.heap.size w w := Below.refl _ _
  go_enter Try.func6, Try.ntmps6
  go_wp2_with fail
  refine (few12 A c n t _ HNA.out HA.out).mono ?_
  rintro e wx1 ⟨bs, rfl, hsm, hx⟩
  replace HA := Lib.hid (HA.out.below hx)
  replace hb := bthen hb hx
  clear hx
  cases bs with
  | false =>
    clear hsm
    go_wp2_with fail
    refine (AW _).mono ?_
    rintro e wz ⟨rfl, hx⟩
    go_wp2
    go_ret
    exact ⟨rfl, bthen hb hx⟩
  | true =>
    have hn60 : n ≤ 60 := hsm rfl
    clear hsm
    replace HA := Lib.hid (LArg.mk HNA.out (by omega) hc HOA.out HA.out)
    by_cases hR : T.RightT t
    · have HR := Lib.hid hR
      clear hR
      go_wp2_with fail
      refine (right12 A c n t true _ HA.out.len HA.out.seen HA.out.small (yes_iff HR.out)).mono ?_
      rintro e wx2 ⟨rfl, hx⟩
      replace HA := Lib.hid (HA.out.below hx)
      replace hb := bthen hb hx
      clear hx
      go_wp2_with fail
      refine (brief12 A c n t _ HA.out.len HA.out.seen HA.out.small).mono ?_
      rintro e wx3 ⟨bb, rfl, hx⟩
      replace HA := Lib.hid (HA.out.below hx)
      replace hb := bthen hb hx
      clear hx
      cases bb with
      | false =>
        go_wp2_with fail
        refine (AW _).mono ?_
        rintro e wz ⟨rfl, hx⟩
        go_wp2
        go_ret
        exact ⟨rfl, bthen hb hx⟩
      | true =>
        obtain ⟨u, er, hI⟩ := expand_ex t
        have HIu := Lib.hid hI
        obtain ⟨m, hm⟩ : ∃ k, u.length = k := ⟨_, rfl⟩
        have HMu := Lib.hid hm
        have hmu : m ≤ 200 := by rw [← hm]; exact expand_len hI
        clear hI hm
        go_wp2_with fail
        refine (E.expandOf A c n m t u er _ HA.out HIu.out HMu.out).mono ?_
        rintro e wx4 ⟨B4, d4, rfl, hs4, hx⟩
        replace HA := Lib.hid (HA.out.below hx)
        have HU := Lib.hid hs4
        clear hs4
        replace hb := bthen hb hx
        clear hx
        have HEX := Lib.hid (expandIs_of HIu.out HR.out)
        by_cases he : er = 0
        · subst he
          have HRU := Lib.hid (T.expand_ok HR.out HEX.out).right
          have HTW := Lib.hid (show ExpandIs u u 0 from .inl ⟨HRU.out, T.expand_twice HR.out HEX.out⟩)
          go_wp2_with fail
          refine (E.expandOf B4 d4 m m u u 0 _ HU.out HTW.out HMu.out).mono ?_
          rintro e wx5 ⟨B5, d5, rfl, hs5, hx⟩
          replace HA := Lib.hid (HA.out.below hx)
          replace HU := Lib.hid (HU.out.below hx)
          have HV := Lib.hid hs5
          clear hs5
          replace hb := bthen hb hx
          clear hx
          go_wp2
          go_loopg [7, 8, 9, 10, 45] n (fun g vp v8 v9 v10 vi wr => ∃ (i : Nat) (pl : Bool), Hid (i + g = n) ∧ vp = .bool pl ∧ vi = .int .i64 (i : Int) ∧ Hid (pl = true → ∀ j, j < i → (T.at_ t j).mark = 0 ∧ T.ownB (T.pathL t j) = true) ∧ Hid (Below wx5.heap.size wx5 wr))
          case atStart => exact ⟨0, true, Nat.zero_add _, rfl, rfl, (fun _ j h => absurd h (Nat.not_lt_zero j)), Below.refl _ _⟩
          case round =>
            obtain ⟨i, pl, HG, rfl, rfl, HPL, HB⟩ := hrel
            have hgk := HG.out
            by_cases hlt : i < n
            · have blt : decide ((i : Int) < (n : Int)) = true := decide_eq_true (by omega)
              have blt2 : decide (i < n) = true := decide_eq_true hlt
              have hit : i < t.length := by rw [HA.out.len]; exact hlt
              have hiz : (i : Int) < (n : Int) := by omega
              obtain ⟨b, o, rfl, hbw, hL⟩ := HA.out.seen.lines (by omega)
              obtain ⟨c0, c1, c2⟩ := (hL.below HB.out hbw).line hit
              obtain ⟨mk, hmk⟩ : ∃ k, (T.at_ t i).mark = k := ⟨_, rfl⟩
              rw [hmk] at c2
              have HMK := Lib.hid hmk
              obtain ⟨p, hp⟩ : ∃ p, T.pathL t i = p := ⟨_, rfl⟩
              have HP := Lib.hid hp
              have HPD := Lib.hid (show 0 < p.length by rw [← hp]; exact (S.RightN.path_deep HR.out hit).1)
              obtain ⟨pn, hpn⟩ : ∃ k, p.length = k := ⟨_, rfl⟩
              have HPN := Lib.hid hpn
              have hpn0 : 0 < pn := by rw [← hpn]; exact HPD.out
              have hpz : (0 : Int) < (pn : Int) := by omega
              obtain ⟨hd, hhd⟩ : ∃ h, p[0]'HPD.out = h := ⟨_, rfl⟩
              have HHD := Lib.hid hhd
              have HOW := Lib.hid (show T.ownB (T.pathL t i) = (!(hd == T.wGroups) && !(hd == T.wApply)) by rw [hp, own_head HPD.out, hhd])
              have HBX := Lib.hid (lineBox wr (T.dp t i) (T.wd t i) mk)
              have HBA := Lib.hid (up wr (.cells #[.int .i64 (T.dp t i), .string (sB (T.wd t i)), .int .i64 mk] 40))
              have HWB := Lib.hid (HB.out.trans (HBA.out.mono HB.out.size))
              clear hmk hp hpn hhd hL
              go_wp2_with fail
              refine (pathN12 _ c n t i _ HA.out.len (HA.out.seen.below HWB.out) hlt HA.out.small HR.out).mono ?_
              rintro e w3 ⟨A3, c3, rfl, hc3, hs3, _, hb3⟩
              rw [HP.out] at hc3 hs3 ⊢
              rw [HPN.out]
              obtain ⟨b3, o3, rfl, hw3, hL3⟩ := hs3 HPD.out
              have k3 := hL3.str HPD.out
              rw [HHD.out] at k3
              rw [Nat.add_zero] at k3
              have k9 := (hb3.cell (p := ⟨wr.heap.size, 2, none⟩) HBX.out.1).trans HBX.out.2
              have HB3 := Lib.hid (HWB.out.trans (hb3.mono HWB.out.size))
              clear hc3 hs3 hb3 hL3
              cases pl with
              | false =>
                go_wp2
                go_roundg (n - (i + 1))
                case rel => exact ⟨i + 1, false, (by show _ = _; omega), rfl, by go_num, (fun h => by cases h), HB3.out⟩
                case measure => omega
              | true =>
                by_cases hm0 : mk = 0
                · subst hm0
                  cases hg : (hd == T.wGroups) with
                  | true =>
                    have q1 : ((sB hd).toList == [103, 114, 111, 117, 112, 115]) = true := by rw [sB_toList]; exact hg
                    have q2 : ((sB hd).toList != [103, 114, 111, 117, 112, 115]) = false := by rw [bne, q1]; rfl
                    clear hg
                    go_wp2
                    go_roundg (n - (i + 1))
                    case rel => exact ⟨i + 1, false, (by show _ = _; omega), rfl, by go_num, (fun h => by cases h), HB3.out⟩
                    case measure => omega
                  | false =>
                    have q1 : ((sB hd).toList == [103, 114, 111, 117, 112, 115]) = false := by rw [sB_toList]; exact hg
                    have q2 : ((sB hd).toList != [103, 114, 111, 117, 112, 115]) = true := by rw [bne, q1]; rfl
                    cases hg2 : (hd == T.wApply) with
                    | true =>
                      have q3 : ((sB hd).toList == [97, 112, 112, 108, 121]) = true := by rw [sB_toList]; exact hg2
                      have q4 : ((sB hd).toList != [97, 112, 112, 108, 121]) = false := by rw [bne, q3]; rfl
                      clear hg hg2
                      go_wp2
                      go_roundg (n - (i + 1))
                      case rel => exact ⟨i + 1, false, (by show _ = _; omega), rfl, by go_num, (fun h => by cases h), HB3.out⟩
                      case measure => omega
                    | false =>
                      have q3 : ((sB hd).toList == [97, 112, 112, 108, 121]) = false := by rw [sB_toList]; exact hg2
                      have q4 : ((sB hd).toList != [97, 112, 112, 108, 121]) = true := by rw [bne, q3]; rfl
                      have HPX := Lib.hid (show ∀ j, j < i + 1 → (T.at_ t j).mark = 0 ∧ T.ownB (T.pathL t j) = true by
                        intro j hj
                        by_cases h : j < i
                        · exact HPL.out rfl j h
                        · obtain rfl : j = i := by omega
                          exact ⟨HMK.out, by rw [HOW.out, hg, hg2]; rfl⟩)
                      clear hg hg2
                      go_wp2
                      go_roundg (n - (i + 1))
                      case rel => exact ⟨i + 1, true, (by show _ = _; omega), rfl, by go_num, (fun _ => HPX.out), HB3.out⟩
                      case measure => omega
                · have qm : (mk == 0) = false := beq_eq_false_iff_ne.2 hm0
                  clear hm0
                  go_wp2
                  go_roundg (n - (i + 1))
                  case rel => exact ⟨i + 1, false, (by show _ = _; omega), rfl, by go_num, (fun h => by cases h), HB3.out⟩
                  case measure => omega
            · have blt : decide ((i : Int) < (n : Int)) = false := decide_eq_false (by omega)
              have blt2 : decide (i < n) = false := decide_eq_false hlt
              replace HA := Lib.hid (HA.out.below HB.out)
              replace HU := Lib.hid (HU.out.below HB.out)
              replace HV := Lib.hid (HV.out.below HB.out)
              have hb2 := bthen hb HB.out
              clear hb
              have hb := hb2
              clear hb2
              cases pl with
              | false =>
                go_wp2_with fail
                refine (same12 B4 B5 d4 d5 m m _ _ _ true (yes_iff rfl) HMu.out HMu.out (by omega) HU.out.seen HV.out.seen).mono ?_
                rintro e wx6 ⟨rfl, hx⟩
                replace HA := Lib.hid (HA.out.below hx)
                replace HU := Lib.hid (HU.out.below hx)
                replace HV := Lib.hid (HV.out.below hx)
                replace hb := bthen hb hx
                clear hx
                go_wp2_with fail
                refine (AW _).mono ?_
                rintro e wz ⟨rfl, hx⟩
                go_wp2
                go_ret
                exact ⟨rfl, bthen hb hx⟩
              | true =>
                have HUT := Lib.hid (show u = t by
                  have h := T.expand_plain HR.out (fun x hx => by
                    obtain ⟨j, hj, e⟩ := List.mem_map.1 hx
                    rw [← e]
                    exact (HPL.out rfl j (by have := List.mem_range.1 hj; rw [HA.out.len] at this; omega)).1) (fun x hx => by
                    obtain ⟨j, hj, e⟩ := List.mem_map.1 hx
                    rw [← e]
                    exact (HPL.out rfl j (by have := List.mem_range.1 hj; rw [HA.out.len] at this; omega)).2)
                  rw [HEX.out] at h
                  exact congrArg Prod.fst h)
                go_wp2_with fail
                refine (same12 B4 B5 d4 d5 m m _ _ _ true (yes_iff rfl) HMu.out HMu.out (by omega) HU.out.seen HV.out.seen).mono ?_
                rintro e wx6 ⟨rfl, hx⟩
                replace HA := Lib.hid (HA.out.below hx)
                replace HU := Lib.hid (HU.out.below hx)
                replace HV := Lib.hid (HV.out.below hx)
                replace hb := bthen hb hx
                clear hx
                go_wp2_with fail
                refine (same12 B4 A d4 c m n _ _ _ true (yes_iff HUT.out) HMu.out HA.out.len (by omega) HU.out.seen HA.out.seen).mono ?_
                rintro e wx7 ⟨rfl, hx⟩
                replace HA := Lib.hid (HA.out.below hx)
                replace HU := Lib.hid (HU.out.below hx)
                replace HV := Lib.hid (HV.out.below hx)
                replace hb := bthen hb hx
                clear hx
                go_wp2_with fail
                refine (AW _).mono ?_
                rintro e wz ⟨rfl, hx⟩
                go_wp2
                go_ret
                exact ⟨rfl, bthen hb hx⟩
        · have hne : (er == 0) = false := beq_eq_false_iff_ne.2 he
          have hne2 : (er != 0) = true := by rw [bne, hne]; rfl
          obtain rfl : u = [] := by
            rcases T.expand_cases HR.out with ⟨e, _⟩ | ⟨e, _⟩ | ⟨v, e, _⟩
            · rw [HEX.out] at e; exact congrArg Prod.fst e
            · rw [HEX.out] at e; exact congrArg Prod.fst e
            · rw [HEX.out] at e; exact absurd (congrArg Prod.snd e) he
          obtain rfl : m = 0 := HMu.out.symm
          clear he
          go_wp2_with fail
          refine (AW _).mono ?_
          rintro e wz ⟨rfl, hx⟩
          go_wp2
          go_ret
          exact ⟨rfl, bthen hb hx⟩
    · have HR := Lib.hid hR
      clear hR
      go_wp2_with fail
      refine (right12 A c n t false _ HA.out.len HA.out.seen HA.out.small (no_iff HR.out)).mono ?_
      rintro e wx2 ⟨rfl, hx⟩
      replace HA := Lib.hid (HA.out.below hx)
      replace hb := bthen hb hx
      clear hx
      go_wp2_with fail
      refine (AW _).mono ?_
      rintro e wz ⟨rfl, hx⟩
      go_wp2
      go_ret
      exact ⟨rfl, bthen hb hx⟩
end Go.Proofs.Ytkifapbiimlafaa
