/-
  The walk of layer 14's statement HostBoth, from what host does: it returns true whatever comes in. No conditions.
-/
import Derived.Test.YtfcikfohmehmkaaGreatDoorBase14
namespace Go.Proofs.YtfcikfohmehmkaaGreatDoor
open Go.RowKit
set_option linter.unusedVariables false
/-- Does an entry flood back? -/
def backB (t : List T.Ln) (xy ow xv : List UInt8) (y : H.En) : Bool := decide (y.kind = 1) && decide (y.key = xy) && decide (y.val = ow) && decide (H.ipH t y.host = xv)

set_option maxRecDepth 100000 in
set_option maxHeartbeats 16000000 in
theorem hostBoth_walk (E : HostOk) (AW : ∀ w, RowsOk w → Calls Tryz.prog 10 #[] w (TrueS w)) (w : World) (HTAB : RowsOk w) (A : Option Addr) (c : Nat) (t : List T.Ln) (hc : t.length ≤ c) (hA : Seen eL w A t) (hlA : t.length ≤ maxLen) (hNA : NilOk A c) :
    Calls Tryz.prog 5 #[.slice A t.length c] w (TrueS w) := by
  have TAB := Lib.hid HTAB
  clear HTAB
  unfold maxLen at hlA
  have HSM := Lib.hid (fun w (h : Seen eL w A t) => small_is A c t w h)
  obtain ⟨n, hnA⟩ : ∃ n, t.length = n := ⟨_, rfl⟩
  rw [hnA] at hc hlA HSM ⊢
  have HNA := Lib.hid hnA
  have HA := Lib.hid hA
  have HOA := Lib.hid hNA
  clear hA hnA hNA
  have hb : Below w.heap.size w w := Below.refl _ _
  go_enter Tryz.func5, Tryz.ntmps5
  go_wp2_with fail
  refine (HSM.out _ HA.out).mono ?_
  rintro e wx1 ⟨bs, rfl, hsm, hx⟩
  replace HA := Lib.hid (HA.out.below hx)
  replace hb := bthen hb hx
  clear hx
  cases bs with
  | false =>
    clear hsm
    go_wp2_with fail
    refine (AW _ (rowsAt TAB hb)).mono ?_
    rintro e wz ⟨rfl, hx⟩
    go_wp2
    go_ret
    exact ⟨rfl, bthen hb hx⟩
  | true =>
  clear hsm
  by_cases h60 : n ≤ 60
  · have b1 : decide ((n : Int) > 60) = false := decide_eq_false (by omega)
    have b2 : decide ((60 : Int) < (n : Int)) = false := decide_eq_false (by omega)
    have b3 : decide (60 < n) = false := decide_eq_false (by omega)
    replace HA := Lib.hid (LArgS.mk HNA.out (by omega) hc HOA.out HA.out)
    by_cases hR : T.RightT t
    · have HR := Lib.hid hR
      clear hR
      go_wp2_with fail
      refine (right13 A c n t true _ HNA.out HA.out.seen (by omega) (yes_iff HR.out)).mono ?_
      rintro e wx2 ⟨rfl, hx⟩
      replace HA := Lib.hid (HA.out.below hx)
      replace hb := bthen hb hx
      clear hx b1 b2 b3
      obtain ⟨L, er, hI⟩ := comp_ex t
      have HI := Lib.hid hI
      obtain ⟨m, hm⟩ : ∃ m, L.length = m := ⟨_, rfl⟩
      have HM := Lib.hid hm
      have hmm : m ≤ 32040000 := by rw [← hm]; exact comp_few hI (by have := HNA.out; omega)
      clear hI hm
      go_wp2_with fail
      refine (E.compileOf A c n m t L er _ HA.out HI.out HM.out (rowsAt TAB (by first | assumption | exact Below.refl _ _ | exact Hid.out (by assumption) | exact bthen (by assumption) (by assumption) | exact bthen (Hid.out (by assumption)) (by assumption) | exact below_drawn13 (by first | assumption | exact Below.refl _ _ | exact Hid.out (by assumption)) _))).mono ?_
      rintro e wx3 ⟨B3, d3, rfl, hd3, hs, hx⟩
      replace HA := Lib.hid (HA.out.below hx)
      replace hb := bthen hb hx
      have HS := Lib.hid hs
      clear hx hs
      by_cases he : er = 0
      · subst he
        have HCL := Lib.hid (show C.checkP (C.pths t) = [] by
          rcases HI.out with ⟨_, h, _⟩ | ⟨_, _, _, h⟩ | ⟨_, _, h⟩
          · exact h
          · cases h
          · cases h)
        have HLT := Lib.hid (show L = H.tablesL t by
          rcases HI.out with ⟨_, _, h, _⟩ | ⟨_, _, _, h⟩ | ⟨_, _, h⟩
          · exact h
          · cases h
          · cases h)
        obtain ⟨hs, hhs⟩ : ∃ l, T.underW t [C.wHosts] = l := ⟨_, rfl⟩
        have HHS := Lib.hid hhs
        obtain ⟨q, hq⟩ : ∃ q, hs.length = q := ⟨_, rfl⟩
        have HQ := Lib.hid hq
        have hqn : q ≤ n := by rw [← hq, ← hhs, ← HNA.out]; exact T.underW_len HR.out _
        have HTH := Lib.hid (fun x (h : x ∈ L) => show x.host ∈ hs by rw [← hhs]; exact H.tables_there (by rw [← HLT.out]; exact h))
        have HIP := Lib.hid (fun (b : List UInt8) (h : b ∈ hs) => show ∃ x, T.underW t [C.wHosts, b, C.wIp] = [x] from H.host_ip HR.out HCL.out (by rw [hhs]; exact h))
        have HFB := Lib.hid (fun x (h : x ∈ L) (hk : x.kind = 1) => show ∃ y ∈ L, y.kind = 1 ∧ y.key = x.key ∧ y.val = H.ipH t x.host ∧ H.ipH t y.host = x.val by rw [HLT.out] at h ⊢; exact H.flood_back h hk)
        clear hhs hq
        go_wp2_with fail
        refine (underM14 A c n t _ 1 1 q [C.wHosts] hs _ HNA.out rfl (HA.out.seen.below (up _ _)) (lit_seen eS wx3 [C.wHosts] _ rfl (by simp)) (by omega) (by omega) HR.out HHS.out HQ.out).mono ?_
        rintro e wx4 ⟨B4, d4, rfl, hd4, hs4, hx⟩
        have hx4 := bthen (up wx3 _) hx
        replace HA := Lib.hid (HA.out.below hx4)
        replace hb := bthen hb hx4
        replace HS := Lib.hid (HS.out.below hx4)
        have HS4 := Lib.hid hs4
        have HBB := Lib.hid hb
        clear hx hx4 hs4 hb
        go_wp2
        go_loopg [7, 8, 9, 11, 12, 14, 15, 52] m (fun g v7 v8 v9 v11 v12 v14 v15 vi wr => ∃ i : Nat, Hid (i + g = m) ∧ vi = .int .i64 (i : Int) ∧ Hid (Below wx4.heap.size wx4 wr))
        case atStart => exact ⟨0, Nat.zero_add _, rfl, Below.refl _ _⟩
        case round =>
          obtain ⟨i, HG, rfl, HB⟩ := hrel
          have hgk := HG.out
          by_cases hlt : i < m
          · have blt : decide ((i : Int) < (m : Int)) = true := decide_eq_true (by omega)
            have blt2 : decide (i < m) = true := decide_eq_true hlt
            have hiz : (i : Int) < (m : Int) := by omega
            have hiL : i < L.length := by rw [HM.out]; exact hlt
            obtain ⟨bL, oL, rfl, hwL, hLL⟩ := HS.out (by omega)
            obtain ⟨l0, l1, l2, l3⟩ := (hLL.below HB.out hwL).entry rfl rfl hiL
            have hxL : L[i] ∈ L := List.getElem_mem hiL
            generalize L[i] = x at l0 l1 l2 l3 hxL
            have HXI := Lib.hid (HTH.out x hxL)
            have HXF := Lib.hid (HFB.out x hxL)
            obtain ⟨xh, xk, xy, xv⟩ := x
            simp only at l0 l1 l2 l3 HXI HXF
            obtain ⟨ow, how⟩ := HIP.out xh HXI.out
            have HOW := Lib.hid how
            have HOI := Lib.hid (show H.ipH t xh = ow by unfold H.ipH; exact H.word_is how)
            obtain ⟨wo, hwo⟩ : ∃ z, z = wr := ⟨_, rfl⟩
            subst hwo
            have HLL := Lib.hid hLL
            have HEX := Lib.hid (ent_laid wo xh xk xy xv)
            obtain ⟨y0, y1, y2, y3, hg0⟩ := ent_laid wo xh xk xy xv
            have HUP := Lib.hid (up wo (.cells #[.string (sB xh), .int .i64 xk, .string (sB xy), .string (sB xv)] 35))
            obtain ⟨fl, hfl⟩ : ∃ z, decide (xk = 1) = z := ⟨_, rfl⟩
            have HFLD := Lib.hid hfl
            have f1 : (xk == 1) = fl := by rw [← hfl, Bool.eq_iff_iff, beq_iff_eq, decide_eq_true_eq]
            have f2 : (xk != 1) = !fl := by rw [bne, f1]
            clear hLL how hxL hfl
            go_wp2
            go_quiet (fail)
            go_wp2
            go_loopg [8, 11, 61] q (fun g2 vt vh vj w2 => ∃ (k : Nat) (b : Bool), Hid (k + g2 = q) ∧ vj = .int .i64 (k : Int) ∧ vt = .bool b ∧ Hid (b = decide (xh ∈ hs.take k)) ∧ Hid (EntAt w2 wo.heap.size xh xk xy xv) ∧ Hid (Below wx4.heap.size wx4 w2))
            case atStart => exact ⟨0, false, Nat.zero_add _, rfl, rfl, (by show _ = _; simp), ent_below HEX.out (drew_below _ _), HB.out.trans ((HUP.out.trans ((drew_below _ _).mono HUP.out.size)).mono HB.out.size)⟩
            case round =>
              obtain ⟨k, b, HG2, rfl, rfl, HIN, HE2, HB2⟩ := hrel
              have hgk2 := HG2.out
              obtain ⟨z0, z1, z2, z3, hz⟩ := HE2.out
              by_cases hlk : k < q
              · have blk : decide ((k : Int) < (q : Int)) = true := decide_eq_true (by omega)
                have blk2 : decide (k < q) = true := decide_eq_true hlk
                have hkz : (k : Int) < (q : Int) := by omega
                have hkh : k < hs.length := by rw [HQ.out]; exact hlk
                obtain ⟨b4, o4, rfl, hw4, hL4⟩ := HS4.out (by omega)
                have c4 := (hL4.below HB2.out hw4).str hkh
                have HTK := Lib.hid (List.take_succ_eq_append_getElem hkh)
                generalize hs[k] = hh at c4 HTK
                clear hL4
                cases b with
                | true =>
                  have HNX := Lib.hid (show true = decide (xh ∈ hs.take (k + 1)) by
                    rw [HTK.out]; exact (decide_eq_true (List.mem_append_left _ (of_decide_eq_true HIN.out.symm))).symm)
                  go_wp2
                  go_roundg (q - (k + 1))
                  case rel => exact ⟨k + 1, true, (by show _ = _; omega), by go_num, rfl, HNX.out, HE2.out, HB2.out⟩
                  case measure => omega
                | false =>
                  by_cases he2 : hh = xh
                  · have n0 := sB_eq he2
                    have HNX := Lib.hid (show true = decide (xh ∈ hs.take (k + 1)) by
                      rw [HTK.out, he2]; exact (decide_eq_true (List.mem_append_right _ (List.mem_singleton.2 rfl))).symm)
                    clear he2
                    go_wp2
                    go_roundg (q - (k + 1))
                    case rel => exact ⟨k + 1, true, (by show _ = _; omega), by go_num, rfl, HNX.out, HE2.out, HB2.out⟩
                    case measure => omega
                  · have n0 := sB_ne he2
                    have HNX := Lib.hid (show false = decide (xh ∈ hs.take (k + 1)) by
                      rw [HTK.out]
                      refine (decide_eq_false fun hm => ?_).symm
                      rcases List.mem_append.1 hm with hm | hm
                      · exact of_decide_eq_false HIN.out.symm hm
                      · exact he2 (List.mem_singleton.1 hm).symm)
                    clear he2
                    go_wp2
                    go_roundg (q - (k + 1))
                    case rel => exact ⟨k + 1, false, (by show _ = _; omega), by go_num, rfl, HNX.out, HE2.out, HB2.out⟩
                    case measure => omega
              · have blk : decide ((k : Int) < (q : Int)) = false := decide_eq_false (by omega)
                have blk2 : decide (k < q) = false := decide_eq_false hlk
                have hbt : b = true := by
                  rw [HIN.out, List.take_of_length_le (by rw [HQ.out]; omega)]
                  exact decide_eq_true HXI.out
                subst hbt
                obtain ⟨wp, hwp⟩ : ∃ z, z = wr := ⟨_, rfl⟩
                subst hwp
                go_wp2_with fail
                refine (underM14 A c n t _ 3 3 1 [C.wHosts, xh, C.wIp] [ow] _ HNA.out rfl (HA.out.seen.below (bthen HB2.out (up _ _))) (lit_seen eS wp [C.wHosts, xh, C.wIp] _ rfl (by simp)) (by omega) (by omega) HR.out HOW.out rfl).mono ?_
                rintro e w5 ⟨B5, d5, rfl, hd5, hs5, hx5⟩
                have hx5 := bthen (up _ _) hx5
                have HE5 := Lib.hid (ent_below HE2.out hx5)
                have HB5 := Lib.hid (bthen HB2.out hx5)
                obtain ⟨b5, o5, rfl, hw5, hL5⟩ := hs5 (by simp)
                have c5 := hL5.str (i := 0) (by simp)
                simp only [List.getElem_cons_zero, Nat.add_zero] at c5
                have HC5 := Lib.hid c5
                clear hx5 hs5 hd5 hL5 z0 z1 z2 z3 hz c5
                go_wp2
                go_loopg [9, 14, 15, 80] m (fun g2 vb v14 v15 vj w2 => ∃ (k : Nat) (b : Bool), Hid (k + g2 = m) ∧ vj = .int .i64 (k : Int) ∧ vb = .bool b ∧ Hid (b = (!fl || (L.take k).any (backB t xy ow xv))) ∧ Hid (Below w5.heap.size w5 w2))
                case atStart => exact ⟨0, !fl, Nat.zero_add _, rfl, rfl, (by show _ = _; simp), Below.refl _ _⟩
                case round =>
                  obtain ⟨k, b, HG3, rfl, rfl, HBK, HB3⟩ := hrel
                  have hgk3 := HG3.out
                  by_cases hlm : k < m
                  · have blk : decide ((k : Int) < (m : Int)) = true := decide_eq_true (by omega)
                    have blk2 : decide (k < m) = true := decide_eq_true hlm
                    have hkz : (k : Int) < (m : Int) := by omega
                    have hkL : k < L.length := by rw [HM.out]; exact hlm
                    have HBW := Lib.hid (bthen HB5.out HB3.out)
                    obtain ⟨bM, oM, eqM, hwM, hLM⟩ := HS.out (by omega)
                    injection eqM with eqM
                    injection eqM with eq1 eq2
                    subst eq1
                    subst eq2
                    obtain ⟨m0, m1, m2, m3⟩ := (hLM.below HBW.out hwM).entry rfl rfl hkL
                    have hyL : L[k] ∈ L := List.getElem_mem hkL
                    have HTK := Lib.hid (List.take_succ_eq_append_getElem hkL)
                    generalize L[k] = y at m0 m1 m2 m3 hyL HTK
                    have HYI := Lib.hid (HTH.out y hyL)
                    obtain ⟨yh, yk, yy, yv⟩ := y
                    simp only at m0 m1 m2 m3 HYI
                    obtain ⟨iy, hiy⟩ := HIP.out yh HYI.out
                    have HIY := Lib.hid hiy
                    have HNXT := Lib.hid (show (L.take (k + 1)).any (backB t xy ow xv) = ((L.take k).any (backB t xy ow xv) || backB t xy ow xv ⟨yh, yk, yy, yv⟩) by rw [HTK.out, List.any_append]; simp)
                    have HBD := Lib.hid (show backB t xy ow xv ⟨yh, yk, yy, yv⟩ = (decide (yk = 1) && decide (yy = xy) && decide (yv = ow) && decide (iy = xv)) by
                      unfold backB H.ipH; rw [H.word_is hiy])
                    obtain ⟨wk, hwk⟩ : ∃ z, z = wr := ⟨_, rfl⟩
                    subst hwk
                    have HEY := Lib.hid (ent_laid wk yh yk yy yv)
                    obtain ⟨x0, x1, x2, x3, hx0⟩ := ent_laid wk yh yk yy yv
                    have hupk := up wk (.cells #[.string (sB yh), .int .i64 yk, .string (sB yy), .string (sB yv)] 35)
                    have HUPK := Lib.hid hupk
                    have HAK := Lib.hid (HA.out.seen.below (bthen HBW.out hupk))
                    have HEX5 := Lib.hid (ent_below HE5.out (bthen HB3.out hupk))
                    clear hLM hyL hiy hupk
                    go_wp2_with fail
                    refine (underM14 A c n t (some ⟨wk.heap.size + 1, 0, none⟩) 3 3 1 [C.wHosts, yh, C.wIp] [iy] _ HNA.out rfl (HAK.out.below (up _ _)) (lit_at14 _ [C.wHosts, yh, C.wIp] _ _ (by simp) rfl (by simp)) (by omega) (by omega) HR.out HIY.out rfl).mono ?_
                    rintro e w7 ⟨B7, d7, rfl, hd7, hs7, hx7⟩
                    have hx7 := bthen (up _ _) hx7
                    obtain ⟨p0, p1, p2, p3, _⟩ := ent_below HEX5.out hx7
                    obtain ⟨q0, q1, q2, q3, _⟩ := ent_below HEY.out hx7
                    obtain ⟨b7, o7, rfl, hw7, hL7⟩ := hs7 (by simp)
                    have c7 := hL7.str (i := 0) (by simp)
                    simp only [List.getElem_cons_zero, Nat.add_zero] at c7
                    have HB7 := Lib.hid (bthen HB3.out (bthen HUPK.out hx7))
                    have c5 : w7.cell? ⟨b5, o5, none⟩ = some (.string (sB ow)) := ((bthen HB3.out (bthen HUPK.out hx7)).cell (p := ⟨b5, o5, none⟩) hw5).trans HC5.out
                    clear hx7 hs7 hd7 hL7 x0 x1 x2 x3 hx0 m0 m1 m2 m3
                    cases b with
                    | true =>
                      have HNX := Lib.hid (show true = (!fl || (L.take (k + 1)).any (backB t xy ow xv)) by
                        rw [HNXT.out, ← Bool.or_assoc, ← HBK.out]; rfl)
                      go_wp2
                      go_quiet (fail)
                      go_wp2
                      go_roundg (m - (k + 1))
                      case rel => exact ⟨k + 1, true, (by show _ = _; omega), by go_num, rfl, HNX.out, bthen HB7.out (drew_below _ _)⟩
                      case measure => omega
                    | false =>
                      by_cases e1 : yk = 1
                      · have g1 : (yk == 1) = true := by rw [beq_iff_eq]; exact e1
                        by_cases e2 : yy = xy
                        · have g2 := sB_eq e2
                          by_cases e3 : yv = ow
                          · have g3 := sB_eq e3
                            by_cases e4 : iy = xv
                            · have g4 := sB_eq e4
                              have HNX := Lib.hid (show true = (!fl || (L.take (k + 1)).any (backB t xy ow xv)) by rw [HNXT.out, ← Bool.or_assoc, ← HBK.out, HBD.out, decide_eq_true e1, decide_eq_true e2, decide_eq_true e3, decide_eq_true e4]; rfl)
                              clear e1 e2 e3 e4
                              go_wp2
                              go_quiet (fail)
                              go_wp2
                              go_roundg (m - (k + 1))
                              case rel => exact ⟨k + 1, true, (by show _ = _; omega), by go_num, rfl, HNX.out, bthen HB7.out (drew_below _ _)⟩
                              case measure => omega
                            · have g4 := sB_ne e4
                              have HNX := Lib.hid (show false = (!fl || (L.take (k + 1)).any (backB t xy ow xv)) by rw [HNXT.out, ← Bool.or_assoc, ← HBK.out, HBD.out, decide_eq_false e4, Bool.and_false]; rfl)
                              clear e1 e2 e3 e4
                              go_wp2
                              go_quiet (fail)
                              go_wp2
                              go_roundg (m - (k + 1))
                              case rel => exact ⟨k + 1, false, (by show _ = _; omega), by go_num, rfl, HNX.out, bthen HB7.out (drew_below _ _)⟩
                              case measure => omega
                          · have g3 := sB_ne e3
                            have HNX := Lib.hid (show false = (!fl || (L.take (k + 1)).any (backB t xy ow xv)) by rw [HNXT.out, ← Bool.or_assoc, ← HBK.out, HBD.out, decide_eq_false e3, Bool.and_false, Bool.false_and]; rfl)
                            clear e1 e2 e3
                            go_wp2
                            go_quiet (fail)
                            go_wp2
                            go_roundg (m - (k + 1))
                            case rel => exact ⟨k + 1, false, (by show _ = _; omega), by go_num, rfl, HNX.out, bthen HB7.out (drew_below _ _)⟩
                            case measure => omega
                        · have g2 := sB_ne e2
                          have HNX := Lib.hid (show false = (!fl || (L.take (k + 1)).any (backB t xy ow xv)) by rw [HNXT.out, ← Bool.or_assoc, ← HBK.out, HBD.out, decide_eq_false e2, Bool.and_false, Bool.false_and, Bool.false_and]; rfl)
                          clear e1 e2
                          go_wp2
                          go_quiet (fail)
                          go_wp2
                          go_roundg (m - (k + 1))
                          case rel => exact ⟨k + 1, false, (by show _ = _; omega), by go_num, rfl, HNX.out, bthen HB7.out (drew_below _ _)⟩
                          case measure => omega
                      · have g1 : (yk == 1) = false := by
                          cases e : (yk == 1) with
                          | false => rfl
                          | true => exact absurd (beq_iff_eq.1 e) e1
                        have HNX := Lib.hid (show false = (!fl || (L.take (k + 1)).any (backB t xy ow xv)) by rw [HNXT.out, ← Bool.or_assoc, ← HBK.out, HBD.out, decide_eq_false e1, Bool.false_and, Bool.false_and, Bool.false_and]; rfl)
                        clear e1
                        go_wp2
                        go_quiet (fail)
                        go_wp2
                        go_roundg (m - (k + 1))
                        case rel => exact ⟨k + 1, false, (by show _ = _; omega), by go_num, rfl, HNX.out, bthen HB7.out (drew_below _ _)⟩
                        case measure => omega
                  · have blk : decide ((k : Int) < (m : Int)) = false := decide_eq_false (by omega)
                    have blk2 : decide (k < m) = false := decide_eq_false hlm
                    have hbt : b = true := by
                      rw [HBK.out, List.take_of_length_le (by rw [HM.out]; omega)]
                      cases hfl : fl with
                      | false => rfl
                      | true =>
                        obtain ⟨y, hy, k1, k2, k3, k4⟩ := HXF.out (of_decide_eq_true (HFLD.out.trans hfl))
                        rw [HOI.out] at k3
                        show (false || L.any _) = true
                        rw [Bool.false_or, List.any_eq_true]
                        refine ⟨y, hy, ?_⟩
                        unfold backB
                        rw [decide_eq_true k1, decide_eq_true k2, decide_eq_true k3, decide_eq_true k4]; rfl
                    subst hbt
                    go_wp2
                    go_roundg (m - (i + 1))
                    case rel => exact ⟨i + 1, (by show _ = _; omega), by go_num, bthen HB5.out HB3.out⟩
                    case measure => omega
          · have blt : decide ((i : Int) < (m : Int)) = false := decide_eq_false (by omega)
            have blt2 : decide (i < m) = false := decide_eq_false hlt
            go_wp2_with fail
            refine (AW _ (rowsAt TAB (bthen HBB.out HB.out))).mono ?_
            rintro e wz ⟨rfl, hx⟩
            go_wp2
            go_ret
            exact ⟨rfl, bthen (bthen HBB.out HB.out) hx⟩
      · have HE := Lib.hid (show L = [] ∧ er = 7 by
          rcases HI.out with ⟨_, _, _, h⟩ | ⟨_, _, h1, h2⟩ | ⟨h, _⟩
          · exact absurd h he
          · exact ⟨h1, h2⟩
          · exact absurd HR.out h)
        obtain ⟨rfl, rfl⟩ := HE.out
        obtain rfl : m = 0 := HM.out.symm
        clear he
        go_wp2_with fail
        refine (AW _ (rowsAt TAB hb)).mono ?_
        rintro e wz ⟨rfl, hx⟩
        go_wp2
        go_ret
        exact ⟨rfl, bthen hb hx⟩
    · have HR := Lib.hid hR
      clear hR
      go_wp2_with fail
      refine (right13 A c n t false _ HNA.out HA.out.seen (by omega) (no_iff HR.out)).mono ?_
      rintro e wx4 ⟨rfl, hx⟩
      replace hb := bthen hb hx
      clear hx
      go_wp2_with fail
      refine (AW _ (rowsAt TAB hb)).mono ?_
      rintro e wz ⟨rfl, hx⟩
      go_wp2
      go_ret
      exact ⟨rfl, bthen hb hx⟩
  · have b1 : decide ((n : Int) > 60) = true := decide_eq_true (by omega)
    have b2 : decide ((60 : Int) < (n : Int)) = true := decide_eq_true (by omega)
    have b3 : decide (60 < n) = true := decide_eq_true (by omega)
    go_wp2_with fail
    refine (AW _ (rowsAt TAB hb)).mono ?_
    rintro e wz ⟨rfl, hx⟩
    go_wp2
    go_ret
    exact ⟨rfl, bthen hb hx⟩
end Go.Proofs.YtfcikfohmehmkaaGreatDoor
