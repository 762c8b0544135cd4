/-
  The walk of layer 14's statement HostLess, from what host does: it returns true whatever comes in. No conditions.
-/
import Derived.Test.YtfcikfohmehmkaaGreatDoorBase14
namespace Go.Proofs.YtfcikfohmehmkaaGreatDoor
open Go.RowKit
set_option linter.unusedVariables false

theorem want_next {l : List H.En} {k : Nat} (hk : k < l.length) {y : H.En} (hy : l[k] = y) (kd : Int) (w : List UInt8) : H.wantL (l.take (k + 1)) kd w = H.wantL (l.take k) kd w ++ if y.kind = kd ∧ y.key = w then [] else [y] := by
  unfold H.wantL
  rw [List.take_succ_eq_append_getElem hk, List.filter_append, hy]
  congr 1
  by_cases h1 : y.kind = kd
  · by_cases h2 : y.key = w
    · rw [if_pos ⟨h1, h2⟩]; simp [List.filter, h1, h2]
    · rw [if_neg (fun h => h2 h.2)]; simp [List.filter, h2]
  · rw [if_neg (fun h => h1 h.1)]; simp [List.filter, h1]
set_option maxRecDepth 100000 in
set_option maxHeartbeats 16000000 in
theorem hostLess_walk (E : HostOk) (AW : ∀ w, RowsOk w → Calls Tryz.prog 10 #[] w (TrueS w)) (w : World) (HTAB : RowsOk w) (A : Option Addr) (c : Nat) (t : List T.Ln) (hc : t.length ≤ c) (hA : Seen eL w A t) (hlA : t.length ≤ maxLen) (hNA : NilOk A c) (by0 : Int) (wby : (Lit.int .u8 by0).wf = true) (pol : Bool) :
    Calls Tryz.prog 8 #[.slice A t.length c, .int .u8 by0, .bool pol] w (TrueS w) := by
  have TAB := Lib.hid HTAB
  clear HTAB
  unfold maxLen at hlA
  have HSM := Lib.hid (fun w (h : Seen eL w A t) => small_is A c t w h)
  obtain ⟨n, hnA⟩ : ∃ n, t.length = n := ⟨_, rfl⟩
  rw [hnA] at hc hlA HSM ⊢
  have HNA := Lib.hid hnA
  have HA := Lib.hid hA
  have HOA := Lib.hid hNA
  obtain ⟨hb0, hb255⟩ := bounds_u8 wby
  clear wby
  obtain ⟨by_, rfl⟩ := Int.eq_ofNat_of_zero_le hb0
  have hby : by_ ≤ 255 := by omega
  clear hA hnA hNA hb0 hb255
  have hb : Below w.heap.size w w := Below.refl _ _
  cases pol with
  | false =>
    go_enter Tryz.func8, Tryz.ntmps8
    go_wp2_with fail
    refine (HSM.out _ HA.out).mono ?_
    rintro e wx1 ⟨bs, rfl, hsm, hx⟩
    replace HA := Lib.hid (HA.out.below hx)
    replace hb := bthen hb hx
    clear hx
    cases bs with
    | false =>
      clear hsm
      go_wp2_with fail
      refine (AW _ (rowsAt TAB hb)).mono ?_
      rintro e wz ⟨rfl, hx⟩
      go_wp2
      go_ret
      exact ⟨rfl, bthen hb hx⟩
    | true =>
    clear hsm
    by_cases h60 : n ≤ 60
    · have b1 : decide ((n : Int) > 60) = false := decide_eq_false (by omega)
      have b2 : decide ((60 : Int) < (n : Int)) = false := decide_eq_false (by omega)
      have b3 : decide (60 < n) = false := decide_eq_false (by omega)
      replace HA := Lib.hid (LArgS.mk HNA.out (by omega) hc HOA.out HA.out)
      by_cases hR : T.RightT t
      · have HR := Lib.hid hR
        clear hR
        go_wp2_with fail
        refine (right13 A c n t true _ HNA.out HA.out.seen (by omega) (yes_iff HR.out)).mono ?_
        rintro e wx2 ⟨rfl, hx⟩
        replace HA := Lib.hid (HA.out.below hx)
        replace hb := bthen hb hx
        clear hx b1 b2 b3
        obtain ⟨L, er, hI⟩ := comp_ex t
        have HI := Lib.hid hI
        obtain ⟨m, hm⟩ : ∃ m, L.length = m := ⟨_, rfl⟩
        have HM := Lib.hid hm
        have hmm : m ≤ 32040000 := by rw [← hm]; exact comp_few hI (by have := HNA.out; omega)
        obtain ⟨all, hall⟩ : ∃ l, T.underW t [C.wRoutes] = l := ⟨_, rfl⟩
        have HALL := Lib.hid hall
        obtain ⟨q, hq⟩ : ∃ q, all.length = q := ⟨_, rfl⟩
        have HQ := Lib.hid hq
        have hqn : q ≤ n := by rw [← hq, ← hall, ← HNA.out]; exact T.underW_len HR.out _
        clear hI hm hall hq
        go_wp2_with fail
        refine (E.compileOf A c n m t L er _ HA.out HI.out HM.out (rowsAt TAB (by first | assumption | exact Below.refl _ _ | exact Hid.out (by assumption) | exact bthen (by assumption) (by assumption) | exact bthen (Hid.out (by assumption)) (by assumption) | exact below_drawn13 (by first | assumption | exact Below.refl _ _ | exact Hid.out (by assumption)) _))).mono ?_
        rintro e wx3 ⟨B3, d3, rfl, hd3, hs, hx⟩
        replace HA := Lib.hid (HA.out.below hx)
        replace hb := bthen hb hx
        have HS := Lib.hid hs
        clear hx hs
        go_wp2_with fail
        refine (underM14 A c n t _ 1 1 q [C.wRoutes] all _ HNA.out rfl (HA.out.seen.below (up _ _)) (lit_seen eS wx3 [C.wRoutes] _ rfl (by simp)) (by omega) (by omega) HR.out HALL.out HQ.out).mono ?_
        rintro e wx4 ⟨B4, d4, rfl, hd4, hs4, hx⟩
        have hx4 := bthen (up wx3 _) hx
        replace HA := Lib.hid (HA.out.below hx4)
        replace hb := bthen hb hx4
        replace HS := Lib.hid (HS.out.below hx4)
        have HS4 := Lib.hid hs4
        clear hx hx4 hs4
        by_cases he : er = 0
        · subst he
          have HCL := Lib.hid (show C.checkP (C.pths t) = [] by
            rcases HI.out with ⟨_, h, _⟩ | ⟨_, _, _, h⟩ | ⟨_, _, h⟩
            · exact h
            · cases h
            · cases h)
          have HLT := Lib.hid (show L = H.tablesL t by
            rcases HI.out with ⟨_, _, h, _⟩ | ⟨_, _, _, h⟩ | ⟨_, _, h⟩
            · exact h
            · cases h
            · cases h)
          by_cases h0 : q = 0
          · subst h0
            go_wp2_with fail
            refine (AW _ (rowsAt TAB hb)).mono ?_
            rintro e wz ⟨rfl, hx⟩
            go_wp2
            go_ret
            exact ⟨rfl, bthen hb hx⟩
          · have q1 : ((q : Int) == 0) = false := by simp; omega
            obtain ⟨j, hj⟩ : ∃ j, by_ % q = j := ⟨_, rfl⟩
            have hjq : j < q := by rw [← hj]; exact Nat.mod_lt _ (by omega)
            have hji : (j : Int) < (q : Int) := by omega
            have hm1 : (by_ : Int) % (q : Int) = (j : Int) := by rw [← hj]; rfl
            have hm2 : ((by_ : Int)).tmod (q : Int) = (j : Int) := by rw [← hj]; rfl
            have hja : j < all.length := by have := HQ.out; omega
            obtain ⟨b4, o4, rfl, hw4, hL4⟩ := HS4.out (by omega)
            have c0 := hL4.str hja
            have HXI := Lib.hid (T.mem_underW.1 (show all[j] ∈ T.underW t [C.wRoutes] by rw [HALL.out]; exact List.getElem_mem hja))
            generalize all[j] = x at c0 HXI
            have HXL := Lib.hid HXI.out
            clear hj hja hL4
            go_wp2_with fail
            refine (findN13 A _ c 2 n 2 t [C.wRoutes, x] _ HNA.out rfl (HA.out.seen.below (up _ _)) (lit_seen eS wx4 [C.wRoutes, x] _ rfl (by simp)) (by omega) (by omega) HR.out).mono ?_
            rintro e wx5 ⟨⟨a, hatl, hpa, rfl⟩ | ⟨hno, rfl⟩, hx⟩
            · have hx5 := bthen (up wx4 _) hx
              replace HA := Lib.hid (HA.out.below hx5)
              replace hb := bthen hb hx5
              replace HS := Lib.hid (HS.out.below hx5)
              clear hx hx5
              obtain ⟨bt, ot, rfl, hwt, hLt⟩ := HA.out.seen.lines (by have := HNA.out; omega)
              obtain ⟨e0, he0⟩ : ∃ e, T.endL t a = e := ⟨_, rfl⟩
              obtain ⟨g1, g2, _⟩ := T.end_spec t a hatl
              rw [he0] at g1 g2
              obtain ⟨u, hu⟩ : ∃ u, T.cutL t a = u := ⟨_, rfl⟩
              have HU := Lib.hid hu
              have hlc := H.less_cut HR.out hatl hpa
              rw [hu] at hlc
              have HLC := Lib.hid hlc
              have HUI := Lib.hid (show CompIs u (H.wantL L 4 x) 0 from .inl ⟨HLC.out.right, HLC.out.clean (by decide) (by decide) HCL.out, by rw [HLT.out]; exact (H.less_route HLC.out HCL.out).symm, rfl⟩)
              obtain ⟨nu, hnu⟩ : ∃ nu, u.length = nu := ⟨_, rfl⟩
              have HU2 := Lib.hid hnu
              have hu200 : nu ≤ 200 := by rw [← hnu]; exact HLC.out.right.len
              have HE0 := Lib.hid he0
              have HCUT := Lib.hid (show [] ++ t.take a ++ t.drop e0 = u by rw [← hu]; exact cutL_is t a e0 he0)
              have HH := Lib.hid hLt
              have hnt := HNA.out
              have HTK := Lib.hid (show (t.take a).length = a by rw [List.length_take]; omega)
              have HDR := Lib.hid (show (t.drop e0).length = n - e0 by rw [List.length_drop, hnt])
              have han : a < n := by omega
              have hai : (a : Int) ≤ (c : Int) := by omega
              have hei : (e0 : Int) ≤ (n : Int) := by omega
              have hac : a ≤ c := by omega
              have he0n : e0 ≤ n := by omega
              clear hlc hu hnu he0 hLt g1 g2 hnt
              rcases Nat.lt_or_ge e0 c with hec | hec
              · go_wp2_with (at_builtin; refine wpList_appSrc eL wx5 rfl (.tmp 73) (.tmp 76) rfl wx5.heap.size (.slice none 0 0) [] rfl (Own.nil _ _) bt ot (t.take a) a c HTK.out rfl (HH.out.take a) (by simp; omega) (Nat.le_refl _) ?_; intro v6 w6 hown6 hx6)
                refine (endN13 (some ⟨bt, ot, none⟩) c n t a _ HNA.out (HA.out.seen.below hx6) han (by omega)).mono ?_
                rintro e w7 ⟨rfl, hx7⟩
                rw [HE0.out]
                have HO7 := Lib.hid (hown6.keep hx7)
                have HB7 := Lib.hid (bthen hx6 hx7)
                have HBK := HB7
                have hs7 := HB7.out.size
                clear hown6 hx6 hx7
                go_wp2_with (at_builtin; refine wpList_appSrc eL w7 rfl (.tmp 78) (.tmp 83) rfl wx5.heap.size v6 ([] ++ t.take a) rfl HO7.out bt (ot + e0 * 3) (t.drop e0) (n - e0) (c - e0) HDR.out rfl ((HH.out.belowN HB7.out hwt).drop e0) (by rw [List.nil_append, HTK.out]; omega) hs7 ?_; intro v8 w8 hown8 hb8x)
                rw [HCUT.out] at hown8
                obtain ⟨B8, d8, rfl, hla⟩ := own_arg hown8 HU2.out hu200
                have HLA := Lib.hid hla
                replace HS := Lib.hid (HS.out.below (HBK.out.trans hb8x))
                have hb8' := bthen hb (HBK.out.trans hb8x)
                clear hown8 hla hb8x
                go_wp2
                go_loopg [15, 87] m (fun gk vo vi wr => ∃ k : Nat, Hid (k + gk = m) ∧ k ≤ m ∧ vi = .int .i64 (k : Int) ∧ Hid (Own eEd wr w8.heap.size vo (H.wantL (L.take k) 4 x)) ∧ Below w8.heap.size w8 wr)
                case atStart => exact ⟨0, Nat.zero_add _, Nat.zero_le _, rfl, Own.nil _ _, Below.refl _ _⟩
                case round =>
                  obtain ⟨k, HG, hk, rfl, HO, hbr⟩ := hrel
                  have hgk := HG.out
                  by_cases hlt : k < m
                  · have blt : decide ((k : Int) < (m : Int)) = true := decide_eq_true (by omega)
                    have blt2 : decide (k < m) = true := decide_eq_true hlt
                    have hki : (k : Int) < (m : Int) := by omega
                    have hkl : k < L.length := by have := HM.out; omega
                    obtain ⟨b, o, rfl, hwb, hL⟩ := HS.out (by omega)
                    obtain ⟨q0, q1', q2, q3⟩ := (hL.below hbr hwb).entry rfl rfl hkl
                    obtain ⟨y, hy⟩ : ∃ y, L[k] = y := ⟨_, rfl⟩
                    obtain ⟨yh, yk, yy, yv⟩ := y
                    have HX := Lib.hid (want_next hkl hy 4 x)
                    rw [hy] at q0 q1' q2 q3
                    simp only at q0 q1' q2 q3
                    have hb1 := up wr (.cells #[.string (sB yh), .int .i64 yk, .string (sB yy), .string (sB yv)] 35)
                    have HO1 := Lib.hid (HO.out.keep hb1)
                    have hbw := bthen hbr hb1
                    have HLN := Lib.hid (show (H.wantL (L.take k) 4 x).length + 1 ≤ 1099511627776 by
                      have h1 := List.length_filter_le (fun z : H.En => !(decide (z.kind = 4) && decide (z.key = x))) (L.take k)
                      rw [List.length_take] at h1
                      show (List.filter _ _).length + 1 ≤ _
                      omega)
                    have hszx := hbw.size
                    have y0 : (wr.alloc (.cells #[.string (sB yh), .int .i64 yk, .string (sB yy), .string (sB yv)] 35)).cell? ⟨wr.heap.size, 0, none⟩ = some (.string (sB yh)) := World.cell?_alloc_mark wr _ _ (0, 0) 0
                    have y1 : (wr.alloc (.cells #[.string (sB yh), .int .i64 yk, .string (sB yy), .string (sB yv)] 35)).cell? ⟨wr.heap.size, 1, none⟩ = some (.int .i64 yk) := World.cell?_alloc_mark wr _ _ (0, 0) 1
                    have y2 : (wr.alloc (.cells #[.string (sB yh), .int .i64 yk, .string (sB yy), .string (sB yv)] 35)).cell? ⟨wr.heap.size, 2, none⟩ = some (.string (sB yy)) := World.cell?_alloc_mark wr _ _ (0, 0) 2
                    have y3 : (wr.alloc (.cells #[.string (sB yh), .int .i64 yk, .string (sB yy), .string (sB yv)] 35)).cell? ⟨wr.heap.size, 3, none⟩ = some (.string (sB yv)) := World.cell?_alloc_mark wr _ _ (0, 0) 3
                    have HBW := Lib.hid hbw
                    clear hL hb1 hbw hy
                    by_cases g1 : yk = 4
                    · subst g1
                      by_cases g2 : yy = x
                      · have n2 := sB_eq g2
                        have HX2 := Lib.hid (show H.wantL (L.take (k + 1)) 4 x = H.wantL (L.take k) 4 x by rw [HX.out, if_pos ⟨rfl, g2⟩, List.append_nil])
                        clear g2
                        go_wp2
                        go_roundg (m - (k + 1))
                        case rel => exact ⟨k + 1, (by show _ = _; omega), by omega, by go_num, (by rw [HX2.out]; exact HO1.out), HBW.out⟩
                        case measure => omega
                      · have n2 := sB_ne g2
                        have HX2 := Lib.hid (show H.wantL (L.take (k + 1)) 4 x = H.wantL (L.take k) 4 x ++ [⟨yh, 4, yy, yv⟩] by rw [HX.out, if_neg (fun h => g2 h.2)])
                        clear g2
                        go_wp2_with (at_builtin; refine wpList_appG eEd _ rfl (.tmp 101) (.tmp 103) rfl w8.heap.size u15 (H.wantL (L.take k) 4 x) rfl HO1.out ⟨yh, 4, yy, yv⟩ 1 _ rfl (wr.heap.size + 1) (by simp) rfl HLN.out hszx ?_; intro v5 w5 hown5 hb5)
                        go_roundg (m - (k + 1))
                        case rel => exact ⟨k + 1, (by show _ = _; omega), by omega, by go_num, (by rw [HX2.out]; exact hown5), HBW.out.trans hb5⟩
                        case measure => omega
                    · have n1 : (yk == 4) = false := beq_eq_false_iff_ne.2 g1
                      have n2 : (yk != 4) = true := bne_iff_ne.2 g1
                      have n3 : decide (yk = 4) = false := decide_eq_false g1
                      have n4 : ¬ yk = 4 := g1
                      have HX2 := Lib.hid (show H.wantL (L.take (k + 1)) 4 x = H.wantL (L.take k) 4 x ++ [⟨yh, yk, yy, yv⟩] by rw [HX.out, if_neg (fun h => g1 h.1)])
                      clear g1
                      go_wp2_with (at_builtin; refine wpList_appG eEd _ rfl (.tmp 101) (.tmp 103) rfl w8.heap.size u15 (H.wantL (L.take k) 4 x) rfl HO1.out ⟨yh, yk, yy, yv⟩ 1 _ rfl (wr.heap.size + 1) (by simp) rfl HLN.out hszx ?_; intro v5 w5 hown5 hb5)
                      go_roundg (m - (k + 1))
                      case rel => exact ⟨k + 1, (by show _ = _; omega), by omega, by go_num, (by rw [HX2.out]; exact hown5), HBW.out.trans hb5⟩
                      case measure => omega
                  · have blt : decide ((k : Int) < (m : Int)) = false := decide_eq_false (by omega)
                    have blt2 : decide (k < m) = false := decide_eq_false hlt
                    obtain ⟨mw, hmw⟩ : ∃ mw, (H.wantL L 4 x).length = mw := ⟨_, rfl⟩
                    have HMW := Lib.hid hmw
                    have HE := Lib.hid (show H.wantL (L.take k) 4 x = H.wantL L 4 x by rw [List.take_of_length_le (by have := HM.out; omega)])
                    have hmwl : mw ≤ 32040000 := by
                      have h1 := List.length_filter_le (fun z : H.En => !(decide (z.kind = 4) && decide (z.key = x))) L
                      have h2 : (H.wantL L 4 x).length ≤ L.length := h1
                      have := HM.out
                      omega
                    obtain ⟨B9, d9, rfl, hd9, hs9⟩ := HO.out.seenN (show (H.wantL (L.take k) 4 x).length = mw by rw [HE.out]; exact hmw)
                    rw [HE.out] at hs9
                    have HS9 := Lib.hid hs9
                    replace HLA := Lib.hid (HLA.out.below hbr)
                    have hbb := bthen hb8' hbr
                    clear hs9 hmw
                    go_wp2_with fail
                    refine (E.compileOf B8 d8 nu mw u (H.wantL L 4 x) 0 _ HLA.out HUI.out HMW.out (rowsAt TAB (by first | assumption | exact Below.refl _ _ | exact Hid.out (by assumption) | exact bthen (by assumption) (by assumption) | exact bthen (Hid.out (by assumption)) (by assumption) | exact below_drawn13 (by first | assumption | exact Below.refl _ _ | exact Hid.out (by assumption)) _))).mono ?_
                    rintro e wy1 ⟨B10, d10, rfl, hd10, hs10, hx⟩
                    replace HS9 := Lib.hid (HS9.out.below hx)
                    have HS10 := Lib.hid hs10
                    have hby1 := bthen hbb hx
                    clear hx hs10
                    go_wp2_with fail
                    refine (refs14 B10 d10 mw (H.wantL L 4 x) _ HMW.out (by omega) HS10.out).mono ?_
                    rintro e wy2 ⟨B11, d11, rfl, hd11, hs11, hx⟩
                    replace HS9 := Lib.hid (HS9.out.below hx)
                    have HS11 := Lib.hid hs11
                    have hby2 := bthen hby1 hx
                    clear hx hs11
                    go_wp2_with fail
                    refine (sameR14 B11 B9 d11 d9 mw (H.wantL L 4 x) _ HMW.out (by omega) HS11.out HS9.out).mono ?_
                    rintro e wy3 ⟨rfl, hx⟩
                    have hby3 := bthen hby2 hx
                    clear hx
                    go_wp2_with fail
                    refine (AW _ (rowsAt TAB hby3)).mono ?_
                    rintro e wz ⟨rfl, hx⟩
                    go_wp2
                    go_ret
                    exact ⟨rfl, bthen hby3 hx⟩
              · have e1 : e0 = n := by omega
                have e2 : c = n := by omega
                subst e1
                subst e2
                go_wp2_with (at_builtin; refine wpList_appSrc eL wx5 rfl (.tmp 73) (.tmp 76) rfl wx5.heap.size (.slice none 0 0) [] rfl (Own.nil _ _) bt ot (t.take a) a c HTK.out rfl (HH.out.take a) (by simp; omega) (Nat.le_refl _) ?_; intro v6 w6 hown6 hx6)
                refine (endN13 (some ⟨bt, ot, none⟩) c c t a _ HNA.out (HA.out.seen.below hx6) han (by omega)).mono ?_
                rintro e w7 ⟨rfl, hx7⟩
                rw [HE0.out]
                have HO7 := Lib.hid (hown6.keep hx7)
                have HB7 := Lib.hid (bthen hx6 hx7)
                have HBK := HB7
                have hs7 := HB7.out.size
                clear hown6 hx6 hx7
                go_wp2_with (at_builtin; refine wpList_appSeen eL w7 rfl (.tmp 78) (.tmp 83) rfl wx5.heap.size v6 ([] ++ t.take a) rfl HO7.out _ (t.drop c) 0 0 (by rw [HDR.out]; omega) rfl (by have := HNA.out; rw [List.drop_of_length_le (by omega)]; exact Seen.nil) (by rw [List.nil_append, HTK.out]; omega) hs7 ?_; intro v8 w8 hown8 hb8x)
                rw [HCUT.out] at hown8
                obtain ⟨B8, d8, rfl, hla⟩ := own_arg hown8 HU2.out hu200
                have HLA := Lib.hid hla
                replace HS := Lib.hid (HS.out.below (HBK.out.trans hb8x))
                have hb8' := bthen hb (HBK.out.trans hb8x)
                clear hown8 hla hb8x
                go_wp2
                go_loopg [15, 87] m (fun gk vo vi wr => ∃ k : Nat, Hid (k + gk = m) ∧ k ≤ m ∧ vi = .int .i64 (k : Int) ∧ Hid (Own eEd wr w8.heap.size vo (H.wantL (L.take k) 4 x)) ∧ Below w8.heap.size w8 wr)
                case atStart => exact ⟨0, Nat.zero_add _, Nat.zero_le _, rfl, Own.nil _ _, Below.refl _ _⟩
                case round =>
                  obtain ⟨k, HG, hk, rfl, HO, hbr⟩ := hrel
                  have hgk := HG.out
                  by_cases hlt : k < m
                  · have blt : decide ((k : Int) < (m : Int)) = true := decide_eq_true (by omega)
                    have blt2 : decide (k < m) = true := decide_eq_true hlt
                    have hki : (k : Int) < (m : Int) := by omega
                    have hkl : k < L.length := by have := HM.out; omega
                    obtain ⟨b, o, rfl, hwb, hL⟩ := HS.out (by omega)
                    obtain ⟨q0, q1', q2, q3⟩ := (hL.below hbr hwb).entry rfl rfl hkl
                    obtain ⟨y, hy⟩ : ∃ y, L[k] = y := ⟨_, rfl⟩
                    obtain ⟨yh, yk, yy, yv⟩ := y
                    have HX := Lib.hid (want_next hkl hy 4 x)
                    rw [hy] at q0 q1' q2 q3
                    simp only at q0 q1' q2 q3
                    have hb1 := up wr (.cells #[.string (sB yh), .int .i64 yk, .string (sB yy), .string (sB yv)] 35)
                    have HO1 := Lib.hid (HO.out.keep hb1)
                    have hbw := bthen hbr hb1
                    have HLN := Lib.hid (show (H.wantL (L.take k) 4 x).length + 1 ≤ 1099511627776 by
                      have h1 := List.length_filter_le (fun z : H.En => !(decide (z.kind = 4) && decide (z.key = x))) (L.take k)
                      rw [List.length_take] at h1
                      show (List.filter _ _).length + 1 ≤ _
                      omega)
                    have hszx := hbw.size
                    have y0 : (wr.alloc (.cells #[.string (sB yh), .int .i64 yk, .string (sB yy), .string (sB yv)] 35)).cell? ⟨wr.heap.size, 0, none⟩ = some (.string (sB yh)) := World.cell?_alloc_mark wr _ _ (0, 0) 0
                    have y1 : (wr.alloc (.cells #[.string (sB yh), .int .i64 yk, .string (sB yy), .string (sB yv)] 35)).cell? ⟨wr.heap.size, 1, none⟩ = some (.int .i64 yk) := World.cell?_alloc_mark wr _ _ (0, 0) 1
                    have y2 : (wr.alloc (.cells #[.string (sB yh), .int .i64 yk, .string (sB yy), .string (sB yv)] 35)).cell? ⟨wr.heap.size, 2, none⟩ = some (.string (sB yy)) := World.cell?_alloc_mark wr _ _ (0, 0) 2
                    have y3 : (wr.alloc (.cells #[.string (sB yh), .int .i64 yk, .string (sB yy), .string (sB yv)] 35)).cell? ⟨wr.heap.size, 3, none⟩ = some (.string (sB yv)) := World.cell?_alloc_mark wr _ _ (0, 0) 3
                    have HBW := Lib.hid hbw
                    clear hL hb1 hbw hy
                    by_cases g1 : yk = 4
                    · subst g1
                      by_cases g2 : yy = x
                      · have n2 := sB_eq g2
                        have HX2 := Lib.hid (show H.wantL (L.take (k + 1)) 4 x = H.wantL (L.take k) 4 x by rw [HX.out, if_pos ⟨rfl, g2⟩, List.append_nil])
                        clear g2
                        go_wp2
                        go_roundg (m - (k + 1))
                        case rel => exact ⟨k + 1, (by show _ = _; omega), by omega, by go_num, (by rw [HX2.out]; exact HO1.out), HBW.out⟩
                        case measure => omega
                      · have n2 := sB_ne g2
                        have HX2 := Lib.hid (show H.wantL (L.take (k + 1)) 4 x = H.wantL (L.take k) 4 x ++ [⟨yh, 4, yy, yv⟩] by rw [HX.out, if_neg (fun h => g2 h.2)])
                        clear g2
                        go_wp2_with (at_builtin; refine wpList_appG eEd _ rfl (.tmp 101) (.tmp 103) rfl w8.heap.size u15 (H.wantL (L.take k) 4 x) rfl HO1.out ⟨yh, 4, yy, yv⟩ 1 _ rfl (wr.heap.size + 1) (by simp) rfl HLN.out hszx ?_; intro v5 w5 hown5 hb5)
                        go_roundg (m - (k + 1))
                        case rel => exact ⟨k + 1, (by show _ = _; omega), by omega, by go_num, (by rw [HX2.out]; exact hown5), HBW.out.trans hb5⟩
                        case measure => omega
                    · have n1 : (yk == 4) = false := beq_eq_false_iff_ne.2 g1
                      have n2 : (yk != 4) = true := bne_iff_ne.2 g1
                      have n3 : decide (yk = 4) = false := decide_eq_false g1
                      have n4 : ¬ yk = 4 := g1
                      have HX2 := Lib.hid (show H.wantL (L.take (k + 1)) 4 x = H.wantL (L.take k) 4 x ++ [⟨yh, yk, yy, yv⟩] by rw [HX.out, if_neg (fun h => g1 h.1)])
                      clear g1
                      go_wp2_with (at_builtin; refine wpList_appG eEd _ rfl (.tmp 101) (.tmp 103) rfl w8.heap.size u15 (H.wantL (L.take k) 4 x) rfl HO1.out ⟨yh, yk, yy, yv⟩ 1 _ rfl (wr.heap.size + 1) (by simp) rfl HLN.out hszx ?_; intro v5 w5 hown5 hb5)
                      go_roundg (m - (k + 1))
                      case rel => exact ⟨k + 1, (by show _ = _; omega), by omega, by go_num, (by rw [HX2.out]; exact hown5), HBW.out.trans hb5⟩
                      case measure => omega
                  · have blt : decide ((k : Int) < (m : Int)) = false := decide_eq_false (by omega)
                    have blt2 : decide (k < m) = false := decide_eq_false hlt
                    obtain ⟨mw, hmw⟩ : ∃ mw, (H.wantL L 4 x).length = mw := ⟨_, rfl⟩
                    have HMW := Lib.hid hmw
                    have HE := Lib.hid (show H.wantL (L.take k) 4 x = H.wantL L 4 x by rw [List.take_of_length_le (by have := HM.out; omega)])
                    have hmwl : mw ≤ 32040000 := by
                      have h1 := List.length_filter_le (fun z : H.En => !(decide (z.kind = 4) && decide (z.key = x))) L
                      have h2 : (H.wantL L 4 x).length ≤ L.length := h1
                      have := HM.out
                      omega
                    obtain ⟨B9, d9, rfl, hd9, hs9⟩ := HO.out.seenN (show (H.wantL (L.take k) 4 x).length = mw by rw [HE.out]; exact hmw)
                    rw [HE.out] at hs9
                    have HS9 := Lib.hid hs9
                    replace HLA := Lib.hid (HLA.out.below hbr)
                    have hbb := bthen hb8' hbr
                    clear hs9 hmw
                    go_wp2_with fail
                    refine (E.compileOf B8 d8 nu mw u (H.wantL L 4 x) 0 _ HLA.out HUI.out HMW.out (rowsAt TAB (by first | assumption | exact Below.refl _ _ | exact Hid.out (by assumption) | exact bthen (by assumption) (by assumption) | exact bthen (Hid.out (by assumption)) (by assumption) | exact below_drawn13 (by first | assumption | exact Below.refl _ _ | exact Hid.out (by assumption)) _))).mono ?_
                    rintro e wy1 ⟨B10, d10, rfl, hd10, hs10, hx⟩
                    replace HS9 := Lib.hid (HS9.out.below hx)
                    have HS10 := Lib.hid hs10
                    have hby1 := bthen hbb hx
                    clear hx hs10
                    go_wp2_with fail
                    refine (refs14 B10 d10 mw (H.wantL L 4 x) _ HMW.out (by omega) HS10.out).mono ?_
                    rintro e wy2 ⟨B11, d11, rfl, hd11, hs11, hx⟩
                    replace HS9 := Lib.hid (HS9.out.below hx)
                    have HS11 := Lib.hid hs11
                    have hby2 := bthen hby1 hx
                    clear hx hs11
                    go_wp2_with fail
                    refine (sameR14 B11 B9 d11 d9 mw (H.wantL L 4 x) _ HMW.out (by omega) HS11.out HS9.out).mono ?_
                    rintro e wy3 ⟨rfl, hx⟩
                    have hby3 := bthen hby2 hx
                    clear hx
                    go_wp2_with fail
                    refine (AW _ (rowsAt TAB hby3)).mono ?_
                    rintro e wz ⟨rfl, hx⟩
                    go_wp2
                    go_ret
                    exact ⟨rfl, bthen hby3 hx⟩
            · obtain ⟨i, h1, h2⟩ := HXI.out
              exact absurd h2 (hno i h1)
        · have e1 : (er == 0) = false := by simp; exact he
          have HE7 := Lib.hid (show er = 7 by
            rcases HI.out with ⟨_, _, _, h⟩ | ⟨_, _, _, h⟩ | ⟨h, _⟩
            · exact absurd h he
            · exact h
            · exact absurd HR.out h)
          obtain rfl := HE7.out
          clear he
          go_wp2_with fail
          refine (AW _ (rowsAt TAB hb)).mono ?_
          rintro e wz ⟨rfl, hx⟩
          go_wp2
          go_ret
          exact ⟨rfl, bthen hb hx⟩
      · have HR := Lib.hid hR
        clear hR
        go_wp2_with fail
        refine (right13 A c n t false _ HNA.out HA.out.seen (by omega) (no_iff HR.out)).mono ?_
        rintro e wx4 ⟨rfl, hx⟩
        replace hb := bthen hb hx
        clear hx
        go_wp2_with fail
        refine (AW _ (rowsAt TAB hb)).mono ?_
        rintro e wz ⟨rfl, hx⟩
        go_wp2
        go_ret
        exact ⟨rfl, bthen hb hx⟩
    · have b1 : decide ((n : Int) > 60) = true := decide_eq_true (by omega)
      have b2 : decide ((60 : Int) < (n : Int)) = true := decide_eq_true (by omega)
      have b3 : decide (60 < n) = true := decide_eq_true (by omega)
      go_wp2_with fail
      refine (AW _ (rowsAt TAB hb)).mono ?_
      rintro e wz ⟨rfl, hx⟩
      go_wp2
      go_ret
      exact ⟨rfl, bthen hb hx⟩
  | true =>
    go_enter Tryz.func8, Tryz.ntmps8
    go_wp2_with fail
    refine (HSM.out _ HA.out).mono ?_
    rintro e wx1 ⟨bs, rfl, hsm, hx⟩
    replace HA := Lib.hid (HA.out.below hx)
    replace hb := bthen hb hx
    clear hx
    cases bs with
    | false =>
      clear hsm
      go_wp2_with fail
      refine (AW _ (rowsAt TAB hb)).mono ?_
      rintro e wz ⟨rfl, hx⟩
      go_wp2
      go_ret
      exact ⟨rfl, bthen hb hx⟩
    | true =>
    clear hsm
    by_cases h60 : n ≤ 60
    · have b1 : decide ((n : Int) > 60) = false := decide_eq_false (by omega)
      have b2 : decide ((60 : Int) < (n : Int)) = false := decide_eq_false (by omega)
      have b3 : decide (60 < n) = false := decide_eq_false (by omega)
      replace HA := Lib.hid (LArgS.mk HNA.out (by omega) hc HOA.out HA.out)
      by_cases hR : T.RightT t
      · have HR := Lib.hid hR
        clear hR
        go_wp2_with fail
        refine (right13 A c n t true _ HNA.out HA.out.seen (by omega) (yes_iff HR.out)).mono ?_
        rintro e wx2 ⟨rfl, hx⟩
        replace HA := Lib.hid (HA.out.below hx)
        replace hb := bthen hb hx
        clear hx b1 b2 b3
        obtain ⟨L, er, hI⟩ := comp_ex t
        have HI := Lib.hid hI
        obtain ⟨m, hm⟩ : ∃ m, L.length = m := ⟨_, rfl⟩
        have HM := Lib.hid hm
        have hmm : m ≤ 32040000 := by rw [← hm]; exact comp_few hI (by have := HNA.out; omega)
        obtain ⟨all, hall⟩ : ∃ l, T.underW t [C.wPolicy] = l := ⟨_, rfl⟩
        have HALL := Lib.hid hall
        obtain ⟨q, hq⟩ : ∃ q, all.length = q := ⟨_, rfl⟩
        have HQ := Lib.hid hq
        have hqn : q ≤ n := by rw [← hq, ← hall, ← HNA.out]; exact T.underW_len HR.out _
        clear hI hm hall hq
        go_wp2_with fail
        refine (E.compileOf A c n m t L er _ HA.out HI.out HM.out (rowsAt TAB (by first | assumption | exact Below.refl _ _ | exact Hid.out (by assumption) | exact bthen (by assumption) (by assumption) | exact bthen (Hid.out (by assumption)) (by assumption) | exact below_drawn13 (by first | assumption | exact Below.refl _ _ | exact Hid.out (by assumption)) _))).mono ?_
        rintro e wx3 ⟨B3, d3, rfl, hd3, hs, hx⟩
        replace HA := Lib.hid (HA.out.below hx)
        replace hb := bthen hb hx
        have HS := Lib.hid hs
        clear hx hs
        go_wp2_with fail
        refine (underM14 A c n t _ 1 1 q [C.wPolicy] all _ HNA.out rfl (HA.out.seen.below (up _ _)) (lit_seen eS wx3 [C.wPolicy] _ rfl (by simp)) (by omega) (by omega) HR.out HALL.out HQ.out).mono ?_
        rintro e wx4 ⟨B4, d4, rfl, hd4, hs4, hx⟩
        have hx4 := bthen (up wx3 _) hx
        replace HA := Lib.hid (HA.out.below hx4)
        replace hb := bthen hb hx4
        replace HS := Lib.hid (HS.out.below hx4)
        have HS4 := Lib.hid hs4
        clear hx hx4 hs4
        by_cases he : er = 0
        · subst he
          have HCL := Lib.hid (show C.checkP (C.pths t) = [] by
            rcases HI.out with ⟨_, h, _⟩ | ⟨_, _, _, h⟩ | ⟨_, _, h⟩
            · exact h
            · cases h
            · cases h)
          have HLT := Lib.hid (show L = H.tablesL t by
            rcases HI.out with ⟨_, _, h, _⟩ | ⟨_, _, _, h⟩ | ⟨_, _, h⟩
            · exact h
            · cases h
            · cases h)
          by_cases h0 : q = 0
          · subst h0
            go_wp2_with fail
            refine (AW _ (rowsAt TAB hb)).mono ?_
            rintro e wz ⟨rfl, hx⟩
            go_wp2
            go_ret
            exact ⟨rfl, bthen hb hx⟩
          · have q1 : ((q : Int) == 0) = false := by simp; omega
            obtain ⟨j, hj⟩ : ∃ j, by_ % q = j := ⟨_, rfl⟩
            have hjq : j < q := by rw [← hj]; exact Nat.mod_lt _ (by omega)
            have hji : (j : Int) < (q : Int) := by omega
            have hm1 : (by_ : Int) % (q : Int) = (j : Int) := by rw [← hj]; rfl
            have hm2 : ((by_ : Int)).tmod (q : Int) = (j : Int) := by rw [← hj]; rfl
            have hja : j < all.length := by have := HQ.out; omega
            obtain ⟨b4, o4, rfl, hw4, hL4⟩ := HS4.out (by omega)
            have c0 := hL4.str hja
            have HXI := Lib.hid (T.mem_underW.1 (show all[j] ∈ T.underW t [C.wPolicy] by rw [HALL.out]; exact List.getElem_mem hja))
            generalize all[j] = x at c0 HXI
            have HXL := Lib.hid HXI.out
            clear hj hja hL4
            go_wp2_with fail
            refine (findN13 A _ c 2 n 2 t [C.wPolicy, x] _ HNA.out rfl (HA.out.seen.below (up _ _)) (lit_seen eS wx4 [C.wPolicy, x] _ rfl (by simp)) (by omega) (by omega) HR.out).mono ?_
            rintro e wx5 ⟨⟨a, hatl, hpa, rfl⟩ | ⟨hno, rfl⟩, hx⟩
            · have hx5 := bthen (up wx4 _) hx
              replace HA := Lib.hid (HA.out.below hx5)
              replace hb := bthen hb hx5
              replace HS := Lib.hid (HS.out.below hx5)
              clear hx hx5
              obtain ⟨bt, ot, rfl, hwt, hLt⟩ := HA.out.seen.lines (by have := HNA.out; omega)
              obtain ⟨e0, he0⟩ : ∃ e, T.endL t a = e := ⟨_, rfl⟩
              obtain ⟨g1, g2, _⟩ := T.end_spec t a hatl
              rw [he0] at g1 g2
              obtain ⟨u, hu⟩ : ∃ u, T.cutL t a = u := ⟨_, rfl⟩
              have HU := Lib.hid hu
              have hlc := H.less_cut HR.out hatl hpa
              rw [hu] at hlc
              have HLC := Lib.hid hlc
              have HUI := Lib.hid (show CompIs u (H.wantL L 5 x) 0 from .inl ⟨HLC.out.right, HLC.out.clean (by decide) (by decide) HCL.out, by rw [HLT.out]; exact (H.less_pol HLC.out HCL.out).symm, rfl⟩)
              obtain ⟨nu, hnu⟩ : ∃ nu, u.length = nu := ⟨_, rfl⟩
              have HU2 := Lib.hid hnu
              have hu200 : nu ≤ 200 := by rw [← hnu]; exact HLC.out.right.len
              have HE0 := Lib.hid he0
              have HCUT := Lib.hid (show [] ++ t.take a ++ t.drop e0 = u by rw [← hu]; exact cutL_is t a e0 he0)
              have HH := Lib.hid hLt
              have hnt := HNA.out
              have HTK := Lib.hid (show (t.take a).length = a by rw [List.length_take]; omega)
              have HDR := Lib.hid (show (t.drop e0).length = n - e0 by rw [List.length_drop, hnt])
              have han : a < n := by omega
              have hai : (a : Int) ≤ (c : Int) := by omega
              have hei : (e0 : Int) ≤ (n : Int) := by omega
              have hac : a ≤ c := by omega
              have he0n : e0 ≤ n := by omega
              clear hlc hu hnu he0 hLt g1 g2 hnt
              rcases Nat.lt_or_ge e0 c with hec | hec
              · go_wp2_with (at_builtin; refine wpList_appSrc eL wx5 rfl (.tmp 73) (.tmp 76) rfl wx5.heap.size (.slice none 0 0) [] rfl (Own.nil _ _) bt ot (t.take a) a c HTK.out rfl (HH.out.take a) (by simp; omega) (Nat.le_refl _) ?_; intro v6 w6 hown6 hx6)
                refine (endN13 (some ⟨bt, ot, none⟩) c n t a _ HNA.out (HA.out.seen.below hx6) han (by omega)).mono ?_
                rintro e w7 ⟨rfl, hx7⟩
                rw [HE0.out]
                have HO7 := Lib.hid (hown6.keep hx7)
                have HB7 := Lib.hid (bthen hx6 hx7)
                have HBK := HB7
                have hs7 := HB7.out.size
                clear hown6 hx6 hx7
                go_wp2_with (at_builtin; refine wpList_appSrc eL w7 rfl (.tmp 78) (.tmp 83) rfl wx5.heap.size v6 ([] ++ t.take a) rfl HO7.out bt (ot + e0 * 3) (t.drop e0) (n - e0) (c - e0) HDR.out rfl ((HH.out.belowN HB7.out hwt).drop e0) (by rw [List.nil_append, HTK.out]; omega) hs7 ?_; intro v8 w8 hown8 hb8x)
                rw [HCUT.out] at hown8
                obtain ⟨B8, d8, rfl, hla⟩ := own_arg hown8 HU2.out hu200
                have HLA := Lib.hid hla
                replace HS := Lib.hid (HS.out.below (HBK.out.trans hb8x))
                have hb8' := bthen hb (HBK.out.trans hb8x)
                clear hown8 hla hb8x
                go_wp2
                go_loopg [15, 87] m (fun gk vo vi wr => ∃ k : Nat, Hid (k + gk = m) ∧ k ≤ m ∧ vi = .int .i64 (k : Int) ∧ Hid (Own eEd wr w8.heap.size vo (H.wantL (L.take k) 5 x)) ∧ Below w8.heap.size w8 wr)
                case atStart => exact ⟨0, Nat.zero_add _, Nat.zero_le _, rfl, Own.nil _ _, Below.refl _ _⟩
                case round =>
                  obtain ⟨k, HG, hk, rfl, HO, hbr⟩ := hrel
                  have hgk := HG.out
                  by_cases hlt : k < m
                  · have blt : decide ((k : Int) < (m : Int)) = true := decide_eq_true (by omega)
                    have blt2 : decide (k < m) = true := decide_eq_true hlt
                    have hki : (k : Int) < (m : Int) := by omega
                    have hkl : k < L.length := by have := HM.out; omega
                    obtain ⟨b, o, rfl, hwb, hL⟩ := HS.out (by omega)
                    obtain ⟨q0, q1', q2, q3⟩ := (hL.below hbr hwb).entry rfl rfl hkl
                    obtain ⟨y, hy⟩ : ∃ y, L[k] = y := ⟨_, rfl⟩
                    obtain ⟨yh, yk, yy, yv⟩ := y
                    have HX := Lib.hid (want_next hkl hy 5 x)
                    rw [hy] at q0 q1' q2 q3
                    simp only at q0 q1' q2 q3
                    have hb1 := up wr (.cells #[.string (sB yh), .int .i64 yk, .string (sB yy), .string (sB yv)] 35)
                    have HO1 := Lib.hid (HO.out.keep hb1)
                    have hbw := bthen hbr hb1
                    have HLN := Lib.hid (show (H.wantL (L.take k) 5 x).length + 1 ≤ 1099511627776 by
                      have h1 := List.length_filter_le (fun z : H.En => !(decide (z.kind = 5) && decide (z.key = x))) (L.take k)
                      rw [List.length_take] at h1
                      show (List.filter _ _).length + 1 ≤ _
                      omega)
                    have hszx := hbw.size
                    have y0 : (wr.alloc (.cells #[.string (sB yh), .int .i64 yk, .string (sB yy), .string (sB yv)] 35)).cell? ⟨wr.heap.size, 0, none⟩ = some (.string (sB yh)) := World.cell?_alloc_mark wr _ _ (0, 0) 0
                    have y1 : (wr.alloc (.cells #[.string (sB yh), .int .i64 yk, .string (sB yy), .string (sB yv)] 35)).cell? ⟨wr.heap.size, 1, none⟩ = some (.int .i64 yk) := World.cell?_alloc_mark wr _ _ (0, 0) 1
                    have y2 : (wr.alloc (.cells #[.string (sB yh), .int .i64 yk, .string (sB yy), .string (sB yv)] 35)).cell? ⟨wr.heap.size, 2, none⟩ = some (.string (sB yy)) := World.cell?_alloc_mark wr _ _ (0, 0) 2
                    have y3 : (wr.alloc (.cells #[.string (sB yh), .int .i64 yk, .string (sB yy), .string (sB yv)] 35)).cell? ⟨wr.heap.size, 3, none⟩ = some (.string (sB yv)) := World.cell?_alloc_mark wr _ _ (0, 0) 3
                    have HBW := Lib.hid hbw
                    clear hL hb1 hbw hy
                    by_cases g1 : yk = 5
                    · subst g1
                      by_cases g2 : yy = x
                      · have n2 := sB_eq g2
                        have HX2 := Lib.hid (show H.wantL (L.take (k + 1)) 5 x = H.wantL (L.take k) 5 x by rw [HX.out, if_pos ⟨rfl, g2⟩, List.append_nil])
                        clear g2
                        go_wp2
                        go_roundg (m - (k + 1))
                        case rel => exact ⟨k + 1, (by show _ = _; omega), by omega, by go_num, (by rw [HX2.out]; exact HO1.out), HBW.out⟩
                        case measure => omega
                      · have n2 := sB_ne g2
                        have HX2 := Lib.hid (show H.wantL (L.take (k + 1)) 5 x = H.wantL (L.take k) 5 x ++ [⟨yh, 5, yy, yv⟩] by rw [HX.out, if_neg (fun h => g2 h.2)])
                        clear g2
                        go_wp2_with (at_builtin; refine wpList_appG eEd _ rfl (.tmp 101) (.tmp 103) rfl w8.heap.size u15 (H.wantL (L.take k) 5 x) rfl HO1.out ⟨yh, 5, yy, yv⟩ 1 _ rfl (wr.heap.size + 1) (by simp) rfl HLN.out hszx ?_; intro v5 w5 hown5 hb5)
                        go_roundg (m - (k + 1))
                        case rel => exact ⟨k + 1, (by show _ = _; omega), by omega, by go_num, (by rw [HX2.out]; exact hown5), HBW.out.trans hb5⟩
                        case measure => omega
                    · have n1 : (yk == 5) = false := beq_eq_false_iff_ne.2 g1
                      have n2 : (yk != 5) = true := bne_iff_ne.2 g1
                      have n3 : decide (yk = 5) = false := decide_eq_false g1
                      have n4 : ¬ yk = 5 := g1
                      have HX2 := Lib.hid (show H.wantL (L.take (k + 1)) 5 x = H.wantL (L.take k) 5 x ++ [⟨yh, yk, yy, yv⟩] by rw [HX.out, if_neg (fun h => g1 h.1)])
                      clear g1
                      go_wp2_with (at_builtin; refine wpList_appG eEd _ rfl (.tmp 101) (.tmp 103) rfl w8.heap.size u15 (H.wantL (L.take k) 5 x) rfl HO1.out ⟨yh, yk, yy, yv⟩ 1 _ rfl (wr.heap.size + 1) (by simp) rfl HLN.out hszx ?_; intro v5 w5 hown5 hb5)
                      go_roundg (m - (k + 1))
                      case rel => exact ⟨k + 1, (by show _ = _; omega), by omega, by go_num, (by rw [HX2.out]; exact hown5), HBW.out.trans hb5⟩
                      case measure => omega
                  · have blt : decide ((k : Int) < (m : Int)) = false := decide_eq_false (by omega)
                    have blt2 : decide (k < m) = false := decide_eq_false hlt
                    obtain ⟨mw, hmw⟩ : ∃ mw, (H.wantL L 5 x).length = mw := ⟨_, rfl⟩
                    have HMW := Lib.hid hmw
                    have HE := Lib.hid (show H.wantL (L.take k) 5 x = H.wantL L 5 x by rw [List.take_of_length_le (by have := HM.out; omega)])
                    have hmwl : mw ≤ 32040000 := by
                      have h1 := List.length_filter_le (fun z : H.En => !(decide (z.kind = 5) && decide (z.key = x))) L
                      have h2 : (H.wantL L 5 x).length ≤ L.length := h1
                      have := HM.out
                      omega
                    obtain ⟨B9, d9, rfl, hd9, hs9⟩ := HO.out.seenN (show (H.wantL (L.take k) 5 x).length = mw by rw [HE.out]; exact hmw)
                    rw [HE.out] at hs9
                    have HS9 := Lib.hid hs9
                    replace HLA := Lib.hid (HLA.out.below hbr)
                    have hbb := bthen hb8' hbr
                    clear hs9 hmw
                    go_wp2_with fail
                    refine (E.compileOf B8 d8 nu mw u (H.wantL L 5 x) 0 _ HLA.out HUI.out HMW.out (rowsAt TAB (by first | assumption | exact Below.refl _ _ | exact Hid.out (by assumption) | exact bthen (by assumption) (by assumption) | exact bthen (Hid.out (by assumption)) (by assumption) | exact below_drawn13 (by first | assumption | exact Below.refl _ _ | exact Hid.out (by assumption)) _))).mono ?_
                    rintro e wy1 ⟨B10, d10, rfl, hd10, hs10, hx⟩
                    replace HS9 := Lib.hid (HS9.out.below hx)
                    have HS10 := Lib.hid hs10
                    have hby1 := bthen hbb hx
                    clear hx hs10
                    go_wp2_with fail
                    refine (refs14 B10 d10 mw (H.wantL L 5 x) _ HMW.out (by omega) HS10.out).mono ?_
                    rintro e wy2 ⟨B11, d11, rfl, hd11, hs11, hx⟩
                    replace HS9 := Lib.hid (HS9.out.below hx)
                    have HS11 := Lib.hid hs11
                    have hby2 := bthen hby1 hx
                    clear hx hs11
                    go_wp2_with fail
                    refine (sameR14 B11 B9 d11 d9 mw (H.wantL L 5 x) _ HMW.out (by omega) HS11.out HS9.out).mono ?_
                    rintro e wy3 ⟨rfl, hx⟩
                    have hby3 := bthen hby2 hx
                    clear hx
                    go_wp2_with fail
                    refine (AW _ (rowsAt TAB hby3)).mono ?_
                    rintro e wz ⟨rfl, hx⟩
                    go_wp2
                    go_ret
                    exact ⟨rfl, bthen hby3 hx⟩
              · have e1 : e0 = n := by omega
                have e2 : c = n := by omega
                subst e1
                subst e2
                go_wp2_with (at_builtin; refine wpList_appSrc eL wx5 rfl (.tmp 73) (.tmp 76) rfl wx5.heap.size (.slice none 0 0) [] rfl (Own.nil _ _) bt ot (t.take a) a c HTK.out rfl (HH.out.take a) (by simp; omega) (Nat.le_refl _) ?_; intro v6 w6 hown6 hx6)
                refine (endN13 (some ⟨bt, ot, none⟩) c c t a _ HNA.out (HA.out.seen.below hx6) han (by omega)).mono ?_
                rintro e w7 ⟨rfl, hx7⟩
                rw [HE0.out]
                have HO7 := Lib.hid (hown6.keep hx7)
                have HB7 := Lib.hid (bthen hx6 hx7)
                have HBK := HB7
                have hs7 := HB7.out.size
                clear hown6 hx6 hx7
                go_wp2_with (at_builtin; refine wpList_appSeen eL w7 rfl (.tmp 78) (.tmp 83) rfl wx5.heap.size v6 ([] ++ t.take a) rfl HO7.out _ (t.drop c) 0 0 (by rw [HDR.out]; omega) rfl (by have := HNA.out; rw [List.drop_of_length_le (by omega)]; exact Seen.nil) (by rw [List.nil_append, HTK.out]; omega) hs7 ?_; intro v8 w8 hown8 hb8x)
                rw [HCUT.out] at hown8
                obtain ⟨B8, d8, rfl, hla⟩ := own_arg hown8 HU2.out hu200
                have HLA := Lib.hid hla
                replace HS := Lib.hid (HS.out.below (HBK.out.trans hb8x))
                have hb8' := bthen hb (HBK.out.trans hb8x)
                clear hown8 hla hb8x
                go_wp2
                go_loopg [15, 87] m (fun gk vo vi wr => ∃ k : Nat, Hid (k + gk = m) ∧ k ≤ m ∧ vi = .int .i64 (k : Int) ∧ Hid (Own eEd wr w8.heap.size vo (H.wantL (L.take k) 5 x)) ∧ Below w8.heap.size w8 wr)
                case atStart => exact ⟨0, Nat.zero_add _, Nat.zero_le _, rfl, Own.nil _ _, Below.refl _ _⟩
                case round =>
                  obtain ⟨k, HG, hk, rfl, HO, hbr⟩ := hrel
                  have hgk := HG.out
                  by_cases hlt : k < m
                  · have blt : decide ((k : Int) < (m : Int)) = true := decide_eq_true (by omega)
                    have blt2 : decide (k < m) = true := decide_eq_true hlt
                    have hki : (k : Int) < (m : Int) := by omega
                    have hkl : k < L.length := by have := HM.out; omega
                    obtain ⟨b, o, rfl, hwb, hL⟩ := HS.out (by omega)
                    obtain ⟨q0, q1', q2, q3⟩ := (hL.below hbr hwb).entry rfl rfl hkl
                    obtain ⟨y, hy⟩ : ∃ y, L[k] = y := ⟨_, rfl⟩
                    obtain ⟨yh, yk, yy, yv⟩ := y
                    have HX := Lib.hid (want_next hkl hy 5 x)
                    rw [hy] at q0 q1' q2 q3
                    simp only at q0 q1' q2 q3
                    have hb1 := up wr (.cells #[.string (sB yh), .int .i64 yk, .string (sB yy), .string (sB yv)] 35)
                    have HO1 := Lib.hid (HO.out.keep hb1)
                    have hbw := bthen hbr hb1
                    have HLN := Lib.hid (show (H.wantL (L.take k) 5 x).length + 1 ≤ 1099511627776 by
                      have h1 := List.length_filter_le (fun z : H.En => !(decide (z.kind = 5) && decide (z.key = x))) (L.take k)
                      rw [List.length_take] at h1
                      show (List.filter _ _).length + 1 ≤ _
                      omega)
                    have hszx := hbw.size
                    have y0 : (wr.alloc (.cells #[.string (sB yh), .int .i64 yk, .string (sB yy), .string (sB yv)] 35)).cell? ⟨wr.heap.size, 0, none⟩ = some (.string (sB yh)) := World.cell?_alloc_mark wr _ _ (0, 0) 0
                    have y1 : (wr.alloc (.cells #[.string (sB yh), .int .i64 yk, .string (sB yy), .string (sB yv)] 35)).cell? ⟨wr.heap.size, 1, none⟩ = some (.int .i64 yk) := World.cell?_alloc_mark wr _ _ (0, 0) 1
                    have y2 : (wr.alloc (.cells #[.string (sB yh), .int .i64 yk, .string (sB yy), .string (sB yv)] 35)).cell? ⟨wr.heap.size, 2, none⟩ = some (.string (sB yy)) := World.cell?_alloc_mark wr _ _ (0, 0) 2
                    have y3 : (wr.alloc (.cells #[.string (sB yh), .int .i64 yk, .string (sB yy), .string (sB yv)] 35)).cell? ⟨wr.heap.size, 3, none⟩ = some (.string (sB yv)) := World.cell?_alloc_mark wr _ _ (0, 0) 3
                    have HBW := Lib.hid hbw
                    clear hL hb1 hbw hy
                    by_cases g1 : yk = 5
                    · subst g1
                      by_cases g2 : yy = x
                      · have n2 := sB_eq g2
                        have HX2 := Lib.hid (show H.wantL (L.take (k + 1)) 5 x = H.wantL (L.take k) 5 x by rw [HX.out, if_pos ⟨rfl, g2⟩, List.append_nil])
                        clear g2
                        go_wp2
                        go_roundg (m - (k + 1))
                        case rel => exact ⟨k + 1, (by show _ = _; omega), by omega, by go_num, (by rw [HX2.out]; exact HO1.out), HBW.out⟩
                        case measure => omega
                      · have n2 := sB_ne g2
                        have HX2 := Lib.hid (show H.wantL (L.take (k + 1)) 5 x = H.wantL (L.take k) 5 x ++ [⟨yh, 5, yy, yv⟩] by rw [HX.out, if_neg (fun h => g2 h.2)])
                        clear g2
                        go_wp2_with (at_builtin; refine wpList_appG eEd _ rfl (.tmp 101) (.tmp 103) rfl w8.heap.size u15 (H.wantL (L.take k) 5 x) rfl HO1.out ⟨yh, 5, yy, yv⟩ 1 _ rfl (wr.heap.size + 1) (by simp) rfl HLN.out hszx ?_; intro v5 w5 hown5 hb5)
                        go_roundg (m - (k + 1))
                        case rel => exact ⟨k + 1, (by show _ = _; omega), by omega, by go_num, (by rw [HX2.out]; exact hown5), HBW.out.trans hb5⟩
                        case measure => omega
                    · have n1 : (yk == 5) = false := beq_eq_false_iff_ne.2 g1
                      have n2 : (yk != 5) = true := bne_iff_ne.2 g1
                      have n3 : decide (yk = 5) = false := decide_eq_false g1
                      have n4 : ¬ yk = 5 := g1
                      have HX2 := Lib.hid (show H.wantL (L.take (k + 1)) 5 x = H.wantL (L.take k) 5 x ++ [⟨yh, yk, yy, yv⟩] by rw [HX.out, if_neg (fun h => g1 h.1)])
                      clear g1
                      go_wp2_with (at_builtin; refine wpList_appG eEd _ rfl (.tmp 101) (.tmp 103) rfl w8.heap.size u15 (H.wantL (L.take k) 5 x) rfl HO1.out ⟨yh, yk, yy, yv⟩ 1 _ rfl (wr.heap.size + 1) (by simp) rfl HLN.out hszx ?_; intro v5 w5 hown5 hb5)
                      go_roundg (m - (k + 1))
                      case rel => exact ⟨k + 1, (by show _ = _; omega), by omega, by go_num, (by rw [HX2.out]; exact hown5), HBW.out.trans hb5⟩
                      case measure => omega
                  · have blt : decide ((k : Int) < (m : Int)) = false := decide_eq_false (by omega)
                    have blt2 : decide (k < m) = false := decide_eq_false hlt
                    obtain ⟨mw, hmw⟩ : ∃ mw, (H.wantL L 5 x).length = mw := ⟨_, rfl⟩
                    have HMW := Lib.hid hmw
                    have HE := Lib.hid (show H.wantL (L.take k) 5 x = H.wantL L 5 x by rw [List.take_of_length_le (by have := HM.out; omega)])
                    have hmwl : mw ≤ 32040000 := by
                      have h1 := List.length_filter_le (fun z : H.En => !(decide (z.kind = 5) && decide (z.key = x))) L
                      have h2 : (H.wantL L 5 x).length ≤ L.length := h1
                      have := HM.out
                      omega
                    obtain ⟨B9, d9, rfl, hd9, hs9⟩ := HO.out.seenN (show (H.wantL (L.take k) 5 x).length = mw by rw [HE.out]; exact hmw)
                    rw [HE.out] at hs9
                    have HS9 := Lib.hid hs9
                    replace HLA := Lib.hid (HLA.out.below hbr)
                    have hbb := bthen hb8' hbr
                    clear hs9 hmw
                    go_wp2_with fail
                    refine (E.compileOf B8 d8 nu mw u (H.wantL L 5 x) 0 _ HLA.out HUI.out HMW.out (rowsAt TAB (by first | assumption | exact Below.refl _ _ | exact Hid.out (by assumption) | exact bthen (by assumption) (by assumption) | exact bthen (Hid.out (by assumption)) (by assumption) | exact below_drawn13 (by first | assumption | exact Below.refl _ _ | exact Hid.out (by assumption)) _))).mono ?_
                    rintro e wy1 ⟨B10, d10, rfl, hd10, hs10, hx⟩
                    replace HS9 := Lib.hid (HS9.out.below hx)
                    have HS10 := Lib.hid hs10
                    have hby1 := bthen hbb hx
                    clear hx hs10
                    go_wp2_with fail
                    refine (refs14 B10 d10 mw (H.wantL L 5 x) _ HMW.out (by omega) HS10.out).mono ?_
                    rintro e wy2 ⟨B11, d11, rfl, hd11, hs11, hx⟩
                    replace HS9 := Lib.hid (HS9.out.below hx)
                    have HS11 := Lib.hid hs11
                    have hby2 := bthen hby1 hx
                    clear hx hs11
                    go_wp2_with fail
                    refine (sameR14 B11 B9 d11 d9 mw (H.wantL L 5 x) _ HMW.out (by omega) HS11.out HS9.out).mono ?_
                    rintro e wy3 ⟨rfl, hx⟩
                    have hby3 := bthen hby2 hx
                    clear hx
                    go_wp2_with fail
                    refine (AW _ (rowsAt TAB hby3)).mono ?_
                    rintro e wz ⟨rfl, hx⟩
                    go_wp2
                    go_ret
                    exact ⟨rfl, bthen hby3 hx⟩
            · obtain ⟨i, h1, h2⟩ := HXI.out
              exact absurd h2 (hno i h1)
        · have e1 : (er == 0) = false := by simp; exact he
          have HE7 := Lib.hid (show er = 7 by
            rcases HI.out with ⟨_, _, _, h⟩ | ⟨_, _, _, h⟩ | ⟨h, _⟩
            · exact absurd h he
            · exact h
            · exact absurd HR.out h)
          obtain rfl := HE7.out
          clear he
          go_wp2_with fail
          refine (AW _ (rowsAt TAB hb)).mono ?_
          rintro e wz ⟨rfl, hx⟩
          go_wp2
          go_ret
          exact ⟨rfl, bthen hb hx⟩
      · have HR := Lib.hid hR
        clear hR
        go_wp2_with fail
        refine (right13 A c n t false _ HNA.out HA.out.seen (by omega) (no_iff HR.out)).mono ?_
        rintro e wx4 ⟨rfl, hx⟩
        replace hb := bthen hb hx
        clear hx
        go_wp2_with fail
        refine (AW _ (rowsAt TAB hb)).mono ?_
        rintro e wz ⟨rfl, hx⟩
        go_wp2
        go_ret
        exact ⟨rfl, bthen hb hx⟩
    · have b1 : decide ((n : Int) > 60) = true := decide_eq_true (by omega)
      have b2 : decide ((60 : Int) < (n : Int)) = true := decide_eq_true (by omega)
      have b3 : decide (60 < n) = true := decide_eq_true (by omega)
      go_wp2_with fail
      refine (AW _ (rowsAt TAB hb)).mono ?_
      rintro e wz ⟨rfl, hx⟩
      go_wp2
      go_ret
      exact ⟨rfl, bthen hb hx⟩
end Go.Proofs.YtfcikfohmehmkaaGreatDoor
