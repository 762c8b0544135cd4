/-
  Contract of the document's Add (layer 6): the tree with a path, or the error's number. Condition: at most 2^30 lines and words.
  Contract of the document's Add (layer 6), the walk: the tree with a path, or the error's number. Condition: at most 2^30 lines and words.
-/
import Derived.Test.YtkifapbiimlafaaLinesC
import Derived.StillTailTactics

namespace Go.Proofs.Ytkifapbiimlafaa
open Go.RowKit
set_option linter.unusedVariables false

/-- Lines that may lie nowhere. -/
def VecE (w : World) (v : Value) (t : List T.Ln) : Prop := VecAt eL w v t ∨ (t = [] ∧ ∃ ad c, v = .slice (some ad) 0 c)
theorem VecE.below {w w1 : World} {v : Value} {t : List T.Ln} (h : VecE w v t) (hb : Below w.heap.size w w1) : VecE w1 v t := h.imp (fun h => h.below hb) id
theorem VecE.seen {w : World} {v : Value} {t : List T.Ln} (h : VecE w v t) : ∃ A c, v = .slice A t.length c ∧ t.length ≤ c ∧ Seen eL w A t := by
  rcases h with h | ⟨rfl, ad, c, rfl⟩
  · exact h.seen
  · exact ⟨some ad, c, rfl, Nat.zero_le _, Seen.nil⟩
theorem VecE.nilOk {w : World} {v : Value} {t : List T.Ln} (h : VecE w v t) {A : Option Addr} {n c : Nat} (e : v = .slice A n c) : NilOk A c := by
  intro hA
  subst hA
  rcases h with (⟨h, _⟩ | ⟨b, o, c2, h, _⟩) | ⟨_, ad, c2, h⟩
  · rw [h] at e; injection e with e1 e2 e3; exact e3.symm
  · rw [h] at e; injection e with e1 e2 e3; cases e1
  · rw [h] at e; injection e with e1 e2 e3; cases e1
theorem VecE.of {w : World} {A : Option Addr} {c : Nat} {t : List T.Ln} (h : Seen eL w A t) (hc : NilOk A c) (htc : t.length ≤ c) : VecE w (.slice A t.length c) t := by
  by_cases hl : 0 < t.length
  · obtain ⟨b, o, rfl, hb, hh⟩ := h hl
    exact .inl (.inr ⟨b, o, c, rfl, htc, hb, hh⟩)
  · obtain rfl : t = [] := List.eq_nil_of_length_eq_zero (by omega)
    cases A with
    | none => obtain rfl := hc rfl; exact .inl (.inl ⟨rfl, rfl⟩)
    | some ad => exact .inr ⟨rfl, ad, c, rfl⟩

set_option maxRecDepth 100000 in
set_option maxHeartbeats 2000000 in
theorem putE_some (ad : Addr) (c : Nat) (vp : Value) (wd : List UInt8) (mk : Int) (w : World) (hP : VecAt eS w vp []) (hc : c = 0 ∨ 0 < c) :
    Calls Try.prog 31 #[.slice (some ad) 0 c, vp, .string (sB wd), .int .i64 mk] w (VecS eL w (T.putL [] [] wd mk)) := by
  obtain ⟨vB, cB, rfl, _, hB⟩ := hP.seen
  have hput := putL_is [] [] wd mk 0 rfl
  have hkids : ∀ w, Calls Try.prog 48 #[.slice (some ad) 0 c, .int .i64 (-1)] w (SawG eI w []) := fun w => refKids_any (some ad) c [] (-1) w Seen.nil (by decide)
  have HPUT := Lib.hid hput
  clear hput hP hB
  rcases hc with rfl | hc
  all_goals
    go_enter Try.func31, Try.ntmps31
    go_wp2_with fail
    refine (hkids _).mono ?_
    rintro e wk ⟨Ak, ck, rfl, _, _, hbk⟩
    clear hkids
    go_wp2
    go_loopg [10, 12] 0 (fun gk va vi wr => va = .int .i64 0 ∧ vi = .int .i64 (-1) ∧ gk = 0 ∧ wk = wr)
    case atStart => exact ⟨rfl, rfl, rfl, rfl⟩
    case round =>
      obtain ⟨rfl, rfl, rfl, rfl⟩ := hrel
      go_wp2_with (first | (at_builtin; refine wpList_appSeen eL wk rfl (.tmp 49) (.tmp 52) rfl wk.heap.size (.slice none 0 0) [] rfl (Own.nil _ _) _ [] 0 _ rfl rfl Seen.nil (by simp) (Nat.le_refl _) ?_; intro v3 w3 hown3 hx3; have hs3 := hx3.size) | (at_builtin; refine wpList_appG eL w3 rfl (.tmp 54) (.tmp 60) rfl wk.heap.size v3 ([] ++ []) rfl hown3 ⟨0, wd, mk⟩ 1 _ rfl w3.heap.size rfl rfl (by simp) hs3 ?_; intro v4 w4 hown4 hx4; have hs4 := hx4.size) | (at_builtin; refine wpList_appSeen eL w4 rfl (.tmp 62) (.tmp 65) rfl wk.heap.size v4 ([] ++ [] ++ [⟨0, wd, mk⟩]) rfl hown4 _ [] 0 _ rfl rfl Seen.nil (by simp) (by omega) ?_; intro v5 w5 hown5 hx5))
      go_ret
      exact ⟨v5, rfl, VecAt.own (HPUT.out ▸ hown5), hbk.trans (((hx3.trans hx4).trans hx5).mono hbk.size)⟩
theorem put_gen {N : Nat} (hN : N ≤ 1000) (vt vp : Value) (t : List T.Ln) (p : T.Pth) (wd : List UInt8) (mk : Int) (w : World) (hT : VecE w vt t) (hP : VecAt eS w vp p) (hR : T.RightN N t) (ho : T.Open t p) (hp : p.length ≤ 16) :
    Calls Try.prog 31 #[vt, vp, .string (sB wd), .int .i64 mk] w (VecS eL w (T.putL t p wd mk)) := by
  rcases hT with hT | ⟨rfl, ad, c, rfl⟩
  · exact put_any hN vt vp t p wd mk w hT hP hR ho hp
  · have hp0 : p = [] := by
      rcases ho with h | ⟨i, hi, _⟩
      · exact h
      · exact absurd hi (Nat.not_lt_zero i)
    subst hp0
    exact putE_some ad c vp wd mk w hP (Nat.eq_zero_or_pos c)
end Go.Proofs.Ytkifapbiimlafaa

namespace Go.Proofs.Ytkifapbiimlafaa
open Go.RowKit
set_option linter.unusedVariables false

def RefAddS (w : World) (u : List T.Ln) (er : Int) (e : Ending) (w' : World) : Prop := ∃ A c, e = .returned (.tuple #[.slice A u.length c, .int .i64 er]) ∧ Seen eL w' A u ∧ Below w.heap.size w w'
/-- The same, and the slice's capacity. -/
def RefAddN (w : World) (u : List T.Ln) (er : Int) (e : Ending) (w' : World) : Prop := ∃ A c, e = .returned (.tuple #[.slice A u.length c, .int .i64 er]) ∧ Seen eL w' A u ∧ Below w.heap.size w w' ∧ u.length ≤ c ∧ NilOk A c
theorem add_open {t : List T.Ln} (h : T.RightT t) {p : T.Pth} (hp : p.length ≤ 16) (hw : ∀ w ∈ p, w.length ≤ 40) {j : Nat} (hj : j ≤ p.length) : T.Open (T.addTo t p j) (p.take j) := by
  cases j with
  | zero => exact .inl (by simp)
  | succ m => exact .inr ((T.add_to h hp hw (m + 1) hj).has (Nat.lt_succ_self m))
set_option maxRecDepth 100000 in
theorem refAdd_wrong (A B : Option Addr) (c d m : Nat) (t : List T.Ln) (w : World) (hA : Seen eL w A t) (htc : t.length ≤ c) (hc : NilOk A c) (hl : t.length ≤ 1073741824) (hR : ¬ T.RightT t) :
    Calls Try.prog 41 #[.slice A t.length c, .slice B m d] w (RefAddN w t 1) := by
  have HA := Lib.hid hA
  have HR := Lib.hid hR
  have HCC := Lib.hid (show t.length ≤ c ∧ NilOk A c from ⟨htc, hc⟩)
  clear hA hR htc hc
  go_enter Try.func41, Try.ntmps41
  go_wp2_with fail
  refine (rightR_is A c t false _ HA.out hl (no_iff HR.out)).mono ?_
  rintro e w1 ⟨rfl, hb1⟩
  go_wp2
  go_ret2
  exact ⟨A, c, rfl, HA.out.below hb1, hb1, HCC.out.1, HCC.out.2⟩
set_option maxRecDepth 100000 in
theorem refAdd_none (A B : Option Addr) (c d : Nat) (t : List T.Ln) (w : World) (hA : Seen eL w A t) (htc : t.length ≤ c) (hc : NilOk A c) (hl : t.length ≤ 1073741824) (hR : T.RightT t) :
    Calls Try.prog 41 #[.slice A t.length c, .slice B 0 d] w (RefAddN w t 1) := by
  have HA := Lib.hid hA
  have HR := Lib.hid hR
  have HCC := Lib.hid (show t.length ≤ c ∧ NilOk A c from ⟨htc, hc⟩)
  clear hA hR htc hc
  go_enter Try.func41, Try.ntmps41
  go_wp2_with fail
  refine (rightR_is A c t true _ HA.out hl (yes_iff HR.out)).mono ?_
  rintro e w1 ⟨rfl, hb1⟩
  go_wp2
  go_ret2
  exact ⟨A, c, rfl, HA.out.below hb1, hb1, HCC.out.1, HCC.out.2⟩
set_option maxRecDepth 100000 in
set_option maxHeartbeats 4000000 in
theorem refAdd_right (A : Option Addr) (b o c d : Nat) (t u : List T.Ln) (p : T.Pth) (er : Int) (w : World) (hA : Seen eL w A t) (hc : NilOk A c) (htc : t.length ≤ c) (hbB : b < w.heap.size) (hB : Holds eS w b o p) (hd : p.length ≤ d) (hp : p.length ≤ 1073741824) (h0 : 0 < p.length) (hR : T.RightT t) (h : AddIs t p u er) :
    Calls Try.prog 41 #[.slice A t.length c, .slice (some ⟨b, o, none⟩) p.length d] w (RefAddN w u er) := by
  have hl : t.length ≤ 200 := hR.len
  have b0 : ((p.length : Int) == 0) = false := beq_eq_false_iff_ne.2 (by omega)
  have b1 : (p.length == 0) = false := beq_eq_false_iff_ne.2 (by omega)
  have HV := Lib.hid (VecE.of hA hc htc)
  have HA := Lib.hid hA
  have HB := Lib.hid hB
  have HR := Lib.hid hR
  have H := Lib.hid h
  have HCC := Lib.hid (show t.length ≤ c ∧ NilOk A c from ⟨htc, hc⟩)
  clear hA hB hR h hc htc
  go_enter Try.func41, Try.ntmps41
  go_wp2_with fail
  refine (rightR_is A c t true _ HA.out (by omega) (yes_iff HR.out)).mono ?_
  rintro e w1 ⟨rfl, hb1⟩
  go_wp2
  go_loopg [6] p.length (fun g x wr => ∃ k : Nat, Hid (k + g = p.length) ∧ k ≤ p.length ∧ x = .int .i64 k ∧ Hid (∀ j (hj : j < p.length), j < k → decide (40 < p[j].length) = false) ∧ Below w.heap.size w wr)
  case atStart => exact ⟨0, Nat.zero_add _, Nat.zero_le _, rfl, (fun j h1 h2 => absurd h2 (Nat.not_lt_zero j)), hb1⟩
  case round =>
    obtain ⟨k, HG, hk, rfl, HI, hb⟩ := hrel
    clear hb1
    by_cases hlt : k < p.length
    · have blt : decide ((k : Int) < (p.length : Int)) = true := decide_eq_true (by omega)
      have c1 := (HB.out.belowN hb hbB).str hlt
      obtain ⟨x, hx⟩ : ∃ x, p[k] = x := ⟨_, rfl⟩
      rw [hx] at c1
      have hs := sB_size x
      cases he : decide (40 < x.length) with
      | true =>
        have b4 : decide ((40 : Int) < ((sB x).size : Int)) = true := decide_eq_true (by rw [hs]; have := of_decide_eq_true he; omega)
        have HN := Lib.hid (show u = t ∧ er = 1 by
          have hlo := longB_yes hlt (by rw [hx]; exact he)
          rcases H.out with ⟨e1, e2, _⟩ | ⟨⟨_, e3, _⟩, _⟩
          · exact ⟨e1, e2⟩
          · rw [hlo] at e3; cases e3)
        clear hx he hs
        go_wp2
        go_ret2
        obtain ⟨e1, e2⟩ := HN.out
        subst e1; subst e2
        exact ⟨A, c, rfl, HA.out.below hb, hb, HCC.out.1, HCC.out.2⟩
      | false =>
        have b4 : decide ((40 : Int) < ((sB x).size : Int)) = false := decide_eq_false (by rw [hs]; have := of_decide_eq_false he; omega)
        have HN := Lib.hid (show ∀ j (hj : j < p.length), j < k + 1 → decide (40 < p[j].length) = false from fun j hj hjk => by
          rcases Nat.lt_or_ge j k with h1 | h1
          · exact HI.out j hj h1
          · obtain rfl : j = k := by omega
            rw [hx]; exact he)
        clear hx he hs
        go_wp2
        have hgk := HG.out
        go_roundg (p.length - (k + 1))
        case rel => exact ⟨k + 1, (by show _ = _; omega), by omega, by go_num, HN, hb⟩
        case measure => omega
    · have blt : decide ((k : Int) < (p.length : Int)) = false := decide_eq_false (by omega)
      have HLO := Lib.hid (longB_no (p := p) fun j hj => HI.out j hj (by omega))
      have hko : k = p.length := by omega
      subst hko
      clear HG HI
      by_cases h16 : 16 < p.length
      · have b2 : decide ((16 : Int) < (p.length : Int)) = true := decide_eq_true (by omega)
        have b3 : decide (16 < p.length) = true := decide_eq_true h16
        have HN := Lib.hid (show u = t ∧ er = 6 by
          rcases H.out with ⟨_, _, e | e | e⟩ | ⟨_, ⟨e1, e2, _⟩ | ⟨e, _⟩⟩
          · subst e; simp at h0
          · rw [HLO.out] at e; cases e
          · exact absurd HR.out e
          · exact ⟨e1, e2⟩
          · omega)
        go_wp2
        go_ret2
        obtain ⟨e1, e2⟩ := HN.out
        subst e1; subst e2
        exact ⟨A, c, rfl, HA.out.below hb, hb, HCC.out.1, HCC.out.2⟩
      · have b2 : decide ((16 : Int) < (p.length : Int)) = false := decide_eq_false (by omega)
        have b3 : decide (16 < p.length) = false := decide_eq_false h16
        have HW := Lib.hid (longB_all HLO.out)
        have hp16 : p.length ≤ 16 := by omega
        have HX := Lib.hid (show (200 < (T.addL t p).length ∧ u = t ∧ er = 5) ∨ ((T.addL t p).length ≤ 200 ∧ u = T.addL t p ∧ er = 0) by
          rcases H.out with ⟨_, _, e | e | e⟩ | ⟨_, ⟨_, _, e⟩ | ⟨_, e⟩⟩
          · subst e; simp at h0
          · rw [HLO.out] at e; cases e
          · exact absurd HR.out e
          · omega
          · exact e)
        have HBk := Lib.hid hb
        clear h16 HLO hb hlt blt
        go_wp2
        go_loopg [7, 8] p.length (fun g vo vn wr => ∃ j : Nat, Hid (j + g = p.length) ∧ j ≤ p.length ∧ Hid (VecE wr vo (T.addTo t p j)) ∧ vn = .int .i64 ((j : Int) + 1) ∧ Below w.heap.size w wr)
        case atStart => exact ⟨0, Nat.zero_add _, Nat.zero_le _, HV.out.below HBk.out, rfl, HBk.out⟩
        case round =>
          obtain ⟨j, HG, hj, HVr, rfl, hb⟩ := hrel
          obtain ⟨y, hy⟩ : ∃ y, T.addTo t p j = y := ⟨_, rfl⟩
          have hadd := T.add_to HR.out hp16 HW.out j hj
          rw [hy] at hadd
          have hyl := hadd.len
          obtain ⟨Ay, cy, e, hyc, hSy⟩ := HVr.out.seen
          rw [hy] at e hyc hSy
          have HNY := Lib.hid (HVr.out.nilOk e)
          have HYC := Lib.hid hyc
          subst e
          have HSY := Lib.hid hSy
          have HY := Lib.hid hy
          have HAD := Lib.hid hadd
          clear hSy hy hadd
          by_cases hlt : j < p.length
          · have blt : decide ((j : Int) + 1 ≤ (p.length : Int)) = true := decide_eq_true (by omega)
            have hji : (j : Int) + 1 ≤ (d : Int) := by omega
            have hji2 : (j : Int) ≤ (d : Int) := by omega
            have hji3 : (j : Int) < (p.length : Int) := by omega
            have hjd : j + 1 ≤ d := by omega
            have hHb := HB.out.belowN hb hbB
            have HQ := Lib.hid (show (p.take (j + 1)).length = j + 1 by rw [List.length_take]; omega)
            have hfind := refFind_any Ay (some ⟨b, o, none⟩) cy d y (p.take (j + 1)) wr HSY.out ((hHb.take (j + 1)).seen (Nat.lt_of_lt_of_le hbB hb.size)) (by omega) (by rw [HQ.out]; omega) HAD.out.right
            rw [HQ.out] at hfind
            have c1 := hHb.str hlt
            have hx1 : p[j] = p.getD j [] := by unfold List.getD; rw [List.getElem?_eq_getElem hlt]; rfl
            obtain ⟨x, hx⟩ : ∃ x, p.getD j [] = x := ⟨_, rfl⟩
            rw [hx1, hx] at c1
            have HXX := Lib.hid hx
            clear hHb hx1 hx
            go_wp2_with fail
            refine hfind.mono ?_
            rintro e w2 ⟨hcase, hx2⟩
            clear hfind
            rcases hcase with ⟨i, hi, hpi, rfl⟩ | ⟨hno, rfl⟩
            · have bi : decide ((i : Int) < 0) = false := decide_eq_false (by omega)
              have HN := Lib.hid (show T.addTo t p (j + 1) = y by
                unfold T.addTo
                rw [HY.out, T.findI_some HAD.out.right hi hpi, if_neg (by omega)])
              have hbn := bthen hb hx2
              have HV2 := Lib.hid (HVr.out.below hx2)
              clear hpi hb hx2
              go_wp2
              have hgk := HG.out
              go_roundg (p.length - (j + 1))
              case rel => exact ⟨j + 1, (by show _ = _; omega), by omega, (by show VecE _ _ _; rw [HN.out, ← HY.out]; have h2 := HV2.out; rw [HY.out] at h2 ⊢; exact h2), by go_num, hbn⟩
              case measure => omega
            · have HN := Lib.hid (show T.addTo t p (j + 1) = T.putL y (p.take j) x 0 by
                unfold T.addTo
                rw [HY.out, T.findI_none hno, if_pos (by omega), HXX.out])
              have hbn := bthen hb hx2
              have HV2 := Lib.hid (HVr.out.below hx2)
              have hop := add_open HR.out hp16 HW.out hj
              rw [HY.out] at hop
              have HOP := Lib.hid hop
              have HPJ := Lib.hid (show VecAt eS w2 (.slice (some ⟨b, o, none⟩) j d) (p.take j) from by
                have hlj : (p.take j).length = j := by rw [List.length_take]; omega
                refine .inr ⟨b, o, d, by rw [hlj], by omega, Nat.lt_of_lt_of_le hbB hbn.size, (HB.out.belowN hbn hbB).take j⟩)
              have HTL := Lib.hid (show (p.take j).length ≤ 16 by rw [List.length_take]; omega)
              replace c1 := (hx2.cell (p := ⟨b, o + j, none⟩) (Nat.lt_of_lt_of_le hbB hb.size)).trans c1
              clear hno hop hx2
              have hV3 := HV2.out
              rw [HY.out] at hV3
              have HV3 := Lib.hid hV3
              clear hV3 HV2 HVr
              have hwj : IntKind.i64.wrap ((j : Int) + 1 - 1) = (j : Int) := by rw [wrapI _ (by omega)]; omega
              have hwj2 : IntKind.i64.wrap (j : Int) = (j : Int) := wrapI _ (by omega)
              go_wp2
              go_still_tail 10, (by kernel_rfl)
              change wpList _ _ _ _ _ w2.drew
              clear hwj hwj2
              go_wp2_with fail
              refine (put_gen (N := 216) (by decide) _ _ y (p.take j) x 0 _ (HV3.out.below ((Below.refl _ _).drew)) (HPJ.out.below ((Below.refl _ _).drew)) HAD.out.right HOP.out HTL.out).mono ?_
              rintro e w3 ⟨v3, rfl, hv3, hx3⟩
              have hbn2 := bthen hbn.drew hx3
              have HV4 := Lib.hid hv3
              clear hv3 hx3
              go_wp2
              have hgk := HG.out
              go_roundg (p.length - (j + 1))
              case rel => exact ⟨j + 1, (by show _ = _; omega), by omega, (by show VecE _ _ _; rw [HN.out]; exact .inl HV4.out), by go_num, hbn2⟩
              case measure => omega
          · have blt : decide ((j : Int) + 1 ≤ (p.length : Int)) = false := decide_eq_false (by omega)
            have hje : j = p.length := by omega
            have HE := Lib.hid (show y = T.addL t p by rw [← HY.out, hje]; rfl)
            have HX2 := Lib.hid (show (200 < y.length ∧ u = t ∧ er = 5) ∨ (y.length ≤ 200 ∧ u = y ∧ er = 0) by rw [HE.out]; exact HX.out)
            clear hje
            rcases HX2.out with ⟨h5, h6, h7⟩ | ⟨h5, h6, h7⟩
            · have b5 : decide ((200 : Int) < (y.length : Int)) = true := decide_eq_true (by omega)
              have b6 : decide (200 < y.length) = true := decide_eq_true h5
              have H6 := Lib.hid h6
              have H7 := Lib.hid h7
              clear h5 h6 h7 HX2
              go_wp2
              go_ret2
              have h6 := H6.out
              have h7 := H7.out
              subst h6; subst h7
              exact ⟨A, c, rfl, HA.out.below hb, hb, HCC.out.1, HCC.out.2⟩
            · have b5 : decide ((200 : Int) < (y.length : Int)) = false := decide_eq_false (by omega)
              have b6 : decide (200 < y.length) = false := decide_eq_false (by omega)
              have H6 := Lib.hid h6
              have H7 := Lib.hid h7
              clear h5 h6 h7 HX2
              go_wp2
              go_ret2
              have h6 := H6.out
              have h7 := H7.out
              subst h6; subst h7
              exact ⟨Ay, cy, rfl, HSY.out, hb, HYC.out, HNY.out⟩
end Go.Proofs.Ytkifapbiimlafaa

namespace Go.Proofs.Ytkifapbiimlafaa
open Go.RowKit
/-- The document's Add. -/
theorem ref_addN (A B : Option Addr) (c d n m : Nat) (t u : List T.Ln) (p : T.Pth) (er : Int) (w : World) (hn : t.length = n) (hm : p.length = m) (hA : Seen eL w A t) (hB : Seen eS w B p) (hc : NilOk A c) (htc : n ≤ c) (hd : m ≤ d) (hl : n ≤ 1073741824) (hp : m ≤ 1073741824) (h : AddIs t p u er) :
    Calls Try.prog 41 #[.slice A n c, .slice B m d] w (RefAddN w u er) := by
  subst hn; subst hm
  have h1 : (¬ T.RightT t ∨ p = []) → u = t ∧ er = 1 := fun hx => by
    rcases h with ⟨e1, e2, _⟩ | ⟨⟨e1, _, e3⟩, _⟩
    · exact ⟨e1, e2⟩
    · rcases hx with hx | hx
      · exact absurd e3 hx
      · subst hx; exact absurd e1 (Nat.lt_irrefl 0)
  by_cases hR : T.RightT t
  · by_cases h0 : 0 < p.length
    · obtain ⟨b, o, rfl, hb, hH⟩ := hB h0
      exact refAdd_right A b o c d t u p er w hA hc htc hb hH hd hp h0 hR h
    · obtain rfl : p = [] := List.eq_nil_of_length_eq_zero (by omega)
      obtain ⟨e1, e2⟩ := h1 (.inr rfl)
      subst e1; subst e2
      exact refAdd_none A B c d u w hA htc hc hl hR
  · obtain ⟨e1, e2⟩ := h1 (.inl hR)
    subst e1; subst e2
    exact refAdd_wrong A B c d _ u w hA htc hc hl hR
theorem ref_add (A B : Option Addr) (c d n m : Nat) (t u : List T.Ln) (p : T.Pth) (er : Int) (w : World) (hn : t.length = n) (hm : p.length = m) (hA : Seen eL w A t) (hB : Seen eS w B p) (hc : NilOk A c) (htc : n ≤ c) (hd : m ≤ d) (hl : n ≤ 1073741824) (hp : m ≤ 1073741824) (h : AddIs t p u er) :
    Calls Try.prog 41 #[.slice A n c, .slice B m d] w (RefAddS w u er) := (ref_addN A B c d n m t u p er w hn hm hA hB hc htc hd hl hp h).mono fun _ _ ⟨A1, c1, e1, h1, h2, _⟩ => ⟨A1, c1, e1, h1, h2⟩
theorem AddIs.len {t u : List T.Ln} {p : T.Pth} {er : Int} (h : AddIs t p u er) (ht : t.length ≤ 220) : u.length ≤ 220 := by
  rcases h with ⟨rfl, _⟩ | ⟨_, ⟨rfl, _⟩ | ⟨_, ⟨_, rfl, _⟩ | ⟨h, rfl, _⟩⟩⟩
  · exact ht
  · exact ht
  · exact ht
  · omega
end Go.Proofs.Ytkifapbiimlafaa
