/-
  Contract of the document's Of (layer 8): the difference of two trees. Condition: trees.
-/
import Derived.Test.YtgjnafnmdieniaaDoorDiffA
import Derived.Deep.QuietTactic
import Derived.BigQuiet
namespace Go.Proofs.YtgjnafnmdieniaaDoor
open Go.RowKit
set_option linter.unusedVariables false

theorem refFindI {N : Nat} (A B : Option Addr) (c d n m : Nat) (t : List T.Ln) (p : T.Pth) (f : Int) (w : World) (hn : t.length = n) (hm : p.length = m) (hA : Seen eL w A t) (hB : Seen eS w B p) (hl : n ≤ 1073741824) (hp : m ≤ 1073741824) (hR : T.RightN N t) (hf : T.findI t p = f) :
    Calls Tryd.prog 29 #[.slice A n c, .slice B m d] w (IntS w f) := by
  subst hn; subst hm; subst hf
  refine (refFind_any A B c d t p w hA hB hl hp hR).mono ?_
  rintro e w1 ⟨⟨i, hi, h2, rfl⟩ | ⟨h2, rfl⟩, hb⟩
  · exact ⟨by rw [T.findI_some hR hi h2], hb⟩
  · exact ⟨by rw [T.findI_none h2], hb⟩
theorem refPathF {N : Nat} (A : Option Addr) (c n i q : Nat) (t : List T.Ln) (p : T.Pth) (w : World) (hn : t.length = n) (hA : Seen eL w A t) (hl : n ≤ 1073741824) (hi : i < n) (hR : T.RightN N t) (hp : T.pathL t i = p) (hq : p.length = q + 1) :
    Calls Tryd.prog 28 #[.slice A n c, .int .i64 i] w (fun e w' => ∃ b o cap, e = .returned (.slice (some ⟨b, o, none⟩) (q + 1) cap) ∧ q + 1 ≤ cap ∧ w.heap.size ≤ b ∧ b < w'.heap.size ∧ Holds eS w' b o p ∧ Below w.heap.size w w') := by
  subst hn
  refine (refPath_new A c t i w hA hl hi hR).mono ?_
  rintro e w1 ⟨B, cap, rfl, h2, h3, h4, h5⟩
  rw [hp] at h2 h3
  rw [hp]
  obtain ⟨b, o, rfl, hb, hH⟩ := h3 (by omega)
  exact ⟨b, o, cap, by rw [hq], by omega, h4 _ rfl, hb, hH, h5⟩
theorem entries_next (t : List T.Ln) {k : Nat} (hk : k < t.length) : (T.entries t).take (k + 1) = (T.entries t).take k ++ [(T.pathL t k, (T.at_ t k).mark)] := by
  have hkl : k < (T.entries t).length := by rw [T.entries_len]; exact hk
  rw [List.take_succ_eq_append_getElem hkl, T.entries_at t k hk]
theorem entries_all (t : List T.Ln) : (T.entries t).take t.length = T.entries t := by
  conv => lhs; rw [← T.entries_len t]
  exact List.take_length
theorem find_neg (t : List T.Ln) (p : T.Pth) : decide (T.findI t p < 0) = !T.inB t p := by
  unfold T.inB
  rw [Bool.eq_iff_iff]; simp
theorem gone_len (b : List T.Ln) (l : List (T.Pth × Int)) : (T.goneL b l).length ≤ l.length := by unfold T.goneL; rw [List.length_map]; exact List.length_filter_le _ _
theorem adds_len (b : List T.Ln) (l : List (T.Pth × Int)) : (T.addsL b l).length ≤ l.length := by unfold T.addsL; rw [List.length_map]; exact List.length_filter_le _ _
theorem marks_len (b : List T.Ln) (l : List (T.Pth × Int)) : (T.marksL b l).length ≤ l.length := by unfold T.marksL; rw [List.length_map]; exact List.length_filter_le _ _
theorem taken_len (t : List T.Ln) (k : Nat) : ((T.entries t).take k).length ≤ k := by rw [List.length_take]; omega
set_option maxRecDepth 100000 in
set_option maxHeartbeats 8000000 in
theorem refOf_any (A B : Option Addr) (c d n m : Nat) (a b : List T.Ln) (w : World) (hn : a.length = n) (hm : b.length = m) (hA : Seen eL w A a) (hB : Seen eL w B b) (ha : T.RightT a) (hb : T.RightT b) :
    Calls Tryd.prog 14 #[.slice A n c, .slice B m d] w (fun e w' => ∃ v, e = .returned v ∧ OwnC eF w' w.heap.size v (T.diffL a b) ∧ Below w.heap.size w w') := by
  have hn200 : n ≤ 200 := by rw [← hn]; exact ha.len
  have hm200 : m ≤ 200 := by rw [← hm]; exact hb.len
  have HA := Lib.hid hA
  have HB := Lib.hid hB
  have HN := Lib.hid hn
  have HM := Lib.hid hm
  have HRA := Lib.hid ha
  have HRB := Lib.hid hb
  clear hA hB hn hm ha hb
  go_enter Tryd.func14, Tryd.ntmps14
  go_wp2
  go_loopg [5, 6] n (fun gk vo vi wr => ∃ k : Nat, Hid (k + gk = n) ∧ k ≤ n ∧ Hid (OwnC eF wr w.heap.size vo (T.goneL b ((T.entries a).take k))) ∧ vi = .int .i64 (k : Int) ∧ Below w.heap.size w wr)
  case atStart => exact ⟨0, Nat.zero_add _, Nat.zero_le _, OwnC.nil _ _ _, rfl, Below.refl _ _⟩
  case round =>
    obtain ⟨k, HG, hk, HO, rfl, hbr⟩ := hrel
    by_cases hlt : k < n
    · have blt : decide ((k : Int) < (n : Int)) = true := decide_eq_true (by omega)
      have blt2 : decide (k < n) = true := decide_eq_true hlt
      have hka : k < a.length := by have := HN.out; omega
      obtain ⟨P, hP⟩ : ∃ P, T.pathL a k = P := ⟨_, rfl⟩
      have hdeep := S.RightN.path_deep HRA.out hka
      rw [hP] at hdeep
      obtain ⟨q, hq⟩ : ∃ q, P.length = q + 1 := ⟨P.length - 1, by omega⟩
      have hq15 : q ≤ 15 := by omega
      have HEN := Lib.hid (entries_next a hka)
      have HGN := Lib.hid (T.goneL_next b ((T.entries a).take k) (T.pathL a k, (T.at_ a k).mark))
      obtain ⟨f, hf⟩ : ∃ f, T.findI b P = f := ⟨_, rfl⟩
      have hneg := find_neg b P
      rw [hf] at hneg
      have HP := Lib.hid hP
      have HQ := Lib.hid hq
      have HF := Lib.hid hf
      have HGL := Lib.hid (show (T.goneL b ((T.entries a).take k)).length + 1 ≤ 1099511627776 by have := gone_len b ((T.entries a).take k); have := taken_len a k; omega)
      have HUP := Lib.hid (show P.take q = P.dropLast by rw [List.dropLast_eq_take]; congr 1; omega)
      have hsz := hbr.size
      have HBR := Lib.hid hbr
      clear hP hq hf hdeep
      go_wp2_with fail
      refine (refPathF A c n k q a P wr HN.out (HA.out.below hbr) (by omega) hlt HRA.out HP.out HQ.out).mono ?_
      rintro e w1 ⟨pb, po, pc, rfl, hqc, hpn, hpb, hPH, hx1⟩
      have HPH := Lib.hid hPH
      have HX1 := Lib.hid hx1
      have HB1 := Lib.hid (bthen hbr hx1)
      have hq1 : q ≤ pc := by omega
      have hq2 : (q : Int) ≤ (pc : Int) := by omega
      clear hPH hx1 hbr
      go_wp2_with fail
      refine (refFindI B _ d pc m (q + 1) b P f w1 HM.out HQ.out (HB.out.below HB1.out) (HPH.out.seen hpb) (by omega) (by omega) HRB.out HF.out).mono ?_
      rintro e w2 ⟨rfl, hx2⟩
      have HB2 := Lib.hid (bthen HB1.out hx2)
      have HX2 := Lib.hid (bthen HX1.out hx2)
      have HPH2 := Lib.hid (HPH.out.below hx2 hpb)
      have hpb2 : pb < w2.heap.size := Nat.lt_of_lt_of_le hpb hx2.size
      have HO2 := Lib.hid (HO.out.keep HX2.out)
      clear hx2
      have hgk := HG.out
      cases hin : T.inB b P with
      | true =>
        rw [hin] at hneg
        have HN2 := Lib.hid (show T.goneL b ((T.entries a).take (k + 1)) = T.goneL b ((T.entries a).take k) by
          rw [HEN.out, HGN.out, if_neg (by rw [HP.out]; unfold T.goneB; rw [hin]; simp), List.append_nil])
        clear hin
        go_wp2
        go_roundg (n - (k + 1))
        case rel => exact ⟨k + 1, (by show _ = _; omega), by omega, Lib.hid (by rw [HN2.out]; exact HO2.out), by go_num, HB2.out⟩
        case measure => omega
      | false =>
        rw [hin] at hneg
        have HIN := Lib.hid hin
        clear hin
        by_cases h0 : q = 0
        · subst h0
          have HN2 := Lib.hid (show T.goneL b ((T.entries a).take (k + 1)) = T.goneL b ((T.entries a).take k) ++ [⟨1, P, 0⟩] by
            rw [HEN.out, HGN.out, if_pos (by
              show T.goneB b (T.pathL a k) = true
              rw [HP.out]; unfold T.goneB
              have e0 : P.dropLast = [] := by rw [← HUP.out]; rfl
              rw [HIN.out, e0]; simp)]
            rw [HP.out])
          have hy : ChS w2 ⟨1, some ⟨pb, po, none⟩, 0 + 1, pc, 0⟩ ⟨1, P, 0⟩ := ⟨rfl, rfl, HQ.out, hqc, HPH2.out.seen hpb2⟩
          have hfr : Free _ ⟨1, some ⟨pb, po, none⟩, 0 + 1, pc, 0⟩ ⟨1, P, 0⟩ := Free.new HO.out (k := pb) hpn (fun ad e => by injection e with e; rw [← e]; exact Nat.le_refl _)
          have HY := Lib.hid hy
          have HFR := Lib.hid hfr
          have hsz2 := HB2.out.size
          clear hy hfr
          go_wp2_with (at_builtin; refine wpList_appC eF w2 rfl (.tmp 43) (.tmp 46) rfl w.heap.size u5 (T.goneL b ((T.entries a).take k)) rfl HO2.out ⟨1, P, 0⟩ _ HY.out HFR.out 1 _ rfl w2.heap.size rfl rfl HGL.out hsz2 ?_; intro v3 w3 hown3 hb3)
          go_roundg (n - (k + 1))
          case rel => exact ⟨k + 1, (by show _ = _; omega), by omega, Lib.hid (by rw [HN2.out]; exact hown3), by go_num, HB2.out.trans hb3⟩
          case measure => omega
        · have bq : ((q : Int) == 0) = false := beq_eq_false_iff_ne.2 (by omega)
          have bq2 : (q == 0) = false := beq_eq_false_iff_ne.2 h0
          obtain ⟨f2, hf2⟩ : ∃ f2, T.findI b (P.take q) = f2 := ⟨_, rfl⟩
          have hge : decide (0 ≤ f2) = T.inB b P.dropLast := by rw [← hf2, HUP.out]; rfl
          have HF2 := Lib.hid hf2
          have HTL := Lib.hid (show (P.take q).length = q by rw [List.length_take, HQ.out]; omega)
          clear hf2
          go_wp2_with fail
          refine (refFindI B _ d pc m q b (P.take q) f2 w2 HM.out HTL.out (HB.out.below HB2.out) ((HPH2.out.take q).seen hpb2) (by omega) (by omega) HRB.out HF2.out).mono ?_
          rintro e w3 ⟨rfl, hx3⟩
          have HB3 := Lib.hid (bthen HB2.out hx3)
          have HPH3 := Lib.hid (HPH2.out.below hx3 hpb2)
          have hpb3 : pb < w3.heap.size := Nat.lt_of_lt_of_le hpb2 hx3.size
          have HO3 := Lib.hid (HO2.out.keep hx3)
          clear hx3
          cases hin2 : T.inB b P.dropLast with
          | false =>
            rw [hin2] at hge
            have HN2 := Lib.hid (show T.goneL b ((T.entries a).take (k + 1)) = T.goneL b ((T.entries a).take k) by
              rw [HEN.out, HGN.out, if_neg (by
                show ¬ T.goneB b (T.pathL a k) = true
                rw [HP.out]; unfold T.goneB
                have e0 : P.dropLast ≠ [] := by rw [← HUP.out]; intro e; have := HTL.out; rw [e] at this; simp at this; omega
                rw [HIN.out, hin2, decide_eq_false e0]; simp), List.append_nil])
            clear hin2
            go_wp2
            go_roundg (n - (k + 1))
            case rel => exact ⟨k + 1, (by show _ = _; omega), by omega, Lib.hid (by rw [HN2.out]; exact HO3.out), by go_num, HB3.out⟩
            case measure => omega
          | true =>
            rw [hin2] at hge
            have HN2 := Lib.hid (show T.goneL b ((T.entries a).take (k + 1)) = T.goneL b ((T.entries a).take k) ++ [⟨1, P, 0⟩] by
              rw [HEN.out, HGN.out, if_pos (by
                show T.goneB b (T.pathL a k) = true
                rw [HP.out]; unfold T.goneB
                rw [HIN.out, hin2]; simp)]
              rw [HP.out])
            have hy : ChS w3 ⟨1, some ⟨pb, po, none⟩, q + 1, pc, 0⟩ ⟨1, P, 0⟩ := ⟨rfl, rfl, HQ.out, hqc, HPH3.out.seen hpb3⟩
            have hfr : Free _ ⟨1, some ⟨pb, po, none⟩, q + 1, pc, 0⟩ ⟨1, P, 0⟩ := Free.new HO.out (k := pb) hpn (fun ad e => by injection e with e; rw [← e]; exact Nat.le_refl _)
            have HY := Lib.hid hy
            have HFR := Lib.hid hfr
            have hsz3 := HB3.out.size
            clear hy hfr hin2
            go_wp2_with (at_builtin; refine wpList_appC eF w3 rfl (.tmp 43) (.tmp 46) rfl w.heap.size u5 (T.goneL b ((T.entries a).take k)) rfl HO3.out ⟨1, P, 0⟩ _ HY.out HFR.out 1 _ rfl w3.heap.size rfl rfl HGL.out hsz3 ?_; intro v3 w4 hown3 hb3)
            go_roundg (n - (k + 1))
            case rel => exact ⟨k + 1, (by show _ = _; omega), by omega, Lib.hid (by rw [HN2.out]; exact hown3), by go_num, HB3.out.trans hb3⟩
            case measure => omega
    · have blt : decide ((k : Int) < (n : Int)) = false := decide_eq_false (by omega)
      have blt2 : decide (k < n) = false := decide_eq_false hlt
      obtain rfl : n = k := by omega
      have HO1 := Lib.hid (show OwnC eF wr w.heap.size _ (T.goneL b (T.entries a)) by have := HO.out; rw [← HN.out, entries_all] at this; exact this)
      have HGA := Lib.hid (show (T.goneL b (T.entries a)).length ≤ 200 by have := gone_len b (T.entries a); rw [T.entries_len, HN.out] at this; omega)
      obtain ⟨G, hG⟩ : ∃ G, T.goneL b (T.entries a) = G := ⟨_, rfl⟩
      rw [hG] at HO1 HGA
      have HG2 := Lib.hid hG
      have HBR := Lib.hid hbr
      clear hG HO HG hbr
      go_wp2
      go_loopg [5, 9] m (fun gk vo vi wr => ∃ k : Nat, Hid (k + gk = m) ∧ k ≤ m ∧ Hid (OwnC eF wr w.heap.size vo (G ++ T.addsL a ((T.entries b).take k))) ∧ vi = .int .i64 (k : Int) ∧ Below w.heap.size w wr)
      case atStart => exact ⟨0, Nat.zero_add _, Nat.zero_le _, Lib.hid (by rw [List.take_zero]; show OwnC eF _ _ _ (G ++ []); rw [List.append_nil]; exact HO1.out), rfl, HBR.out⟩
      case round =>
        obtain ⟨k, HG, hk, HO, rfl, hbr⟩ := hrel
        by_cases hlt : k < m
        · have blt : decide ((k : Int) < (m : Int)) = true := decide_eq_true (by omega)
          have blt2 : decide (k < m) = true := decide_eq_true hlt
          have hkb : k < b.length := by have := HM.out; omega
          obtain ⟨P, hP⟩ : ∃ P, T.pathL b k = P := ⟨_, rfl⟩
          obtain ⟨mk, hmk⟩ : ∃ mk, (T.at_ b k).mark = mk := ⟨_, rfl⟩
          have hdeep := S.RightN.path_deep HRB.out hkb
          rw [hP] at hdeep
          obtain ⟨q, hq⟩ : ∃ q, P.length = q + 1 := ⟨P.length - 1, by omega⟩
          have hq15 : q ≤ 15 := by omega
          have hen := entries_next b hkb
          rw [hP, hmk] at hen
          have HEN := Lib.hid hen
          have HGN := Lib.hid (T.addsL_next a ((T.entries b).take k) (P, mk))
          obtain ⟨f, hf⟩ : ∃ f, T.findI a P = f := ⟨_, rfl⟩
          have hneg := find_neg a P
          rw [hf] at hneg
          have HP := Lib.hid hP
          have HMK := Lib.hid hmk
          have HQ := Lib.hid hq
          have HF := Lib.hid hf
          have HGL := Lib.hid (show (G ++ T.addsL a ((T.entries b).take k)).length + 1 ≤ 1099511627776 by have := adds_len a ((T.entries b).take k); have := taken_len b k; have := HGA.out; rw [List.length_append]; omega)
          have HBR := Lib.hid hbr
          clear hP hq hf hdeep hmk hen
          go_wp2_with fail
          refine (refPathF B d m k q b P wr HM.out (HB.out.below hbr) (by omega) hlt HRB.out HP.out HQ.out).mono ?_
          rintro e w1 ⟨pb, po, pc, rfl, hqc, hpn, hpb, hPH, hx1⟩
          have HPH := Lib.hid hPH
          have HX1 := Lib.hid hx1
          have HB1 := Lib.hid (bthen hbr hx1)
          clear hPH hx1 hbr
          go_wp2_with fail
          refine (refFindI A _ c pc n (q + 1) a P f w1 HN.out HQ.out (HA.out.below HB1.out) (HPH.out.seen hpb) (by omega) (by omega) HRA.out HF.out).mono ?_
          rintro e w2 ⟨rfl, hx2⟩
          have HB2 := Lib.hid (bthen HB1.out hx2)
          have HX2 := Lib.hid (bthen HX1.out hx2)
          have HPH2 := Lib.hid (HPH.out.below hx2 hpb)
          have hpb2 : pb < w2.heap.size := Nat.lt_of_lt_of_le hpb hx2.size
          have HO2 := Lib.hid (HO.out.keep HX2.out)
          clear hx2
          have hgk := HG.out
          cases hin : T.inB a P with
          | true =>
            rw [hin] at hneg
            have HN2 := Lib.hid (show G ++ T.addsL a ((T.entries b).take (k + 1)) = G ++ T.addsL a ((T.entries b).take k) by
              rw [HEN.out, HGN.out, if_neg (by show ¬ T.inB a P = false; rw [hin]; simp), List.append_nil])
            clear hin
            go_wp2
            go_roundg (m - (k + 1))
            case rel => exact ⟨k + 1, (by show _ = _; omega), by omega, Lib.hid (by rw [HN2.out]; exact HO2.out), by go_num, HB2.out⟩
            case measure => omega
          | false =>
            rw [hin] at hneg
            have HN2 := Lib.hid (show G ++ T.addsL a ((T.entries b).take (k + 1)) = (G ++ T.addsL a ((T.entries b).take k)) ++ [⟨2, P, mk⟩] by
              rw [HEN.out, HGN.out, if_pos (by show T.inB a P = false; exact hin), List.append_assoc])
            obtain ⟨bb, ob, rfl, hbb, hHb⟩ := HB.out.lines (by omega)
            obtain ⟨_, _, l2⟩ := (hHb.below HB2.out hbb).line hkb
            rw [HMK.out] at l2
            have hy : ChS w2 ⟨2, some ⟨pb, po, none⟩, q + 1, pc, mk⟩ ⟨2, P, mk⟩ := ⟨rfl, rfl, HQ.out, hqc, HPH2.out.seen hpb2⟩
            have hfr : Free _ ⟨2, some ⟨pb, po, none⟩, q + 1, pc, mk⟩ ⟨2, P, mk⟩ := Free.new HO.out (k := pb) hpn (fun ad e => by injection e with e; rw [← e]; exact Nat.le_refl _)
            have HY := Lib.hid hy
            have HFR := Lib.hid hfr
            have hsz2 := HB2.out.size
            have hki : (k : Int) < (m : Int) := by omega
            clear hy hfr hin hHb
            go_wp2_with (at_builtin; refine wpList_appC eF w2 rfl (.tmp 61) (.tmp 69) rfl w.heap.size u5 (G ++ T.addsL a ((T.entries b).take k)) rfl HO2.out ⟨2, P, mk⟩ _ HY.out HFR.out 1 _ rfl w2.heap.size rfl rfl HGL.out hsz2 ?_; intro v3 w3 hown3 hb3)
            go_roundg (m - (k + 1))
            case rel => exact ⟨k + 1, (by show _ = _; omega), by omega, Lib.hid (by rw [HN2.out]; exact hown3), by go_num, HB2.out.trans hb3⟩
            case measure => omega
        · have blt : decide ((k : Int) < (m : Int)) = false := decide_eq_false (by omega)
          have blt2 : decide (k < m) = false := decide_eq_false hlt
          obtain rfl : m = k := by omega
          have HO1 := Lib.hid (show OwnC eF wr w.heap.size _ (G ++ T.addsL a (T.entries b)) by have := HO.out; rw [← HM.out, entries_all] at this; exact this)
          have HGB := Lib.hid (show (G ++ T.addsL a (T.entries b)).length ≤ 400 by have := adds_len a (T.entries b); rw [T.entries_len, HM.out] at this; have := HGA.out; rw [List.length_append]; omega)
          obtain ⟨G2, hG2⟩ : ∃ G2, G ++ T.addsL a (T.entries b) = G2 := ⟨_, rfl⟩
          rw [hG2] at HO1 HGB
          have HG3 := Lib.hid hG2
          have HBR := Lib.hid hbr
          clear hG2 HO HG hbr
          go_wp2
          go_loopg [5, 11] m (fun gk vo vi wr => ∃ j : Nat, Hid (j + gk = m) ∧ j ≤ m ∧ Hid (OwnC eF wr w.heap.size vo (G2 ++ T.marksL a ((T.entries b).take j))) ∧ vi = .int .i64 (j : Int) ∧ Below w.heap.size w wr)
          case atStart => exact ⟨0, Nat.zero_add _, Nat.zero_le _, Lib.hid (by rw [List.take_zero]; show OwnC eF _ _ _ (G2 ++ []); rw [List.append_nil]; exact HO1.out), rfl, HBR.out⟩
          case round =>
            obtain ⟨j, HG, hj, HO, rfl, hbr⟩ := hrel
            by_cases hlt : j < m
            · have blt : decide ((j : Int) < (m : Int)) = true := decide_eq_true (by omega)
              have blt2 : decide (j < m) = true := decide_eq_true hlt
              have hkb : j < b.length := by have := HM.out; omega
              obtain ⟨P, hP⟩ : ∃ P, T.pathL b j = P := ⟨_, rfl⟩
              obtain ⟨mk, hmk⟩ : ∃ mk, (T.at_ b j).mark = mk := ⟨_, rfl⟩
              have hdeep := S.RightN.path_deep HRB.out hkb
              rw [hP] at hdeep
              obtain ⟨q, hq⟩ : ∃ q, P.length = q + 1 := ⟨P.length - 1, by omega⟩
              have hq15 : q ≤ 15 := by omega
              have hen := entries_next b hkb
              rw [hP, hmk] at hen
              have HEN := Lib.hid hen
              have HGN := Lib.hid (T.marksL_next a ((T.entries b).take j) (P, mk))
              have HP := Lib.hid hP
              have HMK := Lib.hid hmk
              have HQ := Lib.hid hq
              have HGL := Lib.hid (show (G2 ++ T.marksL a ((T.entries b).take j)).length + 1 ≤ 1099511627776 by have := marks_len a ((T.entries b).take j); have := taken_len b j; have := HGB.out; rw [List.length_append]; omega)
              obtain ⟨bb, ob, rfl, hbb, hHb⟩ := HB.out.lines (by omega)
              have HHB := Lib.hid hHb
              clear hP hq hdeep hmk hen hHb
              have hgk := HG.out
              have hfc := T.findI_cases a P
              go_wp2_with fail
              refine (refPathF _ d m j q b P wr HM.out (HB.out.below hbr) (by omega) hlt HRB.out HP.out HQ.out).mono ?_
              rintro e w1 ⟨pb, po, pc, rfl, hqc, hpn, hpb, hPH, hx1⟩
              have HPH := Lib.hid hPH
              have HX1 := Lib.hid hx1
              have HB1 := Lib.hid (bthen hbr hx1)
              clear hPH hx1 hbr
              rcases hfc with ⟨hf, hno⟩ | ⟨i, hi, hf, hpi⟩
              · have HF := Lib.hid hf
                have HN2 := Lib.hid (show G2 ++ T.marksL a ((T.entries b).take (j + 1)) = G2 ++ T.marksL a ((T.entries b).take j) by
                  rw [HEN.out, HGN.out, if_neg (by
                    show ¬ T.markB a (P, mk) = true
                    unfold T.markB
                    rw [T.inB_no.2 fun ⟨i, hi, e⟩ => hno i hi e]; simp), List.append_nil])
                clear hf hno
                go_wp2_with fail
                refine (refFindI A _ c pc n (q + 1) a P (-1) w1 HN.out HQ.out (HA.out.below HB1.out) (HPH.out.seen hpb) (by omega) (by omega) HRA.out HF.out).mono ?_
                rintro e w2 ⟨rfl, hx2⟩
                have HB2 := Lib.hid (bthen HB1.out hx2)
                have HX2 := Lib.hid (bthen HX1.out hx2)
                have HO2 := Lib.hid (HO.out.keep HX2.out)
                clear hx2
                go_wp2
                go_quiet (fail)
                all_goals go_wp2
                all_goals
                  go_roundg (m - (j + 1))
                  case rel => exact ⟨j + 1, (by show _ = _; omega), by omega, Lib.hid (by rw [HN2.out]; exact HO2.out.keep (below_draws (Below.refl _ _) _)), by go_num, below_draws HB2.out _⟩
                  case measure => omega
              · have HF := Lib.hid hf
                obtain ⟨mi, hmi⟩ : ∃ mi, (T.at_ a i).mark = mi := ⟨_, rfl⟩
                have hmB : T.markB a (P, mk) = (mi != mk) := by
                  unfold T.markB T.markOf
                  rw [hf, T.inB_yes.2 ⟨i, hi, hpi⟩, Int.toNat_natCast, hmi]; rfl
                obtain ⟨ba, oa, rfl, hba, hHa⟩ := HA.out.lines (by omega)
                have HHA := Lib.hid hHa
                have HMI := Lib.hid hmi
                have HMB := Lib.hid hmB
                have hin : (i : Int) < (n : Int) := by have := HN.out; omega
                have hjk : (j : Int) < (m : Int) := by omega
                clear hf hpi hmi hmB hHa
                go_wp2_with fail
                refine (refFindI _ _ c pc n (q + 1) a P (i : Int) w1 HN.out HQ.out (HA.out.below HB1.out) (HPH.out.seen hpb) (by omega) (by omega) HRA.out HF.out).mono ?_
                rintro e w2 ⟨rfl, hx2⟩
                have HB2 := Lib.hid (bthen HB1.out hx2)
                have HX2 := Lib.hid (bthen HX1.out hx2)
                have HPH2 := Lib.hid (HPH.out.below hx2 hpb)
                have hpb2 : pb < w2.heap.size := Nat.lt_of_lt_of_le hpb hx2.size
                have HO2 := Lib.hid (HO.out.keep HX2.out)
                obtain ⟨_, _, la⟩ := (HHA.out.below HB2.out hba).line hi
                obtain ⟨_, _, lb⟩ := (HHB.out.below HB2.out hbb).line hkb
                rw [HMI.out] at la
                rw [HMK.out] at lb
                have hi0 : decide ((0 : Int) ≤ (i : Int)) = true := decide_eq_true (by omega)
                clear hx2
                cases hne : (mi != mk) with
                | false =>
                  have HN2 := Lib.hid (show G2 ++ T.marksL a ((T.entries b).take (j + 1)) = G2 ++ T.marksL a ((T.entries b).take j) by
                    rw [HEN.out, HGN.out, if_neg (by show ¬ T.markB a (P, mk) = true; rw [HMB.out, hne]; simp), List.append_nil])
                  go_wp2
                  go_quiet (fail)
                  all_goals go_wp2
                  all_goals
                    go_roundg (m - (j + 1))
                    case rel => exact ⟨j + 1, (by show _ = _; omega), by omega, Lib.hid (by rw [HN2.out]; exact HO2.out.keep (below_draws (Below.refl _ _) _)), by go_num, below_draws HB2.out _⟩
                    case measure => omega
                | true =>
                  have HN2 := Lib.hid (show G2 ++ T.marksL a ((T.entries b).take (j + 1)) = (G2 ++ T.marksL a ((T.entries b).take j)) ++ [⟨3, P, mk⟩] by
                    rw [HEN.out, HGN.out, if_pos (by show T.markB a (P, mk) = true; rw [HMB.out]; exact hne), List.append_assoc])
                  go_wp2
                  go_quiet (fail)
                  have hB2d : Below w.heap.size w (w2.drewN nq) := below_draws HB2.out nq
                  have hO2d : OwnC eF (w2.drewN nq) w.heap.size u5 (G2 ++ T.marksL a ((T.entries b).take j)) := HO2.out.keep (below_draws (Below.refl _ _) nq)
                  have hPd : Holds eS (w2.drewN nq) pb po P := HPH2.out.below (below_draws (Below.refl _ _) nq) hpb2
                  have lbn : (w2.drewN nq).cell? ⟨bb, ob + j * 3 + 2, none⟩ = some (.int .i64 mk) := by rw [← lb]; exact (below_draws (Below.refl w2.heap.size w2) nq).cell (p := ⟨bb, ob + j * 3 + 2, none⟩) (Nat.lt_of_lt_of_le hbb HB2.out.size)
                  have hsn : pb < (w2.drewN nq).heap.size := Nat.lt_of_lt_of_le hpb2 (below_draws (Below.refl w2.heap.size w2) nq).size
                  obtain ⟨w2d, hw2d⟩ : ∃ W, w2.drewN nq = W := ⟨_, rfl⟩
                  have lbd : w2d.cell? ⟨bb, ob + j * 3 + 2, none⟩ = some (.int .i64 mk) := by rw [← hw2d]; exact lbn
                  have hsd : pb < w2d.heap.size := by rw [← hw2d]; exact hsn
                  rw [hw2d] at hB2d hO2d hPd ⊢
                  have hy : ChS w2d ⟨3, some ⟨pb, po, none⟩, q + 1, pc, mk⟩ ⟨3, P, mk⟩ := ⟨rfl, rfl, HQ.out, hqc, hPd.seen hsd⟩
                  have hfr : Free u5 ⟨3, some ⟨pb, po, none⟩, q + 1, pc, mk⟩ ⟨3, P, mk⟩ := Free.new HO.out (k := pb) hpn (fun ad e => by injection e with e; rw [← e]; exact Nat.le_refl _)
                  have HY := Lib.hid hy
                  have HFR := Lib.hid hfr
                  have HOD := Lib.hid hO2d
                  have HBD := Lib.hid hB2d
                  have hsz2 := hB2d.size
                  clear hy hfr la lb lbn hsn hO2d hPd hB2d hw2d
                  go_wp2_with (at_builtin; refine wpList_appC eF w2d rfl (.tmp 98) (.tmp 106) rfl w.heap.size u5 (G2 ++ T.marksL a ((T.entries b).take j)) rfl HOD.out ⟨3, P, mk⟩ _ HY.out HFR.out 1 _ rfl w2d.heap.size rfl rfl HGL.out hsz2 ?_; intro v3 w3 hown3 hb3)
                  go_roundg (m - (j + 1))
                  case rel => exact ⟨j + 1, (by show _ = _; omega), by omega, Lib.hid (by rw [HN2.out]; exact hown3), by go_num, HBD.out.trans hb3⟩
                  case measure => omega
            · have blt : decide ((j : Int) < (m : Int)) = false := decide_eq_false (by omega)
              have blt2 : decide (j < m) = false := decide_eq_false hlt
              obtain rfl : m = j := by omega
              have HO1 := Lib.hid (show OwnC eF wr w.heap.size _ (T.diffL a b) by
                have := HO.out
                rw [← HM.out, entries_all, ← HG3.out, ← HG2.out] at this
                exact this)
              go_wp2
              go_ret
              exact ⟨_, rfl, HO1.out, hbr⟩
end Go.Proofs.YtgjnafnmdieniaaDoor
