/-
  Contracts of the document's With and Put (layer 5): a path and one more word; a line where it belongs. Condition: a tree, and the path of one of its lines, or of none.
  Contract of the document's Put (layer 5): a line where it belongs. Condition: a tree, and the path of one of its lines, or of none.
-/
import Derived.Test.YtkifapbiimlafaaTreeE
import Derived.Test.YtkifapbiimlafaaPureP
import Derived.Deep.LoopGhost
import Derived.WalkMore

namespace Go.Proofs.Ytkifapbiimlafaa
open Go.RowKit

/-- A slice value that reads as l, at an address that may be cut. -/
def VecAt {α : Type} (E : Elem α) (w : World) (v : Value) (l : List α) : Prop :=
  (v = .slice none 0 0 ∧ l = []) ∨ ∃ b o c, v = .slice (some ⟨b, o, none⟩) l.length c ∧ l.length ≤ c ∧ b < w.heap.size ∧ Holds E w b o l
section
variable {α : Type} {E : Elem α} {w w1 : World} {v : Value} {l : List α}
theorem VecAt.nil (E : Elem α) (w : World) : VecAt E w (.slice none 0 0) [] := .inl ⟨rfl, rfl⟩
theorem VecAt.below (h : VecAt E w v l) (hb : Below w.heap.size w w1) : VecAt E w1 v l := by
  rcases h with h | ⟨b, o, c, h1, h2, h3, h4⟩
  · exact .inl h
  · exact .inr ⟨b, o, c, h1, h2, Nat.lt_of_lt_of_le h3 hb.size, h4.below hb h3⟩
theorem VecAt.seen (h : VecAt E w v l) : ∃ A c, v = .slice A l.length c ∧ l.length ≤ c ∧ Seen E w A l := by
  rcases h with ⟨h1, h2⟩ | ⟨b, o, c, h1, h2, h3, h4⟩
  · subst h2; exact ⟨none, 0, h1, Nat.le_refl _, Seen.nil⟩
  · exact ⟨_, c, h1, h2, fun _ => ⟨b, o, rfl, h3, h4⟩⟩
theorem VecAt.own {base : Nat} (h : Own E w base v l) : VecAt E w v l := by
  rcases h.2 with ⟨h1, h2⟩ | ⟨g, cap, cur, rfl, hbg, hgg, hnc, hcm, hcs, htk⟩
  · exact .inl ⟨h1, List.eq_nil_of_length_eq_zero h2⟩
  · refine .inr ⟨g, 0, cap, rfl, hnc, (Array.getElem?_eq_some_iff.1 hgg).1, fun i hi j u hu => ?_⟩
    obtain ⟨A, c, e, _, hs⟩ := h.seen
    injection e with e1 e2 e3
    subst e1
    obtain ⟨b2, o2, e4, _, hh⟩ := hs (by omega)
    injection e4 with e4
    injection e4 with e5 e6
    subst e5; subst e6
    exact hh i hi j u hu
end
/-- A call leaves a slice that reads as l. -/
def VecS {α : Type} (E : Elem α) (w : World) (l : List α) (e : Ending) (w' : World) : Prop := ∃ v, e = .returned v ∧ VecAt E w' v l ∧ Below w.heap.size w w'

theorem with_any (v : Value) (p : T.Pth) (wd : List UInt8) (w : World) (h : VecAt eS w v p) (hp : p.length ≤ 1073741824) :
    Calls Try.prog 60 #[v, .string (sB wd)] w (VecS eS w (p ++ [wd])) := by
  rcases h with ⟨rfl, rfl⟩ | ⟨b, o, c, rfl, hc, hb, hH⟩
  · go_enter Try.func60, Try.ntmps60
    go_wp2_with (first | (at_builtin; refine wpList_appNone eS w rfl (.tmp 6) (.tmp 7) rfl w.heap.size (.slice none 0 0) [] rfl (Own.nil _ _) rfl ?_) | (at_builtin; refine wpList_appG eS w rfl (.tmp 9) (.tmp 11) rfl w.heap.size (.slice none 0 0) [] rfl (Own.nil _ _) wd 1 #[.string (sB wd)] rfl w.heap.size rfl rfl (by simp) (Nat.le_refl _) ?_; intro v2 w2 hown2 hb2))
    go_ret
    exact ⟨v2, rfl, VecAt.own hown2, hb2⟩
  · go_enter Try.func60, Try.ntmps60
    go_wp2_with (first | (at_builtin; refine wpList_appSrc eS w rfl (.tmp 6) (.tmp 7) rfl w.heap.size (.slice none 0 0) [] rfl (Own.nil _ _) b o p p.length c rfl rfl hH (by simp; omega) (Nat.le_refl _) ?_; intro v1 w1 hown1 hb1; have hs1 := hb1.size) | (at_builtin; refine wpList_appG eS w1 rfl (.tmp 9) (.tmp 11) rfl w.heap.size v1 ([] ++ p) rfl hown1 wd 1 #[.string (sB wd)] rfl w1.heap.size rfl rfl (by simp; omega) hs1 ?_; intro v2 w2 hown2 hb2))
    go_ret
    exact ⟨v2, rfl, VecAt.own hown2, hb1.trans hb2⟩

/-- The place of a new word ahead of the kids from k on, at the latest at d. -/
def posF (t : List T.Ln) (w : List UInt8) (K : List Nat) (d g : Nat) : Nat := ((K.drop g).find? fun k => Op.bytesLess w (T.wd t k)).getD d
theorem posF_end (t : List T.Ln) (w : List UInt8) (K : List Nat) (d : Nat) : posF t w K d K.length = d := by unfold posF; rw [List.drop_length]; rfl
theorem posF_hit {t : List T.Ln} {w : List UInt8} {K : List Nat} {d g : Nat} (h : g < K.length) (hw : Op.bytesLess w (T.wd t K[g]) = true) : posF t w K d g = K[g] := by
  unfold posF; rw [List.drop_eq_getElem_cons h, List.find?_cons, hw]; rfl
theorem posF_miss {t : List T.Ln} {w : List UInt8} {K : List Nat} {d g : Nat} (h : g < K.length) (hw : Op.bytesLess w (T.wd t K[g]) = false) : posF t w K d g = posF t w K d (g + 1) := by
  unfold posF; rw [List.drop_eq_getElem_cons h, List.find?_cons, hw]
theorem posF_le {t : List T.Ln} {w : List UInt8} {K : List Nat} {d g n : Nat} (hK : ∀ k ∈ K, k ≤ n) (hd : d ≤ n) : posF t w K d g ≤ n := by
  unfold posF
  cases h : (K.drop g).find? fun k => Op.bytesLess w (T.wd t k) with
  | none => exact hd
  | some k => exact hK k (List.mem_of_mem_drop (List.mem_of_find?_eq_some h))
theorem posF_zero (t : List T.Ln) (p : T.Pth) (w : List UInt8) : posF t w (T.kidsL t (T.findI t p)) (T.endI t (T.findI t p)) 0 = T.posL t (T.findI t p) w := rfl
end Go.Proofs.Ytkifapbiimlafaa

namespace Go.Proofs.Ytkifapbiimlafaa
open Go.RowKit

theorem putL_is (t : List T.Ln) (p : T.Pth) (wd : List UInt8) (mk : Int) (P : Nat) (hP : T.posL t (T.findI t p) wd = P) : [] ++ t.take P ++ [(⟨(p.length : Int), wd, mk⟩ : T.Ln)] ++ t.drop P = T.putL t p wd mk := by
  have e : T.lnOf (p ++ [wd], mk) = ⟨(p.length : Int), wd, mk⟩ := by
    unfold T.lnOf
    rw [T.last_snoc]
    congr 1
    simp
  unfold T.putL T.putT
  rw [hP, e]; simp

set_option maxRecDepth 100000 in
set_option maxHeartbeats 4000000 in
theorem put_any {N : Nat} (hN : N ≤ 1000) (vt vp : Value) (t : List T.Ln) (p : T.Pth) (wd : List UInt8) (mk : Int) (w : World) (hT : VecAt eL w vt t) (hP : VecAt eS w vp p) (hR : T.RightN N t) (ho : T.Open t p) (hp : p.length ≤ 16) :
    Calls Try.prog 31 #[vt, vp, .string (sB wd), .int .i64 mk] w (VecS eL w (T.putL t p wd mk)) := by
  have hla : t.length ≤ 1000 := Nat.le_trans hR.len hN
  obtain ⟨vB, cB, rfl, _, hB⟩ := hP.seen
  have HR := Lib.hid hR
  have HB := Lib.hid hB
  clear hB hP hR
  have hb : Below w.heap.size w w := Below.refl _ _
  rcases hT with ⟨rfl, rfl⟩ | ⟨b, o, c, rfl, hc, hbw, hH⟩
  · have hp0 : p = [] := by
      rcases ho with h | ⟨i, hi, _⟩
      · exact h
      · exact absurd hi (Nat.not_lt_zero i)
    subst hp0
    have hput := putL_is [] [] wd mk 0 rfl
    have hkids := refKids_any none 0 [] (-1) w Seen.nil (by decide)
    have e0 : T.kidsL [] (-1) = [] := rfl
    rw [e0] at hkids
    have HPUT := Lib.hid hput
    clear hput e0 ho
    go_enter Try.func31, Try.ntmps31
    go_wp2_with fail
    refine hkids.mono ?_
    rintro e wk ⟨Ak, ck, rfl, _, _, hbk⟩
    go_wp2
    go_loopg [10, 12] 0 (fun gk va vi wr => va = .int .i64 0 ∧ vi = .int .i64 (-1) ∧ gk = 0 ∧ wk = wr)
    case atStart => exact ⟨rfl, rfl, rfl, rfl⟩
    case round =>
      obtain ⟨rfl, rfl, rfl, rfl⟩ := hrel
      go_wp2_with (first | (at_builtin; refine wpList_appNone eL wk rfl (.tmp 49) (.tmp 52) rfl wk.heap.size (.slice none 0 0) [] rfl (Own.nil _ _) rfl ?_) | (at_builtin; refine wpList_appG eL wk rfl (.tmp 54) (.tmp 60) rfl wk.heap.size (.slice none 0 0) [] rfl (Own.nil _ _) ⟨0, wd, mk⟩ 1 _ rfl wk.heap.size rfl rfl (by simp) (Nat.le_refl _) ?_; intro v4 w4 hown4 hx4) | (at_builtin; refine wpList_appNone eL w4 rfl (.tmp 62) (.tmp 65) rfl wk.heap.size v4 ([] ++ [⟨0, wd, mk⟩]) rfl hown4 rfl ?_))
      go_ret
      exact ⟨v4, rfl, VecAt.own (HPUT.out ▸ hown4), hbk.trans (hx4.mono hbk.size)⟩
  · have HA := Lib.hid (Holds.seen hH hbw)
    have HH := Lib.hid hH
    clear hH
    by_cases hp0 : p = []
    · subst hp0
      have hfi : T.findI t [] = -1 := T.findI_nil t
      obtain ⟨K, hK⟩ : ∃ K, T.kidsL t (-1) = K := ⟨_, rfl⟩
      have hkids := refKids_any (some ⟨b, o, none⟩) c t (-1) w HA.out (by omega)
      rw [hK] at hkids
      have HKM := Lib.hid (show ∀ k ∈ K, k < t.length from fun k hk => by rw [← hK] at hk; exact ((T.mem_kids t _ k).1 hk).1)
      obtain ⟨D, hD⟩ : ∃ D, T.endI t (-1) = D := ⟨_, rfl⟩
      have hkl : K.length ≤ 1000 := by rw [← hK]; have := List.length_filter_le (fun k => T.underL t k == (-1)) (List.range t.length); rw [List.length_range] at this; unfold T.kidsL; omega
      have hD2 : D = t.length := by rw [← hD]; rfl
      have hDl : D ≤ t.length := by omega
      have HK := Lib.hid (show T.kidsL t (T.findI t []) = K by rw [hfi]; exact hK)
      have HD := Lib.hid (show T.endI t (T.findI t []) = D by rw [hfi]; exact hD)
      obtain ⟨p, hpe⟩ : ∃ p : T.Pth, p = [] := ⟨[], rfl⟩
      clear hK hD hfi ho
      go_enter Try.func31, Try.ntmps31
      go_wp2_with fail
      refine hkids.mono ?_
      rintro e wk ⟨Ak, ck, rfl, _, hsK, hbk⟩
      have HKS := Lib.hid hsK
      clear hsK hkids
      subst hpe
      subst hD2
      go_wp2
      go_loopg [10, 12] K.length (fun gk va vi wr => va = .int .i64 (posF t wd K t.length gk : Nat) ∧ vi = .int .i64 ((gk : Int) - 1) ∧ gk ≤ K.length ∧ wk = wr)
      case atStart => exact ⟨by rw [posF_end], by go_num, Nat.le_refl _, rfl⟩
      case round =>
        obtain ⟨rfl, rfl, hle, rfl⟩ := hrel
        by_cases hgk : gk = 0
        · subst hgk
          obtain ⟨P, hPP⟩ : ∃ P, posF t wd K t.length 0 = P := ⟨_, rfl⟩
          have hPl : P ≤ t.length := by rw [← hPP]; exact posF_le (fun k hk => Nat.le_of_lt (HKM.out k hk)) hDl
          have hput : [] ++ t.take P ++ [(⟨0, wd, mk⟩ : T.Ln)] ++ t.drop P = T.putL t [] wd mk := putL_is t [] wd mk P (by rw [← HD.out] at hPP; rw [← HK.out] at hPP; exact hPP)
          have HPUT := Lib.hid hput
          rw [hPP]
          clear hput hPP
          have hPi : (P : Int) ≤ (c : Int) := by omega
          have hPi2 : (P : Int) ≤ (t.length : Int) := by omega
          have hTK := Lib.hid (show (t.take P).length = P by rw [List.length_take]; omega)
          have hDR := Lib.hid (show (t.drop P).length = t.length - P by rw [List.length_drop])
          have hHk := HH.out.below hbk hbw
          by_cases hlast : P < c
          · go_wp2_with (first | (at_builtin; refine wpList_appSrc eL wk rfl (.tmp 49) (.tmp 52) rfl wk.heap.size (.slice none 0 0) [] rfl (Own.nil _ _) b o (t.take P) P c hTK.out rfl (hHk.take P) (by simp; omega) (Nat.le_refl _) ?_; intro v3 w3 hown3 hx3; have hs3 := hx3.size) | (at_builtin; refine wpList_appG eL w3 rfl (.tmp 54) (.tmp 60) rfl wk.heap.size v3 ([] ++ t.take P) rfl hown3 ⟨0, wd, mk⟩ 1 _ rfl w3.heap.size rfl rfl (by rw [List.nil_append, hTK.out]; omega) hs3 ?_; intro v4 w4 hown4 hx4; have hs4 := hx4.size; have hH4 := (hHk.belowN (hx3.trans hx4) (Nat.lt_of_lt_of_le hbw hbk.size))) | (at_builtin; refine wpList_appSrc eL w4 rfl (.tmp 62) (.tmp 65) rfl wk.heap.size v4 ([] ++ t.take P ++ [⟨0, wd, mk⟩]) rfl hown4 b (o + P * 3) (t.drop P) (t.length - P) (c - P) hDR.out rfl (hH4.drop P) (by rw [List.nil_append, List.length_append, hTK.out]; simp; omega) (by omega) ?_; intro v5 w5 hown5 hx5))
            go_ret
            rw [HPUT.out] at hown5
            exact ⟨v5, rfl, VecAt.own hown5, hbk.trans (((hx3.trans hx4).trans hx5).mono hbk.size)⟩
          · obtain rfl : P = c := by omega
            obtain rfl : P = t.length := by omega
            go_wp2_with (first | (at_builtin; refine wpList_appSrc eL wk rfl (.tmp 49) (.tmp 52) rfl wk.heap.size (.slice none 0 0) [] rfl (Own.nil _ _) b o (t.take t.length) t.length t.length hTK.out rfl (hHk.take t.length) (by simp; omega) (Nat.le_refl _) ?_; intro v3 w3 hown3 hx3; have hs3 := hx3.size) | (at_builtin; refine wpList_appG eL w3 rfl (.tmp 54) (.tmp 60) rfl wk.heap.size v3 ([] ++ t.take t.length) rfl hown3 ⟨0, wd, mk⟩ 1 _ rfl w3.heap.size rfl rfl (by rw [List.nil_append, hTK.out]; omega) hs3 ?_; intro v4 w4 hown4 hx4; have hs4 := hx4.size) | (at_builtin; refine wpList_appSrc eL w4 rfl (.tmp 62) (.tmp 65) rfl wk.heap.size v4 ([] ++ t.take t.length ++ [⟨0, wd, mk⟩]) rfl hown4 b o (t.drop t.length) 0 0 (by simp) rfl (fun i hi => by simp at hi) (by rw [List.nil_append, List.length_append, hTK.out]; simp; omega) (by omega) ?_; intro v5 w5 hown5 hx5))
            go_ret
            rw [HPUT.out] at hown5
            exact ⟨v5, rfl, VecAt.own hown5, hbk.trans (((hx3.trans hx4).trans hx5).mono hbk.size)⟩
        · obtain ⟨j, rfl⟩ : ∃ j, gk = j + 1 := ⟨gk - 1, by omega⟩
          have hj : ((j + 1 : Nat) : Int) - 1 = (j : Int) := by omega
          rw [hj]
          clear hj hgk
          have hjl : j < K.length := by omega
          have b0 : decide ((0 : Int) ≤ (j : Int)) = true := decide_eq_true (by omega)
          have hji : (j : Int) < (K.length : Int) := by omega
          obtain ⟨bk, ok, rfl, hbk1, hHK⟩ := HKS.out (by omega)
          have k0 := hHK.num hjl
          have hkt := HKM.out K[j] (List.getElem_mem hjl)
          have hkti : (K[j] : Int) < (t.length : Int) := by omega
          obtain ⟨_, c1, _⟩ := (HH.out.below hbk hbw).line hkt
          clear hHK
          cases hw : Op.bytesLess wd (T.wd t K[j]) with
          | true =>
            have HN := Lib.hid (posF_hit (d := t.length) hjl hw)
            obtain ⟨l1, l2⟩ := leq_no hw
            clear hw
            go_wp2
            go_roundg j
            case rel => exact ⟨by rw [HN.out], by go_num, by omega, rfl⟩
            case measure => omega
          | false =>
            have HN := Lib.hid (posF_miss (d := t.length) hjl hw)
            rcases leq_yes hw with l1 | ⟨l1, l2⟩
            · clear hw
              go_wp2
              go_roundg j
              case rel => exact ⟨by rw [HN.out], by go_num, by omega, rfl⟩
              case measure => omega
            · clear hw
              go_wp2
              go_roundg j
              case rel => exact ⟨by rw [HN.out], by go_num, by omega, rfl⟩
              case measure => omega
    · have hpos : 0 < p.length := List.length_pos_iff.2 hp0
      have hex : ∃ i, i < t.length ∧ T.pathL t i = p := by
        rcases ho with h | h
        · exact absurd h hp0
        · exact h
      obtain ⟨i0, hi0, hpi⟩ := hex
      have hfi : T.findI t p = (i0 : Int) := T.findI_some HR.out hi0 hpi
      have bp : decide ((0 : Int) < (p.length : Int)) = true := decide_eq_true (by omega)
      have bp2 : decide (0 < p.length) = true := decide_eq_true hpos
      have hfind := refFind_any (some ⟨b, o, none⟩) vB c cB t p w HA.out HB.out (by omega) (by omega) HR.out
      have hend := fun w1 (hx : Below w.heap.size w w1) => refEnd_any (some ⟨b, o, none⟩) c t i0 w1 (HA.out.below hx) hi0 (by omega)
      obtain ⟨K, hK⟩ : ∃ K, T.kidsL t ((i0 : Int)) = K := ⟨_, rfl⟩
      have hkids := fun w1 (hx : Below w.heap.size w w1) => refKids_any (some ⟨b, o, none⟩) c t (i0 : Int) w1 (HA.out.below hx) (by omega)
      simp only [hK] at hkids
      have HKM := Lib.hid (show ∀ k ∈ K, k < t.length from fun k hk => by rw [← hK] at hk; exact ((T.mem_kids t _ k).1 hk).1)
      obtain ⟨D, hD⟩ : ∃ D, T.endI t ((i0 : Int)) = D := ⟨_, rfl⟩
      have hkl : K.length ≤ 1000 := by rw [← hK]; have := List.length_filter_le (fun k => T.underL t k == ((i0 : Int))) (List.range t.length); rw [List.length_range] at this; unfold T.kidsL; omega
      have hD2 : T.endL t i0 = D := by rw [← hD]; unfold T.endI; rw [if_neg (by omega)]; rfl
      have hDl : D ≤ t.length := by rw [← hD2]; exact (T.end_spec t i0 hi0).2.1
      simp only [hD2] at hend
      have HK := Lib.hid (show T.kidsL t (T.findI t p) = K by rw [hfi]; exact hK)
      have HD := Lib.hid (show T.endI t (T.findI t p) = D by rw [hfi]; exact hD)
      have HPI := Lib.hid hpi
      clear hK hD hfi ho hpi hp0 hD2
      go_enter Try.func31, Try.ntmps31
      go_wp2_with fail
      refine hfind.mono ?_
      rintro e w1 ⟨hcase, hx1⟩
      have he : e = .returned (.int .i64 (i0 : Int)) := by
        rcases hcase with ⟨i2, h1, h2, h3⟩ | ⟨h1, _⟩
        · rw [h3, HR.out.path_inj (max i2 i0) i2 i0 (Nat.le_max_left ..) (Nat.le_max_right ..) h1 hi0 (by rw [h2, HPI.out])]
        · exact absurd HPI.out (h1 i0 hi0)
      subst he
      clear hcase hfind
      go_wp2_with fail
      refine (hend w1 hx1).mono ?_
      rintro e w2 ⟨rfl, hx2⟩
      have hx12 := bthen hx1 hx2
      clear hx1 hx2 hend
      go_wp2_with fail
      refine (hkids w2 hx12).mono ?_
      rintro e wk ⟨Ak, ck, rfl, _, hsK, hx3⟩
      have hbk := bthen hx12 hx3
      have HKS := Lib.hid hsK
      clear hsK hkids hx3 hx12
      go_wp2
      go_loopg [10, 12] K.length (fun gk va vi wr => va = .int .i64 (posF t wd K D gk : Nat) ∧ vi = .int .i64 ((gk : Int) - 1) ∧ gk ≤ K.length ∧ wk = wr)
      case atStart => exact ⟨by rw [posF_end], by go_num, Nat.le_refl _, rfl⟩
      case round =>
        obtain ⟨rfl, rfl, hle, rfl⟩ := hrel
        by_cases hgk : gk = 0
        · subst hgk
          obtain ⟨P, hPP⟩ : ∃ P, posF t wd K D 0 = P := ⟨_, rfl⟩
          have hPl : P ≤ t.length := by rw [← hPP]; exact posF_le (fun k hk => Nat.le_of_lt (HKM.out k hk)) hDl
          have hput := putL_is t p wd mk P (by rw [← HD.out] at hPP; rw [← HK.out] at hPP; exact hPP)
          have HPUT := Lib.hid hput
          rw [hPP]
          clear hput hPP
          have hPi : (P : Int) ≤ (c : Int) := by omega
          have hPi2 : (P : Int) ≤ (t.length : Int) := by omega
          have hTK := Lib.hid (show (t.take P).length = P by rw [List.length_take]; omega)
          have hDR := Lib.hid (show (t.drop P).length = t.length - P by rw [List.length_drop])
          have hHk := HH.out.below hbk hbw
          by_cases hlast : P < c
          · go_wp2_with (first | (at_builtin; refine wpList_appSrc eL wk rfl (.tmp 49) (.tmp 52) rfl wk.heap.size (.slice none 0 0) [] rfl (Own.nil _ _) b o (t.take P) P c hTK.out rfl (hHk.take P) (by simp; omega) (Nat.le_refl _) ?_; intro v3 w3 hown3 hx3; have hs3 := hx3.size) | (at_builtin; refine wpList_appG eL w3 rfl (.tmp 54) (.tmp 60) rfl wk.heap.size v3 ([] ++ t.take P) rfl hown3 ⟨(p.length : Int), wd, mk⟩ 1 _ rfl w3.heap.size rfl rfl (by rw [List.nil_append, hTK.out]; omega) hs3 ?_; intro v4 w4 hown4 hx4; have hs4 := hx4.size; have hH4 := (hHk.belowN (hx3.trans hx4) (Nat.lt_of_lt_of_le hbw hbk.size))) | (at_builtin; refine wpList_appSrc eL w4 rfl (.tmp 62) (.tmp 65) rfl wk.heap.size v4 ([] ++ t.take P ++ [⟨(p.length : Int), wd, mk⟩]) rfl hown4 b (o + P * 3) (t.drop P) (t.length - P) (c - P) hDR.out rfl (hH4.drop P) (by rw [List.nil_append, List.length_append, hTK.out]; simp; omega) (by omega) ?_; intro v5 w5 hown5 hx5))
            go_ret
            rw [HPUT.out] at hown5
            exact ⟨v5, rfl, VecAt.own hown5, hbk.trans (((hx3.trans hx4).trans hx5).mono hbk.size)⟩
          · obtain rfl : P = c := by omega
            obtain rfl : P = t.length := by omega
            go_wp2_with (first | (at_builtin; refine wpList_appSrc eL wk rfl (.tmp 49) (.tmp 52) rfl wk.heap.size (.slice none 0 0) [] rfl (Own.nil _ _) b o (t.take t.length) t.length t.length hTK.out rfl (hHk.take t.length) (by simp; omega) (Nat.le_refl _) ?_; intro v3 w3 hown3 hx3; have hs3 := hx3.size) | (at_builtin; refine wpList_appG eL w3 rfl (.tmp 54) (.tmp 60) rfl wk.heap.size v3 ([] ++ t.take t.length) rfl hown3 ⟨(p.length : Int), wd, mk⟩ 1 _ rfl w3.heap.size rfl rfl (by rw [List.nil_append, hTK.out]; omega) hs3 ?_; intro v4 w4 hown4 hx4; have hs4 := hx4.size) | (at_builtin; refine wpList_appSrc eL w4 rfl (.tmp 62) (.tmp 65) rfl wk.heap.size v4 ([] ++ t.take t.length ++ [⟨(p.length : Int), wd, mk⟩]) rfl hown4 b o (t.drop t.length) 0 0 (by simp) rfl (fun i hi => by simp at hi) (by rw [List.nil_append, List.length_append, hTK.out]; simp; omega) (by omega) ?_; intro v5 w5 hown5 hx5))
            go_ret
            rw [HPUT.out] at hown5
            exact ⟨v5, rfl, VecAt.own hown5, hbk.trans (((hx3.trans hx4).trans hx5).mono hbk.size)⟩
        · obtain ⟨j, rfl⟩ : ∃ j, gk = j + 1 := ⟨gk - 1, by omega⟩
          have hj : ((j + 1 : Nat) : Int) - 1 = (j : Int) := by omega
          rw [hj]
          clear hj hgk
          have hjl : j < K.length := by omega
          have b0 : decide ((0 : Int) ≤ (j : Int)) = true := decide_eq_true (by omega)
          have hji : (j : Int) < (K.length : Int) := by omega
          obtain ⟨bk, ok, rfl, hbk1, hHK⟩ := HKS.out (by omega)
          have k0 := hHK.num hjl
          have hkt := HKM.out K[j] (List.getElem_mem hjl)
          have hkti : (K[j] : Int) < (t.length : Int) := by omega
          obtain ⟨_, c1, _⟩ := (HH.out.below hbk hbw).line hkt
          clear hHK
          cases hw : Op.bytesLess wd (T.wd t K[j]) with
          | true =>
            have HN := Lib.hid (posF_hit (d := D) hjl hw)
            obtain ⟨l1, l2⟩ := leq_no hw
            clear hw
            go_wp2
            go_roundg j
            case rel => exact ⟨by rw [HN.out], by go_num, by omega, rfl⟩
            case measure => omega
          | false =>
            have HN := Lib.hid (posF_miss (d := D) hjl hw)
            rcases leq_yes hw with l1 | ⟨l1, l2⟩
            · clear hw
              go_wp2
              go_roundg j
              case rel => exact ⟨by rw [HN.out], by go_num, by omega, rfl⟩
              case measure => omega
            · clear hw
              go_wp2
              go_roundg j
              case rel => exact ⟨by rw [HN.out], by go_num, by omega, rfl⟩
              case measure => omega
end Go.Proofs.Ytkifapbiimlafaa
