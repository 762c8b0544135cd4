/-
  Contracts of the code's wrong, add and do (layer 8), where all goes well. Condition: at most 2^30 lines.
  Contract of the code's Apply (layer 8), where all goes well. Condition: at most 2^30 lines, 1024 changes.
-/
import Derived.Test.YtfajfjocpgbmeaaDiffJ
import Derived.Test.YtfajfjocpgbmeaaPureQ
import Derived.Test.YtfajfjocpgbmeaaSlices
import Derived.Test.YtfajfjocpgbmeaaLinesM
import Derived.Test.YtfajfjocpgbmeaaDiffF

namespace Go.Proofs.Ytfajfjocpgbmeaa
open Go.RowKit
set_option linter.unusedVariables false

set_option maxRecDepth 100000 in
theorem codeWrong (kd mk : Int) (B : Option Addr) (n c : Nat) (w : World) (hk : kd = 1 ∨ kd = 2 ∨ kd = 3) (hn : 0 < n) (hm : 0 ≤ mk ∧ mk ≤ 3) :
    Calls Try.prog 53 #[.agg #[.int .i64 kd, .slice B n c, .int .i64 mk]] w (BoolS w false) := by
  have b0 : ((n : Int) == 0) = false := beq_eq_false_iff_ne.2 (by omega)
  have b1 : (n == 0) = false := beq_eq_false_iff_ne.2 (by omega)
  have b2 : decide (mk < 0) = false := decide_eq_false (by omega)
  have b3 : decide (3 < mk) = false := decide_eq_false (by omega)
  have hx : Below w.heap.size w (w.alloc (.cells #[.int .i64 kd, .slice B n c, .int .i64 mk] 45)) := (Below.refl _ _).alloc (Nat.le_refl _) _
  clear hn hm
  rcases hk with rfl | rfl | rfl
  all_goals
    go_enter Try.func53, Try.ntmps53
    go_wp2
    go_ret
    exact ⟨rfl, hx⟩
set_option maxRecDepth 100000 in
set_option maxHeartbeats 4000000 in
theorem codeAdd (A : Option Addr) (b o c d n q : Nat) (t : List T.Ln) (up : T.Pth) (wd : List UInt8) (mk : Int) (w : World) (hn : t.length = n) (hA : Seen eL w A t) (hc : n ≤ c) (hN : NilOk A c) (hR : T.RightT t) (h200 : n < 200)
    (hq : (up ++ [wd]).length = q + 1) (hb : b < w.heap.size) (hB : Holds eS w b o (up ++ [wd])) (hd : q + 1 ≤ d) (ho : T.Open t up) (hno : ∀ i, i < t.length → T.pathL t i ≠ up ++ [wd]) (hw : ∀ x ∈ up ++ [wd], x.length ≤ 40) (h16 : q ≤ 15) (hm : 0 ≤ mk ∧ mk ≤ 3) :
    Calls Try.prog 54 #[.slice A n c, .slice (some ⟨b, o, none⟩) (q + 1) d, .int .i64 mk] w (fun e w' => ∃ g cap, e = .returned (.tuple #[.slice (some ⟨g, 0, none⟩) (n + 1) cap, .int .i64 0]) ∧ Own eL w' w.heap.size (.slice (some ⟨g, 0, none⟩) (n + 1) cap) (T.putL t up wd mk) ∧ Below w.heap.size w w') := by
  have hupl : up.length = q := by rw [List.length_append, List.length_singleton] at hq; omega
  have hG : T.addL t (up ++ [wd]) = T.putL t up wd 0 := T.add_put hR ho hno
  have hGl : (T.putL t up wd 0).length = n + 1 := by rw [T.putL_len, hn]
  have hadd := AddIs.ok (t := t) (p := up ++ [wd]) (by omega) hw hR (by omega) (by rw [hG, hGl]; omega)
  have hRG := hadd.zero.2.2.2.2.2.2
  rw [hG] at hadd hRG
  obtain ⟨i, hi, hpi⟩ := T.add_there hR (p := up ++ [wd]) (by omega) hw (by simp)
  rw [hG] at hi hpi
  have hset := T.put_mark hR ho hno (by omega) (by omega) (hw wd (by simp)) hm hi hpi
  have h1 : T.inB t (up ++ [wd]) = false := T.inB_no.2 fun ⟨i, hi, e⟩ => hno i hi e
  have h2 : (decide ((up ++ [wd]).dropLast = []) || T.inB t (up ++ [wd]).dropLast) = true := by
    rw [List.dropLast_concat]
    rcases ho with rfl | hin
    · rfl
    · rw [T.inB_yes.2 hin, Bool.or_true]
  obtain ⟨P, hP⟩ : ∃ P, up ++ [wd] = P := ⟨_, rfl⟩
  obtain ⟨G, hGG⟩ : ∃ G, T.putL t up wd 0 = G := ⟨_, rfl⟩
  rw [hP] at hadd h1 h2 hpi hB hq
  rw [hGG] at hadd hRG hi hpi hset hGl
  rw [← hset]
  have hl : n ≤ 1073741824 := by omega
  have HA := Lib.hid hA
  have HNN := Lib.hid hN
  have HB := Lib.hid hB
  have HN := Lib.hid hn
  have HQ := Lib.hid hq
  have HR := Lib.hid hR
  have HRG := Lib.hid hRG
  have HPI := Lib.hid hpi
  have HGL := Lib.hid hGl
  have H1 := Lib.hid h1
  have H2 := Lib.hid h2
  have HAD := Lib.hid hadd
  rw [hGl] at hi
  clear hA hN hB hn hq hR hRG hpi hGl h1 h2 hadd hset hP hGG hG ho hno hw hm hupl
  go_enter Try.func54, Try.ntmps54
  go_wp2_with fail
  refine (lines_add A (some ⟨b, o, none⟩) c d n (q + 1) t G P 0 w HN.out HQ.out HA.out (HB.out.seen hb) HNN.out hc hd hl (by omega) HAD.out).mono ?_
  rintro e w1 ⟨v1, rfl, hown, hx1⟩
  obtain ⟨A1, cg, e1, hcg, hsG⟩ := hown.seen
  rw [HGL.out] at e1 hcg
  subst e1
  obtain ⟨g, e2, hbg, hg, hhg⟩ := hown.block (by rw [HGL.out]; omega)
  subst e2
  have HO1 := Lib.hid hown
  have HX1 := Lib.hid hx1
  have HBG := Lib.hid hbg
  have HB1 := Lib.hid (HB.out.below hx1 hb)
  have hb1 : b < w1.heap.size := Nat.lt_of_lt_of_le hb hx1.size
  clear hown hsG hhg hbg hx1
  go_wp2_with fail
  refine (codeAbove8 A b o c d n q t P true w1 HN.out HQ.out (HA.out.below HX1.out) hb1 HB1.out hd hl (by omega) HR.out H2.out).mono ?_
  rintro e w2 ⟨rfl, hx2⟩
  have HX2 := Lib.hid (bthen HX1.out hx2)
  have HO2 := Lib.hid (HO1.out.keep hx2)
  have HB2 := Lib.hid (HB1.out.below hx2 hb1)
  have hb2 : b < w2.heap.size := Nat.lt_of_lt_of_le hb1 hx2.size
  clear hx2
  go_wp2_with fail
  refine (codeHas A (some ⟨b, o, none⟩) c d n (q + 1) t P false w2 HN.out HQ.out (HA.out.below HX2.out) (HB2.out.seen hb2) hl (by omega) HR.out H1.out).mono ?_
  rintro e w3 ⟨rfl, hx3⟩
  have HX3 := Lib.hid (bthen HX2.out hx3)
  have HO3 := Lib.hid (HO2.out.keep hx3)
  have HB3 := Lib.hid (HB2.out.below hx3 hb2)
  have hb3 : b < w3.heap.size := Nat.lt_of_lt_of_le hb2 hx3.size
  clear hx3
  have hfind := find_some (some ⟨g, 0, none⟩) (some ⟨b, o, none⟩) cg d G i P w3 (Own.sight HO3.out) (HB3.out.seen hb3) (by rw [HGL.out]; omega) (by rw [HQ.out]; omega) HRG.out (by rw [HGL.out]; exact hi) HPI.out
  rw [HGL.out, HQ.out] at hfind
  go_wp2_with fail
  refine hfind.mono ?_
  rintro e w4 ⟨rfl, hx4⟩
  have HX4 := Lib.hid (bthen HX3.out hx4)
  have HO4 := Lib.hid (HO3.out.keep hx4)
  clear hx4 hfind
  obtain ⟨g4, e4, _, hg4, hhG⟩ := HO4.out.block (by rw [HGL.out]; omega)
  injection e4 with e4
  injection e4 with e4
  subst e4
  obtain ⟨mo, hmo⟩ : ∃ z, (T.at_ G i).mark = z := ⟨_, rfl⟩
  obtain ⟨_, _, l2⟩ := hhG.line (i := i) (by rw [HGL.out]; exact hi)
  rw [hmo, Nat.zero_add] at l2
  obtain ⟨hfz, _, _⟩ := HO4.out.unfrozen (i * 3 + 2)
  have hii : (i : Int) < (n : Int) + 1 := by omega
  have hii2 : (i : Int) < ((n + 1 : Nat) : Int) := by omega
  clear hhG hmo
  go_wp2
  go_ret2
  exact ⟨g, cg, rfl, HO4.out.mark (by rw [HGL.out]; exact hi) mk, HX4.out.setCell HBG.out _⟩
/-- What one change leaves. -/
def DoneS (base : Nat) (w : World) (u : List T.Ln) (e : Ending) (w' : World) : Prop := ∃ v, e = .returned (.tuple #[v, .int .i64 0]) ∧ Own eL w' base v u ∧ Below base w w'
theorem box_cells (w : World) (kd mk : Int) (B : Option Addr) (n c : Nat) (w' : World) (h : Below (w.alloc (.cells #[.int .i64 kd, .slice B n c, .int .i64 mk] 45)).heap.size (w.alloc (.cells #[.int .i64 kd, .slice B n c, .int .i64 mk] 45)) w') :
    w'.cell? ⟨w.heap.size, 0, none⟩ = some (.int .i64 kd) ∧ w'.cell? ⟨w.heap.size, 1, none⟩ = some (.slice B n c) ∧ w'.cell? ⟨w.heap.size, 2, none⟩ = some (.int .i64 mk) := by
  have hlt : w.heap.size < (w.alloc (.cells #[.int .i64 kd, .slice B n c, .int .i64 mk] 45)).heap.size := by simp
  have hbk := fun j => World.cell?_alloc_mark w #[.int .i64 kd, .slice B n c, .int .i64 mk] 45 (0, 0) j
  exact ⟨(h.cell (p := ⟨w.heap.size, 0, none⟩) hlt).trans (hbk 0), (h.cell (p := ⟨w.heap.size, 1, none⟩) hlt).trans (hbk 1), (h.cell (p := ⟨w.heap.size, 2, none⟩) hlt).trans (hbk 2)⟩
set_option maxRecDepth 100000 in
set_option maxHeartbeats 4000000 in
theorem codeDoGone (base : Nat) (A : Option Addr) (b o c d n q i : Nat) (t : List T.Ln) (P : T.Pth) (mk : Int) (w : World) (hn : t.length = n) (hown : Own eL w base (.slice A n c) t) (hbase : base ≤ w.heap.size) (hR : T.RightT t)
    (hq : P.length = q + 1) (hb : b < w.heap.size) (hB : Holds eS w b o P) (h16 : q ≤ 15) (hm : 0 ≤ mk ∧ mk ≤ 3) (hi : i < t.length) (hpi : T.pathL t i = P) :
    Calls Try.prog 38 #[.slice A n c, .agg #[.int .i64 1, .slice (some ⟨b, o, none⟩) (q + 1) d, .int .i64 mk]] w (DoneS base w (T.cutL t i)) := by
  have hl : n ≤ 1073741824 := by have := hR.len; omega
  rw [hn] at hi
  obtain ⟨j, hj⟩ : ∃ j, T.endL t i = j := ⟨_, rfl⟩
  obtain ⟨g1, g2, _⟩ := T.end_spec t i (by omega)
  rw [hj] at g1 g2
  rw [hn] at g2
  have HCUT := Lib.hid (show T.cutL t i = t.take i ++ t.drop j by unfold T.cutL; rw [hj])
  obtain ⟨g, eA, hbg, hg, _⟩ := hown.block (by omega)
  subst eA
  have HO := Lib.hid hown
  have HB := Lib.hid hB
  have HN := Lib.hid hn
  have HQ := Lib.hid hq
  have HR := Lib.hid hR
  have HPI := Lib.hid hpi
  have HJ := Lib.hid hj
  have HBC := Lib.hid (box_cells w 1 mk (some ⟨b, o, none⟩) (q + 1) d)
  have HX0 := Lib.hid ((Below.refl w.heap.size w).alloc (Nat.le_refl _) (.cells #[.int .i64 1, .slice (some ⟨b, o, none⟩) (q + 1) d, .int .i64 mk] 45))
  clear hown hB hn hq hR hpi hj
  go_enter Try.func38, Try.ntmps38
  go_wp2_with fail
  refine (codeWrong 1 mk (some ⟨b, o, none⟩) (q + 1) d _ (Or.inl rfl) (by omega) hm).mono ?_
  rintro e w1 ⟨rfl, hx1⟩
  obtain ⟨y0, y1, y2⟩ := HBC.out w1 hx1
  have HX1 := Lib.hid (bthen HX0.out hx1)
  have HO1 := Lib.hid (HO.out.keep HX1.out)
  have HBX1 := Lib.hid hx1
  have hb1 : b < w1.heap.size := Nat.lt_of_lt_of_le hb HX1.out.size
  have HB1 := Lib.hid (HB.out.below HX1.out hb)
  have hfind := find_some (some ⟨g, 0, none⟩) (some ⟨b, o, none⟩) c d t i P w1 (Own.sight HO1.out) (HB1.out.seen hb1) (by rw [HN.out]; exact hl) (by rw [HQ.out]; omega) HR.out (by rw [HN.out]; exact hi) HPI.out
  rw [HN.out, HQ.out] at hfind
  clear hx1
  go_wp2_with fail
  refine hfind.mono ?_
  rintro e w2 ⟨rfl, hx2⟩
  have HX2 := Lib.hid (bthen HX1.out hx2)
  have HO2 := Lib.hid (HO1.out.keep hx2)
  have HBX2 := Lib.hid (bthen HBX1.out hx2)
  clear hx2 hfind y0 y1 y2
  obtain ⟨y0, y1, y2⟩ := HBC.out w2 HBX2.out
  have hend := End_is (some ⟨g, 0, none⟩) c t i j w2 (Own.sight HO2.out) (by rw [HN.out]; exact hl) (by rw [HN.out]; exact hi) HR.out HJ.out
  rw [HN.out] at hend
  go_wp2_with fail
  refine hend.mono ?_
  rintro e w3 ⟨rfl, hx3⟩
  have HX3 := Lib.hid (bthen HX2.out hx3)
  have HO3 := Lib.hid (HO2.out.keep hx3)
  clear hx3 hend y0 y1 y2
  go_wp2_with fail
  refine (delete_any base g c i j n t w3 HO3.out g1 g2 hl).mono ?_
  rintro e w4 ⟨rfl, hown4, hx4⟩
  have HO4 := Lib.hid hown4
  clear hown4
  go_wp2
  go_ret2
  exact ⟨_, rfl, by rw [HCUT.out]; exact HO4.out, (HX3.out.mono hbase).trans hx4⟩
set_option maxRecDepth 100000 in
set_option maxHeartbeats 4000000 in
theorem codeDoMarked (base : Nat) (A : Option Addr) (b o c d n q i : Nat) (t : List T.Ln) (P : T.Pth) (mk : Int) (w : World) (hn : t.length = n) (hown : Own eL w base (.slice A n c) t) (hbase : base ≤ w.heap.size) (hR : T.RightT t)
    (hq : P.length = q + 1) (hb : b < w.heap.size) (hB : Holds eS w b o P) (h16 : q ≤ 15) (hm : 0 ≤ mk ∧ mk ≤ 3) (hi : i < t.length) (hpi : T.pathL t i = P) :
    Calls Try.prog 38 #[.slice A n c, .agg #[.int .i64 3, .slice (some ⟨b, o, none⟩) (q + 1) d, .int .i64 mk]] w (DoneS base w (S.setM t i mk)) := by
  have hl : n ≤ 1073741824 := by have := hR.len; omega
  rw [hn] at hi
  obtain ⟨g, eA, hbg, hg, _⟩ := hown.block (by omega)
  subst eA
  have HO := Lib.hid hown
  have HB := Lib.hid hB
  have HN := Lib.hid hn
  have HQ := Lib.hid hq
  have HR := Lib.hid hR
  have HPI := Lib.hid hpi
  have HBG := Lib.hid hbg
  have HBC := Lib.hid (box_cells w 3 mk (some ⟨b, o, none⟩) (q + 1) d)
  have HX0 := Lib.hid ((Below.refl w.heap.size w).alloc (Nat.le_refl _) (.cells #[.int .i64 3, .slice (some ⟨b, o, none⟩) (q + 1) d, .int .i64 mk] 45))
  clear hown hB hn hq hR hpi hbg
  go_enter Try.func38, Try.ntmps38
  go_wp2_with fail
  refine (codeWrong 3 mk (some ⟨b, o, none⟩) (q + 1) d _ (Or.inr (Or.inr rfl)) (by omega) hm).mono ?_
  rintro e w1 ⟨rfl, hx1⟩
  obtain ⟨y0, y1, y2⟩ := HBC.out w1 hx1
  have HX1 := Lib.hid (bthen HX0.out hx1)
  have HO1 := Lib.hid (HO.out.keep HX1.out)
  have HBX1 := Lib.hid hx1
  have hb1 : b < w1.heap.size := Nat.lt_of_lt_of_le hb HX1.out.size
  have HB1 := Lib.hid (HB.out.below HX1.out hb)
  have hfind := find_some (some ⟨g, 0, none⟩) (some ⟨b, o, none⟩) c d t i P w1 (Own.sight HO1.out) (HB1.out.seen hb1) (by rw [HN.out]; exact hl) (by rw [HQ.out]; omega) HR.out (by rw [HN.out]; exact hi) HPI.out
  rw [HN.out, HQ.out] at hfind
  clear hx1
  go_wp2_with fail
  refine hfind.mono ?_
  rintro e w2 ⟨rfl, hx2⟩
  have HX2 := Lib.hid (bthen HX1.out hx2)
  have HO2 := Lib.hid (HO1.out.keep hx2)
  have HBX2 := Lib.hid (bthen HBX1.out hx2)
  clear hx2 hfind y0 y1 y2
  obtain ⟨y0, y1, y2⟩ := HBC.out w2 HBX2.out
  obtain ⟨g4, e4, _, hg4, hhG⟩ := HO2.out.block (by rw [HN.out]; omega)
  injection e4 with e4
  injection e4 with e4
  subst e4
  obtain ⟨mo, hmo⟩ : ∃ z, (T.at_ t i).mark = z := ⟨_, rfl⟩
  obtain ⟨_, _, l2⟩ := hhG.line (i := i) (by rw [HN.out]; exact hi)
  rw [hmo, Nat.zero_add] at l2
  obtain ⟨hfz, _, _⟩ := HO2.out.unfrozen (i * 3 + 2)
  have hii : (i : Int) < (n : Int) := by omega
  clear hhG hmo
  go_wp2
  go_ret2
  exact ⟨_, rfl, HO2.out.mark (by rw [HN.out]; exact hi) mk, (HX2.out.mono hbase).setCell HBG.out _⟩
set_option maxRecDepth 100000 in
set_option maxHeartbeats 4000000 in
theorem codeDoAdd (base : Nat) (A : Option Addr) (b o c d n q : Nat) (t : List T.Ln) (up : T.Pth) (wd : List UInt8) (mk : Int) (w : World) (hn : t.length = n) (hown : Own eL w base (.slice A n c) t) (hbase : base ≤ w.heap.size) (hR : T.RightT t) (h200 : n < 200)
    (hq : (up ++ [wd]).length = q + 1) (hb : b < w.heap.size) (hB : Holds eS w b o (up ++ [wd])) (hd : q + 1 ≤ d) (ho : T.Open t up) (hno : ∀ i, i < t.length → T.pathL t i ≠ up ++ [wd]) (hw : ∀ x ∈ up ++ [wd], x.length ≤ 40) (h16 : q ≤ 15) (hm : 0 ≤ mk ∧ mk ≤ 3) :
    Calls Try.prog 38 #[.slice A n c, .agg #[.int .i64 2, .slice (some ⟨b, o, none⟩) (q + 1) d, .int .i64 mk]] w (DoneS base w (T.putL t up wd mk)) := by
  have hN := Own.nilOk hown
  obtain ⟨A0, c0, e0, hc0, _⟩ := hown.seen
  rw [hn] at e0 hc0
  injection e0 with e1 e2 e3
  subst e1; subst e3
  have hadd := fun (W : World) (hx : Below w.heap.size w W) => codeAdd A b o c d n q t up wd mk W hn (Own.sight (hown.keep hx)) hc0 hN hR h200 hq (Nat.lt_of_lt_of_le hb hx.size) (hB.below hx hb) hd ho hno hw h16 hm
  have HAD := Lib.hid hadd
  have HBC := Lib.hid (box_cells w 2 mk (some ⟨b, o, none⟩) (q + 1) d)
  have HX0 := Lib.hid ((Below.refl w.heap.size w).alloc (Nat.le_refl _) (.cells #[.int .i64 2, .slice (some ⟨b, o, none⟩) (q + 1) d, .int .i64 mk] 45))
  clear hown hB hn hR hadd hN ho hno hw hq e2
  go_enter Try.func38, Try.ntmps38
  go_wp2_with fail
  refine (codeWrong 2 mk (some ⟨b, o, none⟩) (q + 1) d _ (Or.inr (Or.inl rfl)) (by omega) hm).mono ?_
  rintro e w1 ⟨rfl, hx1⟩
  obtain ⟨y0, y1, y2⟩ := HBC.out w1 hx1
  have HX1 := Lib.hid (bthen HX0.out hx1)
  clear hx1
  go_wp2_with fail
  refine (HAD.out w1 HX1.out).mono ?_
  rintro e w2 ⟨g, cap, rfl, hown2, hx2⟩
  have HO2 := Lib.hid hown2
  clear hown2
  go_wp2
  go_ret2
  exact ⟨_, rfl, HO2.out.base (Nat.le_trans hbase HX1.out.size), (HX1.out.mono hbase).trans (hx2.mono (Nat.le_trans hbase HX1.out.size))⟩
end Go.Proofs.Ytfajfjocpgbmeaa

namespace Go.Proofs.Ytfajfjocpgbmeaa
open Go.RowKit
set_option linter.unusedVariables false

theorem one_path {t u : List T.Ln} {c : T.Chg} (h : T.OneOk t c u) (hR : T.RightT t) : 0 < c.path.length ∧ c.path.length ≤ 16 := by
  obtain ⟨_, ⟨_, i, hi, e, _⟩ | ⟨_, _, up, wd, e, _, _, _, h16, _⟩ | ⟨_, i, hi, e, _⟩⟩ := h
  · rw [← e]; exact S.RightN.path_deep hR hi
  · rw [e]; exact ⟨by simp, h16⟩
  · rw [← e]; exact S.RightN.path_deep hR hi
theorem codeDo (base : Nat) (A : Option Addr) (b o c d n q : Nat) (t u : List T.Ln) (kd mk : Int) (P : T.Pth) (w : World) (hn : t.length = n) (hown : Own eL w base (.slice A n c) t) (hbase : base ≤ w.heap.size) (hR : T.RightT t)
    (hq : P.length = q + 1) (hb : b < w.heap.size) (hB : Holds eS w b o P) (hd : q + 1 ≤ d) (hok : T.OneOk t ⟨kd, P, mk⟩ u) :
    Calls Try.prog 38 #[.slice A n c, .agg #[.int .i64 kd, .slice (some ⟨b, o, none⟩) (q + 1) d, .int .i64 mk]] w (DoneS base w u) := by
  have h16 : q ≤ 15 := by
    have h := (one_path hok hR).2
    have h2 : P.length ≤ 16 := h
    omega
  obtain ⟨hm, ⟨hk, i, hi, e, hu⟩ | ⟨hk, h200, up, wd, e, ho, hno, hw, hd16, hu⟩ | ⟨hk, i, hi, e, hu⟩⟩ := hok
  · have hk1 : kd = 1 := hk
    subst hk1; subst hu
    exact codeDoGone base A b o c d n q i t P mk w hn hown hbase hR hq hb hB h16 hm hi e
  · have hk1 : kd = 2 := hk
    have e1 : P = up ++ [wd] := e
    subst hk1; subst hu; subst e1
    exact codeDoAdd base A b o c d n q t up wd mk w hn hown hbase hR (by omega) hq hb hB hd ho hno hw h16 hm
  · have hk1 : kd = 3 := hk
    subst hk1; subst hu
    exact codeDoMarked base A b o c d n q i t P mk w hn hown hbase hR hq hb hB h16 hm hi e
set_option maxRecDepth 100000 in
set_option maxHeartbeats 4000000 in
theorem diff_apply (A B : Option Addr) (c d n m : Nat) (t u : List T.Ln) (L : List T.Chg) (w : World) (hA : TArg w A c n t) (hB : CArg w B d m L) (ht : T.RightT t) (hr : T.RunOk t L u) :
    Calls Try.prog 20 #[.slice A n c, .slice B m d] w (ApplyS w u m) := by
  obtain ⟨hn, hl, hc, hsA, hNA⟩ := hA
  obtain ⟨hm, hl2, hc2, hsB⟩ := hB
  have hcl := cloneLn_any A c n t
  have HCL := Lib.hid (fun (W : World) (hx : Below w.heap.size w W) => hcl W hn hl (hsA.below hx) hNA)
  have HA := Lib.hid hsA
  have HB := Lib.hid hsB
  have HN := Lib.hid hn
  have HM := Lib.hid hm
  have HR := Lib.hid ht
  have HRUN := Lib.hid hr
  clear hsA hsB hn hm ht hr hNA hcl
  go_enter Try.func20, Try.ntmps20
  go_wp2_with fail
  refine (right_n A c t n _ HA.out HN.out hl HR.out).mono ?_
  rintro e w1 ⟨rfl, hx1⟩
  have HX1 := Lib.hid hx1
  clear hx1
  go_wp2_with fail
  refine (HCL.out w1 HX1.out).mono ?_
  rintro e w2 ⟨v2, rfl, hown2, hx2⟩
  have HO2 := Lib.hid (hown2.base HX1.out.size)
  have HX2 := Lib.hid (bthen HX1.out hx2)
  clear hown2 hx2
  go_wp2
  go_loopg [7, 19] m (fun gk x y wr => ∃ (k : Nat) (z : List T.Ln), Hid (k + gk = m) ∧ k ≤ m ∧ Hid (Own eL wr w.heap.size x z) ∧ Hid (T.RightT z) ∧ Hid (T.RunOk z (L.drop k) u) ∧ y = .int .i64 (k : Int) ∧ Below w.heap.size w wr)
  case atStart => exact ⟨0, t, Nat.zero_add _, Nat.zero_le _, HO2, HR, HRUN, rfl, HX2.out⟩
  case round =>
    obtain ⟨k, z, HG, hk, HO, HRZ, HRZN, rfl, hbr⟩ := hrel
    by_cases hlt : k < m
    · have blt : decide ((k : Int) < (m : Int)) = true := decide_eq_true (by omega)
      have blt2 : decide (k < m) = true := decide_eq_true hlt
      have hkL : k < L.length := by have := HM.out; omega
      have hrun := HRZN.out
      rw [List.drop_eq_getElem_cons hkL] at hrun
      obtain ⟨z2, hone, hrest⟩ := hrun
      obtain ⟨p1, p2⟩ := one_path hone HRZ.out
      obtain ⟨b, o, B2, c3, nn, rfl, hpn, hnc, hat⟩ := HB.out.atD hkL
      obtain ⟨x, hx⟩ : ∃ x, L[k] = x := ⟨_, rfl⟩
      rw [hx] at hone p1 p2 hpn hat
      obtain ⟨kd, P, mk⟩ := x
      simp only at p1 p2 hpn hat
      obtain ⟨x0, x1, x2, hPs0⟩ := hat _ hbr
      obtain ⟨pb, po, rfl, hpb, hPH⟩ := hPs0 p1
      obtain ⟨q, rfl⟩ : ∃ q, nn = q + 1 := ⟨nn - 1, by omega⟩
      have HRZ2 := Lib.hid (hone.right HRZ.out)
      have HREST := Lib.hid hrest
      obtain ⟨A1, cz, e1, hcz, _⟩ := HO.out.seen
      obtain ⟨nz, hnz⟩ : ∃ nz, z.length = nz := ⟨_, rfl⟩
      rw [hnz] at e1 hcz
      subst e1
      have hxa := (Below.refl wr.heap.size wr).alloc (Nat.le_refl _) (.cells #[.int .i64 kd, .slice (some ⟨pb, po, none⟩) (q + 1) c3, .int .i64 mk] 45)
      have HXA := Lib.hid (bthen hbr hxa)
      have hdo := codeDo w.heap.size A1 pb po cz c3 nz q z z2 kd mk P (wr.alloc (.cells #[.int .i64 kd, .slice (some ⟨pb, po, none⟩) (q + 1) c3, .int .i64 mk] 45)) hnz (HO.out.keep hxa) HXA.out.size HRZ.out hpn (Nat.lt_of_lt_of_le hpb hxa.size) (hPH.below hxa hpb) hnc hone
      have HDO := Lib.hid hdo
      have hki : (k : Int) < (m : Int) := by omega
      have hgk := HG.out
      clear hx hat hPH hpn hone hrest hdo hxa hPs0 p1 p2 hnz HO
      go_wp2_with fail
      refine HDO.out.mono ?_
      rintro e w4 ⟨v4, rfl, hown4, hx4⟩
      have HO4 := Lib.hid hown4
      have HX4 := Lib.hid (HXA.out.trans hx4)
      clear hown4 hx4
      go_wp2
      go_roundg (m - (k + 1))
      case rel => exact ⟨k + 1, z2, (by show _ = _; omega), by omega, HO4, HRZ2, HREST, by go_num, HX4.out⟩
      case measure => omega
    · have blt : decide ((k : Int) < (m : Int)) = false := decide_eq_false (by omega)
      have blt2 : decide (k < m) = false := decide_eq_false hlt
      obtain rfl : m = k := by omega
      have hend := HRZN.out
      rw [List.drop_eq_nil_of_le (by rw [HM.out]; exact Nat.le_refl _)] at hend
      have hzu : z = u := hend
      subst hzu
      obtain ⟨A1, cz, e1, hcz, hs1⟩ := HO.out.seen
      have hN1 : NilOk A1 cz := by
        have h := HO.out
        rw [e1] at h
        exact Own.nilOk h
      obtain ⟨nz, hnz⟩ : ∃ nz, z.length = nz := ⟨_, rfl⟩
      rw [hnz] at e1 hcz
      subst e1
      have HNZ := Lib.hid hnz
      have HS1 := Lib.hid hs1
      have HN1 := Lib.hid hN1
      clear hs1 hN1 hend hnz HO
      go_wp2
      go_ret3
      exact ⟨A1, cz, by rw [HNZ.out]; rfl, HS1.out, by rw [HNZ.out]; exact hcz, HN1.out, hbr⟩
end Go.Proofs.Ytfajfjocpgbmeaa
