/-
  Turn, kinds 1 to 3 (layer 7): a part deleted, a mark set, a mark taken off.
-/
import Derived.Test.YtfjpeonfkhcpfaaEditU
import Derived.Test.YtfjpeonfkhcpfaaLinesM
namespace Go.Proofs.Ytfjpeonfkhcpfaa
open Go.RowKit
set_option linter.unusedVariables false

theorem shutN (A B : Option Addr) (c d n m a : Nat) (t : List T.Ln) (p : T.Pth) (w : World) (q : Bool) (hn : t.length = n) (hm : p.length = m) (hA : Seen eL w A t) (hB : Seen eS w B p) (hl : n ≤ 1073741824) (ha : a < n) (hd : m ≤ d) (hp : m ≤ 1073741824) (hR : T.RightT t) (h : shutL t p a = q) :
    Calls Try.prog 48 #[.slice A n c, .slice B m d, .int .i64 (a : Int)] w (BoolS w q) := by
  subst hn; subst h; exact refShut_any A B c d a m t p w hm hA hB hl ha hd hp hR
theorem withoutN (A : Option Addr) (c n a : Nat) (t : List T.Ln) (w : World) (hn : t.length = n) (hA : Seen eL w A t) (hnc : n ≤ c) (hl : n ≤ 1073741824) (ha : a < n) :
    Calls Try.prog 49 #[.slice A n c, .int .i64 (a : Int)] w (VecS eL w (T.cutL t a)) := by
  subst hn
  obtain ⟨b, o, rfl, hb, hH⟩ := hA (by omega)
  exact refWithout_any b o c a t w hb hH hnc hl ha

theorem own_block {w : World} {base : Nat} {v : Value} {t : List T.Ln} (h : Own eL w base v t) (n a : Nat) (m : Int) (hn : t.length = n) (ha : a < n) (hm : (T.at_ t a).mark = m) :
    ∃ tg c4, v = .slice (some ⟨tg, 0, none⟩) n c4 ∧ base ≤ tg ∧ tg < w.heap.size ∧ w.cell? ⟨tg, a * 3 + 2, none⟩ = some (.int .i64 m) ∧ w.frozen? ⟨tg, a * 3 + 2, none⟩ = false := by
  subst hn
  obtain ⟨A4, c4, e, _, _⟩ := h.seen
  subst e
  obtain ⟨tg, e, hbt, htg, hhT⟩ := h.block (by omega)
  subst e
  have e4 := (hhT.line ha).2.2
  rw [hm, Nat.zero_add] at e4
  exact ⟨tg, c4, rfl, hbt, htg, e4, (h.unfrozen _).1⟩
theorem setM_same (t : List T.Ln) (a : Nat) (m : Int) (ha : a < t.length) (h : (T.at_ t a).mark = m) : S.setM t a m = t := by
  subst h
  unfold S.setM
  have e : (⟨T.dp t a, T.wd t a, (T.at_ t a).mark⟩ : T.Ln) = t[a] := by
    unfold T.dp T.wd T.at_ List.getD
    rw [List.getElem?_eq_getElem ha]
    rfl
  rw [e, List.set_getElem_self]

set_option maxRecDepth 100000 in
set_option maxHeartbeats 4000000 in
theorem turn_1 (A B : Option Addr) (c d n q a : Nat) (t v : List T.Ln) (p : T.Pth) (bit er : Int) (wd : List UInt8) (w : World) (hn : t.length = n) (hm : p.length = q + 1) (hA : Seen eL w A t) (hB : Seen eS w B p) (hl : n ≤ 1073741824) (hnc : n ≤ c) (hd : q + 1 ≤ d) (hp : q + 1 ≤ 1073741824) (hR : T.RightT t) (ha : a < n) (hpa : T.pathL t a = p) (h : (shutL t p a = true ∧ v = t ∧ er = 12) ∨ (shutL t p a = false ∧ v = T.cutL t a ∧ er = 0)) :
    Calls Try.prog 32 #[.slice A n c, .int .i64 1, .slice B (q + 1) d, .int .i64 bit, .string (sB wd)] w (RefAddS w v er) := by
  obtain ⟨kp, hk⟩ : ∃ kp, T.keptL t p q = kp := ⟨_, rfl⟩
  have b0 : (((q : Int) + 1) == 0) = false := beq_eq_false_iff_ne.2 (by omega)
  have ba : decide ((a : Int) < 0) = false := decide_eq_false (by omega)
  have HA := Lib.hid hA
  have HB := Lib.hid hB
  have HN := Lib.hid hn
  have HM := Lib.hid hm
  have HR := Lib.hid hR
  have HPA := Lib.hid hpa
  have HK := Lib.hid hk
  clear hA hB hm hn hR hpa
  clear hk
  rcases h with ⟨hs, rfl, rfl⟩ | ⟨hs, rfl, rfl⟩

  · have HS := Lib.hid hs
    clear hs
    go_enter Try.func32, Try.ntmps32
    go_wp2_with fail
    refine (rightN_is A c n v true _ HN.out HA.out hl (yes_iff HR.out)).mono ?_
    rintro e w1 ⟨rfl, hb1⟩
    go_wp2_with fail
    refine (findN_at A B c d n (q + 1) a v p _ HN.out HM.out (HA.out.below hb1) (HB.out.below hb1) hl hp HR.out (by rw [HN.out]; exact ha) HPA.out).mono ?_
    rintro e w2 ⟨rfl, hb2⟩
    have hbn2 := bthen hb1 hb2
    go_wp2_with fail
    refine (keptN A B c d n (q + 1) q v p _ kp HN.out HM.out (HA.out.below hbn2) (HB.out.below hbn2) hl (by omega) hd hp HR.out HK.out).mono ?_
    rintro e w3 ⟨rfl, hb3⟩
    have hbn := bthen hbn2 hb3
    clear hb1 hb2 hb3 hbn2
    go_wp2_with fail
    refine (shutN A B c d n (q + 1) a _ p _ true HN.out HM.out (HA.out.below hbn) (HB.out.below hbn) hl ha hd hp HR.out HS.out).mono ?_
    rintro e w4 ⟨rfl, hb4⟩
    replace hbn := bthen hbn hb4
    clear hb4
    go_wp2
    go_ret2
    exact ⟨A, c, by rw [HN.out]; rfl, HA.out.below hbn, hbn⟩

  · have HS := Lib.hid hs
    clear hs
    go_enter Try.func32, Try.ntmps32
    go_wp2_with fail
    refine (rightN_is A c n t true _ HN.out HA.out hl (yes_iff HR.out)).mono ?_
    rintro e w1 ⟨rfl, hb1⟩
    go_wp2_with fail
    refine (findN_at A B c d n (q + 1) a t p _ HN.out HM.out (HA.out.below hb1) (HB.out.below hb1) hl hp HR.out (by rw [HN.out]; exact ha) HPA.out).mono ?_
    rintro e w2 ⟨rfl, hb2⟩
    have hbn2 := bthen hb1 hb2
    go_wp2_with fail
    refine (keptN A B c d n (q + 1) q t p _ kp HN.out HM.out (HA.out.below hbn2) (HB.out.below hbn2) hl (by omega) hd hp HR.out HK.out).mono ?_
    rintro e w3 ⟨rfl, hb3⟩
    have hbn := bthen hbn2 hb3
    clear hb1 hb2 hb3 hbn2
    go_wp2_with fail
    refine (shutN A B c d n (q + 1) a _ p _ false HN.out HM.out (HA.out.below hbn) (HB.out.below hbn) hl ha hd hp HR.out HS.out).mono ?_
    rintro e w4 ⟨rfl, hb4⟩
    replace hbn := bthen hbn hb4
    clear hb4
    go_wp2_with fail
    refine (withoutN A c n a t _ HN.out (HA.out.below hbn) hnc hl ha).mono ?_
    rintro e w5 ⟨v5, rfl, hv5, hb5⟩
    obtain ⟨A5, c5, rfl, _, hs5⟩ := hv5.seen
    have hbm := bthen hbn hb5
    go_wp2
    go_ret2
    exact ⟨A5, c5, rfl, hs5, hbm⟩

set_option maxRecDepth 100000 in
set_option maxHeartbeats 4000000 in
theorem turn_2_1_above (A B : Option Addr) (c d n q a : Nat) (t v : List T.Ln) (p : T.Pth) (bit er : Int) (wd : List UInt8) (w : World) (hn : t.length = n) (hm : p.length = q + 1) (hA : Seen eL w A t) (hB : Seen eS w B p) (hl : n ≤ 1073741824) (hnc : n ≤ c) (hd : q + 1 ≤ d) (hp : q + 1 ≤ 1073741824) (hR : T.RightT t) (ha : a < n) (hpa : T.pathL t a = p) (hk : T.keptL t p q = true) :
    Calls Try.prog 32 #[.slice A n c, .int .i64 2, .slice B (q + 1) d, .int .i64 1, .string (sB wd)] w (RefAddS w t 12) := by
  have b0 : (((q : Int) + 1) == 0) = false := beq_eq_false_iff_ne.2 (by omega)
  have ba : decide ((a : Int) < 0) = false := decide_eq_false (by omega)
  have HA := Lib.hid hA
  have HB := Lib.hid hB
  have HN := Lib.hid hn
  have HM := Lib.hid hm
  have HR := Lib.hid hR
  have HPA := Lib.hid hpa
  have HK := Lib.hid hk
  clear hA hB hm hn hR hpa
  clear hk
  go_enter Try.func32, Try.ntmps32
  go_wp2_with fail
  refine (rightN_is A c n t true _ HN.out HA.out hl (yes_iff HR.out)).mono ?_
  rintro e w1 ⟨rfl, hb1⟩
  go_wp2_with fail
  refine (findN_at A B c d n (q + 1) a t p _ HN.out HM.out (HA.out.below hb1) (HB.out.below hb1) hl hp HR.out (by rw [HN.out]; exact ha) HPA.out).mono ?_
  rintro e w2 ⟨rfl, hb2⟩
  have hbn2 := bthen hb1 hb2
  go_wp2_with fail
  refine (keptN A B c d n (q + 1) q t p _ true HN.out HM.out (HA.out.below hbn2) (HB.out.below hbn2) hl (by omega) hd hp HR.out HK.out).mono ?_
  rintro e w3 ⟨rfl, hb3⟩
  have hbn := bthen hbn2 hb3
  clear hb1 hb2 hb3 hbn2
  go_wp2
  go_ret2
  exact ⟨A, c, by rw [HN.out]; rfl, HA.out.below hbn, hbn⟩

set_option maxRecDepth 100000 in
set_option maxHeartbeats 4000000 in
theorem turn_2_1_own (A B : Option Addr) (c d n q a : Nat) (t v : List T.Ln) (p : T.Pth) (bit er : Int) (wd : List UInt8) (w : World) (hn : t.length = n) (hm : p.length = q + 1) (hA : Seen eL w A t) (hB : Seen eS w B p) (hl : n ≤ 1073741824) (hnc : n ≤ c) (hd : q + 1 ≤ d) (hp : q + 1 ≤ 1073741824) (hR : T.RightT t) (ha : a < n) (hpa : T.pathL t a = p) (hk : T.keptL t p q = false) (h1 : 1 < (T.at_ t a).mark) :
    Calls Try.prog 32 #[.slice A n c, .int .i64 2, .slice B (q + 1) d, .int .i64 1, .string (sB wd)] w (RefAddS w t 12) := by
  obtain ⟨ab, ao, rfl, hab, hAH⟩ := hA (by omega)
  have HAH := Lib.hid hAH
  obtain ⟨mk, hmk⟩ : ∃ mk, (T.at_ t a).mark = mk := ⟨_, rfl⟩
  rw [hmk] at h1
  have hb : decide (1 < mk) = true := decide_eq_true h1
  have HMK := Lib.hid hmk
  have b0 : (((q : Int) + 1) == 0) = false := beq_eq_false_iff_ne.2 (by omega)
  have ba : decide ((a : Int) < 0) = false := decide_eq_false (by omega)
  have HA := Lib.hid hA
  have HB := Lib.hid hB
  have HN := Lib.hid hn
  have HM := Lib.hid hm
  have HR := Lib.hid hR
  have HPA := Lib.hid hpa
  have HK := Lib.hid hk
  clear hA hB hm hn hR hpa
  clear hk hAH hmk h1
  go_enter Try.func32, Try.ntmps32
  go_wp2_with fail
  refine (rightN_is (some ⟨ab, ao, none⟩) c n t true _ HN.out HA.out hl (yes_iff HR.out)).mono ?_
  rintro e w1 ⟨rfl, hb1⟩
  go_wp2_with fail
  refine (findN_at (some ⟨ab, ao, none⟩) B c d n (q + 1) a t p _ HN.out HM.out (HA.out.below hb1) (HB.out.below hb1) hl hp HR.out (by rw [HN.out]; exact ha) HPA.out).mono ?_
  rintro e w2 ⟨rfl, hb2⟩
  have hbn2 := bthen hb1 hb2
  go_wp2_with fail
  refine (keptN (some ⟨ab, ao, none⟩) B c d n (q + 1) q t p _ false HN.out HM.out (HA.out.below hbn2) (HB.out.below hbn2) hl (by omega) hd hp HR.out HK.out).mono ?_
  rintro e w3 ⟨rfl, hb3⟩
  have hbn := bthen hbn2 hb3
  clear hb1 hb2 hb3 hbn2
  have e3 := ((HAH.out.belowN hbn hab).line (show a < t.length by rw [HN.out]; exact ha)).2.2
  rw [HMK.out] at e3
  have hai : (a : Int) < (n : Int) := by omega
  go_wp2
  go_ret2
  exact ⟨some ⟨ab, ao, none⟩, c, by rw [HN.out]; rfl, HA.out.below hbn, hbn⟩

set_option maxRecDepth 100000 in
set_option maxHeartbeats 4000000 in
theorem turn_2_1_0 (A B : Option Addr) (c d n q a : Nat) (t v : List T.Ln) (p : T.Pth) (bit er : Int) (wd : List UInt8) (w : World) (hn : t.length = n) (hm : p.length = q + 1) (hA : Seen eL w A t) (hB : Seen eS w B p) (hl : n ≤ 1073741824) (hnc : n ≤ c) (hd : q + 1 ≤ d) (hp : q + 1 ≤ 1073741824) (hR : T.RightT t) (ha : a < n) (hpa : T.pathL t a = p) (hk : T.keptL t p q = false) (hmk : (T.at_ t a).mark = 0) :
    Calls Try.prog 32 #[.slice A n c, .int .i64 2, .slice B (q + 1) d, .int .i64 1, .string (sB wd)] w (RefAddS w (S.setM t a 1) 0) := by
  obtain ⟨ab, ao, rfl, hab, hAH⟩ := hA (by omega)
  have HAH := Lib.hid hAH
  have HMK := Lib.hid hmk
  have b0 : (((q : Int) + 1) == 0) = false := beq_eq_false_iff_ne.2 (by omega)
  have ba : decide ((a : Int) < 0) = false := decide_eq_false (by omega)
  have HA := Lib.hid hA
  have HB := Lib.hid hB
  have HN := Lib.hid hn
  have HM := Lib.hid hm
  have HR := Lib.hid hR
  have HPA := Lib.hid hpa
  have HK := Lib.hid hk
  have HSZ := Lib.hid (S.setM_len t a 1)
  clear hA hB hm hn hR hpa
  clear hk hAH hmk
  go_enter Try.func32, Try.ntmps32
  go_wp2_with fail
  refine (rightN_is (some ⟨ab, ao, none⟩) c n t true _ HN.out HA.out hl (yes_iff HR.out)).mono ?_
  rintro e w1 ⟨rfl, hb1⟩
  go_wp2_with fail
  refine (findN_at (some ⟨ab, ao, none⟩) B c d n (q + 1) a t p _ HN.out HM.out (HA.out.below hb1) (HB.out.below hb1) hl hp HR.out (by rw [HN.out]; exact ha) HPA.out).mono ?_
  rintro e w2 ⟨rfl, hb2⟩
  have hbn2 := bthen hb1 hb2
  go_wp2_with fail
  refine (keptN (some ⟨ab, ao, none⟩) B c d n (q + 1) q t p _ false HN.out HM.out (HA.out.below hbn2) (HB.out.below hbn2) hl (by omega) hd hp HR.out HK.out).mono ?_
  rintro e w3 ⟨rfl, hb3⟩
  have hbn := bthen hbn2 hb3
  clear hb1 hb2 hb3 hbn2
  have e3 := ((HAH.out.belowN hbn hab).line (show a < t.length by rw [HN.out]; exact ha)).2.2
  rw [HMK.out] at e3
  have hai : (a : Int) < (n : Int) := by omega
  have hsz := hbn.size
  go_wp2_with (at_builtin; refine wpList_appSrc eL w3 rfl (.tmp 89) (.tmp 90) rfl w.heap.size (.slice none 0 0) [] rfl (Own.nil _ _) ab ao t n c HN.out rfl (HAH.out.belowN hbn hab) (by simp; omega) hsz ?_; intro v4 w4 hown4 hx4; have HX4 := Lib.hid (hbn.trans hx4); have HO4 := Lib.hid (show Own eL w4 w.heap.size v4 t from hown4); have hq := own_block HO4.out n a 0 HN.out ha HMK.out; (obtain ⟨tg, c4, e, hbt, htg, e4, hfz⟩ := hq); subst e; have HBT := Lib.hid hbt; clear hown4 hx4 hbt htg e3)
  go_ret2
  have hsm := HO4.out.mark (show a < t.length by rw [HN.out]; exact ha) 1
  obtain ⟨A5, c5, e5, _, hs5⟩ := hsm.seen
  rw [HSZ.out, HN.out] at e5
  injection e5 with e6 e7 e8
  subst e6; subst e8
  refine ⟨some ⟨tg, 0, none⟩, c4, by rw [HSZ.out, HN.out]; rfl, hs5, HX4.out.setCell HBT.out _⟩

set_option maxRecDepth 100000 in
set_option maxHeartbeats 4000000 in
theorem turn_2_1_1 (A B : Option Addr) (c d n q a : Nat) (t v : List T.Ln) (p : T.Pth) (bit er : Int) (wd : List UInt8) (w : World) (hn : t.length = n) (hm : p.length = q + 1) (hA : Seen eL w A t) (hB : Seen eS w B p) (hl : n ≤ 1073741824) (hnc : n ≤ c) (hd : q + 1 ≤ d) (hp : q + 1 ≤ 1073741824) (hR : T.RightT t) (ha : a < n) (hpa : T.pathL t a = p) (hk : T.keptL t p q = false) (hmk : (T.at_ t a).mark = 1) :
    Calls Try.prog 32 #[.slice A n c, .int .i64 2, .slice B (q + 1) d, .int .i64 1, .string (sB wd)] w (RefAddS w (S.setM t a 1) 0) := by
  obtain ⟨ab, ao, rfl, hab, hAH⟩ := hA (by omega)
  have HAH := Lib.hid hAH
  have HMK := Lib.hid hmk
  have b0 : (((q : Int) + 1) == 0) = false := beq_eq_false_iff_ne.2 (by omega)
  have ba : decide ((a : Int) < 0) = false := decide_eq_false (by omega)
  have HA := Lib.hid hA
  have HB := Lib.hid hB
  have HN := Lib.hid hn
  have HM := Lib.hid hm
  have HR := Lib.hid hR
  have HPA := Lib.hid hpa
  have HK := Lib.hid hk
  have HSZ := Lib.hid (S.setM_len t a 1)
  clear hA hB hm hn hR hpa
  clear hk hAH hmk
  go_enter Try.func32, Try.ntmps32
  go_wp2_with fail
  refine (rightN_is (some ⟨ab, ao, none⟩) c n t true _ HN.out HA.out hl (yes_iff HR.out)).mono ?_
  rintro e w1 ⟨rfl, hb1⟩
  go_wp2_with fail
  refine (findN_at (some ⟨ab, ao, none⟩) B c d n (q + 1) a t p _ HN.out HM.out (HA.out.below hb1) (HB.out.below hb1) hl hp HR.out (by rw [HN.out]; exact ha) HPA.out).mono ?_
  rintro e w2 ⟨rfl, hb2⟩
  have hbn2 := bthen hb1 hb2
  go_wp2_with fail
  refine (keptN (some ⟨ab, ao, none⟩) B c d n (q + 1) q t p _ false HN.out HM.out (HA.out.below hbn2) (HB.out.below hbn2) hl (by omega) hd hp HR.out HK.out).mono ?_
  rintro e w3 ⟨rfl, hb3⟩
  have hbn := bthen hbn2 hb3
  clear hb1 hb2 hb3 hbn2
  have e3 := ((HAH.out.belowN hbn hab).line (show a < t.length by rw [HN.out]; exact ha)).2.2
  rw [HMK.out] at e3
  have hai : (a : Int) < (n : Int) := by omega
  have hsz := hbn.size
  go_wp2_with (at_builtin; refine wpList_appSrc eL w3 rfl (.tmp 89) (.tmp 90) rfl w.heap.size (.slice none 0 0) [] rfl (Own.nil _ _) ab ao t n c HN.out rfl (HAH.out.belowN hbn hab) (by simp; omega) hsz ?_; intro v4 w4 hown4 hx4; have HX4 := Lib.hid (hbn.trans hx4); have HO4 := Lib.hid (show Own eL w4 w.heap.size v4 t from hown4); have hq := own_block HO4.out n a 1 HN.out ha HMK.out; (obtain ⟨tg, c4, e, hbt, htg, e4, hfz⟩ := hq); subst e; have HBT := Lib.hid hbt; clear hown4 hx4 hbt htg e3)
  go_ret2
  obtain ⟨A5, c5, e5, _, hs5⟩ := HO4.out.seen
  rw [HN.out] at e5
  injection e5 with e6 e7 e8
  subst e6; subst e8
  refine ⟨some ⟨tg, 0, none⟩, c4, by rw [HSZ.out, HN.out]; rfl, ?_, HX4.out⟩
  rw [setM_same t a 1 (by rw [HN.out]; exact ha) HMK.out]
  exact hs5

set_option maxRecDepth 100000 in
set_option maxHeartbeats 4000000 in
theorem turn_2_2_above (A B : Option Addr) (c d n q a : Nat) (t v : List T.Ln) (p : T.Pth) (bit er : Int) (wd : List UInt8) (w : World) (hn : t.length = n) (hm : p.length = q + 1) (hA : Seen eL w A t) (hB : Seen eS w B p) (hl : n ≤ 1073741824) (hnc : n ≤ c) (hd : q + 1 ≤ d) (hp : q + 1 ≤ 1073741824) (hR : T.RightT t) (ha : a < n) (hpa : T.pathL t a = p) (hk : T.keptL t p q = true) :
    Calls Try.prog 32 #[.slice A n c, .int .i64 2, .slice B (q + 1) d, .int .i64 2, .string (sB wd)] w (RefAddS w t 12) := by
  have b0 : (((q : Int) + 1) == 0) = false := beq_eq_false_iff_ne.2 (by omega)
  have ba : decide ((a : Int) < 0) = false := decide_eq_false (by omega)
  have HA := Lib.hid hA
  have HB := Lib.hid hB
  have HN := Lib.hid hn
  have HM := Lib.hid hm
  have HR := Lib.hid hR
  have HPA := Lib.hid hpa
  have HK := Lib.hid hk
  clear hA hB hm hn hR hpa
  clear hk
  go_enter Try.func32, Try.ntmps32
  go_wp2_with fail
  refine (rightN_is A c n t true _ HN.out HA.out hl (yes_iff HR.out)).mono ?_
  rintro e w1 ⟨rfl, hb1⟩
  go_wp2_with fail
  refine (findN_at A B c d n (q + 1) a t p _ HN.out HM.out (HA.out.below hb1) (HB.out.below hb1) hl hp HR.out (by rw [HN.out]; exact ha) HPA.out).mono ?_
  rintro e w2 ⟨rfl, hb2⟩
  have hbn2 := bthen hb1 hb2
  go_wp2_with fail
  refine (keptN A B c d n (q + 1) q t p _ true HN.out HM.out (HA.out.below hbn2) (HB.out.below hbn2) hl (by omega) hd hp HR.out HK.out).mono ?_
  rintro e w3 ⟨rfl, hb3⟩
  have hbn := bthen hbn2 hb3
  clear hb1 hb2 hb3 hbn2
  go_wp2
  go_ret2
  exact ⟨A, c, by rw [HN.out]; rfl, HA.out.below hbn, hbn⟩

set_option maxRecDepth 100000 in
set_option maxHeartbeats 4000000 in
theorem turn_2_2_0 (A B : Option Addr) (c d n q a : Nat) (t v : List T.Ln) (p : T.Pth) (bit er : Int) (wd : List UInt8) (w : World) (hn : t.length = n) (hm : p.length = q + 1) (hA : Seen eL w A t) (hB : Seen eS w B p) (hl : n ≤ 1073741824) (hnc : n ≤ c) (hd : q + 1 ≤ d) (hp : q + 1 ≤ 1073741824) (hR : T.RightT t) (ha : a < n) (hpa : T.pathL t a = p) (hk : T.keptL t p q = false) (hmk : (T.at_ t a).mark = 0) :
    Calls Try.prog 32 #[.slice A n c, .int .i64 2, .slice B (q + 1) d, .int .i64 2, .string (sB wd)] w (RefAddS w (S.setM t a 2) 0) := by
  obtain ⟨ab, ao, rfl, hab, hAH⟩ := hA (by omega)
  have HAH := Lib.hid hAH
  have HMK := Lib.hid hmk
  have b0 : (((q : Int) + 1) == 0) = false := beq_eq_false_iff_ne.2 (by omega)
  have ba : decide ((a : Int) < 0) = false := decide_eq_false (by omega)
  have HA := Lib.hid hA
  have HB := Lib.hid hB
  have HN := Lib.hid hn
  have HM := Lib.hid hm
  have HR := Lib.hid hR
  have HPA := Lib.hid hpa
  have HK := Lib.hid hk
  have HSZ := Lib.hid (S.setM_len t a 2)
  clear hA hB hm hn hR hpa
  clear hk hAH hmk
  go_enter Try.func32, Try.ntmps32
  go_wp2_with fail
  refine (rightN_is (some ⟨ab, ao, none⟩) c n t true _ HN.out HA.out hl (yes_iff HR.out)).mono ?_
  rintro e w1 ⟨rfl, hb1⟩
  go_wp2_with fail
  refine (findN_at (some ⟨ab, ao, none⟩) B c d n (q + 1) a t p _ HN.out HM.out (HA.out.below hb1) (HB.out.below hb1) hl hp HR.out (by rw [HN.out]; exact ha) HPA.out).mono ?_
  rintro e w2 ⟨rfl, hb2⟩
  have hbn2 := bthen hb1 hb2
  go_wp2_with fail
  refine (keptN (some ⟨ab, ao, none⟩) B c d n (q + 1) q t p _ false HN.out HM.out (HA.out.below hbn2) (HB.out.below hbn2) hl (by omega) hd hp HR.out HK.out).mono ?_
  rintro e w3 ⟨rfl, hb3⟩
  have hbn := bthen hbn2 hb3
  clear hb1 hb2 hb3 hbn2
  have e3 := ((HAH.out.belowN hbn hab).line (show a < t.length by rw [HN.out]; exact ha)).2.2
  rw [HMK.out] at e3
  have hai : (a : Int) < (n : Int) := by omega
  have hsz := hbn.size
  go_wp2_with (at_builtin; refine wpList_appSrc eL w3 rfl (.tmp 89) (.tmp 90) rfl w.heap.size (.slice none 0 0) [] rfl (Own.nil _ _) ab ao t n c HN.out rfl (HAH.out.belowN hbn hab) (by simp; omega) hsz ?_; intro v4 w4 hown4 hx4; have HX4 := Lib.hid (hbn.trans hx4); have HO4 := Lib.hid (show Own eL w4 w.heap.size v4 t from hown4); have hq := own_block HO4.out n a 0 HN.out ha HMK.out; (obtain ⟨tg, c4, e, hbt, htg, e4, hfz⟩ := hq); subst e; have HBT := Lib.hid hbt; clear hown4 hx4 hbt htg e3)
  go_ret2
  have hsm := HO4.out.mark (show a < t.length by rw [HN.out]; exact ha) 2
  obtain ⟨A5, c5, e5, _, hs5⟩ := hsm.seen
  rw [HSZ.out, HN.out] at e5
  injection e5 with e6 e7 e8
  subst e6; subst e8
  refine ⟨some ⟨tg, 0, none⟩, c4, by rw [HSZ.out, HN.out]; rfl, hs5, HX4.out.setCell HBT.out _⟩

set_option maxRecDepth 100000 in
set_option maxHeartbeats 4000000 in
theorem turn_2_2_1 (A B : Option Addr) (c d n q a : Nat) (t v : List T.Ln) (p : T.Pth) (bit er : Int) (wd : List UInt8) (w : World) (hn : t.length = n) (hm : p.length = q + 1) (hA : Seen eL w A t) (hB : Seen eS w B p) (hl : n ≤ 1073741824) (hnc : n ≤ c) (hd : q + 1 ≤ d) (hp : q + 1 ≤ 1073741824) (hR : T.RightT t) (ha : a < n) (hpa : T.pathL t a = p) (hk : T.keptL t p q = false) (hmk : (T.at_ t a).mark = 1) :
    Calls Try.prog 32 #[.slice A n c, .int .i64 2, .slice B (q + 1) d, .int .i64 2, .string (sB wd)] w (RefAddS w (S.setM t a 3) 0) := by
  obtain ⟨ab, ao, rfl, hab, hAH⟩ := hA (by omega)
  have HAH := Lib.hid hAH
  have HMK := Lib.hid hmk
  have b0 : (((q : Int) + 1) == 0) = false := beq_eq_false_iff_ne.2 (by omega)
  have ba : decide ((a : Int) < 0) = false := decide_eq_false (by omega)
  have HA := Lib.hid hA
  have HB := Lib.hid hB
  have HN := Lib.hid hn
  have HM := Lib.hid hm
  have HR := Lib.hid hR
  have HPA := Lib.hid hpa
  have HK := Lib.hid hk
  have HSZ := Lib.hid (S.setM_len t a 3)
  clear hA hB hm hn hR hpa
  clear hk hAH hmk
  go_enter Try.func32, Try.ntmps32
  go_wp2_with fail
  refine (rightN_is (some ⟨ab, ao, none⟩) c n t true _ HN.out HA.out hl (yes_iff HR.out)).mono ?_
  rintro e w1 ⟨rfl, hb1⟩
  go_wp2_with fail
  refine (findN_at (some ⟨ab, ao, none⟩) B c d n (q + 1) a t p _ HN.out HM.out (HA.out.below hb1) (HB.out.below hb1) hl hp HR.out (by rw [HN.out]; exact ha) HPA.out).mono ?_
  rintro e w2 ⟨rfl, hb2⟩
  have hbn2 := bthen hb1 hb2
  go_wp2_with fail
  refine (keptN (some ⟨ab, ao, none⟩) B c d n (q + 1) q t p _ false HN.out HM.out (HA.out.below hbn2) (HB.out.below hbn2) hl (by omega) hd hp HR.out HK.out).mono ?_
  rintro e w3 ⟨rfl, hb3⟩
  have hbn := bthen hbn2 hb3
  clear hb1 hb2 hb3 hbn2
  have e3 := ((HAH.out.belowN hbn hab).line (show a < t.length by rw [HN.out]; exact ha)).2.2
  rw [HMK.out] at e3
  have hai : (a : Int) < (n : Int) := by omega
  have hsz := hbn.size
  go_wp2_with (at_builtin; refine wpList_appSrc eL w3 rfl (.tmp 89) (.tmp 90) rfl w.heap.size (.slice none 0 0) [] rfl (Own.nil _ _) ab ao t n c HN.out rfl (HAH.out.belowN hbn hab) (by simp; omega) hsz ?_; intro v4 w4 hown4 hx4; have HX4 := Lib.hid (hbn.trans hx4); have HO4 := Lib.hid (show Own eL w4 w.heap.size v4 t from hown4); have hq := own_block HO4.out n a 1 HN.out ha HMK.out; (obtain ⟨tg, c4, e, hbt, htg, e4, hfz⟩ := hq); subst e; have HBT := Lib.hid hbt; clear hown4 hx4 hbt htg e3)
  go_ret2
  have hsm := HO4.out.mark (show a < t.length by rw [HN.out]; exact ha) 3
  obtain ⟨A5, c5, e5, _, hs5⟩ := hsm.seen
  rw [HSZ.out, HN.out] at e5
  injection e5 with e6 e7 e8
  subst e6; subst e8
  refine ⟨some ⟨tg, 0, none⟩, c4, by rw [HSZ.out, HN.out]; rfl, hs5, HX4.out.setCell HBT.out _⟩

set_option maxRecDepth 100000 in
set_option maxHeartbeats 4000000 in
theorem turn_2_2_2 (A B : Option Addr) (c d n q a : Nat) (t v : List T.Ln) (p : T.Pth) (bit er : Int) (wd : List UInt8) (w : World) (hn : t.length = n) (hm : p.length = q + 1) (hA : Seen eL w A t) (hB : Seen eS w B p) (hl : n ≤ 1073741824) (hnc : n ≤ c) (hd : q + 1 ≤ d) (hp : q + 1 ≤ 1073741824) (hR : T.RightT t) (ha : a < n) (hpa : T.pathL t a = p) (hk : T.keptL t p q = false) (hmk : (T.at_ t a).mark = 2) :
    Calls Try.prog 32 #[.slice A n c, .int .i64 2, .slice B (q + 1) d, .int .i64 2, .string (sB wd)] w (RefAddS w (S.setM t a 2) 0) := by
  obtain ⟨ab, ao, rfl, hab, hAH⟩ := hA (by omega)
  have HAH := Lib.hid hAH
  have HMK := Lib.hid hmk
  have b0 : (((q : Int) + 1) == 0) = false := beq_eq_false_iff_ne.2 (by omega)
  have ba : decide ((a : Int) < 0) = false := decide_eq_false (by omega)
  have HA := Lib.hid hA
  have HB := Lib.hid hB
  have HN := Lib.hid hn
  have HM := Lib.hid hm
  have HR := Lib.hid hR
  have HPA := Lib.hid hpa
  have HK := Lib.hid hk
  have HSZ := Lib.hid (S.setM_len t a 2)
  clear hA hB hm hn hR hpa
  clear hk hAH hmk
  go_enter Try.func32, Try.ntmps32
  go_wp2_with fail
  refine (rightN_is (some ⟨ab, ao, none⟩) c n t true _ HN.out HA.out hl (yes_iff HR.out)).mono ?_
  rintro e w1 ⟨rfl, hb1⟩
  go_wp2_with fail
  refine (findN_at (some ⟨ab, ao, none⟩) B c d n (q + 1) a t p _ HN.out HM.out (HA.out.below hb1) (HB.out.below hb1) hl hp HR.out (by rw [HN.out]; exact ha) HPA.out).mono ?_
  rintro e w2 ⟨rfl, hb2⟩
  have hbn2 := bthen hb1 hb2
  go_wp2_with fail
  refine (keptN (some ⟨ab, ao, none⟩) B c d n (q + 1) q t p _ false HN.out HM.out (HA.out.below hbn2) (HB.out.below hbn2) hl (by omega) hd hp HR.out HK.out).mono ?_
  rintro e w3 ⟨rfl, hb3⟩
  have hbn := bthen hbn2 hb3
  clear hb1 hb2 hb3 hbn2
  have e3 := ((HAH.out.belowN hbn hab).line (show a < t.length by rw [HN.out]; exact ha)).2.2
  rw [HMK.out] at e3
  have hai : (a : Int) < (n : Int) := by omega
  have hsz := hbn.size
  go_wp2_with (at_builtin; refine wpList_appSrc eL w3 rfl (.tmp 89) (.tmp 90) rfl w.heap.size (.slice none 0 0) [] rfl (Own.nil _ _) ab ao t n c HN.out rfl (HAH.out.belowN hbn hab) (by simp; omega) hsz ?_; intro v4 w4 hown4 hx4; have HX4 := Lib.hid (hbn.trans hx4); have HO4 := Lib.hid (show Own eL w4 w.heap.size v4 t from hown4); have hq := own_block HO4.out n a 2 HN.out ha HMK.out; (obtain ⟨tg, c4, e, hbt, htg, e4, hfz⟩ := hq); subst e; have HBT := Lib.hid hbt; clear hown4 hx4 hbt htg e3)
  go_ret2
  obtain ⟨A5, c5, e5, _, hs5⟩ := HO4.out.seen
  rw [HN.out] at e5
  injection e5 with e6 e7 e8
  subst e6; subst e8
  refine ⟨some ⟨tg, 0, none⟩, c4, by rw [HSZ.out, HN.out]; rfl, ?_, HX4.out⟩
  rw [setM_same t a 2 (by rw [HN.out]; exact ha) HMK.out]
  exact hs5

set_option maxRecDepth 100000 in
set_option maxHeartbeats 4000000 in
theorem turn_2_2_3 (A B : Option Addr) (c d n q a : Nat) (t v : List T.Ln) (p : T.Pth) (bit er : Int) (wd : List UInt8) (w : World) (hn : t.length = n) (hm : p.length = q + 1) (hA : Seen eL w A t) (hB : Seen eS w B p) (hl : n ≤ 1073741824) (hnc : n ≤ c) (hd : q + 1 ≤ d) (hp : q + 1 ≤ 1073741824) (hR : T.RightT t) (ha : a < n) (hpa : T.pathL t a = p) (hk : T.keptL t p q = false) (hmk : (T.at_ t a).mark = 3) :
    Calls Try.prog 32 #[.slice A n c, .int .i64 2, .slice B (q + 1) d, .int .i64 2, .string (sB wd)] w (RefAddS w (S.setM t a 3) 0) := by
  obtain ⟨ab, ao, rfl, hab, hAH⟩ := hA (by omega)
  have HAH := Lib.hid hAH
  have HMK := Lib.hid hmk
  have b0 : (((q : Int) + 1) == 0) = false := beq_eq_false_iff_ne.2 (by omega)
  have ba : decide ((a : Int) < 0) = false := decide_eq_false (by omega)
  have HA := Lib.hid hA
  have HB := Lib.hid hB
  have HN := Lib.hid hn
  have HM := Lib.hid hm
  have HR := Lib.hid hR
  have HPA := Lib.hid hpa
  have HK := Lib.hid hk
  have HSZ := Lib.hid (S.setM_len t a 3)
  clear hA hB hm hn hR hpa
  clear hk hAH hmk
  go_enter Try.func32, Try.ntmps32
  go_wp2_with fail
  refine (rightN_is (some ⟨ab, ao, none⟩) c n t true _ HN.out HA.out hl (yes_iff HR.out)).mono ?_
  rintro e w1 ⟨rfl, hb1⟩
  go_wp2_with fail
  refine (findN_at (some ⟨ab, ao, none⟩) B c d n (q + 1) a t p _ HN.out HM.out (HA.out.below hb1) (HB.out.below hb1) hl hp HR.out (by rw [HN.out]; exact ha) HPA.out).mono ?_
  rintro e w2 ⟨rfl, hb2⟩
  have hbn2 := bthen hb1 hb2
  go_wp2_with fail
  refine (keptN (some ⟨ab, ao, none⟩) B c d n (q + 1) q t p _ false HN.out HM.out (HA.out.below hbn2) (HB.out.below hbn2) hl (by omega) hd hp HR.out HK.out).mono ?_
  rintro e w3 ⟨rfl, hb3⟩
  have hbn := bthen hbn2 hb3
  clear hb1 hb2 hb3 hbn2
  have e3 := ((HAH.out.belowN hbn hab).line (show a < t.length by rw [HN.out]; exact ha)).2.2
  rw [HMK.out] at e3
  have hai : (a : Int) < (n : Int) := by omega
  have hsz := hbn.size
  go_wp2_with (at_builtin; refine wpList_appSrc eL w3 rfl (.tmp 89) (.tmp 90) rfl w.heap.size (.slice none 0 0) [] rfl (Own.nil _ _) ab ao t n c HN.out rfl (HAH.out.belowN hbn hab) (by simp; omega) hsz ?_; intro v4 w4 hown4 hx4; have HX4 := Lib.hid (hbn.trans hx4); have HO4 := Lib.hid (show Own eL w4 w.heap.size v4 t from hown4); have hq := own_block HO4.out n a 3 HN.out ha HMK.out; (obtain ⟨tg, c4, e, hbt, htg, e4, hfz⟩ := hq); subst e; have HBT := Lib.hid hbt; clear hown4 hx4 hbt htg e3)
  go_ret2
  obtain ⟨A5, c5, e5, _, hs5⟩ := HO4.out.seen
  rw [HN.out] at e5
  injection e5 with e6 e7 e8
  subst e6; subst e8
  refine ⟨some ⟨tg, 0, none⟩, c4, by rw [HSZ.out, HN.out]; rfl, ?_, HX4.out⟩
  rw [setM_same t a 3 (by rw [HN.out]; exact ha) HMK.out]
  exact hs5

set_option maxRecDepth 100000 in
set_option maxHeartbeats 4000000 in
theorem turn_3_1_above (A B : Option Addr) (c d n q a : Nat) (t v : List T.Ln) (p : T.Pth) (bit er : Int) (wd : List UInt8) (w : World) (hn : t.length = n) (hm : p.length = q + 1) (hA : Seen eL w A t) (hB : Seen eS w B p) (hl : n ≤ 1073741824) (hnc : n ≤ c) (hd : q + 1 ≤ d) (hp : q + 1 ≤ 1073741824) (hR : T.RightT t) (ha : a < n) (hpa : T.pathL t a = p) (hk : T.keptL t p q = true) :
    Calls Try.prog 32 #[.slice A n c, .int .i64 3, .slice B (q + 1) d, .int .i64 1, .string (sB wd)] w (RefAddS w t 12) := by
  have b0 : (((q : Int) + 1) == 0) = false := beq_eq_false_iff_ne.2 (by omega)
  have ba : decide ((a : Int) < 0) = false := decide_eq_false (by omega)
  have HA := Lib.hid hA
  have HB := Lib.hid hB
  have HN := Lib.hid hn
  have HM := Lib.hid hm
  have HR := Lib.hid hR
  have HPA := Lib.hid hpa
  have HK := Lib.hid hk
  clear hA hB hm hn hR hpa
  clear hk
  go_enter Try.func32, Try.ntmps32
  go_wp2_with fail
  refine (rightN_is A c n t true _ HN.out HA.out hl (yes_iff HR.out)).mono ?_
  rintro e w1 ⟨rfl, hb1⟩
  go_wp2_with fail
  refine (findN_at A B c d n (q + 1) a t p _ HN.out HM.out (HA.out.below hb1) (HB.out.below hb1) hl hp HR.out (by rw [HN.out]; exact ha) HPA.out).mono ?_
  rintro e w2 ⟨rfl, hb2⟩
  have hbn2 := bthen hb1 hb2
  go_wp2_with fail
  refine (keptN A B c d n (q + 1) q t p _ true HN.out HM.out (HA.out.below hbn2) (HB.out.below hbn2) hl (by omega) hd hp HR.out HK.out).mono ?_
  rintro e w3 ⟨rfl, hb3⟩
  have hbn := bthen hbn2 hb3
  clear hb1 hb2 hb3 hbn2
  go_wp2
  go_ret2
  exact ⟨A, c, by rw [HN.out]; rfl, HA.out.below hbn, hbn⟩

set_option maxRecDepth 100000 in
set_option maxHeartbeats 4000000 in
theorem turn_3_1_own (A B : Option Addr) (c d n q a : Nat) (t v : List T.Ln) (p : T.Pth) (bit er : Int) (wd : List UInt8) (w : World) (hn : t.length = n) (hm : p.length = q + 1) (hA : Seen eL w A t) (hB : Seen eS w B p) (hl : n ≤ 1073741824) (hnc : n ≤ c) (hd : q + 1 ≤ d) (hp : q + 1 ≤ 1073741824) (hR : T.RightT t) (ha : a < n) (hpa : T.pathL t a = p) (hk : T.keptL t p q = false) (h1 : 1 < (T.at_ t a).mark) :
    Calls Try.prog 32 #[.slice A n c, .int .i64 3, .slice B (q + 1) d, .int .i64 1, .string (sB wd)] w (RefAddS w t 12) := by
  obtain ⟨ab, ao, rfl, hab, hAH⟩ := hA (by omega)
  have HAH := Lib.hid hAH
  obtain ⟨mk, hmk⟩ : ∃ mk, (T.at_ t a).mark = mk := ⟨_, rfl⟩
  rw [hmk] at h1
  have hb : decide (1 < mk) = true := decide_eq_true h1
  have HMK := Lib.hid hmk
  have b0 : (((q : Int) + 1) == 0) = false := beq_eq_false_iff_ne.2 (by omega)
  have ba : decide ((a : Int) < 0) = false := decide_eq_false (by omega)
  have HA := Lib.hid hA
  have HB := Lib.hid hB
  have HN := Lib.hid hn
  have HM := Lib.hid hm
  have HR := Lib.hid hR
  have HPA := Lib.hid hpa
  have HK := Lib.hid hk
  clear hA hB hm hn hR hpa
  clear hk hAH hmk h1
  go_enter Try.func32, Try.ntmps32
  go_wp2_with fail
  refine (rightN_is (some ⟨ab, ao, none⟩) c n t true _ HN.out HA.out hl (yes_iff HR.out)).mono ?_
  rintro e w1 ⟨rfl, hb1⟩
  go_wp2_with fail
  refine (findN_at (some ⟨ab, ao, none⟩) B c d n (q + 1) a t p _ HN.out HM.out (HA.out.below hb1) (HB.out.below hb1) hl hp HR.out (by rw [HN.out]; exact ha) HPA.out).mono ?_
  rintro e w2 ⟨rfl, hb2⟩
  have hbn2 := bthen hb1 hb2
  go_wp2_with fail
  refine (keptN (some ⟨ab, ao, none⟩) B c d n (q + 1) q t p _ false HN.out HM.out (HA.out.below hbn2) (HB.out.below hbn2) hl (by omega) hd hp HR.out HK.out).mono ?_
  rintro e w3 ⟨rfl, hb3⟩
  have hbn := bthen hbn2 hb3
  clear hb1 hb2 hb3 hbn2
  have e3 := ((HAH.out.belowN hbn hab).line (show a < t.length by rw [HN.out]; exact ha)).2.2
  rw [HMK.out] at e3
  have hai : (a : Int) < (n : Int) := by omega
  go_wp2
  go_ret2
  exact ⟨some ⟨ab, ao, none⟩, c, by rw [HN.out]; rfl, HA.out.below hbn, hbn⟩

set_option maxRecDepth 100000 in
set_option maxHeartbeats 4000000 in
theorem turn_3_1_0 (A B : Option Addr) (c d n q a : Nat) (t v : List T.Ln) (p : T.Pth) (bit er : Int) (wd : List UInt8) (w : World) (hn : t.length = n) (hm : p.length = q + 1) (hA : Seen eL w A t) (hB : Seen eS w B p) (hl : n ≤ 1073741824) (hnc : n ≤ c) (hd : q + 1 ≤ d) (hp : q + 1 ≤ 1073741824) (hR : T.RightT t) (ha : a < n) (hpa : T.pathL t a = p) (hk : T.keptL t p q = false) (hmk : (T.at_ t a).mark = 0) :
    Calls Try.prog 32 #[.slice A n c, .int .i64 3, .slice B (q + 1) d, .int .i64 1, .string (sB wd)] w (RefAddS w (S.setM t a 0) 0) := by
  obtain ⟨ab, ao, rfl, hab, hAH⟩ := hA (by omega)
  have HAH := Lib.hid hAH
  have HMK := Lib.hid hmk
  have b0 : (((q : Int) + 1) == 0) = false := beq_eq_false_iff_ne.2 (by omega)
  have ba : decide ((a : Int) < 0) = false := decide_eq_false (by omega)
  have HA := Lib.hid hA
  have HB := Lib.hid hB
  have HN := Lib.hid hn
  have HM := Lib.hid hm
  have HR := Lib.hid hR
  have HPA := Lib.hid hpa
  have HK := Lib.hid hk
  have HSZ := Lib.hid (S.setM_len t a 0)
  clear hA hB hm hn hR hpa
  clear hk hAH hmk
  go_enter Try.func32, Try.ntmps32
  go_wp2_with fail
  refine (rightN_is (some ⟨ab, ao, none⟩) c n t true _ HN.out HA.out hl (yes_iff HR.out)).mono ?_
  rintro e w1 ⟨rfl, hb1⟩
  go_wp2_with fail
  refine (findN_at (some ⟨ab, ao, none⟩) B c d n (q + 1) a t p _ HN.out HM.out (HA.out.below hb1) (HB.out.below hb1) hl hp HR.out (by rw [HN.out]; exact ha) HPA.out).mono ?_
  rintro e w2 ⟨rfl, hb2⟩
  have hbn2 := bthen hb1 hb2
  go_wp2_with fail
  refine (keptN (some ⟨ab, ao, none⟩) B c d n (q + 1) q t p _ false HN.out HM.out (HA.out.below hbn2) (HB.out.below hbn2) hl (by omega) hd hp HR.out HK.out).mono ?_
  rintro e w3 ⟨rfl, hb3⟩
  have hbn := bthen hbn2 hb3
  clear hb1 hb2 hb3 hbn2
  have e3 := ((HAH.out.belowN hbn hab).line (show a < t.length by rw [HN.out]; exact ha)).2.2
  rw [HMK.out] at e3
  have hai : (a : Int) < (n : Int) := by omega
  have hsz := hbn.size
  go_wp2_with (at_builtin; refine wpList_appSrc eL w3 rfl (.tmp 89) (.tmp 90) rfl w.heap.size (.slice none 0 0) [] rfl (Own.nil _ _) ab ao t n c HN.out rfl (HAH.out.belowN hbn hab) (by simp; omega) hsz ?_; intro v4 w4 hown4 hx4; have HX4 := Lib.hid (hbn.trans hx4); have HO4 := Lib.hid (show Own eL w4 w.heap.size v4 t from hown4); have hq := own_block HO4.out n a 0 HN.out ha HMK.out; (obtain ⟨tg, c4, e, hbt, htg, e4, hfz⟩ := hq); subst e; have HBT := Lib.hid hbt; clear hown4 hx4 hbt htg e3)
  go_ret2
  obtain ⟨A5, c5, e5, _, hs5⟩ := HO4.out.seen
  rw [HN.out] at e5
  injection e5 with e6 e7 e8
  subst e6; subst e8
  refine ⟨some ⟨tg, 0, none⟩, c4, by rw [HSZ.out, HN.out]; rfl, ?_, HX4.out⟩
  rw [setM_same t a 0 (by rw [HN.out]; exact ha) HMK.out]
  exact hs5

set_option maxRecDepth 100000 in
set_option maxHeartbeats 4000000 in
theorem turn_3_1_1 (A B : Option Addr) (c d n q a : Nat) (t v : List T.Ln) (p : T.Pth) (bit er : Int) (wd : List UInt8) (w : World) (hn : t.length = n) (hm : p.length = q + 1) (hA : Seen eL w A t) (hB : Seen eS w B p) (hl : n ≤ 1073741824) (hnc : n ≤ c) (hd : q + 1 ≤ d) (hp : q + 1 ≤ 1073741824) (hR : T.RightT t) (ha : a < n) (hpa : T.pathL t a = p) (hk : T.keptL t p q = false) (hmk : (T.at_ t a).mark = 1) :
    Calls Try.prog 32 #[.slice A n c, .int .i64 3, .slice B (q + 1) d, .int .i64 1, .string (sB wd)] w (RefAddS w (S.setM t a 0) 0) := by
  obtain ⟨ab, ao, rfl, hab, hAH⟩ := hA (by omega)
  have HAH := Lib.hid hAH
  have HMK := Lib.hid hmk
  have b0 : (((q : Int) + 1) == 0) = false := beq_eq_false_iff_ne.2 (by omega)
  have ba : decide ((a : Int) < 0) = false := decide_eq_false (by omega)
  have HA := Lib.hid hA
  have HB := Lib.hid hB
  have HN := Lib.hid hn
  have HM := Lib.hid hm
  have HR := Lib.hid hR
  have HPA := Lib.hid hpa
  have HK := Lib.hid hk
  have HSZ := Lib.hid (S.setM_len t a 0)
  clear hA hB hm hn hR hpa
  clear hk hAH hmk
  go_enter Try.func32, Try.ntmps32
  go_wp2_with fail
  refine (rightN_is (some ⟨ab, ao, none⟩) c n t true _ HN.out HA.out hl (yes_iff HR.out)).mono ?_
  rintro e w1 ⟨rfl, hb1⟩
  go_wp2_with fail
  refine (findN_at (some ⟨ab, ao, none⟩) B c d n (q + 1) a t p _ HN.out HM.out (HA.out.below hb1) (HB.out.below hb1) hl hp HR.out (by rw [HN.out]; exact ha) HPA.out).mono ?_
  rintro e w2 ⟨rfl, hb2⟩
  have hbn2 := bthen hb1 hb2
  go_wp2_with fail
  refine (keptN (some ⟨ab, ao, none⟩) B c d n (q + 1) q t p _ false HN.out HM.out (HA.out.below hbn2) (HB.out.below hbn2) hl (by omega) hd hp HR.out HK.out).mono ?_
  rintro e w3 ⟨rfl, hb3⟩
  have hbn := bthen hbn2 hb3
  clear hb1 hb2 hb3 hbn2
  have e3 := ((HAH.out.belowN hbn hab).line (show a < t.length by rw [HN.out]; exact ha)).2.2
  rw [HMK.out] at e3
  have hai : (a : Int) < (n : Int) := by omega
  have hsz := hbn.size
  go_wp2_with (at_builtin; refine wpList_appSrc eL w3 rfl (.tmp 89) (.tmp 90) rfl w.heap.size (.slice none 0 0) [] rfl (Own.nil _ _) ab ao t n c HN.out rfl (HAH.out.belowN hbn hab) (by simp; omega) hsz ?_; intro v4 w4 hown4 hx4; have HX4 := Lib.hid (hbn.trans hx4); have HO4 := Lib.hid (show Own eL w4 w.heap.size v4 t from hown4); have hq := own_block HO4.out n a 1 HN.out ha HMK.out; (obtain ⟨tg, c4, e, hbt, htg, e4, hfz⟩ := hq); subst e; have HBT := Lib.hid hbt; clear hown4 hx4 hbt htg e3)
  go_ret2
  have hsm := HO4.out.mark (show a < t.length by rw [HN.out]; exact ha) 0
  obtain ⟨A5, c5, e5, _, hs5⟩ := hsm.seen
  rw [HSZ.out, HN.out] at e5
  injection e5 with e6 e7 e8
  subst e6; subst e8
  refine ⟨some ⟨tg, 0, none⟩, c4, by rw [HSZ.out, HN.out]; rfl, hs5, HX4.out.setCell HBT.out _⟩

set_option maxRecDepth 100000 in
set_option maxHeartbeats 4000000 in
theorem turn_3_2_above (A B : Option Addr) (c d n q a : Nat) (t v : List T.Ln) (p : T.Pth) (bit er : Int) (wd : List UInt8) (w : World) (hn : t.length = n) (hm : p.length = q + 1) (hA : Seen eL w A t) (hB : Seen eS w B p) (hl : n ≤ 1073741824) (hnc : n ≤ c) (hd : q + 1 ≤ d) (hp : q + 1 ≤ 1073741824) (hR : T.RightT t) (ha : a < n) (hpa : T.pathL t a = p) (hk : T.keptL t p q = true) :
    Calls Try.prog 32 #[.slice A n c, .int .i64 3, .slice B (q + 1) d, .int .i64 2, .string (sB wd)] w (RefAddS w t 12) := by
  have b0 : (((q : Int) + 1) == 0) = false := beq_eq_false_iff_ne.2 (by omega)
  have ba : decide ((a : Int) < 0) = false := decide_eq_false (by omega)
  have HA := Lib.hid hA
  have HB := Lib.hid hB
  have HN := Lib.hid hn
  have HM := Lib.hid hm
  have HR := Lib.hid hR
  have HPA := Lib.hid hpa
  have HK := Lib.hid hk
  clear hA hB hm hn hR hpa
  clear hk
  go_enter Try.func32, Try.ntmps32
  go_wp2_with fail
  refine (rightN_is A c n t true _ HN.out HA.out hl (yes_iff HR.out)).mono ?_
  rintro e w1 ⟨rfl, hb1⟩
  go_wp2_with fail
  refine (findN_at A B c d n (q + 1) a t p _ HN.out HM.out (HA.out.below hb1) (HB.out.below hb1) hl hp HR.out (by rw [HN.out]; exact ha) HPA.out).mono ?_
  rintro e w2 ⟨rfl, hb2⟩
  have hbn2 := bthen hb1 hb2
  go_wp2_with fail
  refine (keptN A B c d n (q + 1) q t p _ true HN.out HM.out (HA.out.below hbn2) (HB.out.below hbn2) hl (by omega) hd hp HR.out HK.out).mono ?_
  rintro e w3 ⟨rfl, hb3⟩
  have hbn := bthen hbn2 hb3
  clear hb1 hb2 hb3 hbn2
  go_wp2
  go_ret2
  exact ⟨A, c, by rw [HN.out]; rfl, HA.out.below hbn, hbn⟩

set_option maxRecDepth 100000 in
set_option maxHeartbeats 4000000 in
theorem turn_3_2_0 (A B : Option Addr) (c d n q a : Nat) (t v : List T.Ln) (p : T.Pth) (bit er : Int) (wd : List UInt8) (w : World) (hn : t.length = n) (hm : p.length = q + 1) (hA : Seen eL w A t) (hB : Seen eS w B p) (hl : n ≤ 1073741824) (hnc : n ≤ c) (hd : q + 1 ≤ d) (hp : q + 1 ≤ 1073741824) (hR : T.RightT t) (ha : a < n) (hpa : T.pathL t a = p) (hk : T.keptL t p q = false) (hmk : (T.at_ t a).mark = 0) :
    Calls Try.prog 32 #[.slice A n c, .int .i64 3, .slice B (q + 1) d, .int .i64 2, .string (sB wd)] w (RefAddS w (S.setM t a 0) 0) := by
  obtain ⟨ab, ao, rfl, hab, hAH⟩ := hA (by omega)
  have HAH := Lib.hid hAH
  have HMK := Lib.hid hmk
  have b0 : (((q : Int) + 1) == 0) = false := beq_eq_false_iff_ne.2 (by omega)
  have ba : decide ((a : Int) < 0) = false := decide_eq_false (by omega)
  have HA := Lib.hid hA
  have HB := Lib.hid hB
  have HN := Lib.hid hn
  have HM := Lib.hid hm
  have HR := Lib.hid hR
  have HPA := Lib.hid hpa
  have HK := Lib.hid hk
  have HSZ := Lib.hid (S.setM_len t a 0)
  clear hA hB hm hn hR hpa
  clear hk hAH hmk
  go_enter Try.func32, Try.ntmps32
  go_wp2_with fail
  refine (rightN_is (some ⟨ab, ao, none⟩) c n t true _ HN.out HA.out hl (yes_iff HR.out)).mono ?_
  rintro e w1 ⟨rfl, hb1⟩
  go_wp2_with fail
  refine (findN_at (some ⟨ab, ao, none⟩) B c d n (q + 1) a t p _ HN.out HM.out (HA.out.below hb1) (HB.out.below hb1) hl hp HR.out (by rw [HN.out]; exact ha) HPA.out).mono ?_
  rintro e w2 ⟨rfl, hb2⟩
  have hbn2 := bthen hb1 hb2
  go_wp2_with fail
  refine (keptN (some ⟨ab, ao, none⟩) B c d n (q + 1) q t p _ false HN.out HM.out (HA.out.below hbn2) (HB.out.below hbn2) hl (by omega) hd hp HR.out HK.out).mono ?_
  rintro e w3 ⟨rfl, hb3⟩
  have hbn := bthen hbn2 hb3
  clear hb1 hb2 hb3 hbn2
  have e3 := ((HAH.out.belowN hbn hab).line (show a < t.length by rw [HN.out]; exact ha)).2.2
  rw [HMK.out] at e3
  have hai : (a : Int) < (n : Int) := by omega
  have hsz := hbn.size
  go_wp2_with (at_builtin; refine wpList_appSrc eL w3 rfl (.tmp 89) (.tmp 90) rfl w.heap.size (.slice none 0 0) [] rfl (Own.nil _ _) ab ao t n c HN.out rfl (HAH.out.belowN hbn hab) (by simp; omega) hsz ?_; intro v4 w4 hown4 hx4; have HX4 := Lib.hid (hbn.trans hx4); have HO4 := Lib.hid (show Own eL w4 w.heap.size v4 t from hown4); have hq := own_block HO4.out n a 0 HN.out ha HMK.out; (obtain ⟨tg, c4, e, hbt, htg, e4, hfz⟩ := hq); subst e; have HBT := Lib.hid hbt; clear hown4 hx4 hbt htg e3)
  go_ret2
  obtain ⟨A5, c5, e5, _, hs5⟩ := HO4.out.seen
  rw [HN.out] at e5
  injection e5 with e6 e7 e8
  subst e6; subst e8
  refine ⟨some ⟨tg, 0, none⟩, c4, by rw [HSZ.out, HN.out]; rfl, ?_, HX4.out⟩
  rw [setM_same t a 0 (by rw [HN.out]; exact ha) HMK.out]
  exact hs5

set_option maxRecDepth 100000 in
set_option maxHeartbeats 4000000 in
theorem turn_3_2_1 (A B : Option Addr) (c d n q a : Nat) (t v : List T.Ln) (p : T.Pth) (bit er : Int) (wd : List UInt8) (w : World) (hn : t.length = n) (hm : p.length = q + 1) (hA : Seen eL w A t) (hB : Seen eS w B p) (hl : n ≤ 1073741824) (hnc : n ≤ c) (hd : q + 1 ≤ d) (hp : q + 1 ≤ 1073741824) (hR : T.RightT t) (ha : a < n) (hpa : T.pathL t a = p) (hk : T.keptL t p q = false) (hmk : (T.at_ t a).mark = 1) :
    Calls Try.prog 32 #[.slice A n c, .int .i64 3, .slice B (q + 1) d, .int .i64 2, .string (sB wd)] w (RefAddS w (S.setM t a 1) 0) := by
  obtain ⟨ab, ao, rfl, hab, hAH⟩ := hA (by omega)
  have HAH := Lib.hid hAH
  have HMK := Lib.hid hmk
  have b0 : (((q : Int) + 1) == 0) = false := beq_eq_false_iff_ne.2 (by omega)
  have ba : decide ((a : Int) < 0) = false := decide_eq_false (by omega)
  have HA := Lib.hid hA
  have HB := Lib.hid hB
  have HN := Lib.hid hn
  have HM := Lib.hid hm
  have HR := Lib.hid hR
  have HPA := Lib.hid hpa
  have HK := Lib.hid hk
  have HSZ := Lib.hid (S.setM_len t a 1)
  clear hA hB hm hn hR hpa
  clear hk hAH hmk
  go_enter Try.func32, Try.ntmps32
  go_wp2_with fail
  refine (rightN_is (some ⟨ab, ao, none⟩) c n t true _ HN.out HA.out hl (yes_iff HR.out)).mono ?_
  rintro e w1 ⟨rfl, hb1⟩
  go_wp2_with fail
  refine (findN_at (some ⟨ab, ao, none⟩) B c d n (q + 1) a t p _ HN.out HM.out (HA.out.below hb1) (HB.out.below hb1) hl hp HR.out (by rw [HN.out]; exact ha) HPA.out).mono ?_
  rintro e w2 ⟨rfl, hb2⟩
  have hbn2 := bthen hb1 hb2
  go_wp2_with fail
  refine (keptN (some ⟨ab, ao, none⟩) B c d n (q + 1) q t p _ false HN.out HM.out (HA.out.below hbn2) (HB.out.below hbn2) hl (by omega) hd hp HR.out HK.out).mono ?_
  rintro e w3 ⟨rfl, hb3⟩
  have hbn := bthen hbn2 hb3
  clear hb1 hb2 hb3 hbn2
  have e3 := ((HAH.out.belowN hbn hab).line (show a < t.length by rw [HN.out]; exact ha)).2.2
  rw [HMK.out] at e3
  have hai : (a : Int) < (n : Int) := by omega
  have hsz := hbn.size
  go_wp2_with (at_builtin; refine wpList_appSrc eL w3 rfl (.tmp 89) (.tmp 90) rfl w.heap.size (.slice none 0 0) [] rfl (Own.nil _ _) ab ao t n c HN.out rfl (HAH.out.belowN hbn hab) (by simp; omega) hsz ?_; intro v4 w4 hown4 hx4; have HX4 := Lib.hid (hbn.trans hx4); have HO4 := Lib.hid (show Own eL w4 w.heap.size v4 t from hown4); have hq := own_block HO4.out n a 1 HN.out ha HMK.out; (obtain ⟨tg, c4, e, hbt, htg, e4, hfz⟩ := hq); subst e; have HBT := Lib.hid hbt; clear hown4 hx4 hbt htg e3)
  go_ret2
  obtain ⟨A5, c5, e5, _, hs5⟩ := HO4.out.seen
  rw [HN.out] at e5
  injection e5 with e6 e7 e8
  subst e6; subst e8
  refine ⟨some ⟨tg, 0, none⟩, c4, by rw [HSZ.out, HN.out]; rfl, ?_, HX4.out⟩
  rw [setM_same t a 1 (by rw [HN.out]; exact ha) HMK.out]
  exact hs5

set_option maxRecDepth 100000 in
set_option maxHeartbeats 4000000 in
theorem turn_3_2_2 (A B : Option Addr) (c d n q a : Nat) (t v : List T.Ln) (p : T.Pth) (bit er : Int) (wd : List UInt8) (w : World) (hn : t.length = n) (hm : p.length = q + 1) (hA : Seen eL w A t) (hB : Seen eS w B p) (hl : n ≤ 1073741824) (hnc : n ≤ c) (hd : q + 1 ≤ d) (hp : q + 1 ≤ 1073741824) (hR : T.RightT t) (ha : a < n) (hpa : T.pathL t a = p) (hk : T.keptL t p q = false) (hmk : (T.at_ t a).mark = 2) :
    Calls Try.prog 32 #[.slice A n c, .int .i64 3, .slice B (q + 1) d, .int .i64 2, .string (sB wd)] w (RefAddS w (S.setM t a 0) 0) := by
  obtain ⟨ab, ao, rfl, hab, hAH⟩ := hA (by omega)
  have HAH := Lib.hid hAH
  have HMK := Lib.hid hmk
  have b0 : (((q : Int) + 1) == 0) = false := beq_eq_false_iff_ne.2 (by omega)
  have ba : decide ((a : Int) < 0) = false := decide_eq_false (by omega)
  have HA := Lib.hid hA
  have HB := Lib.hid hB
  have HN := Lib.hid hn
  have HM := Lib.hid hm
  have HR := Lib.hid hR
  have HPA := Lib.hid hpa
  have HK := Lib.hid hk
  have HSZ := Lib.hid (S.setM_len t a 0)
  clear hA hB hm hn hR hpa
  clear hk hAH hmk
  go_enter Try.func32, Try.ntmps32
  go_wp2_with fail
  refine (rightN_is (some ⟨ab, ao, none⟩) c n t true _ HN.out HA.out hl (yes_iff HR.out)).mono ?_
  rintro e w1 ⟨rfl, hb1⟩
  go_wp2_with fail
  refine (findN_at (some ⟨ab, ao, none⟩) B c d n (q + 1) a t p _ HN.out HM.out (HA.out.below hb1) (HB.out.below hb1) hl hp HR.out (by rw [HN.out]; exact ha) HPA.out).mono ?_
  rintro e w2 ⟨rfl, hb2⟩
  have hbn2 := bthen hb1 hb2
  go_wp2_with fail
  refine (keptN (some ⟨ab, ao, none⟩) B c d n (q + 1) q t p _ false HN.out HM.out (HA.out.below hbn2) (HB.out.below hbn2) hl (by omega) hd hp HR.out HK.out).mono ?_
  rintro e w3 ⟨rfl, hb3⟩
  have hbn := bthen hbn2 hb3
  clear hb1 hb2 hb3 hbn2
  have e3 := ((HAH.out.belowN hbn hab).line (show a < t.length by rw [HN.out]; exact ha)).2.2
  rw [HMK.out] at e3
  have hai : (a : Int) < (n : Int) := by omega
  have hsz := hbn.size
  go_wp2_with (at_builtin; refine wpList_appSrc eL w3 rfl (.tmp 89) (.tmp 90) rfl w.heap.size (.slice none 0 0) [] rfl (Own.nil _ _) ab ao t n c HN.out rfl (HAH.out.belowN hbn hab) (by simp; omega) hsz ?_; intro v4 w4 hown4 hx4; have HX4 := Lib.hid (hbn.trans hx4); have HO4 := Lib.hid (show Own eL w4 w.heap.size v4 t from hown4); have hq := own_block HO4.out n a 2 HN.out ha HMK.out; (obtain ⟨tg, c4, e, hbt, htg, e4, hfz⟩ := hq); subst e; have HBT := Lib.hid hbt; clear hown4 hx4 hbt htg e3)
  go_ret2
  have hsm := HO4.out.mark (show a < t.length by rw [HN.out]; exact ha) 0
  obtain ⟨A5, c5, e5, _, hs5⟩ := hsm.seen
  rw [HSZ.out, HN.out] at e5
  injection e5 with e6 e7 e8
  subst e6; subst e8
  refine ⟨some ⟨tg, 0, none⟩, c4, by rw [HSZ.out, HN.out]; rfl, hs5, HX4.out.setCell HBT.out _⟩

set_option maxRecDepth 100000 in
set_option maxHeartbeats 4000000 in
theorem turn_3_2_3 (A B : Option Addr) (c d n q a : Nat) (t v : List T.Ln) (p : T.Pth) (bit er : Int) (wd : List UInt8) (w : World) (hn : t.length = n) (hm : p.length = q + 1) (hA : Seen eL w A t) (hB : Seen eS w B p) (hl : n ≤ 1073741824) (hnc : n ≤ c) (hd : q + 1 ≤ d) (hp : q + 1 ≤ 1073741824) (hR : T.RightT t) (ha : a < n) (hpa : T.pathL t a = p) (hk : T.keptL t p q = false) (hmk : (T.at_ t a).mark = 3) :
    Calls Try.prog 32 #[.slice A n c, .int .i64 3, .slice B (q + 1) d, .int .i64 2, .string (sB wd)] w (RefAddS w (S.setM t a 1) 0) := by
  obtain ⟨ab, ao, rfl, hab, hAH⟩ := hA (by omega)
  have HAH := Lib.hid hAH
  have HMK := Lib.hid hmk
  have b0 : (((q : Int) + 1) == 0) = false := beq_eq_false_iff_ne.2 (by omega)
  have ba : decide ((a : Int) < 0) = false := decide_eq_false (by omega)
  have HA := Lib.hid hA
  have HB := Lib.hid hB
  have HN := Lib.hid hn
  have HM := Lib.hid hm
  have HR := Lib.hid hR
  have HPA := Lib.hid hpa
  have HK := Lib.hid hk
  have HSZ := Lib.hid (S.setM_len t a 1)
  clear hA hB hm hn hR hpa
  clear hk hAH hmk
  go_enter Try.func32, Try.ntmps32
  go_wp2_with fail
  refine (rightN_is (some ⟨ab, ao, none⟩) c n t true _ HN.out HA.out hl (yes_iff HR.out)).mono ?_
  rintro e w1 ⟨rfl, hb1⟩
  go_wp2_with fail
  refine (findN_at (some ⟨ab, ao, none⟩) B c d n (q + 1) a t p _ HN.out HM.out (HA.out.below hb1) (HB.out.below hb1) hl hp HR.out (by rw [HN.out]; exact ha) HPA.out).mono ?_
  rintro e w2 ⟨rfl, hb2⟩
  have hbn2 := bthen hb1 hb2
  go_wp2_with fail
  refine (keptN (some ⟨ab, ao, none⟩) B c d n (q + 1) q t p _ false HN.out HM.out (HA.out.below hbn2) (HB.out.below hbn2) hl (by omega) hd hp HR.out HK.out).mono ?_
  rintro e w3 ⟨rfl, hb3⟩
  have hbn := bthen hbn2 hb3
  clear hb1 hb2 hb3 hbn2
  have e3 := ((HAH.out.belowN hbn hab).line (show a < t.length by rw [HN.out]; exact ha)).2.2
  rw [HMK.out] at e3
  have hai : (a : Int) < (n : Int) := by omega
  have hsz := hbn.size
  go_wp2_with (at_builtin; refine wpList_appSrc eL w3 rfl (.tmp 89) (.tmp 90) rfl w.heap.size (.slice none 0 0) [] rfl (Own.nil _ _) ab ao t n c HN.out rfl (HAH.out.belowN hbn hab) (by simp; omega) hsz ?_; intro v4 w4 hown4 hx4; have HX4 := Lib.hid (hbn.trans hx4); have HO4 := Lib.hid (show Own eL w4 w.heap.size v4 t from hown4); have hq := own_block HO4.out n a 3 HN.out ha HMK.out; (obtain ⟨tg, c4, e, hbt, htg, e4, hfz⟩ := hq); subst e; have HBT := Lib.hid hbt; clear hown4 hx4 hbt htg e3)
  go_ret2
  have hsm := HO4.out.mark (show a < t.length by rw [HN.out]; exact ha) 1
  obtain ⟨A5, c5, e5, _, hs5⟩ := hsm.seen
  rw [HSZ.out, HN.out] at e5
  injection e5 with e6 e7 e8
  subst e6; subst e8
  refine ⟨some ⟨tg, 0, none⟩, c4, by rw [HSZ.out, HN.out]; rfl, hs5, HX4.out.setCell HBT.out _⟩
end Go.Proofs.Ytfjpeonfkhcpfaa
