/-
  Contracts of the code's gone, added and marked (layer 8). Condition: trees.
-/
import Derived.Test.YtgjnafnmdieniaaDoorDiffJ
import Derived.Deep.QuietTactic
import Derived.BigQuiet
namespace Go.Proofs.YtgjnafnmdieniaaDoor
open Go.RowKit
set_option linter.unusedVariables false

set_option maxRecDepth 100000 in
set_option maxHeartbeats 8000000 in
theorem codeGone (A B : Option Addr) (c d n m : Nat) (a b : List T.Ln) (w : World) (hn : a.length = n) (hm : b.length = m) (hA : Seen eL w A a) (hB : Seen eL w B b) (ha : T.RightT a) (hb : T.RightT b) :
    Calls Tryd.prog 25 #[.slice A n c, .slice B m d] w (fun e w' => ∃ v, e = .returned v ∧ OwnC eD w' w.heap.size v (T.goneL b (T.entries a)) ∧ Below w.heap.size w w') := by
  have hn200 : n ≤ 200 := by rw [← hn]; exact ha.len
  have hm200 : m ≤ 200 := by rw [← hm]; exact hb.len
  have HA := Lib.hid hA
  have HB := Lib.hid hB
  have HN := Lib.hid hn
  have HM := Lib.hid hm
  have HRA := Lib.hid ha
  have HRB := Lib.hid hb
  clear hA hB hn hm ha hb
  go_enter Tryd.func25, Tryd.ntmps25
  go_wp2
  go_loopg [5, 10] n (fun gk vo vi wr => ∃ k : Nat, Hid (k + gk = n) ∧ k ≤ n ∧ Hid (OwnC eD wr w.heap.size vo (T.goneL b ((T.entries a).take k))) ∧ vi = .int .i64 (k : Int) ∧ Below w.heap.size w wr)
  case atStart => exact ⟨0, Nat.zero_add _, Nat.zero_le _, OwnC.nil _ _ _, rfl, Below.refl _ _⟩
  case round =>
    obtain ⟨k, HG, hk, HO, rfl, hbr⟩ := hrel
    by_cases hlt : k < n
    · have blt : decide ((k : Int) < (n : Int)) = true := decide_eq_true (by omega)
      have blt2 : decide (k < n) = true := decide_eq_true hlt
      have hka : k < a.length := by have := HN.out; omega
      obtain ⟨P, hP⟩ : ∃ P, T.pathL a k = P := ⟨_, rfl⟩
      have hdeep := S.RightN.path_deep HRA.out hka
      rw [hP] at hdeep
      obtain ⟨q, hq⟩ : ∃ q, P.length = q + 1 := ⟨P.length - 1, by omega⟩
      have hq15 : q ≤ 15 := by omega
      have HEN := Lib.hid (entries_next a hka)
      have HGN := Lib.hid (T.goneL_next b ((T.entries a).take k) (T.pathL a k, (T.at_ a k).mark))
      obtain ⟨r1, hr1⟩ : ∃ r, T.inB b P = r := ⟨_, rfl⟩
      obtain ⟨r2, hr2⟩ : ∃ r, (decide (P.dropLast = []) || T.inB b P.dropLast) = r := ⟨_, rfl⟩
      have HGB := Lib.hid (show T.goneB b (T.pathL a k) = (!r1 && r2) by rw [hP, ← hr1, ← hr2]; rfl)
      have HP := Lib.hid hP
      have HQ := Lib.hid hq
      have HR1 := Lib.hid hr1
      have HR2 := Lib.hid hr2
      have HGL := Lib.hid (show (T.goneL b ((T.entries a).take k)).length + 1 ≤ 1099511627776 by have := gone_len b ((T.entries a).take k); have := taken_len a k; omega)
      have hsz := hbr.size
      have HBR := Lib.hid hbr
      clear hP hq hdeep hr1 hr2
      go_wp2_with fail
      refine (codePathAt A c n k q a P wr HN.out (HA.out.below hbr) (by omega) hlt HRA.out HP.out HQ.out).mono ?_
      rintro e w1 ⟨pb, po, pc, rfl, hqc, hpn, hpb, hPH, hx1⟩
      have HPH := Lib.hid hPH
      have HX1 := Lib.hid hx1
      have HB1 := Lib.hid (bthen hbr hx1)
      clear hPH hx1 hbr
      go_wp2_with fail
      refine (codeHas B _ d pc m (q + 1) b P r1 w1 HM.out HQ.out (HB.out.below HB1.out) (HPH.out.seen hpb) (by omega) (by omega) HRB.out HR1.out).mono ?_
      rintro e w2 ⟨rfl, hx2⟩
      have HB2 := Lib.hid (bthen HB1.out hx2)
      have HX2 := Lib.hid (bthen HX1.out hx2)
      have HPH2 := Lib.hid (HPH.out.below hx2 hpb)
      have hpb2 : pb < w2.heap.size := Nat.lt_of_lt_of_le hpb hx2.size
      have HO2 := Lib.hid (HO.out.keep HX2.out)
      clear hx2
      have hgk := HG.out
      cases r1 with
      | true =>
        have HN2 := Lib.hid (show T.goneL b ((T.entries a).take (k + 1)) = T.goneL b ((T.entries a).take k) by
          rw [HEN.out, HGN.out, if_neg (by show ¬ T.goneB b (T.pathL a k) = true; rw [HGB.out]; simp), List.append_nil])
        go_wp2
        go_roundg (n - (k + 1))
        case rel => exact ⟨k + 1, (by show _ = _; omega), by omega, Lib.hid (by rw [HN2.out]; exact HO2.out), by go_num, HB2.out⟩
        case measure => omega
      | false =>
        go_wp2_with fail
        refine (codeAbove8 B pb po d pc m q b P r2 w2 HM.out HQ.out (HB.out.below HB2.out) hpb2 HPH2.out hqc (by omega) (by omega) HRB.out HR2.out).mono ?_
        rintro e w3 ⟨rfl, hx3⟩
        have HB3 := Lib.hid (bthen HB2.out hx3)
        have HPH3 := Lib.hid (HPH2.out.below hx3 hpb2)
        have hpb3 : pb < w3.heap.size := Nat.lt_of_lt_of_le hpb2 hx3.size
        have HO3 := Lib.hid (HO2.out.keep hx3)
        clear hx3
        cases r2 with
        | false =>
          have HN2 := Lib.hid (show T.goneL b ((T.entries a).take (k + 1)) = T.goneL b ((T.entries a).take k) by
            rw [HEN.out, HGN.out, if_neg (by show ¬ T.goneB b (T.pathL a k) = true; rw [HGB.out]; simp), List.append_nil])
          go_wp2
          go_roundg (n - (k + 1))
          case rel => exact ⟨k + 1, (by show _ = _; omega), by omega, Lib.hid (by rw [HN2.out]; exact HO3.out), by go_num, HB3.out⟩
          case measure => omega
        | true =>
          have HN2 := Lib.hid (show T.goneL b ((T.entries a).take (k + 1)) = T.goneL b ((T.entries a).take k) ++ [⟨1, P, 0⟩] by
            rw [HEN.out, HGN.out, if_pos (by show T.goneB b (T.pathL a k) = true; rw [HGB.out]; rfl)]
            rw [HP.out])
          have hy : ChS w3 ⟨1, some ⟨pb, po, none⟩, q + 1, pc, 0⟩ ⟨1, P, 0⟩ := ⟨rfl, rfl, HQ.out, hqc, HPH3.out.seen hpb3⟩
          have hfr : Free _ ⟨1, some ⟨pb, po, none⟩, q + 1, pc, 0⟩ ⟨1, P, 0⟩ := Free.new HO.out (k := pb) hpn (fun ad e => by injection e with e; rw [← e]; exact Nat.le_refl _)
          have HY := Lib.hid hy
          have HFR := Lib.hid hfr
          have hsz2 := HB3.out.size
          clear hy hfr
          go_wp2_with (at_builtin; refine wpList_appC eD w3 rfl (.tmp 25) (.tmp 28) rfl w.heap.size u5 (T.goneL b ((T.entries a).take k)) rfl HO3.out ⟨1, P, 0⟩ _ HY.out HFR.out 1 _ rfl w3.heap.size rfl rfl HGL.out hsz2 ?_; intro v3 w4 hown3 hb3)
          go_roundg (n - (k + 1))
          case rel => exact ⟨k + 1, (by show _ = _; omega), by omega, Lib.hid (by rw [HN2.out]; exact hown3), by go_num, HB3.out.trans hb3⟩
          case measure => omega
    · have blt : decide ((k : Int) < (n : Int)) = false := decide_eq_false (by omega)
      have blt2 : decide (k < n) = false := decide_eq_false hlt
      obtain rfl : n = k := by omega
      have HO1 := Lib.hid (show OwnC eD wr w.heap.size _ (T.goneL b (T.entries a)) by have := HO.out; rw [← HN.out, entries_all] at this; exact this)
      go_wp2
      go_ret
      exact ⟨_, rfl, HO1.out, hbr⟩

set_option maxRecDepth 100000 in
set_option maxHeartbeats 8000000 in
theorem codeAdded (A B : Option Addr) (c d n m : Nat) (a b : List T.Ln) (w : World) (hn : a.length = n) (hm : b.length = m) (hA : Seen eL w A a) (hB : Seen eL w B b) (ha : T.RightT a) (hb : T.RightT b) :
    Calls Tryd.prog 26 #[.slice A n c, .slice B m d] w (fun e w' => ∃ v, e = .returned v ∧ OwnC eD w' w.heap.size v (T.addsL a (T.entries b)) ∧ Below w.heap.size w w') := by
  have hn200 : n ≤ 200 := by rw [← hn]; exact ha.len
  have hm200 : m ≤ 200 := by rw [← hm]; exact hb.len
  have HA := Lib.hid hA
  have HB := Lib.hid hB
  have HN := Lib.hid hn
  have HM := Lib.hid hm
  have HRA := Lib.hid ha
  have HRB := Lib.hid hb
  clear hA hB hn hm ha hb
  go_enter Tryd.func26, Tryd.ntmps26
  go_wp2
  go_loopg [5, 11] m (fun gk vo vi wr => ∃ k : Nat, Hid (k + gk = m) ∧ k ≤ m ∧ Hid (OwnC eD wr w.heap.size vo (T.addsL a ((T.entries b).take k))) ∧ vi = .int .i64 (k : Int) ∧ Below w.heap.size w wr)
  case atStart => exact ⟨0, Nat.zero_add _, Nat.zero_le _, OwnC.nil _ _ _, rfl, Below.refl _ _⟩
  case round =>
    obtain ⟨k, HG, hk, HO, rfl, hbr⟩ := hrel
    by_cases hlt : k < m
    · have blt : decide ((k : Int) < (m : Int)) = true := decide_eq_true (by omega)
      have blt2 : decide (k < m) = true := decide_eq_true hlt
      have hkb : k < b.length := by have := HM.out; omega
      obtain ⟨P, hP⟩ : ∃ P, T.pathL b k = P := ⟨_, rfl⟩
      obtain ⟨mk, hmk⟩ : ∃ mk, (T.at_ b k).mark = mk := ⟨_, rfl⟩
      have hdeep := S.RightN.path_deep HRB.out hkb
      rw [hP] at hdeep
      obtain ⟨q, hq⟩ : ∃ q, P.length = q + 1 := ⟨P.length - 1, by omega⟩
      have hq15 : q ≤ 15 := by omega
      have hen := entries_next b hkb
      rw [hP, hmk] at hen
      have HEN := Lib.hid hen
      have HGN := Lib.hid (T.addsL_next a ((T.entries b).take k) (P, mk))
      obtain ⟨r1, hr1⟩ : ∃ r, T.inB a P = r := ⟨_, rfl⟩
      obtain ⟨bb, ob, rfl, hbb, hHb⟩ := HB.out.lines (by omega)
      obtain ⟨l0, l1, l2⟩ := (hHb.below hbr hbb).line hkb
      obtain ⟨dd, hdd⟩ : ∃ z, T.dp b k = z := ⟨_, rfl⟩
      obtain ⟨ww, hww⟩ : ∃ z, T.wd b k = z := ⟨_, rfl⟩
      rw [hdd] at l0
      rw [hww] at l1
      rw [hmk] at l2
      have HP := Lib.hid hP
      have HQ := Lib.hid hq
      have HR1 := Lib.hid hr1
      have HGL := Lib.hid (show (T.addsL a ((T.entries b).take k)).length + 1 ≤ 1099511627776 by have := adds_len a ((T.entries b).take k); have := taken_len b k; omega)
      have hki : (k : Int) < (m : Int) := by omega
      have HBR := Lib.hid (hbr.alloc hbr.size (.cells #[.int .i64 dd, .string (sB ww), .int .i64 mk] 49))
      have HXR := Lib.hid ((Below.refl wr.heap.size wr).alloc (Nat.le_refl _) (.cells #[.int .i64 dd, .string (sB ww), .int .i64 mk] 49))
      clear hP hmk hq hdeep hen hr1 hHb hdd hww
      go_wp2_with fail
      refine (codePathAt _ d m k q b P _ HM.out (HB.out.below HBR.out) (by omega) hlt HRB.out HP.out HQ.out).mono ?_
      rintro e w1 ⟨pb, po, pc, rfl, hqc, hpn, hpb, hPH, hx1⟩
      have HPH := Lib.hid hPH
      have HX1 := Lib.hid (bthen HXR.out hx1)
      have HB1 := Lib.hid (bthen HBR.out hx1)
      have hc1 : w1.cell? ⟨wr.heap.size, 2, none⟩ = some (.int .i64 mk) := (hx1.cell (p := ⟨wr.heap.size, 2, none⟩) (by simp)).trans (World.cell?_alloc_mark wr #[.int .i64 dd, .string (sB ww), .int .i64 mk] 49 (0, 0) 2)
      have hws : wr.heap.size < w1.heap.size := by have := hx1.size; simp at this; omega
      have hpn2 : wr.heap.size ≤ pb := by simp at hpn; omega
      clear hPH hx1 hbr l0 l1 l2 hpn
      go_wp2_with fail
      refine (codeHas A _ c pc n (q + 1) a P r1 w1 HN.out HQ.out (HA.out.below HB1.out) (HPH.out.seen hpb) (by omega) (by omega) HRA.out HR1.out).mono ?_
      rintro e w2 ⟨rfl, hx2⟩
      have HB2 := Lib.hid (bthen HB1.out hx2)
      have HX2 := Lib.hid (bthen HX1.out hx2)
      have HPH2 := Lib.hid (HPH.out.below hx2 hpb)
      have hpb2 : pb < w2.heap.size := Nat.lt_of_lt_of_le hpb hx2.size
      have HO2 := Lib.hid (HO.out.keep HX2.out)
      have hc2 : w2.cell? ⟨wr.heap.size, 2, none⟩ = some (.int .i64 mk) := (hx2.cell (p := ⟨wr.heap.size, 2, none⟩) hws).trans hc1
      clear hx2 hc1 hws
      have hgk := HG.out
      cases r1 with
      | true =>
        have HN2 := Lib.hid (show T.addsL a ((T.entries b).take (k + 1)) = T.addsL a ((T.entries b).take k) by
          rw [HEN.out, HGN.out, if_neg (by show ¬ T.inB a P = false; rw [HR1.out]; simp), List.append_nil])
        go_wp2
        go_roundg (m - (k + 1))
        case rel => exact ⟨k + 1, (by show _ = _; omega), by omega, Lib.hid (by rw [HN2.out]; exact HO2.out), by go_num, HB2.out⟩
        case measure => omega
      | false =>
        have HN2 := Lib.hid (show T.addsL a ((T.entries b).take (k + 1)) = T.addsL a ((T.entries b).take k) ++ [⟨2, P, mk⟩] by
          rw [HEN.out, HGN.out, if_pos (by show T.inB a P = false; exact HR1.out)])
        have hy : ChS w2 ⟨2, some ⟨pb, po, none⟩, q + 1, pc, mk⟩ ⟨2, P, mk⟩ := ⟨rfl, rfl, HQ.out, hqc, HPH2.out.seen hpb2⟩
        have hfr : Free _ ⟨2, some ⟨pb, po, none⟩, q + 1, pc, mk⟩ ⟨2, P, mk⟩ := Free.new HO.out (k := pb) hpn2 (fun ad e => by injection e with e; rw [← e]; exact Nat.le_refl _)
        have HY := Lib.hid hy
        have HFR := Lib.hid hfr
        have hsz2 := HB2.out.size
        clear hy hfr
        go_wp2_with (at_builtin; refine wpList_appC eD w2 rfl (.tmp 23) (.tmp 28) rfl w.heap.size u5 (T.addsL a ((T.entries b).take k)) rfl HO2.out ⟨2, P, mk⟩ _ HY.out HFR.out 1 _ rfl w2.heap.size rfl rfl HGL.out hsz2 ?_; intro v3 w3 hown3 hb3)
        go_roundg (m - (k + 1))
        case rel => exact ⟨k + 1, (by show _ = _; omega), by omega, Lib.hid (by rw [HN2.out]; exact hown3), by go_num, HB2.out.trans hb3⟩
        case measure => omega
    · have blt : decide ((k : Int) < (m : Int)) = false := decide_eq_false (by omega)
      have blt2 : decide (k < m) = false := decide_eq_false hlt
      obtain rfl : m = k := by omega
      have HO1 := Lib.hid (show OwnC eD wr w.heap.size _ (T.addsL a (T.entries b)) by have := HO.out; rw [← HM.out, entries_all] at this; exact this)
      go_wp2
      go_ret
      exact ⟨_, rfl, HO1.out, hbr⟩
set_option maxRecDepth 100000 in
set_option maxHeartbeats 8000000 in
theorem codeMarked (A B : Option Addr) (c d n m : Nat) (a b : List T.Ln) (w : World) (hn : a.length = n) (hm : b.length = m) (hA : Seen eL w A a) (hB : Seen eL w B b) (ha : T.RightT a) (hb : T.RightT b) :
    Calls Tryd.prog 27 #[.slice A n c, .slice B m d] w (fun e w' => ∃ v, e = .returned v ∧ OwnC eD w' w.heap.size v (T.marksL a (T.entries b)) ∧ Below w.heap.size w w') := by
  have hn200 : n ≤ 200 := by rw [← hn]; exact ha.len
  have hm200 : m ≤ 200 := by rw [← hm]; exact hb.len
  have HA := Lib.hid hA
  have HB := Lib.hid hB
  have HN := Lib.hid hn
  have HM := Lib.hid hm
  have HRA := Lib.hid ha
  have HRB := Lib.hid hb
  clear hA hB hn hm ha hb
  go_enter Tryd.func27, Tryd.ntmps27
  go_wp2
  go_loopg [5, 13] m (fun gk vo vi wr => ∃ k : Nat, Hid (k + gk = m) ∧ k ≤ m ∧ Hid (OwnC eD wr w.heap.size vo (T.marksL a ((T.entries b).take k))) ∧ vi = .int .i64 (k : Int) ∧ Below w.heap.size w wr)
  case atStart => exact ⟨0, Nat.zero_add _, Nat.zero_le _, OwnC.nil _ _ _, rfl, Below.refl _ _⟩
  case round =>
    obtain ⟨k, HG, hk, HO, rfl, hbr⟩ := hrel
    by_cases hlt : k < m
    · have blt : decide ((k : Int) < (m : Int)) = true := decide_eq_true (by omega)
      have blt2 : decide (k < m) = true := decide_eq_true hlt
      have hkb : k < b.length := by have := HM.out; omega
      obtain ⟨P, hP⟩ : ∃ P, T.pathL b k = P := ⟨_, rfl⟩
      obtain ⟨mk, hmk⟩ : ∃ mk, (T.at_ b k).mark = mk := ⟨_, rfl⟩
      have hdeep := S.RightN.path_deep HRB.out hkb
      rw [hP] at hdeep
      obtain ⟨q, hq⟩ : ∃ q, P.length = q + 1 := ⟨P.length - 1, by omega⟩
      have hq15 : q ≤ 15 := by omega
      have hen := entries_next b hkb
      rw [hP, hmk] at hen
      have HEN := Lib.hid hen
      have HGN := Lib.hid (T.marksL_next a ((T.entries b).take k) (P, mk))
      obtain ⟨bb, ob, rfl, hbb, hHb⟩ := HB.out.lines (by omega)
      obtain ⟨l0, l1, l2⟩ := (hHb.below hbr hbb).line hkb
      obtain ⟨dd, hdd⟩ : ∃ z, T.dp b k = z := ⟨_, rfl⟩
      obtain ⟨ww, hww⟩ : ∃ z, T.wd b k = z := ⟨_, rfl⟩
      rw [hdd] at l0
      rw [hww] at l1
      rw [hmk] at l2
      have HP := Lib.hid hP
      have HQ := Lib.hid hq
      have HGL := Lib.hid (show (T.marksL a ((T.entries b).take k)).length + 1 ≤ 1099511627776 by have := marks_len a ((T.entries b).take k); have := taken_len b k; omega)
      have hki : (k : Int) < (m : Int) := by omega
      have HBR := Lib.hid (hbr.alloc hbr.size (.cells #[.int .i64 dd, .string (sB ww), .int .i64 mk] 49))
      have HXR := Lib.hid ((Below.refl wr.heap.size wr).alloc (Nat.le_refl _) (.cells #[.int .i64 dd, .string (sB ww), .int .i64 mk] 49))
      have hgk := HG.out
      clear hP hmk hq hdeep hen hHb hdd hww
      go_wp2_with fail
      refine (codePathAt _ d m k q b P _ HM.out (HB.out.below HBR.out) (by omega) hlt HRB.out HP.out HQ.out).mono ?_
      rintro e w1 ⟨pb, po, pc, rfl, hqc, hpn, hpb, hPH, hx1⟩
      have HPH := Lib.hid hPH
      have HX1 := Lib.hid (bthen HXR.out hx1)
      have HB1 := Lib.hid (bthen HBR.out hx1)
      have hc1 : w1.cell? ⟨wr.heap.size, 2, none⟩ = some (.int .i64 mk) := (hx1.cell (p := ⟨wr.heap.size, 2, none⟩) (by simp)).trans (World.cell?_alloc_mark wr #[.int .i64 dd, .string (sB ww), .int .i64 mk] 49 (0, 0) 2)
      have hws : wr.heap.size < w1.heap.size := by have := hx1.size; simp at this; omega
      have hpn2 : wr.heap.size ≤ pb := by simp at hpn; omega
      have hfind := find_any A (some ⟨pb, po, none⟩) c pc a P w1 (HA.out.below HB1.out) (HPH.out.seen hpb) (by rw [HN.out]; omega) (by rw [HQ.out]; omega) HRA.out
      rw [HN.out, HQ.out] at hfind
      clear hPH hx1 hbr l0 l1 l2 hpn
      go_wp2_with fail
      refine hfind.mono ?_
      rintro e w2 ⟨hfc, hx2⟩
      have HB2 := Lib.hid (bthen HB1.out hx2)
      have HX2 := Lib.hid (bthen HX1.out hx2)
      have HPH2 := Lib.hid (HPH.out.below hx2 hpb)
      have hpb2 : pb < w2.heap.size := Nat.lt_of_lt_of_le hpb hx2.size
      have HO2 := Lib.hid (HO.out.keep HX2.out)
      have hc2 : w2.cell? ⟨wr.heap.size, 2, none⟩ = some (.int .i64 mk) := (hx2.cell (p := ⟨wr.heap.size, 2, none⟩) hws).trans hc1
      have hws2 : wr.heap.size < w2.heap.size := Nat.lt_of_lt_of_le hws hx2.size
      clear hx2 hc1 hws hfind
      rcases hfc with ⟨i, hi, hpi, rfl⟩ | ⟨hno, rfl⟩
      · obtain ⟨mi, hmi⟩ : ∃ mi, (T.at_ a i).mark = mi := ⟨_, rfl⟩
        have hf := T.findI_some HRA.out hi hpi
        have HMB := Lib.hid (show T.markB a (P, mk) = (mi != mk) by
          unfold T.markB T.markOf
          rw [hf, T.inB_yes.2 ⟨i, hi, hpi⟩, Int.toNat_natCast, hmi]; rfl)
        obtain ⟨ba, oa, rfl, hba, hHa⟩ := HA.out.lines (by omega)
        have hin : (i : Int) < (n : Int) := by have := HN.out; omega
        obtain ⟨_, _, la⟩ := (hHa.below HB2.out hba).line hi
        rw [hmi] at la
        clear hf hpi hmi hHa
        cases hne : (mi != mk) with
        | false =>
          have HN2 := Lib.hid (show T.marksL a ((T.entries b).take (k + 1)) = T.marksL a ((T.entries b).take k) by
            rw [HEN.out, HGN.out, if_neg (by show ¬ T.markB a (P, mk) = true; rw [HMB.out, hne]; simp), List.append_nil])
          go_wp2
          go_quiet (fail)
          all_goals go_wp2
          all_goals
            go_roundg (m - (k + 1))
            case rel => exact ⟨k + 1, (by show _ = _; omega), by omega, Lib.hid (by rw [HN2.out]; exact HO2.out.keep (below_draws (Below.refl _ _) _)), by go_num, below_draws HB2.out _⟩
            case measure => omega
        | true =>
          have HN2 := Lib.hid (show T.marksL a ((T.entries b).take (k + 1)) = T.marksL a ((T.entries b).take k) ++ [⟨3, P, mk⟩] by
            rw [HEN.out, HGN.out, if_pos (by show T.markB a (P, mk) = true; rw [HMB.out]; exact hne)])
          go_wp2
          go_quiet (fail)
          have hB2d : Below w.heap.size w (w2.drewN nq) := below_draws HB2.out nq
          have hO2d : OwnC eD (w2.drewN nq) w.heap.size u5 (T.marksL a ((T.entries b).take k)) := HO2.out.keep (below_draws (Below.refl _ _) nq)
          have hPd : Holds eS (w2.drewN nq) pb po P := HPH2.out.below (below_draws (Below.refl _ _) nq) hpb2
          have lbn : (w2.drewN nq).cell? ⟨wr.heap.size, 2, none⟩ = some (.int .i64 mk) := by rw [← hc2]; exact (below_draws (Below.refl w2.heap.size w2) nq).cell (p := ⟨wr.heap.size, 2, none⟩) hws2
          have hsn : pb < (w2.drewN nq).heap.size := Nat.lt_of_lt_of_le hpb2 (below_draws (Below.refl w2.heap.size w2) nq).size
          obtain ⟨w2d, hw2d⟩ : ∃ W, w2.drewN nq = W := ⟨_, rfl⟩
          have lbd : w2d.cell? ⟨wr.heap.size, 2, none⟩ = some (.int .i64 mk) := by rw [← hw2d]; exact lbn
          have hsd : pb < w2d.heap.size := by rw [← hw2d]; exact hsn
          rw [hw2d] at hB2d hO2d hPd ⊢
          have hy : ChS w2d ⟨3, some ⟨pb, po, none⟩, q + 1, pc, mk⟩ ⟨3, P, mk⟩ := ⟨rfl, rfl, HQ.out, hqc, hPd.seen hsd⟩
          have hfr : Free u5 ⟨3, some ⟨pb, po, none⟩, q + 1, pc, mk⟩ ⟨3, P, mk⟩ := Free.new HO.out (k := pb) hpn2 (fun ad e => by injection e with e; rw [← e]; exact Nat.le_refl _)
          have HY := Lib.hid hy
          have HFR := Lib.hid hfr
          have HOD := Lib.hid hO2d
          have HBD := Lib.hid hB2d
          have hsz2 := hB2d.size
          clear hy hfr la hc2 lbn hsn hO2d hPd hB2d hw2d
          go_wp2_with (at_builtin; refine wpList_appC eD w2d rfl (.tmp 38) (.tmp 43) rfl w.heap.size u5 (T.marksL a ((T.entries b).take k)) rfl HOD.out ⟨3, P, mk⟩ _ HY.out HFR.out 1 _ rfl w2d.heap.size rfl rfl HGL.out hsz2 ?_; intro v3 w3 hown3 hb3)
          go_roundg (m - (k + 1))
          case rel => exact ⟨k + 1, (by show _ = _; omega), by omega, Lib.hid (by rw [HN2.out]; exact hown3), by go_num, HBD.out.trans hb3⟩
          case measure => omega
      · have HN2 := Lib.hid (show T.marksL a ((T.entries b).take (k + 1)) = T.marksL a ((T.entries b).take k) by
          rw [HEN.out, HGN.out, if_neg (by
            show ¬ T.markB a (P, mk) = true
            unfold T.markB
            rw [T.inB_no.2 fun ⟨i, hi, e⟩ => hno i hi e]; simp), List.append_nil])
        clear hno
        go_wp2
        go_quiet (fail)
        all_goals go_wp2
        all_goals
          go_roundg (m - (k + 1))
          case rel => exact ⟨k + 1, (by show _ = _; omega), by omega, Lib.hid (by rw [HN2.out]; exact HO2.out.keep (below_draws (Below.refl _ _) _)), by go_num, below_draws HB2.out _⟩
          case measure => omega
    · have blt : decide ((k : Int) < (m : Int)) = false := decide_eq_false (by omega)
      have blt2 : decide (k < m) = false := decide_eq_false hlt
      obtain rfl : m = k := by omega
      have HO1 := Lib.hid (show OwnC eD wr w.heap.size _ (T.marksL a (T.entries b)) by have := HO.out; rw [← HM.out, entries_all] at this; exact this)
      go_wp2
      go_ret
      exact ⟨_, rfl, HO1.out, hbr⟩
end Go.Proofs.YtgjnafnmdieniaaDoor
