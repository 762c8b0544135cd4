/-
  The document's side of layer 16: In, Less, Apply, Only, Hosts. Conditions: at most 10,000 entries.
  Layer 16: what patch does, as one premise (PatchOk); few; a patch that comes in. Conditions: at most 1000 entries of words of at most 100 bytes.
  A patch that comes in (layer 16's statements): a struct of two slices of entries. No conditions.
  The document's side of layer 16: are two lists equal, whatever they are. No conditions but on lengths.
  The fixed answer of layer 16's statements, from what patch does. No conditions.
  Plain laws for layer 14's code: its lists of entries, from all hosts as they are read first, are those of the tables. Condition: a tree without faults.
  slices.SortFunc at entries, by any function that compares them as the document does: the entries in order. Condition: at most 2^30 entries.
  What the library proves once of strings.Compare, at this program's numbers. No conditions.
-/
import Derived.Test.YtpkhnchbamjgjaaBase2
import Derived.Deep.QuietTactic
import Derived.Laws.Rows
import Derived.Deep.RegionHeld3
import Derived.Shelf.SlSortCmp.NoneTotal
import Derived.Shelf.Small.Strs

namespace Go.Proofs.Ytpkhnchbamjgjaa
open Go.RowKit
open F
set_option linter.unusedVariables false
set_option linter.unusedSimpArgs false

set_option maxRecDepth 100000 in
set_option maxHeartbeats 16000000 in
theorem inR16 (A : Option Addr) (c n : Nat) (l : List H.En) (x : H.En) (r : Bool) (w : World) (hn : l.length = n) (hl : n ≤ 33554432) (hA : Seen eEd w A l) (hr : decide (x ∈ l) = r) :
    Calls Try.prog 24 #[.slice A n c, enV x] w (fun e w' => e = .returned (.bool r) ∧ Below w.heap.size w w') := by
  have HN := Lib.hid hn
  have HR := Lib.hid hr
  obtain ⟨w1, hw1⟩ : ∃ w1, w.alloc (.cells #[.string (sB x.host), .int .i64 x.kind, .string (sB x.key), .string (sB x.val)] 46) = w1 := ⟨_, rfl⟩
  have hb1 : Below w.heap.size w w1 := by rw [← hw1]; exact up _ _
  obtain ⟨g, hg⟩ : ∃ g, w.heap.size = g := ⟨_, rfl⟩
  have p0 : w1.cell? ⟨g, 0, none⟩ = some (.string (sB x.host)) := by rw [← hw1, ← hg]; exact World.cell?_alloc_mark w _ _ (0, 0) 0
  have p1 : w1.cell? ⟨g, 1, none⟩ = some (.int .i64 x.kind) := by rw [← hw1, ← hg]; exact World.cell?_alloc_mark w _ _ (0, 0) 1
  have p2 : w1.cell? ⟨g, 2, none⟩ = some (.string (sB x.key)) := by rw [← hw1, ← hg]; exact World.cell?_alloc_mark w _ _ (0, 0) 2
  have p3 : w1.cell? ⟨g, 3, none⟩ = some (.string (sB x.val)) := by rw [← hw1, ← hg]; exact World.cell?_alloc_mark w _ _ (0, 0) 3
  have hgw : g < w1.heap.size := by rw [← hw1, ← hg]; simp
  have HA := Lib.hid (hA.below hb1)
  have HW1 := Lib.hid hw1
  have HG0 := Lib.hid hg
  have HB1 := Lib.hid hb1
  clear hA hn hr hw1 hb1 hg
  unfold enV
  go_enter Try.func24, Try.ntmps24
  go_wp2
  rw [HW1.out, HG0.out]
  go_loopg [5] n (fun gk vi wr => ∃ k : Nat, Hid (k + gk = n) ∧ vi = .int .i64 (k : Int) ∧ Hid (x ∉ l.take k) ∧ Hid (Below w1.heap.size w1 wr))
  case atStart => exact ⟨0, Nat.zero_add _, rfl, (by show x ∉ _; simp), Below.refl _ _⟩
  case round =>
    obtain ⟨k, HG, rfl, HNI, HB⟩ := hrel
    have hgk := HG.out
    by_cases hlt : k < n
    · have blt : decide ((k : Int) < (n : Int)) = true := decide_eq_true (by omega)
      have blt2 : decide (k < n) = true := decide_eq_true hlt
      have hki : (k : Int) < (n : Int) := by omega
      have hkl : k < l.length := by rw [HN.out]; exact hlt
      obtain ⟨b, o, rfl, hwb, hL⟩ := HA.out (by omega)
      obtain ⟨d0, d1, d2, d3⟩ := hL.entry rfl rfl hkl
      have HX := Lib.hid (List.take_succ_eq_append_getElem hkl)
      have HMI := Lib.hid (List.getElem_mem hkl)
      generalize l[k] = y at d0 d1 d2 d3 HX HMI
      obtain ⟨_, q0, q1, q2, q3, e0, e1, e2, e3⟩ := TwoE.more (w1 := w1) ⟨Below.refl _ _, p0, p1, p2, p3, d0, d1, d2, d3⟩ hgw hwb HB.out
      clear d0 d1 d2 d3 hL
      by_cases he : y = x
      · subst he
        have HRT := Lib.hid (show r = true by rw [← HR.out]; exact decide_eq_true HMI.out)
        go_wp2
        go_region
        go_wp2
        go_ret
        exact ⟨by rw [HRT.out]; rfl, bthen HB1.out HB.out.drew⟩
      · have HNX := Lib.hid (show x ∉ l.take (k + 1) by
          rw [HX.out]
          intro q
          rcases List.mem_append.1 q with q | q
          · exact HNI.out q
          · exact he (List.mem_singleton.1 q).symm)
        rcases H.ne_cases he with j | ⟨j0, j | ⟨j1, j | ⟨j2, j⟩⟩⟩
        · have n3 := sB_ne j
          clear he j
          go_wp2
          go_region
          go_wp2
          go_roundg (n - (k + 1))
          case rel => exact ⟨k + 1, (by show _ = _; omega), by go_num, HNX.out, HB.out.drew⟩
          case measure => omega
        · have n0 := sB_eq j0
          have n1 : (y.kind == x.kind) = false := beq_eq_false_iff_ne.2 j
          clear he
          go_wp2
          go_region
          go_wp2
          go_roundg (n - (k + 1))
          case rel => exact ⟨k + 1, (by show _ = _; omega), by go_num, HNX.out, HB.out.drew⟩
          case measure => omega
        · have n0 := sB_eq j0
          have n1 : (y.kind == x.kind) = true := beq_iff_eq.2 j1
          have n3 := sB_ne j
          clear he j
          go_wp2
          go_region
          go_wp2
          go_roundg (n - (k + 1))
          case rel => exact ⟨k + 1, (by show _ = _; omega), by go_num, HNX.out, HB.out.drew⟩
          case measure => omega
        · have n0 := sB_eq j0
          have n1 : (y.kind == x.kind) = true := beq_iff_eq.2 j1
          have n2 := sB_eq j2
          have n3 := sB_ne j
          clear he j
          go_wp2
          go_region
          go_wp2
          go_roundg (n - (k + 1))
          case rel => exact ⟨k + 1, (by show _ = _; omega), by go_num, HNX.out, HB.out.drew⟩
          case measure => omega
    · have blt : decide ((k : Int) < (n : Int)) = false := decide_eq_false (by omega)
      have blt2 : decide (k < n) = false := decide_eq_false hlt
      have HRF := Lib.hid (show r = false by
        rw [← HR.out]
        have := HNI.out
        rw [List.take_of_length_le (show l.length ≤ k by rw [HN.out]; omega)] at this
        exact decide_eq_false this)
      go_wp2
      go_ret
      exact ⟨by rw [HRF.out]; rfl, bthen HB1.out HB.out⟩
set_option maxRecDepth 100000 in
set_option maxHeartbeats 8000000 in
theorem lessR16 (A B0 : Option Addr) (c n c0 n0 m : Nat) (l z : List H.En) (w : World) (hn : l.length = n) (hn0 : z.length = n0) (hl : n ≤ 33554431) (hl0 : n0 ≤ 33554431) (hA : Seen eEd w A l) (hB : Seen eEd w B0 z) (hm : (Pt.lessE l z).length = m) :
    Calls Try.prog 16 #[.slice A n c, .slice B0 n0 c0] w (fun e w' => ∃ B d, e = .returned (.slice B m d) ∧ m ≤ d ∧ Seen eEd w' B (Pt.lessE l z) ∧ Below w.heap.size w w') := by
  have HN := Lib.hid hn
  have HN0 := Lib.hid hn0
  have HM := Lib.hid hm
  have HA := Lib.hid hA
  have HZ := Lib.hid hB
  clear hA hB hn hn0 hm
  go_enter Try.func16, Try.ntmps16
  go_wp2
  go_loopg [5, 6] n (fun gk vo vi wr => ∃ (k q d : Nat) (B : Option Addr) (s : List H.En), Hid (k + gk = n) ∧ k ≤ n ∧ vi = .int .i64 (k : Int) ∧ vo = .slice B q d ∧ Hid (((l.take k).filter fun x => decide (x ∉ z)).foldl H.putE [] = s) ∧ Hid (s.length = q) ∧ q ≤ k ∧ q ≤ d ∧ Hid (Seen eEd wr B s) ∧ Below w.heap.size w wr)
  case atStart => exact ⟨0, 0, 0, none, [], Nat.zero_add _, Nat.zero_le _, rfl, rfl, rfl, rfl, Nat.le_refl _, Nat.le_refl _, Seen.nil, Below.refl _ _⟩
  case round =>
    obtain ⟨k, q, d, B, s, HG, hk, rfl, rfl, HF, HQ, hqk, hqd, HS, hb⟩ := hrel
    have hgk := HG.out
    by_cases hlt : k < n
    · have blt : decide ((k : Int) < (n : Int)) = true := decide_eq_true (by omega)
      have blt2 : decide (k < n) = true := decide_eq_true hlt
      have hki : (k : Int) < (n : Int) := by omega
      have hkl : k < l.length := by have := HN.out; omega
      obtain ⟨b, o, rfl, hwb, hL⟩ := HA.out (by omega)
      have HLL := Lib.hid hL
      obtain ⟨d0, d1, d2, d3⟩ := (hL.below hb hwb).entry rfl rfl hkl
      have HX := Lib.hid (List.take_succ_eq_append_getElem hkl)
      have HEN := Lib.hid (fun w' (h : Below w.heap.size w w') => (hL.below h hwb).entry rfl rfl hkl)
      generalize l[k] = y at d0 d1 d2 d3 HX HEN
      clear hL
      cases hin : decide (y ∈ z) with
      | true =>
        have HIN := Lib.hid hin
        have HF2 := Lib.hid (show ((l.take (k + 1)).filter fun x => decide (x ∉ z)).foldl H.putE [] = s by
          rw [HX.out, List.filter_append, List.filter_cons_of_neg (by simpa using of_decide_eq_true hin), List.filter_nil, List.append_nil]; exact HF.out)
        clear hin
        go_wp2_with fail
        refine (inR16 B0 c0 n0 z y true _ HN0.out (by omega) (HZ.out.below hb) HIN.out).mono ?_
        rintro e w2 ⟨rfl, hx⟩
        have hbn := bthen hb hx
        have HS2 := Lib.hid (HS.out.below hx)
        clear hx
        go_wp2
        go_roundg (n - (k + 1))
        case rel => exact ⟨k + 1, q, d, B, s, (by show _ = _; omega), by omega, by go_num, rfl, HF2, HQ, by omega, hqd, HS2, hbn⟩
        case measure => omega
      | false =>
        have HIN := Lib.hid hin
        obtain ⟨q2, hq2⟩ : ∃ q2, (H.putE s y).length = q2 := ⟨_, rfl⟩
        have hq2k : q2 ≤ k + 1 := by have := H.put_len s y; have := HQ.out; omega
        have HQ2 := Lib.hid hq2
        have HF2 := Lib.hid (show ((l.take (k + 1)).filter fun x => decide (x ∉ z)).foldl H.putE [] = H.putE s y by
          rw [HX.out, List.filter_append, List.filter_cons_of_pos (by simpa using of_decide_eq_false hin), List.filter_nil, List.foldl_append, HF.out]; rfl)
        clear hin hq2
        go_wp2_with fail
        refine (inR16 B0 c0 n0 z y false _ HN0.out (by omega) (HZ.out.below hb) HIN.out).mono ?_
        rintro e w2 ⟨rfl, hx⟩
        have hb2 := bthen hb hx
        replace HS := Lib.hid (HS.out.below hx)
        obtain ⟨e0, e1, e2, e3⟩ := HEN.out _ hb2
        clear hx d0 d1 d2 d3
        go_wp2_with fail
        refine (putR B d q q2 s y _ HQ.out (by omega) hqd HS.out HQ2.out).mono ?_
        rintro e w3 ⟨B2, d2', rfl, hd2, hs2, hx⟩
        have hbn := bthen hb2 hx
        have HS2 := Lib.hid hs2
        clear hx hs2
        go_wp2
        go_roundg (n - (k + 1))
        case rel => exact ⟨k + 1, q2, d2', B2, H.putE s y, (by show _ = _; omega), by omega, by go_num, rfl, HF2, HQ2, hq2k, hd2, HS2, hbn⟩
        case measure => omega
    · have blt : decide ((k : Int) < (n : Int)) = false := decide_eq_false (by omega)
      have blt2 : decide (k < n) = false := decide_eq_false hlt
      have HE := Lib.hid (show s = Pt.lessE l z by
        have := HF.out
        rw [List.take_of_length_le (by have := HN.out; omega)] at this
        exact this.symm)
      have hqm : q = m := by rw [← HQ.out, HE.out, HM.out]
      subst hqm
      go_wp2
      go_ret
      exact ⟨B, d, rfl, hqd, (by rw [← HE.out]; exact HS.out), hb⟩
set_option maxRecDepth 100000 in
set_option maxHeartbeats 8000000 in
theorem applyR16 (A B0 C0 : Option Addr) (c n c0 n0 c1 n1 m : Nat) (l z p : List H.En) (w : World) (hn : l.length = n) (hn0 : z.length = n0) (hn1 : p.length = n1) (hl : n ≤ 10000000) (hl0 : n0 ≤ 10000000) (hl1 : n1 ≤ 10000000) (hA : Seen eEd w A l) (hB : Seen eEd w B0 z) (hC : Seen eEd w C0 p) (hm : (Pt.applyE l z p).length = m) :
    Calls Try.prog 19 #[.slice A n c, .slice B0 n0 c0, .slice C0 n1 c1] w (fun e w' => ∃ B d, e = .returned (.slice B m d) ∧ m ≤ d ∧ Seen eEd w' B (Pt.applyE l z p) ∧ Below w.heap.size w w') := by
  have HN := Lib.hid hn
  have HN0 := Lib.hid hn0
  have HN1 := Lib.hid hn1
  have HM := Lib.hid hm
  have HA := Lib.hid hA
  have HZ := Lib.hid hB
  have HP := Lib.hid hC
  obtain ⟨lm, hlm⟩ : ∃ z1, (Pt.lessE l z).length = z1 := ⟨_, rfl⟩
  have HLM := Lib.hid hlm
  have hlmn : lm ≤ n := by rw [← hlm, ← hn]; exact Pt.less_len l z
  clear hA hB hC hn hn0 hn1 hm hlm
  go_enter Try.func19, Try.ntmps19
  go_wp2_with fail
  refine (lessR16 A B0 c n c0 n0 lm l z _ HN.out HN0.out (by omega) (by omega) HA.out HZ.out HLM.out).mono ?_
  rintro e w1 ⟨B1, d1, rfl, hd1, hs1, hx1⟩
  have HS1 := Lib.hid hs1
  have hb1 := hx1
  have HP1 := Lib.hid (HP.out.below hx1)
  clear hs1 hx1
  go_wp2
  go_loopg [7, 8] n1 (fun gk vo vi wr => ∃ (k q d : Nat) (B : Option Addr) (s : List H.En), Hid (k + gk = n1) ∧ k ≤ n1 ∧ vi = .int .i64 (k : Int) ∧ vo = .slice B q d ∧ Hid ((p.take k).foldl H.putE (Pt.lessE l z) = s) ∧ Hid (s.length = q) ∧ q ≤ lm + k ∧ q ≤ d ∧ Hid (Seen eEd wr B s) ∧ Below w1.heap.size w1 wr)
  case atStart => exact ⟨0, lm, d1, B1, Pt.lessE l z, Nat.zero_add _, Nat.zero_le _, rfl, rfl, rfl, HLM, Nat.le_refl _, hd1, HS1, Below.refl _ _⟩
  case round =>
    obtain ⟨k, q, d, B, s, HG, hk, rfl, rfl, HF, HQ, hqk, hqd, HS, hb⟩ := hrel
    have hgk := HG.out
    by_cases hlt : k < n1
    · have blt : decide ((k : Int) < (n1 : Int)) = true := decide_eq_true (by omega)
      have blt2 : decide (k < n1) = true := decide_eq_true hlt
      have hki : (k : Int) < (n1 : Int) := by omega
      have hkl : k < p.length := by have := HN1.out; omega
      obtain ⟨b, o, rfl, hwb, hL⟩ := HP1.out (by omega)
      obtain ⟨d0, d1, d2, d3⟩ := (hL.below hb hwb).entry rfl rfl hkl
      have HX := Lib.hid (List.take_succ_eq_append_getElem hkl)
      generalize p[k] = y at d0 d1 d2 d3 HX
      obtain ⟨q2, hq2⟩ : ∃ q2, (H.putE s y).length = q2 := ⟨_, rfl⟩
      have hq2k : q2 ≤ lm + (k + 1) := by have := H.put_len s y; have := HQ.out; omega
      have HQ2 := Lib.hid hq2
      have HF2 := Lib.hid (show (p.take (k + 1)).foldl H.putE (Pt.lessE l z) = H.putE s y by rw [HX.out, List.foldl_append, HF.out]; rfl)
      clear hL hq2
      go_wp2_with fail
      refine (putR B d q q2 s y _ HQ.out (by omega) hqd HS.out HQ2.out).mono ?_
      rintro e w2 ⟨B2, d2', rfl, hd2, hs2, hx⟩
      have hbn := bthen hb hx
      have HS2 := Lib.hid hs2
      clear hx hs2
      go_wp2
      go_roundg (n1 - (k + 1))
      case rel => exact ⟨k + 1, q2, d2', B2, H.putE s y, (by show _ = _; omega), by omega, by go_num, rfl, HF2, HQ2, hq2k, hd2, HS2, hbn⟩
      case measure => omega
    · have blt : decide ((k : Int) < (n1 : Int)) = false := decide_eq_false (by omega)
      have blt2 : decide (k < n1) = false := decide_eq_false hlt
      have HE := Lib.hid (show s = Pt.applyE l z p by
        have := HF.out
        rw [List.take_of_length_le (by have := HN1.out; omega)] at this
        exact this.symm)
      have hqm : q = m := by rw [← HQ.out, HE.out, HM.out]
      subst hqm
      go_wp2
      go_ret
      exact ⟨B, d, rfl, hqd, (by rw [← HE.out]; exact HS.out), bthen hb1 hb⟩
set_option maxRecDepth 100000 in
set_option maxHeartbeats 8000000 in
theorem onlyR16 (A : Option Addr) (c n m : Nat) (l : List H.En) (h : List UInt8) (w : World) (hn : l.length = n) (hl : n ≤ 1073741824) (hA : Seen eEd w A l) (hm : (Pt.onlyE l h).length = m) :
    Calls Try.prog 17 #[.slice A n c, .string (sB h)] w (fun e w' => ∃ B d, e = .returned (.slice B m d) ∧ m ≤ d ∧ Seen eEd w' B (Pt.onlyE l h) ∧ Below w.heap.size w w') := by
  have HN := Lib.hid hn
  have HM := Lib.hid hm
  have HA := Lib.hid hA
  clear hA hn hm
  go_enter Try.func17, Try.ntmps17
  go_wp2
  go_loopg [5, 6] n (fun gk vo vi wr => ∃ k : Nat, Hid (k + gk = n) ∧ k ≤ n ∧ vi = .int .i64 (k : Int) ∧ Hid (Own eEd wr w.heap.size vo (Pt.onlyE (l.take k) h)) ∧ Hid (Below w.heap.size w wr))
  case atStart => exact ⟨0, Nat.zero_add _, Nat.zero_le _, rfl, Own.nil _ _, Below.refl _ _⟩
  case round =>
    obtain ⟨k, HG, hk, rfl, HO, HB⟩ := hrel
    have hgk := HG.out
    by_cases hlt : k < n
    · have blt : decide ((k : Int) < (n : Int)) = true := decide_eq_true (by omega)
      have blt2 : decide (k < n) = true := decide_eq_true hlt
      have hki : (k : Int) < (n : Int) := by omega
      have hkl : k < l.length := by have := HN.out; omega
      obtain ⟨b, o, rfl, hwb, hL⟩ := HA.out (by omega)
      obtain ⟨d0, d1, d2, d3⟩ := (hL.below HB.out hwb).entry rfl rfl hkl
      have HX := Lib.hid (List.take_succ_eq_append_getElem hkl)
      generalize l[k] = y at d0 d1 d2 d3 HX
      have HLN := Lib.hid (show (Pt.onlyE (l.take k) h).length + 1 ≤ 1099511627776 by
        have h1 := List.length_filter_le (fun x : H.En => decide (x.host = h)) (l.take k)
        rw [List.length_take] at h1
        show (List.filter _ _).length + 1 ≤ _
        omega)
      have hsz := HB.out.size
      clear hL
      by_cases he : y.host = h
      · have n0 := sB_eq he
        have HF2 := Lib.hid (show Pt.onlyE (l.take (k + 1)) h = Pt.onlyE (l.take k) h ++ [y] by
          unfold Pt.onlyE; rw [HX.out, List.filter_append, List.filter_cons_of_pos (by simpa using he)]; rfl)
        clear he
        go_wp2_with (at_builtin; refine wpList_appG eEd _ rfl (.tmp 20) (.tmp 25) rfl w.heap.size u5 (Pt.onlyE (l.take k) h) rfl HO.out y 1 _ rfl wr.heap.size (by rfl) rfl HLN.out hsz ?_; intro v5 w5 hown5 hb5)
        go_roundg (n - (k + 1))
        case rel => exact ⟨k + 1, (by show _ = _; omega), by omega, by go_num, (by rw [HF2.out]; exact hown5), HB.out.trans hb5⟩
        case measure => omega
      · have n0 := sB_ne he
        have HF2 := Lib.hid (show Pt.onlyE (l.take (k + 1)) h = Pt.onlyE (l.take k) h by
          unfold Pt.onlyE; rw [HX.out, List.filter_append, List.filter_cons_of_neg (by simpa using he), List.filter_nil, List.append_nil])
        clear he
        go_wp2
        go_roundg (n - (k + 1))
        case rel => exact ⟨k + 1, (by show _ = _; omega), by omega, by go_num, (by rw [HF2.out]; exact HO.out), HB.out⟩
        case measure => omega
    · have blt : decide ((k : Int) < (n : Int)) = false := decide_eq_false (by omega)
      have blt2 : decide (k < n) = false := decide_eq_false hlt
      have HE := Lib.hid (show Pt.onlyE (l.take k) h = Pt.onlyE l h by rw [List.take_of_length_le (by have := HN.out; omega)])
      obtain ⟨B, d, rfl, hd, hs⟩ := HO.out.seenN (show (Pt.onlyE (l.take k) h).length = m by rw [HE.out]; exact HM.out)
      rw [HE.out] at hs
      go_wp2
      go_ret
      exact ⟨B, d, rfl, hd, hs, HB.out⟩

namespace Pt
theorem sq_snoc : ∀ (l : List C.Wd) (a : C.Wd), sqH (l ++ [a]) = if l.getLast? = some a then sqH l else sqH l ++ [a]
  | [], a => by simp [sqH]
  | [x], a => by
    show sqH [x, a] = _
    unfold sqH
    by_cases h : x = a
    · rw [if_pos h, if_pos (by simp [h])]; subst h; rfl
    · rw [if_neg h, if_neg (by simp [h])]; rfl
  | x :: y :: r, a => by
    have ih := sq_snoc (y :: r) a
    show sqH (x :: y :: (r ++ [a])) = _
    unfold sqH
    rw [show sqH (y :: (r ++ [a])) = sqH ((y :: r) ++ [a]) from rfl, ih, List.getLast?_cons_cons]
    by_cases h : x = y
    · rw [if_pos h, if_pos h]
    · rw [if_neg h, if_neg h]
      split
      · rfl
      · rfl
theorem sq_take {l : List C.Wd} {k : Nat} (hk : k < l.length) : sqH (l.take (k + 1)) = if 0 < k ∧ l[k - 1]? = some l[k] then sqH (l.take k) else sqH (l.take k) ++ [l[k]] := by
  rw [List.take_succ_eq_append_getElem hk, sq_snoc]
  have h : (l.take k).getLast? = some l[k] ↔ 0 < k ∧ l[k - 1]? = some l[k] := by
    rw [List.getLast?_take]
    by_cases h0 : k = 0
    · rw [if_pos h0]; simp [h0]
    · rw [if_neg h0, List.getElem?_eq_getElem (show k - 1 < l.length by omega)]
      simp; omega
  by_cases hc : 0 < k ∧ l[k - 1]? = some l[k]
  · rw [if_pos hc, if_pos (h.2 hc)]
  · rw [if_neg hc, if_neg (fun q => hc (h.1 q))]
end Pt
set_option maxRecDepth 100000 in
set_option maxHeartbeats 8000000 in
theorem hostsR16 (A : Option Addr) (c n m : Nat) (l : List H.En) (w : World) (hn : l.length = n) (hl : n ≤ 10000000) (hA : Seen eEd w A l) (hm : (Pt.hostsE l).length = m) :
    Calls Try.prog 22 #[.slice A n c] w (fun e w' => ∃ B d, e = .returned (.slice B m d) ∧ m ≤ d ∧ Seen eS w' B (Pt.hostsE l) ∧ Below w.heap.size w w') := by
  have HN := Lib.hid hn
  have HM := Lib.hid hm
  have HA := Lib.hid hA
  obtain ⟨S1, hS1⟩ : ∃ z, H.setE l = z := ⟨_, rfl⟩
  obtain ⟨sm, hsm⟩ : ∃ z, S1.length = z := ⟨_, rfl⟩
  have hsmn : sm ≤ n := by rw [← hsm, ← hS1, ← hn]; exact H.set_len l
  have HSE := Lib.hid hS1
  have HSM := Lib.hid hsm
  have HSN := Lib.hid (show (H.setE l).length = sm by rw [hS1]; exact hsm)
  obtain ⟨hs, hhs⟩ : ∃ z, S1.map (fun x => x.host) = z := ⟨_, rfl⟩
  have HHS := Lib.hid hhs
  have HHL := Lib.hid (show hs.length = sm by rw [← hhs, List.length_map]; exact hsm)
  have HHE := Lib.hid (show Pt.hostsE l = Pt.sqH hs by rw [← hhs, ← hS1]; rfl)
  clear hA hn hm hS1 hsm hhs
  go_enter Try.func22, Try.ntmps22
  go_wp2_with fail
  refine (setR A c n sm l _ HN.out (by omega) HA.out HSN.out).mono ?_
  rintro e w1 ⟨B1, d1, rfl, hd1, hs1, hx1⟩
  rw [HSE.out] at hs1
  have HS1 := Lib.hid hs1
  have HX1 := Lib.hid hx1
  clear hs1 hx1
  go_wp2
  go_loopg [4, 5] sm (fun gk vo vi wr => ∃ k : Nat, Hid (k + gk = sm) ∧ k ≤ sm ∧ vi = .int .i64 (k : Int) ∧ Hid (Own eS wr w1.heap.size vo (Pt.sqH (hs.take k))) ∧ Hid (Below w1.heap.size w1 wr))
  case atStart => exact ⟨0, Nat.zero_add _, Nat.zero_le _, rfl, Own.nil _ _, Below.refl _ _⟩
  case round =>
    obtain ⟨k, HG, hk, rfl, HO, HB⟩ := hrel
    have hgk := HG.out
    by_cases hlt : k < sm
    · have blt : decide ((k : Int) < (sm : Int)) = true := decide_eq_true (by omega)
      have blt2 : decide (k < sm) = true := decide_eq_true hlt
      have hki : (k : Int) < (sm : Int) := by omega
      have hkl : k < S1.length := by rw [HSM.out]; exact hlt
      have hkh : k < hs.length := by rw [HHL.out]; exact hlt
      obtain ⟨b, o, rfl, hwb, hL⟩ := HS1.out (by omega)
      have HLL := Lib.hid (hL.below HB.out hwb)
      obtain ⟨d0, d1', d2, d3⟩ := HLL.out.entry rfl rfl hkl
      obtain ⟨y, hy⟩ : ∃ y, S1[k] = y := ⟨_, rfl⟩
      have hyh : hs[k] = y.host := by have h := HHS.out; subst h; rw [List.getElem_map, hy]
      have HT := Lib.hid (Pt.sq_take hkh)
      rw [hyh] at HT
      rw [hy] at d0 d1' d2 d3
      have HLN := Lib.hid (show (Pt.sqH (hs.take k)).length + 1 ≤ 1099511627776 by
        have h1 : ∀ l : List C.Wd, (Pt.sqH l).length ≤ l.length := by
          intro l
          induction l with
          | nil => simp [Pt.sqH]
          | cons x r ih =>
            cases r with
            | nil => simp [Pt.sqH]
            | cons y r =>
              unfold Pt.sqH
              split
              · exact Nat.le_trans ih (by simp)
              · rw [List.length_cons, List.length_cons]; omega
        have h2 := h1 (hs.take k)
        rw [List.length_take] at h2
        omega)
      have hsz := HB.out.size
      clear hL hyh
      by_cases h0 : k = 0
      · have hk0 : ((k : Int) == 0) = true := by simp; omega
        have HNX := Lib.hid (show Pt.sqH (hs.take (k + 1)) = Pt.sqH (hs.take k) ++ [y.host] by rw [HT.out, if_neg (fun z => absurd z.1 (by omega))])
        clear hy h0
        go_wp2
        go_quiet (fail)
        have HOQ := Lib.hid (fun q => HO.out.keep (drew_below wr q))
        go_wp2_with (at_builtin; refine wpList_appG eS (wr.drewN _) rfl (.tmp 30) (.tmp 36) rfl w1.heap.size u4 (Pt.sqH (hs.take k)) rfl (HOQ.out _) y.host 1 _ rfl wr.heap.size (by rfl) rfl HLN.out hsz ?_; intro v5 w5 hown5 hb5)
        go_roundg (sm - (k + 1))
        case rel => exact ⟨k + 1, (by show _ = _; omega), by omega, by go_num, (by rw [HNX.out]; exact hown5), (HB.out.trans ((drew_below wr _).mono HB.out.size)).trans hb5⟩
        case measure => omega
      · obtain ⟨j, hj⟩ : ∃ j, k = j + 1 := ⟨k - 1, by omega⟩
        have hjl : j < S1.length := by omega
        obtain ⟨f0, f1, f2, f3⟩ := HLL.out.entry rfl rfl hjl
        obtain ⟨z, hz⟩ : ∃ y, S1[j] = y := ⟨_, rfl⟩
        rw [hz] at f0 f1 f2 f3
        have hzh : hs[k - 1]? = some z.host := by
          have h := HHS.out; subst h
          rw [show k - 1 = j by omega, List.getElem?_map, List.getElem?_eq_getElem hjl, hz]; rfl
        have HNX0 := Lib.hid (show Pt.sqH (hs.take (k + 1)) = if z.host = y.host then Pt.sqH (hs.take k) else Pt.sqH (hs.take k) ++ [y.host] by
          rw [HT.out, hzh]
          by_cases h : z.host = y.host
          · rw [if_pos h, if_pos ⟨by omega, by rw [h]⟩]
          · rw [if_neg h, if_neg (fun q => h (Option.some.inj q.2))])
        have hk0 : ((k : Int) == 0) = false := by simp; omega
        have hwj : IntKind.i64.wrap ((k : Int) - 1) = (j : Int) := by rw [wrapI _ (by omega)]; omega
        have hji : (j : Int) < (sm : Int) := by omega
        have hjs : j < sm := by omega
        clear hy hz hzh hj
        by_cases he : y.host = z.host
        · have n0 := sB_eq he
          have HNX := Lib.hid (show Pt.sqH (hs.take (k + 1)) = Pt.sqH (hs.take k) by rw [HNX0.out, if_pos he.symm])
          clear he
          go_wp2
          go_quiet (fail)
          go_wp2
          go_roundg (sm - (k + 1))
          case rel => exact ⟨k + 1, (by show _ = _; omega), by omega, by go_num, (by rw [HNX.out]; exact HO.out.keep (drew_below wr _)), HB.out.trans ((drew_below wr _).mono HB.out.size)⟩
          case measure => omega
        · have n0 := sB_ne he
          have HNX := Lib.hid (show Pt.sqH (hs.take (k + 1)) = Pt.sqH (hs.take k) ++ [y.host] by rw [HNX0.out, if_neg (fun h => he h.symm)])
          clear he
          go_wp2
          go_quiet (fail)
          have HOQ := Lib.hid (fun q => HO.out.keep (drew_below wr q))
          go_wp2_with (at_builtin; refine wpList_appG eS (wr.drewN _) rfl (.tmp 30) (.tmp 36) rfl w1.heap.size u4 (Pt.sqH (hs.take k)) rfl (HOQ.out _) y.host 1 _ rfl wr.heap.size (by rfl) rfl HLN.out hsz ?_; intro v5 w5 hown5 hb5)
          go_roundg (sm - (k + 1))
          case rel => exact ⟨k + 1, (by show _ = _; omega), by omega, by go_num, (by rw [HNX.out]; exact hown5), (HB.out.trans ((drew_below wr _).mono HB.out.size)).trans hb5⟩
          case measure => omega
    · have blt : decide ((k : Int) < (sm : Int)) = false := decide_eq_false (by omega)
      have blt2 : decide (k < sm) = false := decide_eq_false hlt
      have HE := Lib.hid (show Pt.sqH (hs.take k) = Pt.hostsE l by rw [List.take_of_length_le (by have := HHL.out; omega), HHE.out])
      obtain ⟨B, d, rfl, hd, hsx⟩ := HO.out.seenN (show (Pt.sqH (hs.take k)).length = m by rw [HE.out]; exact HM.out)
      rw [HE.out] at hsx
      go_wp2
      go_ret
      exact ⟨B, d, rfl, hd, hsx, HX1.out.trans (HB.out.mono HX1.out.size)⟩
end Go.Proofs.Ytpkhnchbamjgjaa

namespace Go.Proofs.Ytpkhnchbamjgjaa
open Go.ChangeShapes Go.WideShapes Go.ChangeAt Go.RowKit
set_option linter.unusedVariables false
set_option linter.unusedSimpArgs false

/-- An entry of words of at most 100 bytes. -/
def Fit16 (x : H.En) : Prop := x.host.length ≤ 100 ∧ x.key.length ≤ 100 ∧ x.val.length ≤ 100
instance (x : H.En) : Decidable (Fit16 x) := by unfold Fit16; infer_instance
/-- Entries that are handed over. -/
structure EArg16 (w : World) (A : Option Addr) (c n : Nat) (l : List H.En) : Prop where
  len : l.length = n
  most : n ≤ 1000
  fits : ∀ x ∈ l, Fit16 x
  cap : n ≤ c
  seen : Seen eEc w A l
theorem earg16_below {w w1 : World} {A : Option Addr} {c n : Nat} {l : List H.En} (h : EArg16 w A c n l) (hb : Below w.heap.size w w1) : EArg16 w1 A c n l := ⟨h.len, h.most, h.fits, h.cap, h.seen.below hb⟩
/-- A patch, as a value. -/
def patV (A : Option Addr) (n c : Nat) (B : Option Addr) (m d : Nat) : Value := .agg #[.slice A n c, .slice B m d]
/-- What patch does. -/
structure PatchOk : Prop where
  ofOf : ∀ (A B : Option Addr) (c d n m p q : Nat) (a b x y : List H.En) (w : World), EArg16 w A c n a → EArg16 w B d m b → Pt.lessE a b = x → Pt.lessE b a = y → x.length = p → y.length = q → Calls Try.prog 13 #[.slice A n c, .slice B m d] w (fun e w' => ∃ D dc P pc, e = .returned (.agg #[.slice D p dc, .slice P q pc]) ∧ p ≤ dc ∧ q ≤ pc ∧ Seen eEc w' D x ∧ Seen eEc w' P y ∧ Below w.heap.size w w')
  applyOf : ∀ (A D P : Option Addr) (c dc pc n p q m : Nat) (l d u x : List H.En) (w : World), EArg16 w A c n l → EArg16 w D dc p d → EArg16 w P pc q u → Pt.applyE l d u = x → x.length = m → Calls Try.prog 18 #[.slice A n c, .agg #[.slice D p dc, .slice P q pc]] w (fun e w' => ∃ B b, e = .returned (.slice B m b) ∧ m ≤ b ∧ Seen eEc w' B x ∧ Below w.heap.size w w')
  onlyOf : ∀ (D P : Option Addr) (dc pc p q m k : Nat) (d u x y : List H.En) (h : List UInt8) (w : World), EArg16 w D dc p d → EArg16 w P pc q u → h.length ≤ 100 → Pt.onlyE d h = x → Pt.onlyE u h = y → x.length = m → y.length = k → Calls Try.prog 14 #[.agg #[.slice D p dc, .slice P q pc], .string (sB h)] w (fun e w' => ∃ X xc Y yc, e = .returned (.agg #[.slice X m xc, .slice Y k yc]) ∧ m ≤ xc ∧ k ≤ yc ∧ Seen eEc w' X x ∧ Seen eEc w' Y y ∧ Below w.heap.size w w')
  hostsOf : ∀ (D P : Option Addr) (dc pc p q m : Nat) (d u : List H.En) (x : List C.Wd) (w : World), EArg16 w D dc p d → EArg16 w P pc q u → Pt.hostsE (d ++ u) = x → x.length = m → Calls Try.prog 21 #[.agg #[.slice D p dc, .slice P q pc]] w (fun e w' => ∃ B b, e = .returned (.slice B m b) ∧ m ≤ b ∧ Seen eS w' B x ∧ Below w.heap.size w w')
theorem less_fit {a b : List H.En} (h : ∀ x ∈ a, Fit16 x) : ∀ x ∈ Pt.lessE a b, Fit16 x := fun x hx => h x (Pt.mem_less.1 hx).1
theorem apply_fit {a d p : List H.En} (h : ∀ x ∈ a, Fit16 x) (h2 : ∀ x ∈ p, Fit16 x) : ∀ x ∈ Pt.applyE a d p, Fit16 x := fun x hx => (Pt.mem_apply.1 hx).elim (fun k => h x k.1) (h2 x)
theorem only_fit {a : List H.En} {k : List UInt8} (h : ∀ x ∈ a, Fit16 x) : ∀ x ∈ Pt.onlyE a k, Fit16 x := fun x hx => h x (Pt.mem_only.1 hx).1
set_option maxRecDepth 100000 in
set_option maxHeartbeats 8000000 in
theorem few16 (A : Option Addr) (c n : Nat) (l : List H.En) (w : World) (hn : l.length = n) (hA : Seen eEc w A l) (hl : n ≤ 9223372036854775807) :
    Calls Try.prog 10 #[.slice A n c] w (fun e w' => ∃ b : Bool, e = .returned (.bool b) ∧ (b = true → n ≤ 60 ∧ ∀ x ∈ l, Fit16 x) ∧ Below w.heap.size w w') := by
  have HA := Lib.hid hA
  have HN := Lib.hid hn
  clear hA hn
  go_enter Try.func10, Try.ntmps10
  go_wp2
  go_loopg [3, 4, 7] n (fun g v3 v4 vi wr => ∃ k : Nat, Hid (k + g = n) ∧ vi = .int .i64 (k : Int) ∧ Hid (∀ j (h : j < l.length), j < k → j < 60 → Fit16 l[j]) ∧ Hid (Below w.heap.size w wr))
  case atStart => exact ⟨0, Nat.zero_add _, rfl, (fun j h h2 => absurd h2 (Nat.not_lt_zero j)), Below.refl _ _⟩
  case round =>
    obtain ⟨k, HG, rfl, HF, HB⟩ := hrel
    have hgk := HG.out
    by_cases hlt : k < n
    · have blt : decide ((k : Int) < (n : Int)) = true := decide_eq_true (by omega)
      have blt2 : decide (k < n) = true := decide_eq_true hlt
      have hkz : (k : Int) < (n : Int) := by omega
      have hkl : k < l.length := by rw [HN.out]; exact hlt
      obtain ⟨b, o, rfl, hwb, hL⟩ := HA.out (by omega)
      obtain ⟨l0, l1, l2, l3⟩ := (hL.below HB.out hwb).entry rfl rfl hkl
      have HNX := Lib.hid (fun (hf : k < 60 → Fit16 l[k]) => show ∀ j (h : j < l.length), j < k + 1 → j < 60 → Fit16 l[j] from fun j h h2 h3 => by
        rcases Nat.lt_or_ge j k with h4 | h4
        · exact HF.out j h h4 h3
        · obtain rfl : j = k := by omega
          exact hf h3)
      generalize l[k] = x at l0 l1 l2 l3 HNX
      obtain ⟨xh, xk, xy, xv⟩ := x
      simp only at l0 l1 l2 l3
      obtain ⟨y0, y1, y2, y3⟩ := (ent_laid wr xh xk xy xv).cells
      have HUP := Lib.hid (HB.out.trans ((up wr (.cells #[.string (sB xh), .int .i64 xk, .string (sB xy), .string (sB xv)] 44)).mono HB.out.size))
      clear hL
      by_cases h60 : k < 60
      · have c1 : decide ((k : Int) < 60) = true := decide_eq_true (by omega)
        have c2 : decide (k < 60) = true := decide_eq_true h60
        by_cases f1 : xh.length ≤ 100
        · have g1 := long_no f1
          by_cases f2 : xy.length ≤ 100
          · have g2 := long_no f2
            by_cases f3 : xv.length ≤ 100
            · have g3 := long_no f3
              have HN2 := Lib.hid (HNX.out fun _ => ⟨f1, f2, f3⟩)
              clear f1 f2 f3
              go_wp2
              go_roundg (n - (k + 1))
              case rel => exact ⟨k + 1, (by show _ = _; omega), by go_num, HN2.out, HUP.out⟩
              case measure => omega
            · have g3 := long_yes f3
              clear f1 f2 f3
              go_wp2
              go_ret
              exact ⟨false, rfl, (fun h => by cases h), HUP.out⟩
          · have g2 := long_yes f2
            clear f1 f2
            go_wp2
            go_ret
            exact ⟨false, rfl, (fun h => by cases h), HUP.out⟩
        · have g1 := long_yes f1
          clear f1
          go_wp2
          go_ret
          exact ⟨false, rfl, (fun h => by cases h), HUP.out⟩
      · have c1 : decide ((k : Int) < 60) = false := decide_eq_false (by omega)
        have c2 : decide (k < 60) = false := decide_eq_false h60
        have HN2 := Lib.hid (HNX.out fun h => absurd h h60)
        go_wp2
        go_roundg (n - (k + 1))
        case rel => exact ⟨k + 1, (by show _ = _; omega), by go_num, HN2.out, HUP.out⟩
        case measure => omega
    · have blt : decide ((k : Int) < (n : Int)) = false := decide_eq_false (by omega)
      have blt2 : decide (k < n) = false := decide_eq_false hlt
      by_cases h60 : n ≤ 60
      · have c1 : decide ((n : Int) ≤ 60) = true := decide_eq_true (by omega)
        have c2 : decide (n ≤ 60) = true := decide_eq_true h60
        have HFA := Lib.hid (show ∀ x ∈ l, Fit16 x by
          intro x hx
          obtain ⟨j, hj, rfl⟩ := List.getElem_of_mem hx
          have := HN.out
          exact HF.out j hj (by omega) (by omega))
        go_wp2
        go_ret
        exact ⟨true, rfl, (fun _ => ⟨h60, HFA.out⟩), HB.out⟩
      · have c1 : decide ((n : Int) ≤ 60) = false := decide_eq_false (by omega)
        have c2 : decide (n ≤ 60) = false := decide_eq_false h60
        go_wp2
        go_ret
        exact ⟨false, rfl, (fun h => by cases h), HB.out⟩
open Go.Region in
/-- 'wpAnyH_take', the operation's own slot named. -/
theorem takeD16 {P : Program} {ops : Array Oper} {Q : Exit → Act → World → Prop} {md : Region.Mode} {S : World → Prop} {i : Nat} {oi : Oper} {v : Value} {d : Option Nat} {fuel : Nat} {listed : Array Bool} {a : Act} {w : World} (hi : ops[i]? = some oi) (hd : oi.dst = d)
    (hs : Region.noSelect ops = true) (hf : free md ops listed i = true) (hr : (Region.ready md ops listed).contains i = true)
    (hQ : ∀ c a w, Q (.panic c) (a.put d v) w → Q (.panic c) a w) (hy : YieldsIf P ops S oi v a) (hS : S w)
    (h : wpAnyH P md ops Q S fuel (listed.setIfInBounds i true) (a.put d v) w) : wpAnyH P md ops Q S (fuel + 1) listed a w := by
  subst hd; exact wpAnyH_take hi hs hf hr hQ hy hS h
theorem below_drawn16 {B : Nat} {a w : World} (h : Below B a w) (q : Nat) : Below B a (w.drewN q) := ⟨h.os, h.tape, h.output, h.size, h.block⟩
/-- A patch in a block of its own. -/
def PatAt (w : World) (g : Nat) (D : Option Addr) (p dc : Nat) (P : Option Addr) (q pc : Nat) : Prop := w.heap[g]? = some (.cells #[.slice D p dc, .slice P q pc] 24 (0, 0))
theorem PatAt.cells16 {w : World} {g : Nat} {D P : Option Addr} {p dc q pc : Nat} (h : PatAt w g D p dc P q pc) : w.cell? ⟨g, 0, none⟩ = some (.slice D p dc) ∧ w.cell? ⟨g, 1, none⟩ = some (.slice P q pc) := ⟨cell_of_row w g 0 _ _ _ h, cell_of_row w g 1 _ _ _ h⟩
theorem PatAt.lt16 {w : World} {g : Nat} {D P : Option Addr} {p dc q pc : Nat} (h : PatAt w g D p dc P q pc) : g < w.heap.size := (Array.getElem?_eq_some_iff.1 h).1
theorem PatAt.on16 {w w1 : World} {g : Nat} {D P : Option Addr} {p dc q pc : Nat} (h : PatAt w g D p dc P q pc) (hb : Below w.heap.size w w1) : PatAt w1 g D p dc P q pc := (hb.block g h.lt16).trans h
theorem PatAt.new16 (w : World) (D P : Option Addr) (p dc q pc : Nat) : PatAt (w.alloc (.cells #[.slice D p dc, .slice P q pc] 24)) w.heap.size D p dc P q pc := heap_alloc_new w _
theorem apply_is {l d u : List H.En} {n q : Nat} (hn : l.length = n) (hq : u.length = q) : (Pt.applyE l d u).length ≤ n + q := by have := Pt.apply_len l d u; omega
/-- What few says of entries. -/
theorem earg16 {w : World} {A : Option Addr} {c n : Nat} {l : List H.En} (hn : l.length = n) (h60 : n ≤ 60) (hf : ∀ x ∈ l, Fit16 x) (hc : n ≤ c) (hA : Seen eEc w A l) : EArg16 w A c n l := ⟨hn, by omega, hf, hc, hA⟩
theorem refs16 (A : Option Addr) (c n : Nat) (l : List H.En) (w : World) (h : EArg16 w A c n l) :
    Calls Try.prog 12 #[.slice A n c] w (fun e w' => ∃ B d, e = .returned (.slice B n d) ∧ n ≤ d ∧ Seen eEd w' B l ∧ Below w.heap.size w w') := refs14 A c n l w h.len (by have := h.most; omega) h.seen
theorem refsV16 (A : Option Addr) (c n : Nat) (l : List H.En) (w : World) (h : EArg16 w A c n l) :
    Calls Try.prog 12 #[.slice A n c] w (fun e w' => ∃ B d, e = .returned (.slice B n d) ∧ n ≤ d ∧ Seen eEd w' B l ∧ VecAt eEd w' (.slice B n d) l ∧ Below w.heap.size w w') := by
  refine (refsO14 A c n l w h.len (by have := h.most; omega) h.seen).mono ?_
  rintro e w' ⟨v, rfl, ho, hb⟩
  obtain ⟨B, d, rfl, hd, hs⟩ := ho.seenN h.len
  exact ⟨B, d, rfl, hd, hs, VecAt.own ho, hb⟩
end Go.Proofs.Ytpkhnchbamjgjaa

namespace Go.Proofs.Ytpkhnchbamjgjaa
open Go.ChangeShapes Go.WideShapes Go.ChangeAt Go.RowKit
set_option linter.unusedVariables false

theorem Try.cellsPatch : Try.prog.cellsOf 24 = 2 := by kernel_rfl
set_option maxRecDepth 100000 in
/-- Entries in a field. -/
theorem open_entries1 {HH : Type} {enc : TypeId × Value → HH} {W : World} {v : Value} {fuel : Nat} {x : DataW HH × List MemPlace}
    (hf : DataW.trod enc Try.prog W 0 (fun _ => true) true fuel 22 [v] = some x) : ∃ (A : Option Addr) (c : Nat) (L : List H.En), v = .slice A L.length c ∧ L.length ≤ c ∧ Seen eEc W A L ∧ L.length ≤ maxLen := by
  rcases Go.Deep.open_slice Try.underlying22 hf with ⟨hcs, _⟩ | ⟨a, len, cap, m, k, D, Pl, hcs, _, hl, hm, hmm, _, hx⟩
  · have hc2 : ([v] : List Value) = [.slice none 0 0] := hcs
    injection hc2 with hc2
    subst hc2
    exact ⟨none, 0, [], rfl, Nat.le_refl _, Seen.nil, by unfold maxLen; simp⟩
  · have hc2 : ([v] : List Value) = [.slice (some a) len cap] := hcs
    injection hc2 with hc2
    subst hc2
    have hnm : len ≤ m := by rw [hmm]; simp; exact hl
    have each : ∀ i, i < len → ∃ x : H.En, (W.cell? (a.add (i * 4)) = some (.string (sB x.host)) ∧ W.cell? (a.add (i * 4 + 1)) = some (.int .i64 x.kind) ∧ W.cell? (a.add (i * 4 + 2)) = some (.string (sB x.key)) ∧ W.cell? (a.add (i * 4 + 3)) = some (.string (sB x.val))) ∧ LongE x := by
      intro i hi
      obtain ⟨cs', h1, h2⟩ := hx i (by omega)
      rw [Try.cellsEntry] at h1
      obtain ⟨_, hlen, hcell⟩ := World.cells?_some h1
      obtain ⟨xs, q, hq, hxy, _, hxl, hff⟩ := DataW.trod_struct Try.underlying44 h2
      match xs, hxl, cs', hlen with
      | [y0, y1, y2, y3], _, [v0, v1, v2, v3], _ =>
        have g0 := hff 0 _ rfl
        have g1 := hff 1 _ rfl
        have g2 := hff 2 _ rfl
        have g3 := hff 3 _ rfl
        simp [Try.cellsInt, Try.cellsStr] at g0 g1 g2 g3
        obtain ⟨z0, q0, _, w0⟩ := DataW.trod_string Try.underlying9 g0
        obtain ⟨z1, q1, _, w1⟩ := DataW.trod_int Try.underlying3 g1
        obtain ⟨z2, q2, _, w2⟩ := DataW.trod_string Try.underlying9 g2
        obtain ⟨z3, q3, _, w3⟩ := DataW.trod_string Try.underlying9 g3
        simp at q0 q1 q2 q3
        subst q0; subst q1; subst q2; subst q3
        have e0 := hcell 0 (by omega)
        have e1 := hcell 1 (by omega)
        have e2 := hcell 2 (by omega)
        have e3 := hcell 3 (by omega)
        rw [Go.Deep.add_add] at e0 e1 e2 e3
        have wb := bounds_i64 w1
        refine ⟨⟨z0.data.toList, z1, z2.data.toList, z3.data.toList⟩, ⟨by rw [sB_of]; simpa using e0, by simpa using e1, by rw [sB_of]; simpa using e2, by rw [sB_of]; simpa using e3⟩, by rw [← sB_size, sB_of]; exact w0, by rw [← sB_size, sB_of]; exact w2, by rw [← sB_size, sB_of]; exact w3, wb.1, wb.2⟩
    haveI : Inhabited H.En := ⟨⟨[], 0, [], []⟩⟩
    obtain ⟨f, hfx⟩ := Go.Deep.choose_lt each
    refine ⟨some a, cap, (List.range len).map f, by simp, by simp; exact hl, fun hpos => ?_, by simp; omega⟩
    have hn : 0 < len := by simpa using hpos
    obtain ⟨b, o, sp⟩ := a
    have hc0 := (hfx 0 hn).1.1
    have hsp : sp = none := by simpa [Addr.add] using World.cell?_spot hc0
    subst hsp
    refine ⟨b, o, rfl, ?_, fun i hi j u hu => ?_⟩
    · have := World.block_lt_of_cell? W _ hc0; simpa [Addr.add] using this
    · have hin : i < len := by simpa using hi
      obtain ⟨⟨h0, h1, h2, h3⟩, _⟩ := hfx i hin
      rw [add_off] at h0 h1 h2 h3
      have eg : ((List.range len).map f)[i] = f i := by simp
      rw [eg] at hu
      match j, hu with
      | 0, hu => injection hu with hu; rw [← hu]; exact h0
      | 1, hu => injection hu with hu; rw [← hu]; exact h1
      | 2, hu => injection hu with hu; rw [← hu]; exact h2
      | 3, hu => injection hu with hu; rw [← hu]; exact h3
      | j + 4, hu => cases hu
set_option maxRecDepth 100000 in
theorem open_patch {HH : Type} {enc : TypeId × Value → HH} {W : World} {base : Nat} {v : Value} {d : DataW HH} {p : List MemPlace} (hok : Value.okWide Try.prog W .any base 24 v)
    (h : DataW.Trod enc Try.prog W 0 (fun _ => true) true 24 v d p) : ∃ (D : Option Addr) (dc : Nat) (a : List H.En) (P : Option Addr) (pc : Nat) (b : List H.En), v = patV D a.length dc P b.length pc ∧ a.length ≤ dc ∧ Seen eEc W D a ∧ a.length ≤ maxLen ∧ b.length ≤ pc ∧ Seen eEc W P b ∧ b.length ≤ maxLen := by
  obtain ⟨v0, v1, y0, y1, n, rfl, _, _, g0, g1⟩ := Go.Joins.open_agg2 Try.underlying24 (by kernel_rfl) Try.cellsPatch hok h
  obtain ⟨D, dc, a, rfl, h0, h1, h2⟩ := open_entries1 g0
  obtain ⟨P, pc, b, rfl, h3, h4, h5⟩ := open_entries1 g1
  exact ⟨D, dc, a, P, pc, b, rfl, h0, h1, h2, h3, h4, h5⟩
end Go.Proofs.Ytpkhnchbamjgjaa

namespace Go.Proofs.Ytpkhnchbamjgjaa
open Go.RowKit
open F
set_option linter.unusedVariables false
set_option linter.unusedSimpArgs false

set_option maxRecDepth 100000 in
set_option maxHeartbeats 16000000 in
theorem sameB16 (A B : Option Addr) (c d n m : Nat) (l z : List H.En) (w : World) (hn : l.length = n) (hm : z.length = m) (hl : n ≤ 1073741824) (hA : Seen eEd w A l) (hB : Seen eEd w B z) :
    Calls Try.prog 15 #[.slice A n c, .slice B m d] w (fun e w' => ∃ r : Bool, e = .returned (.bool r) ∧ (r = true → l = z) ∧ Below w.heap.size w w') := by
  have HA := Lib.hid hA
  have HB := Lib.hid hB
  have HN := Lib.hid hn
  have HM := Lib.hid hm
  clear hA hB hn hm
  by_cases hnm : n = m
  · subst hnm
    go_enter Try.func15, Try.ntmps15
    go_wp2
    go_loopg [5] n (fun g i wr => ∃ k : Nat, Hid (k + g = n) ∧ k ≤ n ∧ i = .int .i64 k ∧ Hid (l.take k = z.take k) ∧ Below w.heap.size w wr)
    case atStart => exact ⟨0, Nat.zero_add _, Nat.zero_le _, rfl, rfl, Below.refl _ _⟩
    case round =>
      obtain ⟨k, HG, hk, rfl, HT, hb⟩ := hrel
      have hgk := HG.out
      by_cases hlt : k < n
      · have blt : decide ((k : Int) < (n : Int)) = true := decide_eq_true (by omega)
        have blt2 : decide (k < n) = true := decide_eq_true hlt
        have hki : (k : Int) < (n : Int) := by omega
        have hkl : k < l.length := by have := HN.out; omega
        have hkz : k < z.length := by have := HM.out; omega
        obtain ⟨b1, o1, rfl, hw1, hL1⟩ := HA.out (by omega)
        obtain ⟨b2, o2, rfl, hw2, hL2⟩ := HB.out (by omega)
        obtain ⟨c0, c1, c2, c3⟩ := (hL1.below hb hw1).entry rfl rfl hkl
        obtain ⟨d0, d1, d2, d3⟩ := (hL2.below hb hw2).entry rfl rfl hkz
        have HX := Lib.hid (List.take_succ_eq_append_getElem hkl)
        have HZ := Lib.hid (List.take_succ_eq_append_getElem hkz)
        generalize l[k] = y at c0 c1 c2 c3 HX
        generalize z[k] = x at d0 d1 d2 d3 HZ
        clear hL1 hL2 hkl hkz
        by_cases he : y = x
        · subst he
          have HT2 := Lib.hid (show l.take (k + 1) = z.take (k + 1) by rw [HX.out, HZ.out, HT.out])
          go_wp2
          go_region
          go_wp2
          go_roundg (n - (k + 1))
          case rel => exact ⟨k + 1, (by show _ = _; omega), by omega, by go_num, HT2.out, hb.drew⟩
          case measure => omega
        · rcases H.ne_cases he with j | ⟨j0, j | ⟨j1, j | ⟨j2, j⟩⟩⟩
          · have n3 := sB_ne j
            clear he j
            go_wp2
            go_region
            go_wp2
            go_ret
            exact ⟨false, rfl, (fun h => by cases h), hb.drew⟩
          · have n0 := sB_eq j0
            have n1 : (y.kind == x.kind) = false := beq_eq_false_iff_ne.2 j
            clear he
            go_wp2
            go_region
            go_wp2
            go_ret
            exact ⟨false, rfl, (fun h => by cases h), hb.drew⟩
          · have n0 := sB_eq j0
            have n1 : (y.kind == x.kind) = true := beq_iff_eq.2 j1
            have n3 := sB_ne j
            clear he j
            go_wp2
            go_region
            go_wp2
            go_ret
            exact ⟨false, rfl, (fun h => by cases h), hb.drew⟩
          · have n0 := sB_eq j0
            have n1 : (y.kind == x.kind) = true := beq_iff_eq.2 j1
            have n2 := sB_eq j2
            have n3 := sB_ne j
            clear he j
            go_wp2
            go_region
            go_wp2
            go_ret
            exact ⟨false, rfl, (fun h => by cases h), hb.drew⟩
      · have blt : decide ((k : Int) < (n : Int)) = false := decide_eq_false (by omega)
        have blt2 : decide (k < n) = false := decide_eq_false hlt
        have HE := Lib.hid (show l = z by
          have := HT.out
          rwa [List.take_of_length_le (by have := HN.out; omega), List.take_of_length_le (by have := HM.out; omega)] at this)
        go_wp2
        go_ret
        exact ⟨true, rfl, (fun _ => HE.out), hb⟩
  · have d1 : ((n : Int) != (m : Int)) = true := by rw [bne_iff_ne]; omega
    have d1a : ((n : Int) == (m : Int)) = false := beq_eq_false_iff_ne.2 (by omega)
    have d1b : (n == m) = false := beq_eq_false_iff_ne.2 hnm
    clear hnm
    go_enter Try.func15, Try.ntmps15
    go_wp2
    go_ret
    exact ⟨false, rfl, (fun h => by cases h), Below.refl _ _⟩
end Go.Proofs.Ytpkhnchbamjgjaa

namespace Go.Proofs.Ytpkhnchbamjgjaa
open Go.ChangeShapes Go.WideShapes Go.ChangeAt Go.RowKit
set_option linter.unusedVariables false
set_option linter.unusedSimpArgs false

/-- An entry of one byte's Host, and of nothing else. -/
def aw16e (a : UInt8) : H.En := ⟨[a], 0, [], []⟩
/-- Such an entry's cells, somewhere in a row. -/
structure EntIn16 (w : World) (b o : Nat) (a : UInt8) : Prop where
  c0 : w.cell? ⟨b, o, none⟩ = some (.string (sB [a]))
  c1 : w.cell? ⟨b, o + 1, none⟩ = some (.int .i64 0)
  c2 : w.cell? ⟨b, o + 2, none⟩ = some (.string (sB []))
  c3 : w.cell? ⟨b, o + 3, none⟩ = some (.string (sB []))
  lowEnt : b < w.heap.size
theorem EntIn16.on16e {w w1 : World} {b o : Nat} {a : UInt8} (h : EntIn16 w b o a) (hb : Below w.heap.size w w1) : EntIn16 w1 b o a :=
  ⟨(hb.cell (p := ⟨b, o, none⟩) h.lowEnt).trans h.c0, (hb.cell (p := ⟨b, o + 1, none⟩) h.lowEnt).trans h.c1, (hb.cell (p := ⟨b, o + 2, none⟩) h.lowEnt).trans h.c2, (hb.cell (p := ⟨b, o + 3, none⟩) h.lowEnt).trans h.c3, Nat.lt_of_lt_of_le h.lowEnt hb.size⟩
theorem EntIn16.cellsIn {w : World} {b o : Nat} {a : UInt8} (h : EntIn16 w b o a) : w.cell? ⟨b, o, none⟩ = some (.string (sB [a])) ∧ w.cell? ⟨b, o + 1, none⟩ = some (.int .i64 0) ∧ w.cell? ⟨b, o + 2, none⟩ = some (.string (sB [])) ∧ w.cell? ⟨b, o + 3, none⟩ = some (.string (sB [])) := ⟨h.c0, h.c1, h.c2, h.c3⟩
theorem aw16_in {w : World} {A : Option Addr} {l : List H.En} (i : Nat) (hi : i < l.length) (a : UInt8) (he : l[i] = aw16e a) (h : Seen eEc w A l) : ∃ b o, A = some ⟨b, o, none⟩ ∧ EntIn16 w b (o + i * 4) a := by
  obtain ⟨b, o, e, hw, hL⟩ := h (by omega)
  obtain ⟨y0, y1, y2, y3⟩ := hL.entry rfl rfl hi
  rw [he] at y0 y1 y2 y3
  exact ⟨b, o, e, y0, y1, y2, y3, hw⟩
theorem aw16_fit {l : List H.En} (h : ∀ x ∈ l, ∃ a, x = aw16e a) : ∀ x ∈ l, Fit16 x := fun x hx => by
  obtain ⟨a, rfl⟩ := h x hx
  exact ⟨by show 1 ≤ 100; omega, by show 0 ≤ 100; omega, by show 0 ≤ 100; omega⟩
theorem aw16_fit1 (a : UInt8) : ∀ x ∈ [aw16e a], Fit16 x := aw16_fit fun x hx => ⟨a, by simpa using hx⟩
theorem aw16_fit2 (a b : UInt8) : ∀ x ∈ [aw16e a, aw16e b], Fit16 x := aw16_fit fun x hx => by
  rcases List.mem_cons.1 hx with h | h
  · exact ⟨a, h⟩
  · exact ⟨b, by simpa using h⟩
theorem aw16_lit (w : World) (g : Nat) (hg : w.heap.size = g) (a b : UInt8) : Seen eEc (w.alloc (.cells #[.string (sB [a]), .int .i64 0, .string (sB []), .string (sB []), .string (sB [b]), .int .i64 0, .string (sB []), .string (sB [])] 44)) (some ⟨g, 0, none⟩) [aw16e a, aw16e b] := by
  subst hg; exact lit_seen eEc w [aw16e a, aw16e b] _ rfl (by simp)
/-- The worlds at the beginning, with what lies there. -/
theorem aw16_start (w : World) : ∃ W, (((((w.alloc (.cells #[.string (sB [97]), .int .i64 0, .string (sB []), .string (sB [])] 44)).alloc (.cells #[.string (sB [98]), .int .i64 0, .string (sB []), .string (sB [])] 44)).alloc (.cells #[.string (sB [99]), .int .i64 0, .string (sB []), .string (sB [])] 44)).alloc (.cells #[.string (sB [98]), .int .i64 0, .string (sB []), .string (sB []), .string (sB [97]), .int .i64 0, .string (sB []), .string (sB [])] 44)).alloc (.cells #[.string (sB [99]), .int .i64 0, .string (sB []), .string (sB []), .string (sB [98]), .int .i64 0, .string (sB []), .string (sB [])] 44)) = W ∧ Below w.heap.size w W ∧ W.heap.size = w.heap.size + 1 + 1 + 1 + 1 + 1 ∧
    EntAt W w.heap.size [97] 0 [] [] ∧ EntAt W (w.heap.size + 1) [98] 0 [] [] ∧ EntAt W (w.heap.size + 1 + 1) [99] 0 [] [] ∧ Seen eEc W (some ⟨w.heap.size + 1 + 1 + 1, 0, none⟩) [aw16e 98, aw16e 97] ∧ Seen eEc W (some ⟨w.heap.size + 1 + 1 + 1 + 1, 0, none⟩) [aw16e 99, aw16e 98] := by
  obtain ⟨g, hg⟩ : ∃ g, w.heap.size = g := ⟨_, rfl⟩
  have u1 := up w (.cells #[.string (sB [97]), .int .i64 0, .string (sB []), .string (sB [])] 44)
  have e1 := ent_laid w [97] 0 [] []
  obtain ⟨w1, h1⟩ : ∃ W, w.alloc (.cells #[.string (sB [97]), .int .i64 0, .string (sB []), .string (sB [])] 44) = W := ⟨_, rfl⟩
  rw [h1] at u1 e1
  have s1 : w1.heap.size = g + 1 := by rw [← h1, ← hg]; simp
  have u2 := up w1 (.cells #[.string (sB [98]), .int .i64 0, .string (sB []), .string (sB [])] 44)
  have e2 := ent_laid w1 [98] 0 [] []
  obtain ⟨w2, h2⟩ : ∃ W, w1.alloc (.cells #[.string (sB [98]), .int .i64 0, .string (sB []), .string (sB [])] 44) = W := ⟨_, rfl⟩
  rw [h2] at u2 e2
  have s2 : w2.heap.size = g + 1 + 1 := by rw [← h2, ← s1]; simp
  have u3 := up w2 (.cells #[.string (sB [99]), .int .i64 0, .string (sB []), .string (sB [])] 44)
  have e3 := ent_laid w2 [99] 0 [] []
  obtain ⟨w3, h3⟩ : ∃ W, w2.alloc (.cells #[.string (sB [99]), .int .i64 0, .string (sB []), .string (sB [])] 44) = W := ⟨_, rfl⟩
  rw [h3] at u3 e3
  have s3 : w3.heap.size = g + 1 + 1 + 1 := by rw [← h3, ← s2]; simp
  have u4 := up w3 (.cells #[.string (sB [98]), .int .i64 0, .string (sB []), .string (sB []), .string (sB [97]), .int .i64 0, .string (sB []), .string (sB [])] 44)
  have l4 := aw16_lit w3 _ s3 98 97
  obtain ⟨w4, h4⟩ : ∃ W, w3.alloc (.cells #[.string (sB [98]), .int .i64 0, .string (sB []), .string (sB []), .string (sB [97]), .int .i64 0, .string (sB []), .string (sB [])] 44) = W := ⟨_, rfl⟩
  rw [h4] at u4 l4
  have s4 : w4.heap.size = g + 1 + 1 + 1 + 1 := by rw [← h4, ← s3]; simp
  have u5 := up w4 (.cells #[.string (sB [99]), .int .i64 0, .string (sB []), .string (sB []), .string (sB [98]), .int .i64 0, .string (sB []), .string (sB [])] 44)
  have l5 := aw16_lit w4 _ s4 99 98
  obtain ⟨w5, h5⟩ : ∃ W, w4.alloc (.cells #[.string (sB [99]), .int .i64 0, .string (sB []), .string (sB []), .string (sB [98]), .int .i64 0, .string (sB []), .string (sB [])] 44) = W := ⟨_, rfl⟩
  rw [h5] at u5 l5
  have s5 : w5.heap.size = g + 1 + 1 + 1 + 1 + 1 := by rw [← h5, ← s4]; simp
  have b45 := u5
  have b35 := bthen u4 b45
  have b25 := bthen u3 b35
  have b15 := bthen u2 b25
  rw [hg] at e1; rw [s1] at e2; rw [s2] at e3
  refine ⟨w5, by rw [h1, h2, h3, h4, h5], bthen u1 b15, by rw [s5, hg], ?_⟩
  rw [hg]
  exact ⟨ent_below e1 b15, ent_below e2 b25, ent_below e3 b35, l4.below b45, l5⟩
/-- The world put away as a variable, with what is known of it. -/
theorem anyH_abs16 {P : Program} {md : Region.Mode} {ops : Array Oper} {Q : Exit → Act → World → Prop} {S : World → Prop} {fuel : Nat} {listed : Array Bool} {a : Act} {w : World} {F : World → Prop} (hF : F w) (h : ∀ z, F z → wpAnyH P md ops Q S fuel listed a z) : wpAnyH P md ops Q S fuel listed a w := h w hF
/-- What the last region reads. -/
structure Aw16 (w : World) (g gp bd od bp op b2 o2 dc pc : Nat) : Prop where
  pat : PatAt w gp (some ⟨bd, od, none⟩) 1 dc (some ⟨bp, op, none⟩) 1 pc
  ea : EntAt w g [97] 0 [] []
  eb : EntAt w (g + 1) [98] 0 [] []
  ec : EntAt w (g + 1 + 1) [99] 0 [] []
  id : EntIn16 w bd od 97
  ip : EntIn16 w bp op 99
  i0 : EntIn16 w b2 o2 98
  i1 : EntIn16 w b2 (o2 + 4) 99
theorem Aw16.on {w w1 : World} {g gp bd od bp op b2 o2 dc pc : Nat} (h : Aw16 w g gp bd od bp op b2 o2 dc pc) (hb : Below w.heap.size w w1) : Aw16 w1 g gp bd od bp op b2 o2 dc pc :=
  ⟨h.pat.on16 hb, ent_below h.ea hb, ent_below h.eb hb, ent_below h.ec hb, h.id.on16e hb, h.ip.on16e hb, h.i0.on16e hb, h.i1.on16e hb⟩
set_option maxRecDepth 100000 in
set_option maxHeartbeats 16000000 in
theorem awake16 (E : PatchOk) (w : World) : Calls Try.prog 11 #[] w (TrueS w) := by
  obtain ⟨W5, hW5, hb5, hs5, ea, eb, ec, la, lb⟩ := aw16_start w
  go_enter Try.func11, Try.ntmps11
  go_wp2_with fail
  refine (E.ofOf (some ⟨w.heap.size + 1 + 1 + 1, 0, none⟩) (some ⟨w.heap.size + 1 + 1 + 1 + 1, 0, none⟩) 2 2 2 2 1 1 [aw16e 98, aw16e 97] [aw16e 99, aw16e 98] [aw16e 97] [aw16e 99] _ (by rw [← hW5] at la; exact ⟨rfl, by omega, aw16_fit2 _ _, Nat.le_refl _, la⟩) (by rw [← hW5] at lb; exact ⟨rfl, by omega, aw16_fit2 _ _, Nat.le_refl _, lb⟩) (by decide) (by decide) rfl rfl).mono ?_
  rintro e w1 ⟨D, dc, P, pc, rfl, hdc, hpc, hsD, hsP, hx⟩
  subst hW5
  replace ea := ent_below ea hx
  replace eb := ent_below eb hx
  replace ec := ent_below ec hx
  have hb := bthen hb5 hx
  clear hx la lb hb5 hs5
  obtain ⟨bd, od, e1, hd⟩ := aw16_in 0 (by decide) 97 rfl hsD
  obtain ⟨bp, op, e2, hp⟩ := aw16_in 0 (by decide) 99 rfl hsP
  subst e1; subst e2
  have hu := up w1 (.cells #[.slice (some ⟨bd, od, none⟩) 1 dc, .slice (some ⟨bp, op, none⟩) 1 pc] 24)
  have hz := PatAt.new16 w1 (some ⟨bd, od, none⟩) (some ⟨bp, op, none⟩) 1 dc 1 pc
  obtain ⟨a0, a1, a2, a3⟩ := (ent_below ea hu).cells
  obtain ⟨k0, k1, k2, k3⟩ := (ent_below eb hu).cells
  obtain ⟨z0, z1⟩ := hz.cells16
  have KS := Lib.hid (And.intro hsD hsP)
  have KE := Lib.hid (And.intro ea (And.intro eb ec))
  have KD := Lib.hid (And.intro hd hp)
  have KZ := Lib.hid hz
  have KU := Lib.hid hu
  have KB := Lib.hid hb
  clear ea eb ec hd hp hz hu hb hsD hsP
  go_wp2_with fail
  refine (E.applyOf (some ⟨w1.heap.size + 1, 0, none⟩) (some ⟨bd, od, none⟩) (some ⟨bp, op, none⟩) 2 dc pc 2 1 1 2 [aw16e 97, aw16e 98] [aw16e 97] [aw16e 99] [aw16e 98, aw16e 99] _ ⟨rfl, by omega, aw16_fit2 _ _, Nat.le_refl _, aw16_lit _ _ (by simp) 97 98⟩ ⟨rfl, by omega, aw16_fit1 97, hdc, KS.out.1.below (bthen KU.out (up _ _))⟩ ⟨rfl, by omega, aw16_fit1 99, hpc, KS.out.2.below (bthen KU.out (up _ _))⟩ (by decide) rfl).mono ?_
  rintro e w2 ⟨B, b4, rfl, hb4, hsB, hx⟩
  have hx2 := bthen (bthen KU.out (up _ _)) hx
  obtain ⟨b2, o2, e3, h0⟩ := aw16_in 0 (by decide) 98 rfl hsB
  obtain ⟨b3, o3, e4, h1⟩ := aw16_in 1 (by decide) 99 rfl hsB
  rw [e3] at e4
  injection e4 with e4
  injection e4 with e5 e6
  subst e5; subst e6; subst e3
  have HAW := Lib.hid (show Aw16 w2 w.heap.size w1.heap.size bd od bp op b2 o2 dc pc from ⟨(KZ.out.on16 (bthen (up _ _) hx)), ent_below KE.out.1 hx2, ent_below KE.out.2.1 hx2, ent_below KE.out.2.2 hx2, KD.out.1.on16e hx2, KD.out.2.on16e hx2, h0, h1⟩)
  have GD := Lib.hid (show EArg16 w2 (some ⟨bd, od, none⟩) dc 1 [aw16e 97] from ⟨rfl, by omega, aw16_fit1 97, hdc, KS.out.1.below hx2⟩)
  have GP := Lib.hid (show EArg16 w2 (some ⟨bp, op, none⟩) pc 1 [aw16e 99] from ⟨rfl, by omega, aw16_fit1 99, hpc, KS.out.2.below hx2⟩)
  have HB := Lib.hid (bthen KB.out hx2)
  clear hx hx2 hsB h0 h1 KS KE KD KZ KU KB a0 a1 a2 a3 k0 k1 k2 k3 z0 z1
  obtain ⟨g, hg⟩ : ∃ g, w.heap.size = g := ⟨_, rfl⟩
  obtain ⟨gp, hgp⟩ : ∃ g, w1.heap.size = g := ⟨_, rfl⟩
  rw [hg, hgp] at HAW
  have HG := Lib.hid hg
  have HGP := Lib.hid hgp
  clear hg hgp
  go_wp2
  rw [HG.out, HGP.out]
  refine wp_region_held_drew (S := fun w' => Aw16 w' g gp bd od bp op b2 o2 dc pc) (by kernel_rfl) (HAW.out.on ((Below.refl w2.heap.size w2).drew)) (fun hHeld => ?_)
  refine takeD16 (i := 0) (v := ?vm0) (d := some 21) rfl rfl (by kernel_rfl) (by kernel_rfl) (by kernel_rfl) (fun _ _ _ h => h) (Or.inl ⟨by rfl, ?hym0⟩) (by assumption) ?restm0
  case hym0 => intro w hSw; go_simp; try (with_reducible rfl)
  try simp only [Act.put, List.setIfInBounds_toArray, List.set_cons_zero, List.set_cons_succ]
  refine takeD16 (i := 1) (v := ?vm1) (d := some 22) rfl rfl (by kernel_rfl) (by kernel_rfl) (by kernel_rfl) (fun _ _ _ h => h) (Or.inl ⟨by rfl, ?hym1⟩) (by assumption) ?restm1
  case hym1 => intro w hSw; obtain ⟨z0, z1⟩ := hSw.pat.cells16; go_simp; try (with_reducible rfl)
  try simp only [Act.put, List.setIfInBounds_toArray, List.set_cons_zero, List.set_cons_succ]
  refine takeD16 (i := 2) (v := ?vm2) (d := some 23) rfl rfl (by kernel_rfl) (by kernel_rfl) (by kernel_rfl) (fun _ _ _ h => h) (Or.inl ⟨by rfl, ?hym2⟩) (by assumption) ?restm2
  case hym2 => intro w hSw; go_simp; try (with_reducible rfl)
  try simp only [Act.put, List.setIfInBounds_toArray, List.set_cons_zero, List.set_cons_succ]
  refine takeD16 (i := 3) (v := ?vm3) (d := some 24) rfl rfl (by kernel_rfl) (by kernel_rfl) (by kernel_rfl) (fun _ _ _ h => h) (Or.inl ⟨by rfl, ?hym3⟩) (by assumption) ?restm3
  case hym3 => intro w hSw; go_simp; try (with_reducible rfl)
  try simp only [Act.put, List.setIfInBounds_toArray, List.set_cons_zero, List.set_cons_succ]
  refine takeD16 (i := 4) (v := ?vm4) (d := some 25) rfl rfl (by kernel_rfl) (by kernel_rfl) (by kernel_rfl) (fun _ _ _ h => h) (Or.inl ⟨by rfl, ?hym4⟩) (by assumption) ?restm4
  case hym4 => intro w hSw; go_simp; try (with_reducible rfl)
  try simp only [Act.put, List.setIfInBounds_toArray, List.set_cons_zero, List.set_cons_succ]
  refine takeD16 (i := 5) (v := ?vm5) (d := some 26) rfl rfl (by kernel_rfl) (by kernel_rfl) (by kernel_rfl) (fun _ _ _ h => h) (Or.inl ⟨by rfl, ?hym5⟩) (by assumption) ?restm5
  case hym5 => intro w hSw; go_simp; try (with_reducible rfl)
  try simp only [Act.put, List.setIfInBounds_toArray, List.set_cons_zero, List.set_cons_succ]
  refine takeD16 (i := 6) (v := ?vm6) (d := some 27) rfl rfl (by kernel_rfl) (by kernel_rfl) (by kernel_rfl) (fun _ _ _ h => h) (Or.inl ⟨by rfl, ?hym6⟩) (by assumption) ?restm6
  case hym6 => intro w hSw; obtain ⟨z0, z1⟩ := hSw.pat.cells16; go_simp; try (with_reducible rfl)
  try simp only [Act.put, List.setIfInBounds_toArray, List.set_cons_zero, List.set_cons_succ]
  refine takeD16 (i := 7) (v := ?vm7) (d := some 28) rfl rfl (by kernel_rfl) (by kernel_rfl) (by kernel_rfl) (fun _ _ _ h => h) (Or.inl ⟨by rfl, ?hym7⟩) (by assumption) ?restm7
  case hym7 => intro w hSw; go_simp; try (with_reducible rfl)
  try simp only [Act.put, List.setIfInBounds_toArray, List.set_cons_zero, List.set_cons_succ]
  refine takeD16 (i := 8) (v := ?vm8) (d := some 29) rfl rfl (by kernel_rfl) (by kernel_rfl) (by kernel_rfl) (fun _ _ _ h => h) (Or.inl ⟨by rfl, ?hym8⟩) (by assumption) ?restm8
  case hym8 => intro w hSw; obtain ⟨y0, y1, y2, y3⟩ := hSw.id.cellsIn; go_simp; try (with_reducible rfl)
  try simp only [Act.put, List.setIfInBounds_toArray, List.set_cons_zero, List.set_cons_succ]
  refine takeD16 (i := 9) (v := ?vm9) (d := some 30) rfl rfl (by kernel_rfl) (by kernel_rfl) (by kernel_rfl) (fun _ _ _ h => h) (Or.inl ⟨by rfl, ?hym9⟩) (by assumption) ?restm9
  case hym9 => intro w hSw; obtain ⟨y0, y1, y2, y3⟩ := hSw.ea.cells; go_simp; try (with_reducible rfl)
  try simp only [Act.put, List.setIfInBounds_toArray, List.set_cons_zero, List.set_cons_succ]
  refine takeD16 (i := 10) (v := ?vm10) (d := some 31) rfl rfl (by kernel_rfl) (by kernel_rfl) (by kernel_rfl) (fun _ _ _ h => h) (Or.inl ⟨by rfl, ?hym10⟩) (by assumption) ?restm10
  case hym10 => intro w hSw; go_simp; try (with_reducible rfl)
  try simp only [Act.put, List.setIfInBounds_toArray, List.set_cons_zero, List.set_cons_succ]
  refine takeD16 (i := 11) (v := ?vm11) (d := some 32) rfl rfl (by kernel_rfl) (by kernel_rfl) (by kernel_rfl) (fun _ _ _ h => h) (Or.inl ⟨by rfl, ?hym11⟩) (by assumption) ?restm11
  case hym11 => intro w hSw; go_simp; try (with_reducible rfl)
  try simp only [Act.put, List.setIfInBounds_toArray, List.set_cons_zero, List.set_cons_succ]
  refine takeD16 (i := 12) (v := ?vm12) (d := some 33) rfl rfl (by kernel_rfl) (by kernel_rfl) (by kernel_rfl) (fun _ _ _ h => h) (Or.inl ⟨by rfl, ?hym12⟩) (by assumption) ?restm12
  case hym12 => intro w hSw; go_simp; try (with_reducible rfl)
  try simp only [Act.put, List.setIfInBounds_toArray, List.set_cons_zero, List.set_cons_succ]
  refine takeD16 (i := 13) (v := ?vm13) (d := some 34) rfl rfl (by kernel_rfl) (by kernel_rfl) (by kernel_rfl) (fun _ _ _ h => h) (Or.inl ⟨by rfl, ?hym13⟩) (by assumption) ?restm13
  case hym13 => intro w hSw; go_simp; try (with_reducible rfl)
  try simp only [Act.put, List.setIfInBounds_toArray, List.set_cons_zero, List.set_cons_succ]
  refine takeD16 (i := 14) (v := ?vm14) (d := some 35) rfl rfl (by kernel_rfl) (by kernel_rfl) (by kernel_rfl) (fun _ _ _ h => h) (Or.inl ⟨by rfl, ?hym14⟩) (by assumption) ?restm14
  case hym14 => intro w hSw; obtain ⟨z0, z1⟩ := hSw.pat.cells16; go_simp; try (with_reducible rfl)
  try simp only [Act.put, List.setIfInBounds_toArray, List.set_cons_zero, List.set_cons_succ]
  refine takeD16 (i := 15) (v := ?vm15) (d := some 36) rfl rfl (by kernel_rfl) (by kernel_rfl) (by kernel_rfl) (fun _ _ _ h => h) (Or.inl ⟨by rfl, ?hym15⟩) (by assumption) ?restm15
  case hym15 => intro w hSw; go_simp; try (with_reducible rfl)
  try simp only [Act.put, List.setIfInBounds_toArray, List.set_cons_zero, List.set_cons_succ]
  refine takeD16 (i := 16) (v := ?vm16) (d := some 37) rfl rfl (by kernel_rfl) (by kernel_rfl) (by kernel_rfl) (fun _ _ _ h => h) (Or.inl ⟨by rfl, ?hym16⟩) (by assumption) ?restm16
  case hym16 => intro w hSw; go_simp; try (with_reducible rfl)
  try simp only [Act.put, List.setIfInBounds_toArray, List.set_cons_zero, List.set_cons_succ]
  refine takeD16 (i := 17) (v := ?vm17) (d := some 38) rfl rfl (by kernel_rfl) (by kernel_rfl) (by kernel_rfl) (fun _ _ _ h => h) (Or.inl ⟨by rfl, ?hym17⟩) (by assumption) ?restm17
  case hym17 => intro w hSw; go_simp; try (with_reducible rfl)
  try simp only [Act.put, List.setIfInBounds_toArray, List.set_cons_zero, List.set_cons_succ]
  refine takeD16 (i := 18) (v := ?vm18) (d := some 39) rfl rfl (by kernel_rfl) (by kernel_rfl) (by kernel_rfl) (fun _ _ _ h => h) (Or.inl ⟨by rfl, ?hym18⟩) (by assumption) ?restm18
  case hym18 => intro w hSw; go_simp; try (with_reducible rfl)
  try simp only [Act.put, List.setIfInBounds_toArray, List.set_cons_zero, List.set_cons_succ]
  refine takeD16 (i := 19) (v := ?vm19) (d := some 40) rfl rfl (by kernel_rfl) (by kernel_rfl) (by kernel_rfl) (fun _ _ _ h => h) (Or.inl ⟨by rfl, ?hym19⟩) (by assumption) ?restm19
  case hym19 => intro w hSw; go_simp; try (with_reducible rfl)
  try simp only [Act.put, List.setIfInBounds_toArray, List.set_cons_zero, List.set_cons_succ]
  refine takeD16 (i := 20) (v := ?vm20) (d := some 41) rfl rfl (by kernel_rfl) (by kernel_rfl) (by kernel_rfl) (fun _ _ _ h => h) (Or.inl ⟨by rfl, ?hym20⟩) (by assumption) ?restm20
  case hym20 => intro w hSw; obtain ⟨z0, z1⟩ := hSw.pat.cells16; go_simp; try (with_reducible rfl)
  try simp only [Act.put, List.setIfInBounds_toArray, List.set_cons_zero, List.set_cons_succ]
  refine takeD16 (i := 21) (v := ?vm21) (d := some 42) rfl rfl (by kernel_rfl) (by kernel_rfl) (by kernel_rfl) (fun _ _ _ h => h) (Or.inl ⟨by rfl, ?hym21⟩) (by assumption) ?restm21
  case hym21 => intro w hSw; go_simp; try (with_reducible rfl)
  try simp only [Act.put, List.setIfInBounds_toArray, List.set_cons_zero, List.set_cons_succ]
  refine takeD16 (i := 22) (v := ?vm22) (d := some 43) rfl rfl (by kernel_rfl) (by kernel_rfl) (by kernel_rfl) (fun _ _ _ h => h) (Or.inl ⟨by rfl, ?hym22⟩) (by assumption) ?restm22
  case hym22 => intro w hSw; obtain ⟨y0, y1, y2, y3⟩ := hSw.ip.cellsIn; go_simp; try (with_reducible rfl)
  try simp only [Act.put, List.setIfInBounds_toArray, List.set_cons_zero, List.set_cons_succ]
  refine takeD16 (i := 23) (v := ?vm23) (d := some 44) rfl rfl (by kernel_rfl) (by kernel_rfl) (by kernel_rfl) (fun _ _ _ h => h) (Or.inl ⟨by rfl, ?hym23⟩) (by assumption) ?restm23
  case hym23 => intro w hSw; obtain ⟨y0, y1, y2, y3⟩ := hSw.ec.cells; go_simp; try (with_reducible rfl)
  try simp only [Act.put, List.setIfInBounds_toArray, List.set_cons_zero, List.set_cons_succ]
  refine takeD16 (i := 24) (v := ?vm24) (d := some 45) rfl rfl (by kernel_rfl) (by kernel_rfl) (by kernel_rfl) (fun _ _ _ h => h) (Or.inl ⟨by rfl, ?hym24⟩) (by assumption) ?restm24
  case hym24 => intro w hSw; go_simp; try (with_reducible rfl)
  try simp only [Act.put, List.setIfInBounds_toArray, List.set_cons_zero, List.set_cons_succ]
  refine takeD16 (i := 25) (v := ?vm25) (d := some 46) rfl rfl (by kernel_rfl) (by kernel_rfl) (by kernel_rfl) (fun _ _ _ h => h) (Or.inl ⟨by rfl, ?hym25⟩) (by assumption) ?restm25
  case hym25 => intro w hSw; go_simp; try (with_reducible rfl)
  try simp only [Act.put, List.setIfInBounds_toArray, List.set_cons_zero, List.set_cons_succ]
  refine takeD16 (i := 26) (v := ?vm26) (d := some 47) rfl rfl (by kernel_rfl) (by kernel_rfl) (by kernel_rfl) (fun _ _ _ h => h) (Or.inl ⟨by rfl, ?hym26⟩) (by assumption) ?restm26
  case hym26 => intro w hSw; go_simp; try (with_reducible rfl)
  try simp only [Act.put, List.setIfInBounds_toArray, List.set_cons_zero, List.set_cons_succ]
  refine takeD16 (i := 27) (v := ?vm27) (d := some 48) rfl rfl (by kernel_rfl) (by kernel_rfl) (by kernel_rfl) (fun _ _ _ h => h) (Or.inl ⟨by rfl, ?hym27⟩) (by assumption) ?restm27
  case hym27 => intro w hSw; go_simp; try (with_reducible rfl)
  try simp only [Act.put, List.setIfInBounds_toArray, List.set_cons_zero, List.set_cons_succ]
  refine takeD16 (i := 28) (v := ?vm28) (d := some 49) rfl rfl (by kernel_rfl) (by kernel_rfl) (by kernel_rfl) (fun _ _ _ h => h) (Or.inl ⟨by rfl, ?hym28⟩) (by assumption) ?restm28
  case hym28 => intro w hSw; go_simp; try (with_reducible rfl)
  try simp only [Act.put, List.setIfInBounds_toArray, List.set_cons_zero, List.set_cons_succ]
  refine takeD16 (i := 29) (v := ?vm29) (d := some 50) rfl rfl (by kernel_rfl) (by kernel_rfl) (by kernel_rfl) (fun _ _ _ h => h) (Or.inl ⟨by rfl, ?hym29⟩) (by assumption) ?restm29
  case hym29 => intro w hSw; go_simp; try (with_reducible rfl)
  try simp only [Act.put, List.setIfInBounds_toArray, List.set_cons_zero, List.set_cons_succ]
  refine takeD16 (i := 30) (v := ?vm30) (d := some 51) rfl rfl (by kernel_rfl) (by kernel_rfl) (by kernel_rfl) (fun _ _ _ h => h) (Or.inl ⟨by rfl, ?hym30⟩) (by assumption) ?restm30
  case hym30 => intro w hSw; go_simp; try (with_reducible rfl)
  try simp only [Act.put, List.setIfInBounds_toArray, List.set_cons_zero, List.set_cons_succ]
  refine takeD16 (i := 31) (v := ?vm31) (d := some 52) rfl rfl (by kernel_rfl) (by kernel_rfl) (by kernel_rfl) (fun _ _ _ h => h) (Or.inl ⟨by rfl, ?hym31⟩) (by assumption) ?restm31
  case hym31 => intro w hSw; go_simp; try (with_reducible rfl)
  try simp only [Act.put, List.setIfInBounds_toArray, List.set_cons_zero, List.set_cons_succ]
  refine takeD16 (i := 32) (v := ?vm32) (d := some 53) rfl rfl (by kernel_rfl) (by kernel_rfl) (by kernel_rfl) (fun _ _ _ h => h) (Or.inl ⟨by rfl, ?hym32⟩) (by assumption) ?restm32
  case hym32 => intro w hSw; go_simp; try (with_reducible rfl)
  try simp only [Act.put, List.setIfInBounds_toArray, List.set_cons_zero, List.set_cons_succ]
  refine takeD16 (i := 33) (v := ?vm33) (d := some 54) rfl rfl (by kernel_rfl) (by kernel_rfl) (by kernel_rfl) (fun _ _ _ h => h) (Or.inl ⟨by rfl, ?hym33⟩) (by assumption) ?restm33
  case hym33 => intro w hSw; go_simp; try (with_reducible rfl)
  try simp only [Act.put, List.setIfInBounds_toArray, List.set_cons_zero, List.set_cons_succ]
  refine takeD16 (i := 34) (v := ?vm34) (d := some 55) rfl rfl (by kernel_rfl) (by kernel_rfl) (by kernel_rfl) (fun _ _ _ h => h) (Or.inl ⟨by rfl, ?hym34⟩) (by assumption) ?restm34
  case hym34 => intro w hSw; obtain ⟨y0, y1, y2, y3⟩ := hSw.i0.cellsIn; go_simp; try (with_reducible rfl)
  try simp only [Act.put, List.setIfInBounds_toArray, List.set_cons_zero, List.set_cons_succ]
  refine takeD16 (i := 35) (v := ?vm35) (d := some 56) rfl rfl (by kernel_rfl) (by kernel_rfl) (by kernel_rfl) (fun _ _ _ h => h) (Or.inl ⟨by rfl, ?hym35⟩) (by assumption) ?restm35
  case hym35 => intro w hSw; obtain ⟨y0, y1, y2, y3⟩ := hSw.eb.cells; go_simp; try (with_reducible rfl)
  try simp only [Act.put, List.setIfInBounds_toArray, List.set_cons_zero, List.set_cons_succ]
  refine takeD16 (i := 36) (v := ?vm36) (d := some 57) rfl rfl (by kernel_rfl) (by kernel_rfl) (by kernel_rfl) (fun _ _ _ h => h) (Or.inl ⟨by rfl, ?hym36⟩) (by assumption) ?restm36
  case hym36 => intro w hSw; go_simp; try (with_reducible rfl)
  try simp only [Act.put, List.setIfInBounds_toArray, List.set_cons_zero, List.set_cons_succ]
  refine takeD16 (i := 37) (v := ?vm37) (d := some 58) rfl rfl (by kernel_rfl) (by kernel_rfl) (by kernel_rfl) (fun _ _ _ h => h) (Or.inl ⟨by rfl, ?hym37⟩) (by assumption) ?restm37
  case hym37 => intro w hSw; go_simp; try (with_reducible rfl)
  try simp only [Act.put, List.setIfInBounds_toArray, List.set_cons_zero, List.set_cons_succ]
  refine takeD16 (i := 38) (v := ?vm38) (d := some 59) rfl rfl (by kernel_rfl) (by kernel_rfl) (by kernel_rfl) (fun _ _ _ h => h) (Or.inl ⟨by rfl, ?hym38⟩) (by assumption) ?restm38
  case hym38 => intro w hSw; go_simp; try (with_reducible rfl)
  try simp only [Act.put, List.setIfInBounds_toArray, List.set_cons_zero, List.set_cons_succ]
  refine takeD16 (i := 39) (v := ?vm39) (d := some 60) rfl rfl (by kernel_rfl) (by kernel_rfl) (by kernel_rfl) (fun _ _ _ h => h) (Or.inl ⟨by rfl, ?hym39⟩) (by assumption) ?restm39
  case hym39 => intro w hSw; go_simp; try (with_reducible rfl)
  try simp only [Act.put, List.setIfInBounds_toArray, List.set_cons_zero, List.set_cons_succ]
  refine takeD16 (i := 40) (v := ?vm40) (d := some 61) rfl rfl (by kernel_rfl) (by kernel_rfl) (by kernel_rfl) (fun _ _ _ h => h) (Or.inl ⟨by rfl, ?hym40⟩) (by assumption) ?restm40
  case hym40 => intro w hSw; go_simp; try (with_reducible rfl)
  try simp only [Act.put, List.setIfInBounds_toArray, List.set_cons_zero, List.set_cons_succ]
  refine takeD16 (i := 41) (v := ?vm41) (d := some 62) rfl rfl (by kernel_rfl) (by kernel_rfl) (by kernel_rfl) (fun _ _ _ h => h) (Or.inl ⟨by rfl, ?hym41⟩) (by assumption) ?restm41
  case hym41 => intro w hSw; obtain ⟨y0, y1, y2, y3⟩ := hSw.i1.cellsIn; have x1 : w.cell? ⟨b2, o2 + 5, none⟩ = _ := y1; have x2 : w.cell? ⟨b2, o2 + 6, none⟩ = _ := y2; have x3 : w.cell? ⟨b2, o2 + 7, none⟩ = _ := y3; go_simp; try (with_reducible rfl)
  try simp only [Act.put, List.setIfInBounds_toArray, List.set_cons_zero, List.set_cons_succ]
  refine takeD16 (i := 42) (v := ?vm42) (d := some 63) rfl rfl (by kernel_rfl) (by kernel_rfl) (by kernel_rfl) (fun _ _ _ h => h) (Or.inl ⟨by rfl, ?hym42⟩) (by assumption) ?restm42
  case hym42 => intro w hSw; obtain ⟨y0, y1, y2, y3⟩ := hSw.ec.cells; go_simp; try (with_reducible rfl)
  try simp only [Act.put, List.setIfInBounds_toArray, List.set_cons_zero, List.set_cons_succ]
  refine takeD16 (i := 43) (v := ?vm43) (d := some 64) rfl rfl (by kernel_rfl) (by kernel_rfl) (by kernel_rfl) (fun _ _ _ h => h) (Or.inl ⟨by rfl, ?hym43⟩) (by assumption) ?restm43
  case hym43 => intro w hSw; go_simp; try (with_reducible rfl)
  try simp only [Act.put, List.setIfInBounds_toArray, List.set_cons_zero, List.set_cons_succ]
  refine takeD16 (i := 44) (v := ?vm44) (d := some 65) rfl rfl (by kernel_rfl) (by kernel_rfl) (by kernel_rfl) (fun _ _ _ h => h) (Or.inl ⟨by rfl, ?hym44⟩) (by assumption) ?restm44
  case hym44 => intro w hSw; go_simp; try (with_reducible rfl)
  try simp only [Act.put, List.setIfInBounds_toArray, List.set_cons_zero, List.set_cons_succ]
  refine takeD16 (i := 45) (v := ?vm45) (d := some 66) rfl rfl (by kernel_rfl) (by kernel_rfl) (by kernel_rfl) (fun _ _ _ h => h) (Or.inl ⟨by rfl, ?hym45⟩) (by assumption) ?restm45
  case hym45 => intro w hSw; go_simp; try (with_reducible rfl)
  try simp only [Act.put, List.setIfInBounds_toArray, List.set_cons_zero, List.set_cons_succ]
  refine takeD16 (i := 46) (v := ?vm46) (d := some 67) rfl rfl (by kernel_rfl) (by kernel_rfl) (by kernel_rfl) (fun _ _ _ h => h) (Or.inl ⟨by rfl, ?hym46⟩) (by assumption) ?restm46
  case hym46 => intro w hSw; obtain ⟨z0, z1⟩ := hSw.pat.cells16; go_simp; try (with_reducible rfl)
  try simp only [Act.put, List.setIfInBounds_toArray, List.set_cons_zero, List.set_cons_succ]
  refine anyH_abs16 (F := fun z => Below w2.heap.size w2 z ∧ Aw16 z g gp bd od bp op b2 o2 dc pc) ⟨(Below.refl w2.heap.size w2).drew, HAW.out.on ((Below.refl w2.heap.size w2).drew)⟩ (fun wq hzq => ?_)
  have HDR := Lib.hid hzq.1
  replace HAW := Lib.hid hzq.2
  clear hzq hHeld
  refine wpAnyH_ready (rs := [47, 48]) (by kernel_rfl) (by simp) ?_
  refine AllReadyH.cons rfl (fun K hK => ?_) (AllReadyH.cons rfl (fun K hK => ?_) AllReadyH.nil)
  · skip
    go_simp
    go_at_call 21
    refine (E.hostsOf (some ⟨bd, od, none⟩) (some ⟨bp, op, none⟩) dc pc 1 1 2 [aw16e 97] [aw16e 99] [[97], [99]] _ (earg16_below GD.out HDR.out) (earg16_below GP.out HDR.out) (by decide) rfl).mono ?_
    rintro e w3 ⟨B5, c5, rfl, hc5, hs5, hx5⟩
    have HB3 := Lib.hid (bthen HDR.out hx5)
    have HA3 := Lib.hid (HAW.out.on hx5)
    have HS5 := Lib.hid hs5
    clear hx5 hs5
    refine hK.out _ _ HA3.out (fun hHeld => ?_)
    clear hK K
    try simp only [Act.put, List.setIfInBounds_toArray, List.set_cons_zero, List.set_cons_succ]
    refine wpAnyH_ready (rs := [48]) (by kernel_rfl) (by simp) ?_
    refine AllReadyH.cons rfl (fun K hK => ?_) AllReadyH.nil
    obtain ⟨g3, hg3⟩ : ∃ g, w3.heap.size = g := ⟨_, rfl⟩
    go_simp
    try rw [hg3]
    have hu := up w3 (.cells #[.string ⟨#[97]⟩, .string ⟨#[99]⟩] 9)
    refine hK.out _ _ (HA3.out.on hu) (fun hHeld => ?_)
    clear hK K
    try simp only [Act.put, List.setIfInBounds_toArray, List.set_cons_zero, List.set_cons_succ]
    refine anyH_abs16 (F := fun z => Below w2.heap.size w2 z ∧ Aw16 z g gp bd od bp op b2 o2 dc pc ∧ Seen eS z B5 [[97], [99]] ∧ Seen eS z (some ⟨g3, 0, none⟩) [[97], [99]]) ⟨bthen HB3.out hu, HA3.out.on hu, HS5.out.below hu, by rw [← hg3]; exact lit_seen eS w3 [[97], [99]] _ rfl (by simp)⟩ (fun z hz => ?_)
    clear hu hg3 hHeld HB3 HA3 HS5
    obtain ⟨hBz, hAz, hs5, hs6⟩ := hz
    have HBZ := Lib.hid hBz
    have HAZ := Lib.hid hAz
    have HS5 := Lib.hid hs5
    have HS6 := Lib.hid hs6
    clear hBz hAz hs5 hs6
    refine wpAnyH_ready (rs := [49]) (by kernel_rfl) (by simp) ?_
    refine AllReadyH.cons rfl (fun K hK => ?_) AllReadyH.nil
    go_simp
    go_at_call 20
    refine (equal_yes B5 (some ⟨g3, 0, none⟩) c5 2 [[97], [99]] [[97], [99]] 2 2 _ rfl rfl rfl (by omega) HS5.out HS6.out).mono ?_
    rintro e z5 ⟨rfl, hx⟩
    have HB5 := Lib.hid (bthen HBZ.out hx)
    have HA5 := Lib.hid (HAZ.out.on hx)
    clear hx
    refine hK.out _ _ HA5.out (fun hHeld => ?_)
    clear hK K
    try simp only [Act.put, List.setIfInBounds_toArray, List.set_cons_zero, List.set_cons_succ]
    refine takeD16 (i := 50) (v := ?vr50) (d := some 71) rfl rfl (by kernel_rfl) (by kernel_rfl) (by kernel_rfl) (fun _ _ _ h => h) (Or.inl ⟨by rfl, ?hyr50⟩) (by assumption) ?restr50
    case hyr50 => intro w hSw; go_simp; try (with_reducible rfl)
    try simp only [Act.put, List.setIfInBounds_toArray, List.set_cons_zero, List.set_cons_succ]
    refine takeD16 (i := 51) (v := ?vr51) (d := some 72) rfl rfl (by kernel_rfl) (by kernel_rfl) (by kernel_rfl) (fun _ _ _ h => h) (Or.inl ⟨by rfl, ?hyr51⟩) (by assumption) ?restr51
    case hyr51 => intro w hSw; go_simp; try (with_reducible rfl)
    try simp only [Act.put, List.setIfInBounds_toArray, List.set_cons_zero, List.set_cons_succ]
    refine takeD16 (i := 52) (v := ?vr52) (d := some 73) rfl rfl (by kernel_rfl) (by kernel_rfl) (by kernel_rfl) (fun _ _ _ h => h) (Or.inl ⟨by rfl, ?hyr52⟩) (by assumption) ?restr52
    case hyr52 => intro w hSw; obtain ⟨z0, z1⟩ := hSw.pat.cells16; go_simp; try (with_reducible rfl)
    try simp only [Act.put, List.setIfInBounds_toArray, List.set_cons_zero, List.set_cons_succ]
    refine wpAnyH_ready (rs := [53]) (by kernel_rfl) (by simp) ?_
    refine AllReadyH.cons rfl (fun K hK => ?_) AllReadyH.nil
    go_simp
    go_at_call 14
    refine (E.onlyOf (some ⟨bd, od, none⟩) (some ⟨bp, op, none⟩) dc pc 1 1 1 0 [aw16e 97] [aw16e 99] [aw16e 97] [] [97] _ (earg16_below GD.out HB5.out) (earg16_below GP.out HB5.out) (by decide) (by decide) (by decide) rfl rfl).mono ?_
    rintro e z6 ⟨X, xc, Y, yc, rfl, _, _, _, _, hx⟩
    have HB6 := Lib.hid (bthen HB5.out hx)
    have HA6 := Lib.hid (HA5.out.on hx)
    clear hx
    refine hK.out _ _ HA6.out (fun hHeld => ?_)
    clear hK K
    try simp only [Act.put, List.setIfInBounds_toArray, List.set_cons_zero, List.set_cons_succ]
    refine takeD16 (i := 54) (v := .slice X 1 xc) (d := some 75) rfl rfl (by kernel_rfl) (by kernel_rfl) (by kernel_rfl) (fun _ _ _ h => h) (Or.inl ⟨by rfl, ?hyr54⟩) (by assumption) ?restr54
    case hyr54 => intro w hSw; go_simp; rfl
    try simp only [Act.put, List.setIfInBounds_toArray, List.set_cons_zero, List.set_cons_succ]
    refine takeD16 (i := 55) (v := ?vr55) (d := some 76) rfl rfl (by kernel_rfl) (by kernel_rfl) (by kernel_rfl) (fun _ _ _ h => h) (Or.inl ⟨by rfl, ?hyr55⟩) (by assumption) ?restr55
    case hyr55 => intro w hSw; go_simp; try (with_reducible rfl)
    try simp only [Act.put, List.setIfInBounds_toArray, List.set_cons_zero, List.set_cons_succ]
    refine takeD16 (i := 56) (v := ?vr56) (d := some 77) rfl rfl (by kernel_rfl) (by kernel_rfl) (by kernel_rfl) (fun _ _ _ h => h) (Or.inl ⟨by rfl, ?hyr56⟩) (by assumption) ?restr56
    case hyr56 => intro w hSw; go_simp; try (with_reducible rfl)
    try simp only [Act.put, List.setIfInBounds_toArray, List.set_cons_zero, List.set_cons_succ]
    refine takeD16 (i := 57) (v := ?vr57) (d := some 78) rfl rfl (by kernel_rfl) (by kernel_rfl) (by kernel_rfl) (fun _ _ _ h => h) (Or.inl ⟨by rfl, ?hyr57⟩) (by assumption) ?restr57
    case hyr57 => intro w hSw; go_simp; try (with_reducible rfl)
    try simp only [Act.put, List.setIfInBounds_toArray, List.set_cons_zero, List.set_cons_succ]
    refine takeD16 (i := 58) (v := ?vr58) (d := some 0) rfl rfl (by kernel_rfl) (by kernel_rfl) (by kernel_rfl) (fun _ _ _ h => h) (Or.inl ⟨by rfl, ?hyr58⟩) (by assumption) ?restr58
    case hyr58 => intro w hSw; go_simp; try (with_reducible rfl)
    try simp only [Act.put, List.setIfInBounds_toArray, List.set_cons_zero, List.set_cons_succ]
    refine wpAnyH_done (by kernel_rfl) ?_ _
    go_wp2
    go_ret
    exact ⟨rfl, bthen HB.out HB6.out⟩
  · skip
    obtain ⟨g3, hg3⟩ : ∃ g, wq.heap.size = g := ⟨_, rfl⟩
    go_simp
    try rw [hg3]
    have hu := bthen HDR.out (up wq (.cells #[.string ⟨#[97]⟩, .string ⟨#[99]⟩] 9))
    have HS6 := Lib.hid (show Seen eS (wq.alloc (.cells #[.string ⟨#[97]⟩, .string ⟨#[99]⟩] 9)) (some ⟨g3, 0, none⟩) [[97], [99]] by rw [← hg3]; exact lit_seen eS wq [[97], [99]] _ rfl (by simp))
    have hA3 := HAW.out.on (up wq (.cells #[.string ⟨#[97]⟩, .string ⟨#[99]⟩] 9))
    refine hK.out _ _ hA3 (fun hHeld => ?_)
    clear hK K
    try simp only [Act.put, List.setIfInBounds_toArray, List.set_cons_zero, List.set_cons_succ]
    refine anyH_abs16 (F := fun z => Below w2.heap.size w2 z ∧ Aw16 z g gp bd od bp op b2 o2 dc pc ∧ Seen eS z (some ⟨g3, 0, none⟩) [[97], [99]]) ⟨hu, hA3, HS6.out⟩ (fun z3 hz3 => ?_)
    clear hu hA3 hHeld HS6 hg3
    obtain ⟨hu, hA3, hs6⟩ := hz3
    have HB3 := Lib.hid hu
    have HA3 := Lib.hid hA3
    have HS6 := Lib.hid hs6
    clear hu hA3 hs6
    refine wpAnyH_ready (rs := [47]) (by kernel_rfl) (by simp) ?_
    refine AllReadyH.cons rfl (fun K hK => ?_) AllReadyH.nil
    go_simp
    go_at_call 21
    refine (E.hostsOf (some ⟨bd, od, none⟩) (some ⟨bp, op, none⟩) dc pc 1 1 2 [aw16e 97] [aw16e 99] [[97], [99]] _ (earg16_below GD.out HB3.out) (earg16_below GP.out HB3.out) (by decide) rfl).mono ?_
    rintro e z4 ⟨B5, c5, rfl, hc5, hs5, hx5⟩
    have HB4 := Lib.hid (bthen HB3.out hx5)
    have HA4 := Lib.hid (HA3.out.on hx5)
    replace HS6 := Lib.hid (HS6.out.below hx5)
    have HS5 := Lib.hid hs5
    clear hx5 hs5
    refine hK.out _ _ HA4.out (fun hHeld => ?_)
    clear hK K
    try simp only [Act.put, List.setIfInBounds_toArray, List.set_cons_zero, List.set_cons_succ]
    refine anyH_abs16 (F := fun z => Below w2.heap.size w2 z ∧ Aw16 z g gp bd od bp op b2 o2 dc pc ∧ Seen eS z B5 [[97], [99]] ∧ Seen eS z (some ⟨g3, 0, none⟩) [[97], [99]]) ⟨HB4.out, HA4.out, HS5.out, HS6.out⟩ (fun z hz => ?_)
    clear hHeld HB3 HA3 HB4 HA4 HS5 HS6
    obtain ⟨hBz, hAz, hs5, hs6⟩ := hz
    have HBZ := Lib.hid hBz
    have HAZ := Lib.hid hAz
    have HS5 := Lib.hid hs5
    have HS6 := Lib.hid hs6
    clear hBz hAz hs5 hs6
    refine wpAnyH_ready (rs := [49]) (by kernel_rfl) (by simp) ?_
    refine AllReadyH.cons rfl (fun K hK => ?_) AllReadyH.nil
    go_simp
    go_at_call 20
    refine (equal_yes B5 (some ⟨g3, 0, none⟩) c5 2 [[97], [99]] [[97], [99]] 2 2 _ rfl rfl rfl (by omega) HS5.out HS6.out).mono ?_
    rintro e z5 ⟨rfl, hx⟩
    have HB5 := Lib.hid (bthen HBZ.out hx)
    have HA5 := Lib.hid (HAZ.out.on hx)
    clear hx
    refine hK.out _ _ HA5.out (fun hHeld => ?_)
    clear hK K
    try simp only [Act.put, List.setIfInBounds_toArray, List.set_cons_zero, List.set_cons_succ]
    refine takeD16 (i := 50) (v := ?vs50) (d := some 71) rfl rfl (by kernel_rfl) (by kernel_rfl) (by kernel_rfl) (fun _ _ _ h => h) (Or.inl ⟨by rfl, ?hys50⟩) (by assumption) ?rests50
    case hys50 => intro w hSw; go_simp; try (with_reducible rfl)
    try simp only [Act.put, List.setIfInBounds_toArray, List.set_cons_zero, List.set_cons_succ]
    refine takeD16 (i := 51) (v := ?vs51) (d := some 72) rfl rfl (by kernel_rfl) (by kernel_rfl) (by kernel_rfl) (fun _ _ _ h => h) (Or.inl ⟨by rfl, ?hys51⟩) (by assumption) ?rests51
    case hys51 => intro w hSw; go_simp; try (with_reducible rfl)
    try simp only [Act.put, List.setIfInBounds_toArray, List.set_cons_zero, List.set_cons_succ]
    refine takeD16 (i := 52) (v := ?vs52) (d := some 73) rfl rfl (by kernel_rfl) (by kernel_rfl) (by kernel_rfl) (fun _ _ _ h => h) (Or.inl ⟨by rfl, ?hys52⟩) (by assumption) ?rests52
    case hys52 => intro w hSw; obtain ⟨z0, z1⟩ := hSw.pat.cells16; go_simp; try (with_reducible rfl)
    try simp only [Act.put, List.setIfInBounds_toArray, List.set_cons_zero, List.set_cons_succ]
    refine wpAnyH_ready (rs := [53]) (by kernel_rfl) (by simp) ?_
    refine AllReadyH.cons rfl (fun K hK => ?_) AllReadyH.nil
    go_simp
    go_at_call 14
    refine (E.onlyOf (some ⟨bd, od, none⟩) (some ⟨bp, op, none⟩) dc pc 1 1 1 0 [aw16e 97] [aw16e 99] [aw16e 97] [] [97] _ (earg16_below GD.out HB5.out) (earg16_below GP.out HB5.out) (by decide) (by decide) (by decide) rfl rfl).mono ?_
    rintro e z6 ⟨X, xc, Y, yc, rfl, _, _, _, _, hx⟩
    have HB6 := Lib.hid (bthen HB5.out hx)
    have HA6 := Lib.hid (HA5.out.on hx)
    clear hx
    refine hK.out _ _ HA6.out (fun hHeld => ?_)
    clear hK K
    try simp only [Act.put, List.setIfInBounds_toArray, List.set_cons_zero, List.set_cons_succ]
    refine takeD16 (i := 54) (v := .slice X 1 xc) (d := some 75) rfl rfl (by kernel_rfl) (by kernel_rfl) (by kernel_rfl) (fun _ _ _ h => h) (Or.inl ⟨by rfl, ?hys54⟩) (by assumption) ?rests54
    case hys54 => intro w hSw; go_simp; rfl
    try simp only [Act.put, List.setIfInBounds_toArray, List.set_cons_zero, List.set_cons_succ]
    refine takeD16 (i := 55) (v := ?vs55) (d := some 76) rfl rfl (by kernel_rfl) (by kernel_rfl) (by kernel_rfl) (fun _ _ _ h => h) (Or.inl ⟨by rfl, ?hys55⟩) (by assumption) ?rests55
    case hys55 => intro w hSw; go_simp; try (with_reducible rfl)
    try simp only [Act.put, List.setIfInBounds_toArray, List.set_cons_zero, List.set_cons_succ]
    refine takeD16 (i := 56) (v := ?vs56) (d := some 77) rfl rfl (by kernel_rfl) (by kernel_rfl) (by kernel_rfl) (fun _ _ _ h => h) (Or.inl ⟨by rfl, ?hys56⟩) (by assumption) ?rests56
    case hys56 => intro w hSw; go_simp; try (with_reducible rfl)
    try simp only [Act.put, List.setIfInBounds_toArray, List.set_cons_zero, List.set_cons_succ]
    refine takeD16 (i := 57) (v := ?vs57) (d := some 78) rfl rfl (by kernel_rfl) (by kernel_rfl) (by kernel_rfl) (fun _ _ _ h => h) (Or.inl ⟨by rfl, ?hys57⟩) (by assumption) ?rests57
    case hys57 => intro w hSw; go_simp; try (with_reducible rfl)
    try simp only [Act.put, List.setIfInBounds_toArray, List.set_cons_zero, List.set_cons_succ]
    refine takeD16 (i := 58) (v := ?vs58) (d := some 0) rfl rfl (by kernel_rfl) (by kernel_rfl) (by kernel_rfl) (fun _ _ _ h => h) (Or.inl ⟨by rfl, ?hys58⟩) (by assumption) ?rests58
    case hys58 => intro w hSw; go_simp; try (with_reducible rfl)
    try simp only [Act.put, List.setIfInBounds_toArray, List.set_cons_zero, List.set_cons_succ]
    refine wpAnyH_done (by kernel_rfl) ?_ _
    go_wp2
    go_ret
    exact ⟨rfl, bthen HB.out HB6.out⟩
end Go.Proofs.Ytpkhnchbamjgjaa

namespace Go.Proofs.Ytpkhnchbamjgjaa.H
set_option linter.unusedVariables false
open T (Pth RightN RightT isIn underW Ln pathL entries)
open C (Wd wHosts wVnis wBindings wRoutes wPolicy wIp wMac wHost wVni wVia wMetric wAction wFrom wTo pths checkP faultsP knownP kidsP meantP thirdK key mem_pths)

-- HOW MANY THERE ARE
-- THE ORDER
def Low (x y : En) : Prop := aheadE y x = false
/-- Without those that stand right behind their like. -/
def sqE : List En → List En
  | [] => []
  | [x] => [x]
  | x :: y :: l => if x = y then sqE (y :: l) else x :: sqE (y :: l)
theorem mem_sqE {x : En} : ∀ {l : List En}, x ∈ sqE l ↔ x ∈ l
  | [] => Iff.rfl
  | [y] => Iff.rfl
  | y :: z :: l => by
    unfold sqE
    split
    · next e =>
      subst e
      rw [mem_sqE (l := y :: l), List.mem_cons (l := y :: l)]
      exact ⟨.inr, fun h => h.elim (fun e => e ▸ List.mem_cons_self) id⟩
    · rw [List.mem_cons, List.mem_cons (l := z :: l), mem_sqE (l := z :: l)]
theorem sort_sqE : ∀ {l : List En}, l.Pairwise Low → SortE (sqE l)
  | [], _ => List.Pairwise.nil
  | [y], _ => List.pairwise_singleton _ _
  | y :: z :: l, h => by
    unfold sqE
    have h2 := List.Pairwise.of_cons h
    split
    · exact sort_sqE h2
    · next ne =>
      refine List.Pairwise.cons (fun a ha => ?_) (sort_sqE h2)
      have ha := mem_sqE.1 ha
      have hyz : aheadE y z = true := by
        have h1 : aheadE z y = false := (List.pairwise_cons.1 h).1 z List.mem_cons_self
        rcases ahead_tri y z with k | k | k
        · exact k
        · exact absurd k ne
        · rw [h1] at k; cases k
      rcases List.mem_cons.1 ha with rfl | ha
      · exact hyz
      · have h3 : aheadE a z = false := (List.pairwise_cons.1 h2).1 a ha
        rcases ahead_tri z a with k | k | k
        · exact ahead_trans hyz k
        · exact k ▸ hyz
        · rw [h3] at k; cases k
/-- In order, and squeezed: each once, in order. -/
theorem sq_set {l s : List En} (hp : s.Perm l) (ho : s.Pairwise Low) : sqE s = setE l := set_ext (sort_sqE ho) fun x => mem_sqE.trans hp.mem_iff
theorem sqE_next : ∀ (s : List En) (x y : En), sqE (s ++ [x, y]) = if x = y then sqE (s ++ [x]) else sqE (s ++ [x]) ++ [y]
  | [], x, y => by
    show sqE [x, y] = if x = y then [x] else [x, y]
    unfold sqE
    split
    · next e => rw [e]; rfl
    · rfl
  | [a], x, y => by
    have ih := sqE_next [] x y
    simp only [List.nil_append] at ih
    show sqE (a :: x :: [y]) = if x = y then sqE (a :: [x]) else sqE (a :: [x]) ++ [y]
    rw [sqE, ih]
    rw [show sqE [a, x] = if a = x then [x] else [a, x] by unfold sqE; rfl]
    split <;> split <;> rfl
  | a :: b :: s, x, y => by
    have ih := sqE_next (b :: s) x y
    simp only [List.cons_append] at ih ⊢
    rw [sqE, ih, show sqE (a :: b :: (s ++ [x])) = if a = b then sqE (b :: (s ++ [x])) else a :: sqE (b :: (s ++ [x])) by rw [sqE]]
    split <;> split <;> rfl
theorem sqE_step (l : List En) (k j : Nat) (p q : En) (hk : k = j + 1) (hp : l[k]? = some p) (hq : l[j]? = some q) :
    (decide (p = q) = false → sqE (l.take (k + 1)) = sqE (l.take k) ++ [p]) ∧ l.take k ++ [p] = l.take (k + 1) ∧ (decide (p = q) = true → sqE (l.take (k + 1)) = sqE (l.take k)) := by
  subst hk
  obtain ⟨h1, rfl⟩ := List.getElem?_eq_some_iff.1 hp
  obtain ⟨h2, rfl⟩ := List.getElem?_eq_some_iff.1 hq
  have e1 := List.take_succ_eq_append_getElem h1
  have e2 := List.take_succ_eq_append_getElem h2
  have key := sqE_next (l.take j) l[j] l[j + 1]
  rw [show l.take j ++ [l[j], l[j + 1]] = l.take (j + 1 + 1) by rw [e1, e2, List.append_assoc]; rfl, ← e2] at key
  refine ⟨fun e => ?_, e1.symm, fun e => ?_⟩
  · rw [key, if_neg (fun h => of_decide_eq_false e h.symm)]
  · rw [key, if_pos (of_decide_eq_true e).symm]
end Go.Proofs.Ytpkhnchbamjgjaa.H

namespace Go.Proofs.Ytpkhnchbamjgjaa
open Go.Shelf Go.RowKit
set_option linter.unusedVariables false

def renSortE : Go.Shelf.Ren := ⟨fun | 6 => 33 | 14 => 41 | 15 => 40 | 20 => 56 | 21 => 57 | 22 => 58 | 23 => 59 | 24 => 60 | 25 => 61 | 26 => 62 | 27 => 63 | 28 => 54 | 29 => 55 | 46 => 72 | 47 => 67 | 48 => 68 | 49 => 73 | 50 => 74 | 57 => 77 | n => n, fun | 0 => 0 | 3 => 3 | 4 => 4 | 5 => 5 | 9 => 9 | 22 => 22 | 24 => 44 | 25 => 60 | 39 => 68 | 45 => 74 | 46 => 75 | 50 => 61 | 53 => 82 | 55 => 84 | 66 => 92 | 70 => 96 | 76 => 101 | 77 => 102 | n => n, fun n => n⟩
theorem laysSortE : Go.Proofs.SlLaysF0.n6 Try.prog renSortE := {
  mixed := by kernel_rfl
  f6 := ⟨Try.f33.name, by decide, Try.func33.trans (congrArg some (by kernel_rfl))⟩
  f14 := ⟨Try.f41.name, by decide, Try.func41.trans (congrArg some (by kernel_rfl))⟩
  f15 := Try.func40.trans (congrArg some (by kernel_rfl))
  f20 := ⟨Try.f56.name, by decide, Try.func56.trans (congrArg some (by kernel_rfl))⟩
  f21 := ⟨Try.f57.name, by decide, Try.func57.trans (congrArg some (by kernel_rfl))⟩
  f22 := ⟨Try.f58.name, by decide, Try.func58.trans (congrArg some (by kernel_rfl))⟩
  f23 := ⟨Try.f59.name, by decide, Try.func59.trans (congrArg some (by kernel_rfl))⟩
  f24 := ⟨Try.f60.name, by decide, Try.func60.trans (congrArg some (by kernel_rfl))⟩
  f25 := ⟨Try.f61.name, by decide, Try.func61.trans (congrArg some (by kernel_rfl))⟩
  f26 := ⟨Try.f62.name, by decide, Try.func62.trans (congrArg some (by kernel_rfl))⟩
  f27 := ⟨Try.f63.name, by decide, Try.func63.trans (congrArg some (by kernel_rfl))⟩
  f28 := Try.func54.trans (congrArg some (by kernel_rfl))
  f29 := Try.func55.trans (congrArg some (by kernel_rfl))
  f46 := ⟨Try.f72.name, by decide, Try.func72.trans (congrArg some (by kernel_rfl))⟩
  f47 := Try.func67.trans (congrArg some (by kernel_rfl))
  f48 := Try.func68.trans (congrArg some (by kernel_rfl))
  f49 := ⟨Try.f73.name, by decide, Try.func73.trans (congrArg some (by kernel_rfl))⟩
  f50 := ⟨Try.f74.name, by decide, Try.func74.trans (congrArg some (by kernel_rfl))⟩
  f57 := ⟨Try.f77.name, by decide, Try.func77.trans (congrArg some (by kernel_rfl))⟩
  t0 := Try.underlying0
  a0 := Try.isAgg0
  z0 := Try.sizeOf0
  v0 := Try.zeroValue0
  t3 := Try.underlying3
  a3 := Try.isAgg3
  z3 := Try.sizeOf3
  v3 := Try.zeroValue3
  t4 := Try.underlying4
  a4 := Try.isAgg4
  z4 := Try.sizeOf4
  v4 := Try.zeroValue4
  t5 := Try.underlying5
  a5 := Try.isAgg5
  z5 := Try.sizeOf5
  v5 := Try.zeroValue5
  t9 := Try.underlying9
  a9 := Try.isAgg9
  z9 := Try.sizeOf9
  v9 := Try.zeroValue9
  t22 := Try.underlying22
  a22 := Try.isAgg22
  z22 := Try.sizeOf22
  v22 := Try.zeroValue22
  t25 := Try.underlying60
  a25 := Try.isAgg60
  z25 := Try.sizeOf60
  v25 := Try.zeroValue60
  t39 := Try.underlying68
  a39 := Try.isAgg68
  z39 := Try.sizeOf68
  v39 := Try.zeroValue68
  t45 := Try.underlying74
  a45 := Try.isAgg74
  z45 := Try.sizeOf74
  v45 := Try.zeroValue74
  t46 := Try.underlying75
  a46 := Try.isAgg75
  z46 := Try.sizeOf75
  v46 := Try.zeroValue75
  t50 := Try.underlying61
  a50 := Try.isAgg61
  z50 := Try.sizeOf61
  v50 := Try.zeroValue61
  t53 := Try.underlying82
  a53 := Try.isAgg82
  z53 := Try.sizeOf82
  v53 := Try.zeroValue82
  t55 := Try.underlying84
  a55 := Try.isAgg84
  z55 := Try.sizeOf84
  v55 := Try.zeroValue84
  t66 := Try.underlying92
  a66 := Try.isAgg92
  z66 := Try.sizeOf92
  v66 := Try.zeroValue92
  t70 := Try.underlying96
  a70 := Try.isAgg96
  z70 := Try.sizeOf96
  v70 := Try.zeroValue96
  t76 := Try.underlying101
  a76 := Try.isAgg101
  z76 := Try.sizeOf101
  v76 := Try.zeroValue101
  t77 := Try.underlying102
  a77 := Try.isAgg102
  z77 := Try.sizeOf102
  v77 := Try.zeroValue102 }
end Go.Proofs.Ytpkhnchbamjgjaa

namespace Go.Proofs.Ytpkhnchbamjgjaa
open Go.RowKit
theorem ltH (x y : H.En) : ltOf H.cmpE x y = H.aheadE x y := by
  unfold ltOf H.cmpE
  cases h : H.aheadE x y with
  | true => simp
  | false =>
    cases k : H.aheadE y x with
    | true => simp
    | false => simp
theorem swoH : Go.Sort.SWO (ltOf H.cmpE) where
  irrefl x := by rw [ltH]; exact H.ahead_irr _
  trans x y z h1 h2 := by rw [ltH] at *; exact H.ahead_trans h1 h2
  ntrans x y z h1 h2 := by
    rw [ltH] at *
    cases h : H.aheadE x z with
    | false => rfl
    | true =>
      rcases H.ahead_tri x y with h3 | h3 | h3
      · rw [h1] at h3; cases h3
      · rw [← h3, h] at h2; cases h2
      · rcases H.ahead_tri y z with h4 | h4 | h4
        · rw [h2] at h4; cases h4
        · rw [h4] at h3; rw [H.ahead_asymm h3] at h; cases h
        · have := H.ahead_trans h4 h3; rw [H.ahead_asymm this] at h; cases h
/-- Nothing below is turned, and no draw is taken back. -/
def GrewD (w w' : World) : Prop := Below w.heap.size w w' ∧ w.drawn ≤ w'.drawn
theorem GrewD.grow {w w' : World} (h : GrewD w w') : ∃ n os, w' = Go.Sort.grow (w.drewN n) os := by
  obtain ⟨⟨h1, h2, h3, h4, h5⟩, h6⟩ := h
  refine ⟨w'.drawn - w.drawn, w'.heap.extract w.heap.size w'.heap.size, ?_⟩
  obtain ⟨hp, tp, dr, os, ot⟩ := w'
  obtain ⟨hp0, tp0, dr0, os0, ot0⟩ := w
  simp only at h1 h2 h3 h4 h5 h6
  subst h1; subst h2; subst h3
  unfold Go.Sort.grow World.drewN
  simp only [World.mk.injEq, true_and, and_true]
  refine ⟨?_, by omega⟩
  apply Array.ext_getElem?
  intro i
  by_cases hi : i < hp0.size
  · rw [Array.getElem?_append_left hi, h5 i hi]
  · rw [Array.getElem?_append_right (by omega), Array.getElem?_extract]
    by_cases hk : i < hp.size
    · rw [if_pos (by omega)]; congr 1; omega
    · rw [if_neg (by omega), Array.getElem?_eq_none (by omega)]
section
variable {α : Type} [Inhabited α]
theorem sortE_below (enc : α → List Value) (k : Nat) (w : World) (blk off m : Nat) (dk : Array α) (os : Array Obj) (g : Nat) (hg : g ≤ blk) (hb : blk < w.heap.size) : Below g w (sortWorldK enc k w blk off m dk os) := by
  refine ⟨rfl, rfl, rfl, size_sortWorldK_c enc k w blk off m dk os, fun c hc => ?_⟩
  unfold sortWorldK
  rw [Go.Sort.heap_grow_old _ _ (by rw [Go.Sort.size_putRowK]; show c < w.heap.size; omega)]
  show (w.heap.modify blk _)[c]? = _
  rw [Array.getElem?_modify, if_neg (by omega)]
end
/-- The entries l lie in the block g, and may be written over. -/
structure RowE (w : World) (g : Nat) (l : List H.En) : Prop where
  lt : g < w.heap.size
  cells : Holds eEc w g 0 l
  thaw : ∀ j, w.frozen? ⟨g, j, none⟩ = false
theorem RowE.keep {w w1 : World} {B g : Nat} {l : List H.En} (h : RowE w g l) (hb : Below B w w1) (hg : g < B) : RowE w1 g l :=
  ⟨Nat.lt_of_lt_of_le h.lt hb.size, fun i hi j u hu => (hb.cell (p := ⟨g, 0 + i * eEc.sz + j, none⟩) hg).trans (h.cells i hi j u hu), fun j => by
    have := h.thaw j
    unfold World.frozen? at this ⊢
    rw [show w1.heap[(⟨g, j, none⟩ : Addr).block]? = w.heap[(⟨g, j, none⟩ : Addr).block]? from hb.block g hg]
    exact this⟩
theorem RowE.own {w : World} {base g n cap : Nat} {l : List H.En} (h : Own eEc w base (.slice (some ⟨g, 0, none⟩) n cap) l) (hl : 0 < l.length) : RowE w g l := by
  obtain ⟨b, e, h1, h2, h3⟩ := h.block hl
  injection e with e
  injection e with e
  subst e
  exact ⟨h2, h3, fun j => (h.frozenNo j).1⟩
theorem RowE.seen {w : World} {g : Nat} {l : List H.En} (h : RowE w g l) : Seen eEc w (some ⟨g, 0, none⟩) l := fun _ => ⟨g, 0, rfl, h.lt, h.cells⟩
/-- The entries in a block, in order. -/
theorem sortE_any (f : Nat) (hf : ∀ args w, (callFunc f args).run Try.prog w = .ok (.enter f args) w) (HC : ∀ (x y : H.En) (w : World), Calls Try.prog f #[enV x, enV y] w (fun e w' => e = .returned (.int .i64 (H.cmpE x y)) ∧ GrewD w w'))
    (g n cap : Nat) (l : List H.En) (w : World) (hn : l.length = n) (h0 : 0 < n) (hO : RowE w g l) (hl : n ≤ 1073741824) :
    Calls Try.prog 33 #[.slice (some ⟨g, 0, none⟩) n cap, .func (.func f) #[] #[]] w (fun e w' => e = .returned (.tuple #[]) ∧ ∃ s, s.Perm l ∧ s.Pairwise H.Low ∧ RowE w' g s ∧ Below g w w') := by
  haveI : Inhabited H.En := ⟨⟨[], 0, [], []⟩⟩
  obtain ⟨d, hd⟩ : ∃ d : Array H.En, d = l.toArray := ⟨_, rfl⟩
  have hsz : d.size = n := by rw [hd]; exact hn
  have hgetb : ∀ i (h : i < l.length), d[i]! = l[i] := fun i h => by rw [getElem!_pos d i (by omega)]; subst hd; simp
  have hHK : Go.Sort.HoldsK enC 4 w g 0 d := by
    intro j hj
    rw [Go.Sort.size_flatK, hsz] at hj
    refine ⟨?_, by rw [Nat.zero_add]; exact hO.thaw j⟩
    rw [Go.Sort.get_flatK _ _ _ _ (by rw [hsz]; exact hj)]
    have hi : j / 4 < l.length := by omega
    have hj2 : j % 4 < 4 := Nat.mod_lt _ (by decide)
    have := hO.cells (j / 4) hi (j % 4) ((enC l[j / 4])[j % 4]'(by show j % 4 < 4; exact hj2)) (List.getElem?_eq_getElem _)
    rw [show 0 + j / 4 * eEc.sz + j % 4 = 0 + j by show 0 + j / 4 * 4 + j % 4 = 0 + j; omega] at this
    rw [this, hgetb _ hi, getElem!_pos _ _ (by show j % 4 < 4; exact hj2)]
    rfl
  have hcmp : CmpLays Try.prog f #[] enC 4 H.cmpE g 0 d.size w := by
    intro m os dk _ x y
    exact (HC x y _).mono fun e w' ⟨he, hg⟩ => ⟨he, hg.grow⟩
  have hcon := AnyQ.slices_SortFunc (P := Try.prog) (ρ := renSortE) laysSortE 4 Try.isAgg44 Try.sizeOf44 enC (fun x => rfl) enC_one H.cmpE swoH f #[] g 0 cap d w hf hcmp hHK hO.lt (by omega)
  rw [hsz] at hcon
  refine hcon.mono ?_
  rintro e w' ⟨he, d', m, os, hp, hs, rfl⟩
  have hsz' : d'.size = n := by rw [hp.1, hsz]
  have ext : ∀ (x : Array H.En), x.size = n → (x.extract 0 n).toList = x.toList := fun x hx => by rw [← hx]; simp
  have hperm : d'.toList.Perm d.toList := by
    have := hp.2.2
    rwa [ext d' hsz', ext d hsz] at this
  have hHK' := holdsK_sortWorldK_c enC 4 w g 0 d d' m os hHK hO.lt (by omega)
  have hws := size_sortWorldK_c enC 4 w g 0 m d' os
  have hl' : d'.toList.length = n := (Array.length_toList (xs := d')).trans hsz'
  refine ⟨he, d'.toList, by rw [hd] at hperm; exact hperm, ?_, ⟨by have := hO.lt; omega, fun i hi j u hu => ?_, fun j => ?_⟩, sortE_below _ _ _ _ _ _ _ _ g (Nat.le_refl _) hO.lt⟩
  · rw [List.pairwise_iff_getElem]
    intro i j hi hj hij
    rw [Array.length_toList] at hi hj
    have := hs i j (Nat.zero_le _) hij (by omega)
    rw [ltH, getElem!_pos d' i hi, getElem!_pos d' j hj] at this
    exact this
  · have hi2 : i < d'.size := by simpa using hi
    have hj : j < 4 := (List.getElem?_eq_some_iff.1 hu).1
    show (sortWorldK enC 4 w g 0 m d' os).cell? ⟨g, 0 + i * 4 + j, none⟩ = some u
    rw [(Go.Sort.HoldsK.cell hHK' hi2 hj).1, getElem!_pos d' i hi2]
    have hu : (enC d'[i])[j]? = some u := hu
    rw [List.getElem?_eq_getElem (by show j < 4; exact hj)] at hu
    rw [getElem!_pos _ _ (by show j < 4; exact hj)]
    exact hu
  · show (Go.Sort.grow (Go.Sort.putRowK enC 4 (Go.Sort.ahead w m) g 0 d') os).frozen? ⟨g, j, none⟩ = false
    rw [Go.Sort.frozen?_grow _ _ _ (by rw [Go.Sort.size_putRowK]; exact hO.lt)]
    unfold Go.Sort.putRowK
    rw [Go.Sort.frozen?_putRow]
    exact hO.thaw j
end Go.Proofs.Ytpkhnchbamjgjaa

namespace Go.Proofs.Ytpkhnchbamjgjaa
open Go.Shelf Go.RowKit
set_option linter.unusedVariables false

def ren106 : Go.Shelf.Ren := ⟨fun | 106 => 43 | 213 => 64 | 265 => 75 | n => n, fun | 3 => 3 | 9 => 9 | n => n, fun  n => n⟩
set_option maxRecDepth 100000 in
theorem lays106 : Go.Proofs.Lays.n106 Try.prog ren106 := {
  mixed := by kernel_rfl
  f106 := Try.func43.trans (congrArg some (by kernel_rfl))
  f213 := Try.func64.trans (congrArg some (by kernel_rfl))
  f265 := Try.func75.trans (congrArg some (by kernel_rfl))
  t3 := Try.underlying3
  a3 := Try.isAgg3
  z3 := Try.sizeOf3
  v3 := Try.zeroValue3
  t9 := Try.underlying9
  a9 := Try.isAgg9
  z9 := Try.sizeOf9
  v9 := Try.zeroValue9 }
theorem cmpW_is : ∀ a b : List UInt8, Lib.compareBytes a b = cmpW a b
  | [], [] => rfl
  | [], _ :: _ => rfl
  | _ :: _, [] => rfl
  | x :: a, y :: b => by
    have ih := cmpW_is a b
    unfold Lib.compareBytes
    unfold cmpW at ih ⊢
    unfold Op.bytesLess
    by_cases h1 : x < y
    · simp [h1]
    · by_cases h2 : y < x
      · have hne : ¬ x = y := fun e => by subst e; exact h1 h2
        simp [h1, h2, hne]
      · have e : x = y := UInt8.le_antisymm (UInt8.not_lt.1 h2) (UInt8.not_lt.1 h1)
        subst e
        simp only [h1, if_false, ih]
        simp
theorem strCmp (a b : List UInt8) (r : Int) (w : World) (h : cmpW a b = r) : Calls Try.prog 43 #[.string (sB a), .string (sB b)] w (fun e w' => e = .returned (.int .i64 r) ∧ w' = w) := by
  subst h
  rw [← cmpW_is]
  exact Any.strings_Compare (P := Try.prog) (ρ := ren106) lays106 (sB a) (sB b) w
end Go.Proofs.Ytpkhnchbamjgjaa
