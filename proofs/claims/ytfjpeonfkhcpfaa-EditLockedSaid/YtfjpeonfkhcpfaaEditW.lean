/-
  Turn, kinds 4 and 5 (layer 7): a part renamed, a part copied; and Turn as a whole.
-/
import Derived.Test.YtfjpeonfkhcpfaaEditV
namespace Go.Proofs.Ytfjpeonfkhcpfaa
open Go.RowKit
set_option linter.unusedVariables false

/-- What a part that moves finds. -/
theorem move_pre {t : List T.Ln} (h : T.RightT t) {a : Nat} (ha : a < t.length) {w : List UInt8} (hno : ¬ thereT t ((T.pathL t a).dropLast ++ [w])) :
    T.RightN 200 (T.cutL t a) ∧ T.Open (T.cutL t a) (T.pathL t a).dropLast ∧ (∀ i, i < (T.cutL t a).length → T.pathL (T.cutL t a) i ≠ (T.pathL t a).dropLast ++ [w]) ∧ (T.cutL t a).length + (T.partE t a).length ≤ 200 := by
  have hl := T.part_len ha
  obtain ⟨g1, g2, _⟩ := T.end_spec t a ha
  obtain ⟨c1, c2⟩ := h.cut_entries ha
  have hcl := T.cut_len t a ha
  have h200 := h.len
  refine ⟨c1, ?_, ?_, by omega⟩
  · rcases T.path_up h ha with h0 | ⟨i, hi, e⟩
    · exact .inl h0
    · refine .inr ?_
      obtain ⟨k, hk, ek, _⟩ := (T.mem_entries _ _ _).1 ((c2 ((T.pathL t a).dropLast, (T.at_ t i).mark)).2 ⟨(T.mem_entries t _ _).2 ⟨i, hi, e, rfl⟩, fun hp => by
        have := congrArg List.length hp
        have hne := List.length_pos_iff.2 (T.path_ne (t := t) (i := a))
        rw [List.length_take, List.length_dropLast] at this
        omega⟩)
      exact ⟨k, hk, ek⟩
  · intro i hi e
    obtain ⟨h1, _⟩ := (c2 _).1 ((T.mem_entries _ _ _).2 ⟨i, hi, e, rfl⟩)
    obtain ⟨k, hk, ek, _⟩ := (T.mem_entries t _ _).1 h1
    exact hno ⟨k, hk, ek⟩
theorem sub_two {t : List T.Ln} (h : T.RightT t) {a : Nat} (ha : a < t.length) : ∀ k, 0 < k → k < (T.subL t a).length → 2 ≤ (T.pathL (T.subL t a) k).length := by
  intro k hk hkl
  have h1 := (h.sub a ha).path_len k k (Nat.le_refl _) hkl
  have hl := T.sub_len t a ha
  have h2 := T.sub_at t a k ha (by omega)
  have h3 : T.dp (T.subL t a) k = T.dp t (a + k) - T.dp t a := by unfold T.dp at h2 ⊢; rw [h2]
  obtain ⟨_, _, h4, _⟩ := T.end_spec t a ha
  have := h4 (a + k) (by omega) (by omega)
  omega
/-- The document's put, of a part of the same tree. -/
theorem put_sub (vt : Value) (t u : List T.Ln) (b o q d : Nat) (p : T.Pth) (wd : List UInt8) (As : Option Addr) (cs a nl : Nat) (w : World)
    (hT : VecE w vt u) (hb : b < w.heap.size) (hB : Holds eS w b o p) (hm : p.length = q + 1) (hd : q + 1 ≤ d) (hS : Seen eL w As (T.subL t a)) (hnl : (T.subL t a).length = nl) (hR : T.RightT t) (ha : a < t.length) (hpa : T.pathL t a = p)
    (hw : wd.length ≤ 40) (hu : T.RightN 200 u) (hop : T.Open u p.dropLast) (hno : ∀ i, i < u.length → T.pathL u i ≠ p.dropLast ++ [wd]) (hNl : u.length + (T.partE t a).length ≤ 200) :
    Calls Try.prog 51 #[vt, .slice (some ⟨b, o, none⟩) (q + 1) d, .string (sB wd), .slice As nl cs] w (VecS eL w (T.putAll (p.dropLast ++ [wd]) u (T.partE t a))) := by
  obtain ⟨g1, g2, _⟩ := T.end_spec t a ha
  have hpl := T.part_len ha
  have hsl := T.sub_len t a ha
  have hq16 : q ≤ 15 := by
    have h1 := hR.path_len a a (Nat.le_refl _) ha
    have h2 := hR.deep a ha
    rw [hpa, hm] at h1
    omega
  have e : p.dropLast = p.take q := by rw [List.dropLast_eq_take, hm]; rfl
  have hOk := hR.part_ok ha (base := p.dropLast ++ [wd]) (by rw [← hpa]; exact T.newP_len T.path_ne wd)
  rw [e] at hop hno hOk ⊢
  exact refPut7_any (N := 200) (by omega) vt u b o q d p wd As cs nl (T.subL t a) (T.partE t a) w hT hb hB hm hd hq16 hS (hR.sub a ha) hnl (by omega) (by omega) (fun k hk => hR.part_sub ha hk) (sub_two hR ha) hu hw hop hno hOk hNl
theorem subN (A : Option Addr) (c n a nl : Nat) (t : List T.Ln) (w : World) (hn : t.length = n) (hA : Seen eL w A t) (hl : n ≤ 1073741824) (ha : a < n) (hR : T.RightT t) (hnl : (T.subL t a).length = nl) :
    Calls Try.prog 50 #[.slice A n c, .int .i64 (a : Int)] w (fun e w' => ∃ A2 c2, e = .returned (.slice A2 nl c2) ∧ Seen eL w' A2 (T.subL t a) ∧ Below w.heap.size w w') := by
  subst hn; subst hnl
  refine (refSub_any A c t a w hA hl ha hR).mono ?_
  rintro e w1 ⟨A2, c2, rfl, _, h1, h2⟩
  exact ⟨A2, c2, rfl, h1, h2⟩
theorem withN (b o q d : Nat) (p : T.Pth) (wd : List UInt8) (w : World) (hb : b < w.heap.size) (hB : Holds eS w b o p) (hm : p.length = q + 1) (hd : q + 1 ≤ d) (hq : q ≤ 1073741823) :
    Calls Try.prog 23 #[.slice (some ⟨b, o, none⟩) q d, .string (sB wd)] w (fun e w' => ∃ B2 c2, e = .returned (.slice B2 (q + 1) c2) ∧ q + 1 ≤ c2 ∧ Seen eS w' B2 (p.dropLast ++ [wd]) ∧ Below w.heap.size w w') := by
  have e : p.dropLast = p.take q := by rw [List.dropLast_eq_take, hm]; rfl
  have hl : (p.take q).length = q := by rw [List.length_take]; omega
  rw [e]
  refine (with_any _ (p.take q) wd w (.inr ⟨b, o, d, by rw [hl], by rw [hl]; omega, hb, hB.take q⟩) (by rw [hl]; omega)).mono ?_
  rintro e w1 ⟨v, rfl, hv, hx⟩
  obtain ⟨A, c, rfl, hcap, hs⟩ := hv.seen
  rw [List.length_append, hl] at hcap
  exact ⟨A, c, by rw [List.length_append, hl]; rfl, hcap, hs, hx⟩

set_option maxRecDepth 100000 in
set_option maxHeartbeats 4000000 in
theorem turn_4_shut (A B : Option Addr) (c d n q a : Nat) (t v : List T.Ln) (p : T.Pth) (bit er : Int) (wd : List UInt8) (w : World) (hn : t.length = n) (hm : p.length = q + 1) (hA : Seen eL w A t) (hB : Seen eS w B p) (hl : n ≤ 1073741824) (hnc : n ≤ c) (hd : q + 1 ≤ d) (hp : q + 1 ≤ 1073741824) (hR : T.RightT t) (ha : a < n) (hpa : T.pathL t a = p) (h40 : wd.length ≤ 40) (hs : shutL t p a = true) :
    Calls Try.prog 32 #[.slice A n c, .int .i64 4, .slice B (q + 1) d, .int .i64 bit, .string (sB wd)] w (RefAddS w t 12) := by
  obtain ⟨kp, hk⟩ : ∃ kp, T.keptL t p q = kp := ⟨_, rfl⟩
  have HS := Lib.hid hs
  have hsz4 := sB_size wd
  have b4 : decide ((40 : Int) < ((sB wd).size : Int)) = false := decide_eq_false (by rw [hsz4]; omega)
  clear hsz4
  obtain ⟨bb, bo, rfl, hbb, hBH⟩ := hB (by omega)
  have HBH := Lib.hid hBH
  have hB := hBH.seen hbb
  have b0 : (((q : Int) + 1) == 0) = false := beq_eq_false_iff_ne.2 (by omega)
  have ba : decide ((a : Int) < 0) = false := decide_eq_false (by omega)
  have HA := Lib.hid hA
  have HB := Lib.hid hB
  have HN := Lib.hid hn
  have HM := Lib.hid hm
  have HR := Lib.hid hR
  have HPA := Lib.hid hpa
  clear hs
  have HK := Lib.hid hk
  clear hA hB hm hn hR hpa
  clear hk hBH h40
  go_enter Try.func32, Try.ntmps32
  go_wp2_with fail
  refine (rightN_is A c n t true _ HN.out HA.out hl (yes_iff HR.out)).mono ?_
  rintro e w1 ⟨rfl, hb1⟩
  go_wp2_with fail
  refine (findN_at A (some ⟨bb, bo, none⟩) c d n (q + 1) a t p _ HN.out HM.out (HA.out.below hb1) (HB.out.below hb1) hl hp HR.out (by rw [HN.out]; exact ha) HPA.out).mono ?_
  rintro e w2 ⟨rfl, hb2⟩
  have hbn2 := bthen hb1 hb2
  go_wp2_with fail
  refine (keptN A (some ⟨bb, bo, none⟩) c d n (q + 1) q t p _ kp HN.out HM.out (HA.out.below hbn2) (HB.out.below hbn2) hl (by omega) hd hp HR.out HK.out).mono ?_
  rintro e w3 ⟨rfl, hb3⟩
  have hbn := bthen hbn2 hb3
  clear hb1 hb2 hb3 hbn2
  go_wp2_with fail
  refine (shutN A (some ⟨bb, bo, none⟩) c d n (q + 1) a t p _ true HN.out HM.out (HA.out.below hbn) (HB.out.below hbn) hl ha hd hp HR.out HS.out).mono ?_
  rintro e w4 ⟨rfl, hb4⟩
  replace hbn := bthen hbn hb4
  clear hb4
  go_wp2
  go_ret2
  exact ⟨A, c, by rw [HN.out]; rfl, HA.out.below hbn, hbn⟩

set_option maxRecDepth 100000 in
set_option maxHeartbeats 4000000 in
theorem turn_4_there (A B : Option Addr) (c d n q a : Nat) (t v : List T.Ln) (p : T.Pth) (bit er : Int) (wd : List UInt8) (w : World) (hn : t.length = n) (hm : p.length = q + 1) (hA : Seen eL w A t) (hB : Seen eS w B p) (hl : n ≤ 1073741824) (hnc : n ≤ c) (hd : q + 1 ≤ d) (hp : q + 1 ≤ 1073741824) (hR : T.RightT t) (ha : a < n) (hpa : T.pathL t a = p) (h40 : wd.length ≤ 40) (hs : shutL t p a = false) (ht : thereT t (p.dropLast ++ [wd])) :
    Calls Try.prog 32 #[.slice A n c, .int .i64 4, .slice B (q + 1) d, .int .i64 bit, .string (sB wd)] w (RefAddS w t 4) := by
  obtain ⟨kp, hk⟩ : ∃ kp, T.keptL t p q = kp := ⟨_, rfl⟩
  have HS := Lib.hid hs
  have HT := Lib.hid ht
  have HBL := Lib.hid (show (p.dropLast ++ [wd]).length = q + 1 by rw [List.length_append, List.length_dropLast, hm]; rfl)
  have hsz4 := sB_size wd
  have b4 : decide ((40 : Int) < ((sB wd).size : Int)) = false := decide_eq_false (by rw [hsz4]; omega)
  clear hsz4
  obtain ⟨bb, bo, rfl, hbb, hBH⟩ := hB (by omega)
  have HBH := Lib.hid hBH
  have hB := hBH.seen hbb
  have b0 : (((q : Int) + 1) == 0) = false := beq_eq_false_iff_ne.2 (by omega)
  have ba : decide ((a : Int) < 0) = false := decide_eq_false (by omega)
  have HA := Lib.hid hA
  have HB := Lib.hid hB
  have HN := Lib.hid hn
  have HM := Lib.hid hm
  have HR := Lib.hid hR
  have HPA := Lib.hid hpa
  clear hs ht
  have HK := Lib.hid hk
  clear hA hB hm hn hR hpa
  clear hk hBH h40
  go_enter Try.func32, Try.ntmps32
  go_wp2_with fail
  refine (rightN_is A c n t true _ HN.out HA.out hl (yes_iff HR.out)).mono ?_
  rintro e w1 ⟨rfl, hb1⟩
  go_wp2_with fail
  refine (findN_at A (some ⟨bb, bo, none⟩) c d n (q + 1) a t p _ HN.out HM.out (HA.out.below hb1) (HB.out.below hb1) hl hp HR.out (by rw [HN.out]; exact ha) HPA.out).mono ?_
  rintro e w2 ⟨rfl, hb2⟩
  have hbn2 := bthen hb1 hb2
  go_wp2_with fail
  refine (keptN A (some ⟨bb, bo, none⟩) c d n (q + 1) q t p _ kp HN.out HM.out (HA.out.below hbn2) (HB.out.below hbn2) hl (by omega) hd hp HR.out HK.out).mono ?_
  rintro e w3 ⟨rfl, hb3⟩
  have hbn := bthen hbn2 hb3
  clear hb1 hb2 hb3 hbn2
  go_wp2_with fail
  refine (shutN A (some ⟨bb, bo, none⟩) c d n (q + 1) a t p _ false HN.out HM.out (HA.out.below hbn) (HB.out.below hbn) hl ha hd hp HR.out HS.out).mono ?_
  rintro e w4 ⟨rfl, hb4⟩
  replace hbn := bthen hbn hb4
  clear hb4
  have hdq : (q : Int) ≤ (d : Int) := by omega
  have hdq2 : q ≤ d := by omega
  go_wp2_with fail
  refine (withN bb bo q d p wd _ (Nat.lt_of_lt_of_le hbb hbn.size) (HBH.out.belowN hbn hbb) HM.out hd (by omega)).mono ?_
  rintro e w5 ⟨B5, c5, rfl, _, hs5, hb5⟩
  replace hbn := bthen hbn hb5
  clear hb5
  obtain ⟨i, hi, hpi⟩ := HT.out
  have bi : decide ((0 : Int) ≤ (i : Int)) = true := decide_eq_true (by omega)
  have HI := Lib.hid hi
  have HPI := Lib.hid hpi
  clear hi hpi
  go_wp2_with fail
  refine (findN_at A B5 c c5 n (q + 1) i t (p.dropLast ++ [wd]) _ HN.out HBL.out (HA.out.below hbn) hs5 hl hp HR.out HI.out HPI.out).mono ?_
  rintro e w6 ⟨rfl, hb6⟩
  replace hbn := bthen hbn hb6
  clear hb6 hs5
  go_wp2
  go_ret2
  exact ⟨A, c, by rw [HN.out]; rfl, HA.out.below hbn, hbn⟩

set_option maxRecDepth 100000 in
set_option maxHeartbeats 4000000 in
theorem turn_4_put (A B : Option Addr) (c d n q a : Nat) (t v : List T.Ln) (p : T.Pth) (bit er : Int) (wd : List UInt8) (w : World) (hn : t.length = n) (hm : p.length = q + 1) (hA : Seen eL w A t) (hB : Seen eS w B p) (hl : n ≤ 1073741824) (hnc : n ≤ c) (hd : q + 1 ≤ d) (hp : q + 1 ≤ 1073741824) (hR : T.RightT t) (ha : a < n) (hpa : T.pathL t a = p) (h40 : wd.length ≤ 40) (hs : shutL t p a = false) (ht : ¬ thereT t (p.dropLast ++ [wd])) :
    Calls Try.prog 32 #[.slice A n c, .int .i64 4, .slice B (q + 1) d, .int .i64 bit, .string (sB wd)] w (RefAddS w (T.putAll (p.dropLast ++ [wd]) (T.cutL t a) (T.partE t a)) 0) := by
  obtain ⟨kp, hk⟩ : ∃ kp, T.keptL t p q = kp := ⟨_, rfl⟩
  have HS := Lib.hid hs
  have HT := Lib.hid ht
  have H40 := Lib.hid h40
  have HPRE := Lib.hid (move_pre hR (show a < t.length by omega) (w := wd) (by rw [hpa]; exact ht))
  have HBL := Lib.hid (show (p.dropLast ++ [wd]).length = q + 1 by rw [List.length_append, List.length_dropLast, hm]; rfl)
  obtain ⟨nl, hnl⟩ : ∃ nl, (T.subL t a).length = nl := ⟨_, rfl⟩
  have HNL := Lib.hid hnl
  clear hnl
  have hsz4 := sB_size wd
  have b4 : decide ((40 : Int) < ((sB wd).size : Int)) = false := decide_eq_false (by rw [hsz4]; omega)
  clear hsz4
  obtain ⟨bb, bo, rfl, hbb, hBH⟩ := hB (by omega)
  have HBH := Lib.hid hBH
  have hB := hBH.seen hbb
  have b0 : (((q : Int) + 1) == 0) = false := beq_eq_false_iff_ne.2 (by omega)
  have ba : decide ((a : Int) < 0) = false := decide_eq_false (by omega)
  have HA := Lib.hid hA
  have HB := Lib.hid hB
  have HN := Lib.hid hn
  have HM := Lib.hid hm
  have HR := Lib.hid hR
  have HPA := Lib.hid hpa
  clear hs ht
  have HK := Lib.hid hk
  clear hA hB hm hn hR hpa
  clear hk hBH h40
  go_enter Try.func32, Try.ntmps32
  go_wp2_with fail
  refine (rightN_is A c n t true _ HN.out HA.out hl (yes_iff HR.out)).mono ?_
  rintro e w1 ⟨rfl, hb1⟩
  go_wp2_with fail
  refine (findN_at A (some ⟨bb, bo, none⟩) c d n (q + 1) a t p _ HN.out HM.out (HA.out.below hb1) (HB.out.below hb1) hl hp HR.out (by rw [HN.out]; exact ha) HPA.out).mono ?_
  rintro e w2 ⟨rfl, hb2⟩
  have hbn2 := bthen hb1 hb2
  go_wp2_with fail
  refine (keptN A (some ⟨bb, bo, none⟩) c d n (q + 1) q t p _ kp HN.out HM.out (HA.out.below hbn2) (HB.out.below hbn2) hl (by omega) hd hp HR.out HK.out).mono ?_
  rintro e w3 ⟨rfl, hb3⟩
  have hbn := bthen hbn2 hb3
  clear hb1 hb2 hb3 hbn2
  go_wp2_with fail
  refine (shutN A (some ⟨bb, bo, none⟩) c d n (q + 1) a t p _ false HN.out HM.out (HA.out.below hbn) (HB.out.below hbn) hl ha hd hp HR.out HS.out).mono ?_
  rintro e w4 ⟨rfl, hb4⟩
  replace hbn := bthen hbn hb4
  clear hb4
  have hdq : (q : Int) ≤ (d : Int) := by omega
  have hdq2 : q ≤ d := by omega
  go_wp2_with fail
  refine (withN bb bo q d p wd _ (Nat.lt_of_lt_of_le hbb hbn.size) (HBH.out.belowN hbn hbb) HM.out hd (by omega)).mono ?_
  rintro e w5 ⟨B5, c5, rfl, _, hs5, hb5⟩
  replace hbn := bthen hbn hb5
  clear hb5
  go_wp2_with fail
  refine (findN_no A B5 c c5 n (q + 1) t (p.dropLast ++ [wd]) _ HN.out HBL.out (HA.out.below hbn) hs5 hl hp HR.out HT.out).mono ?_
  rintro e w6 ⟨rfl, hb6⟩
  replace hbn := bthen hbn hb6
  clear hb6 hs5
  go_wp2_with fail
  refine (subN A c n a nl t _ HN.out (HA.out.below hbn) hl ha HR.out HNL.out).mono ?_
  rintro e w7 ⟨A7, c7, rfl, hs7, hb7⟩
  replace hbn := bthen hbn hb7
  clear hb7
  go_wp2_with fail
  refine (withoutN A c n a t _ HN.out (HA.out.below hbn) hnc hl ha).mono ?_
  rintro e w8 ⟨v8, rfl, hv8, hb8⟩
  obtain ⟨m1, m2, m3, m4⟩ := HPRE.out
  rw [HPA.out] at m2 m3
  have HV8 := Lib.hid hv8
  have HS8 := Lib.hid (hs7.below hb8)
  replace hbn := bthen hbn hb8
  have HM1 := Lib.hid m1
  have HM2 := Lib.hid m2
  have HM3 := Lib.hid m3
  have HM4 := Lib.hid m4
  clear hb8 hs7 hv8 m1 m2 m3 m4
  go_wp2_with fail
  refine (put_sub v8 t _ bb bo q d p wd A7 c7 a nl _ (.inl HV8.out) (Nat.lt_of_lt_of_le hbb hbn.size) (HBH.out.belowN hbn hbb) HM.out hd HS8.out HNL.out HR.out (by rw [HN.out]; exact ha) HPA.out H40.out HM1.out HM2.out HM3.out HM4.out).mono ?_
  rintro e w9 ⟨v9, rfl, hv9, hb9⟩
  obtain ⟨A9, c9, rfl, _, hs9⟩ := hv9.seen
  have HS9 := Lib.hid hs9
  replace hbn := bthen hbn hb9
  clear hb9 hv9 hs9
  go_wp2
  go_ret2
  exact ⟨A9, c9, rfl, HS9.out, hbn⟩

set_option maxRecDepth 100000 in
set_option maxHeartbeats 4000000 in
theorem turn_5_above (A B : Option Addr) (c d n q a : Nat) (t v : List T.Ln) (p : T.Pth) (bit er : Int) (wd : List UInt8) (w : World) (hn : t.length = n) (hm : p.length = q + 1) (hA : Seen eL w A t) (hB : Seen eS w B p) (hl : n ≤ 1073741824) (hnc : n ≤ c) (hd : q + 1 ≤ d) (hp : q + 1 ≤ 1073741824) (hR : T.RightT t) (ha : a < n) (hpa : T.pathL t a = p) (h40 : wd.length ≤ 40) (hk : T.keptL t p q = true) :
    Calls Try.prog 32 #[.slice A n c, .int .i64 5, .slice B (q + 1) d, .int .i64 bit, .string (sB wd)] w (RefAddS w t 12) := by
  have hsz4 := sB_size wd
  have b4 : decide ((40 : Int) < ((sB wd).size : Int)) = false := decide_eq_false (by rw [hsz4]; omega)
  clear hsz4
  obtain ⟨bb, bo, rfl, hbb, hBH⟩ := hB (by omega)
  have HBH := Lib.hid hBH
  have hB := hBH.seen hbb
  have b0 : (((q : Int) + 1) == 0) = false := beq_eq_false_iff_ne.2 (by omega)
  have ba : decide ((a : Int) < 0) = false := decide_eq_false (by omega)
  have HA := Lib.hid hA
  have HB := Lib.hid hB
  have HN := Lib.hid hn
  have HM := Lib.hid hm
  have HR := Lib.hid hR
  have HPA := Lib.hid hpa
  have HK := Lib.hid hk
  clear hA hB hm hn hR hpa
  clear hk hBH h40
  go_enter Try.func32, Try.ntmps32
  go_wp2_with fail
  refine (rightN_is A c n t true _ HN.out HA.out hl (yes_iff HR.out)).mono ?_
  rintro e w1 ⟨rfl, hb1⟩
  go_wp2_with fail
  refine (findN_at A (some ⟨bb, bo, none⟩) c d n (q + 1) a t p _ HN.out HM.out (HA.out.below hb1) (HB.out.below hb1) hl hp HR.out (by rw [HN.out]; exact ha) HPA.out).mono ?_
  rintro e w2 ⟨rfl, hb2⟩
  have hbn2 := bthen hb1 hb2
  go_wp2_with fail
  refine (keptN A (some ⟨bb, bo, none⟩) c d n (q + 1) q t p _ true HN.out HM.out (HA.out.below hbn2) (HB.out.below hbn2) hl (by omega) hd hp HR.out HK.out).mono ?_
  rintro e w3 ⟨rfl, hb3⟩
  have hbn := bthen hbn2 hb3
  clear hb1 hb2 hb3 hbn2
  go_wp2
  go_ret2
  exact ⟨A, c, by rw [HN.out]; rfl, HA.out.below hbn, hbn⟩

set_option maxRecDepth 100000 in
set_option maxHeartbeats 4000000 in
theorem turn_5_there (A B : Option Addr) (c d n q a : Nat) (t v : List T.Ln) (p : T.Pth) (bit er : Int) (wd : List UInt8) (w : World) (hn : t.length = n) (hm : p.length = q + 1) (hA : Seen eL w A t) (hB : Seen eS w B p) (hl : n ≤ 1073741824) (hnc : n ≤ c) (hd : q + 1 ≤ d) (hp : q + 1 ≤ 1073741824) (hR : T.RightT t) (ha : a < n) (hpa : T.pathL t a = p) (h40 : wd.length ≤ 40) (hk : T.keptL t p q = false) (ht : thereT t (p.dropLast ++ [wd])) :
    Calls Try.prog 32 #[.slice A n c, .int .i64 5, .slice B (q + 1) d, .int .i64 bit, .string (sB wd)] w (RefAddS w t 4) := by
  have HT := Lib.hid ht
  have HBL := Lib.hid (show (p.dropLast ++ [wd]).length = q + 1 by rw [List.length_append, List.length_dropLast, hm]; rfl)
  have hsz4 := sB_size wd
  have b4 : decide ((40 : Int) < ((sB wd).size : Int)) = false := decide_eq_false (by rw [hsz4]; omega)
  clear hsz4
  obtain ⟨bb, bo, rfl, hbb, hBH⟩ := hB (by omega)
  have HBH := Lib.hid hBH
  have hB := hBH.seen hbb
  have b0 : (((q : Int) + 1) == 0) = false := beq_eq_false_iff_ne.2 (by omega)
  have ba : decide ((a : Int) < 0) = false := decide_eq_false (by omega)
  have HA := Lib.hid hA
  have HB := Lib.hid hB
  have HN := Lib.hid hn
  have HM := Lib.hid hm
  have HR := Lib.hid hR
  have HPA := Lib.hid hpa
  clear ht
  have HK := Lib.hid hk
  clear hA hB hm hn hR hpa
  clear hk hBH h40
  go_enter Try.func32, Try.ntmps32
  go_wp2_with fail
  refine (rightN_is A c n t true _ HN.out HA.out hl (yes_iff HR.out)).mono ?_
  rintro e w1 ⟨rfl, hb1⟩
  go_wp2_with fail
  refine (findN_at A (some ⟨bb, bo, none⟩) c d n (q + 1) a t p _ HN.out HM.out (HA.out.below hb1) (HB.out.below hb1) hl hp HR.out (by rw [HN.out]; exact ha) HPA.out).mono ?_
  rintro e w2 ⟨rfl, hb2⟩
  have hbn2 := bthen hb1 hb2
  go_wp2_with fail
  refine (keptN A (some ⟨bb, bo, none⟩) c d n (q + 1) q t p _ false HN.out HM.out (HA.out.below hbn2) (HB.out.below hbn2) hl (by omega) hd hp HR.out HK.out).mono ?_
  rintro e w3 ⟨rfl, hb3⟩
  have hbn := bthen hbn2 hb3
  clear hb1 hb2 hb3 hbn2
  have hdq : (q : Int) ≤ (d : Int) := by omega
  have hdq2 : q ≤ d := by omega
  go_wp2_with fail
  refine (withN bb bo q d p wd _ (Nat.lt_of_lt_of_le hbb hbn.size) (HBH.out.belowN hbn hbb) HM.out hd (by omega)).mono ?_
  rintro e w5 ⟨B5, c5, rfl, _, hs5, hb5⟩
  replace hbn := bthen hbn hb5
  clear hb5
  obtain ⟨i, hi, hpi⟩ := HT.out
  have bi : decide ((0 : Int) ≤ (i : Int)) = true := decide_eq_true (by omega)
  have HI := Lib.hid hi
  have HPI := Lib.hid hpi
  clear hi hpi
  go_wp2_with fail
  refine (findN_at A B5 c c5 n (q + 1) i t (p.dropLast ++ [wd]) _ HN.out HBL.out (HA.out.below hbn) hs5 hl hp HR.out HI.out HPI.out).mono ?_
  rintro e w6 ⟨rfl, hb6⟩
  replace hbn := bthen hbn hb6
  clear hb6 hs5
  go_wp2
  go_ret2
  exact ⟨A, c, by rw [HN.out]; rfl, HA.out.below hbn, hbn⟩

set_option maxRecDepth 100000 in
set_option maxHeartbeats 4000000 in
theorem turn_5_long (A B : Option Addr) (c d n q a : Nat) (t v : List T.Ln) (p : T.Pth) (bit er : Int) (wd : List UInt8) (w : World) (hn : t.length = n) (hm : p.length = q + 1) (hA : Seen eL w A t) (hB : Seen eS w B p) (hl : n ≤ 1073741824) (hnc : n ≤ c) (hd : q + 1 ≤ d) (hp : q + 1 ≤ 1073741824) (hR : T.RightT t) (ha : a < n) (hpa : T.pathL t a = p) (h40 : wd.length ≤ 40) (hk : T.keptL t p q = false) (ht : ¬ thereT t (p.dropLast ++ [wd])) (h200 : 200 < t.length + (T.endL t a - a)) :
    Calls Try.prog 32 #[.slice A n c, .int .i64 5, .slice B (q + 1) d, .int .i64 bit, .string (sB wd)] w (RefAddS w t 5) := by
  have HT := Lib.hid ht
  have H40 := Lib.hid h40
  have hsl := T.sub_len t a (by omega)
  have hple := T.part_len (t := t) (a := a) (by omega)
  have hle := hR.len
  obtain ⟨_, hg2, _⟩ := T.end_spec t a (by omega)
  have HM4 := Lib.hid (show t.length + (T.partE t a).length = t.length + (T.endL t a - a) by rw [hple])
  have H200 := Lib.hid h200
  have hopn := T.path_up hR (show a < t.length by omega)
  rw [hpa] at hopn
  have HOPN := Lib.hid hopn
  have HBL := Lib.hid (show (p.dropLast ++ [wd]).length = q + 1 by rw [List.length_append, List.length_dropLast, hm]; rfl)
  obtain ⟨nl, hnl⟩ : ∃ nl, (T.subL t a).length = nl := ⟨_, rfl⟩
  have HNL := Lib.hid hnl
  have hnl2 : nl ≤ 200 := by omega
  have b200 : decide ((200 : Int) < (n : Int) + (nl : Int)) = true := decide_eq_true (by omega)
  clear hnl hsl hple hopn hg2
  have hsz4 := sB_size wd
  have b4 : decide ((40 : Int) < ((sB wd).size : Int)) = false := decide_eq_false (by rw [hsz4]; omega)
  clear hsz4
  obtain ⟨bb, bo, rfl, hbb, hBH⟩ := hB (by omega)
  have HBH := Lib.hid hBH
  have hB := hBH.seen hbb
  have b0 : (((q : Int) + 1) == 0) = false := beq_eq_false_iff_ne.2 (by omega)
  have ba : decide ((a : Int) < 0) = false := decide_eq_false (by omega)
  have HA := Lib.hid hA
  have HB := Lib.hid hB
  have HN := Lib.hid hn
  have HM := Lib.hid hm
  have HR := Lib.hid hR
  have HPA := Lib.hid hpa
  clear ht h200
  have HK := Lib.hid hk
  clear hA hB hm hn hR hpa
  clear hk hle hBH h40
  go_enter Try.func32, Try.ntmps32
  go_wp2_with fail
  refine (rightN_is A c n t true _ HN.out HA.out hl (yes_iff HR.out)).mono ?_
  rintro e w1 ⟨rfl, hb1⟩
  go_wp2_with fail
  refine (findN_at A (some ⟨bb, bo, none⟩) c d n (q + 1) a t p _ HN.out HM.out (HA.out.below hb1) (HB.out.below hb1) hl hp HR.out (by rw [HN.out]; exact ha) HPA.out).mono ?_
  rintro e w2 ⟨rfl, hb2⟩
  have hbn2 := bthen hb1 hb2
  go_wp2_with fail
  refine (keptN A (some ⟨bb, bo, none⟩) c d n (q + 1) q t p _ false HN.out HM.out (HA.out.below hbn2) (HB.out.below hbn2) hl (by omega) hd hp HR.out HK.out).mono ?_
  rintro e w3 ⟨rfl, hb3⟩
  have hbn := bthen hbn2 hb3
  clear hb1 hb2 hb3 hbn2
  have hdq : (q : Int) ≤ (d : Int) := by omega
  have hdq2 : q ≤ d := by omega
  go_wp2_with fail
  refine (withN bb bo q d p wd _ (Nat.lt_of_lt_of_le hbb hbn.size) (HBH.out.belowN hbn hbb) HM.out hd (by omega)).mono ?_
  rintro e w5 ⟨B5, c5, rfl, _, hs5, hb5⟩
  replace hbn := bthen hbn hb5
  clear hb5
  go_wp2_with fail
  refine (findN_no A B5 c c5 n (q + 1) t (p.dropLast ++ [wd]) _ HN.out HBL.out (HA.out.below hbn) hs5 hl hp HR.out HT.out).mono ?_
  rintro e w6 ⟨rfl, hb6⟩
  replace hbn := bthen hbn hb6
  clear hb6 hs5
  go_wp2_with fail
  refine (subN A c n a nl t _ HN.out (HA.out.below hbn) hl ha HR.out HNL.out).mono ?_
  rintro e w7 ⟨A7, c7, rfl, hs7, hb7⟩
  replace hbn := bthen hbn hb7
  clear hb7
  go_wp2
  go_ret2
  exact ⟨A, c, by rw [HN.out]; rfl, HA.out.below hbn, hbn⟩

set_option maxRecDepth 100000 in
set_option maxHeartbeats 4000000 in
theorem VecE_n {w : World} {A : Option Addr} {c n : Nat} {t : List T.Ln} (hn : t.length = n) (h : Seen eL w A t) (hc : NilOk A c) (htc : n ≤ c) : VecE w (.slice A n c) t := by subst hn; exact VecE.of h hc htc
set_option maxRecDepth 100000 in
set_option maxHeartbeats 4000000 in
theorem turn_5_put (A B : Option Addr) (c d n q a : Nat) (t v : List T.Ln) (p : T.Pth) (bit er : Int) (wd : List UInt8) (w : World) (hn : t.length = n) (hm : p.length = q + 1) (hA : Seen eL w A t) (hB : Seen eS w B p) (hl : n ≤ 1073741824) (hnc : n ≤ c) (hd : q + 1 ≤ d) (hp : q + 1 ≤ 1073741824) (hR : T.RightT t) (ha : a < n) (hpa : T.pathL t a = p) (h40 : wd.length ≤ 40) (hnila : NilOk A c) (hk : T.keptL t p q = false) (ht : ¬ thereT t (p.dropLast ++ [wd])) (h200 : t.length + (T.endL t a - a) ≤ 200) :
    Calls Try.prog 32 #[.slice A n c, .int .i64 5, .slice B (q + 1) d, .int .i64 bit, .string (sB wd)] w (RefAddS w (T.putAll (p.dropLast ++ [wd]) t (T.partE t a)) 0) := by
  have HT := Lib.hid ht
  have HNILA := Lib.hid hnila
  clear hnila
  have H40 := Lib.hid h40
  have hsl := T.sub_len t a (by omega)
  have hple := T.part_len (t := t) (a := a) (by omega)
  have hle := hR.len
  obtain ⟨_, hg2, _⟩ := T.end_spec t a (by omega)
  have HM4 := Lib.hid (show t.length + (T.partE t a).length = t.length + (T.endL t a - a) by rw [hple])
  have H200 := Lib.hid h200
  have hopn := T.path_up hR (show a < t.length by omega)
  rw [hpa] at hopn
  have HOPN := Lib.hid hopn
  have HBL := Lib.hid (show (p.dropLast ++ [wd]).length = q + 1 by rw [List.length_append, List.length_dropLast, hm]; rfl)
  obtain ⟨nl, hnl⟩ : ∃ nl, (T.subL t a).length = nl := ⟨_, rfl⟩
  have HNL := Lib.hid hnl
  have hnl2 : nl ≤ 200 := by omega
  have b200 : decide ((200 : Int) < (n : Int) + (nl : Int)) = false := decide_eq_false (by omega)
  clear hnl hsl hple hopn hg2
  have hsz4 := sB_size wd
  have b4 : decide ((40 : Int) < ((sB wd).size : Int)) = false := decide_eq_false (by rw [hsz4]; omega)
  clear hsz4
  obtain ⟨bb, bo, rfl, hbb, hBH⟩ := hB (by omega)
  have HBH := Lib.hid hBH
  have hB := hBH.seen hbb
  have b0 : (((q : Int) + 1) == 0) = false := beq_eq_false_iff_ne.2 (by omega)
  have ba : decide ((a : Int) < 0) = false := decide_eq_false (by omega)
  have HA := Lib.hid hA
  have HB := Lib.hid hB
  have HN := Lib.hid hn
  have HM := Lib.hid hm
  have HR := Lib.hid hR
  have HPA := Lib.hid hpa
  clear ht h200
  have HK := Lib.hid hk
  clear hA hB hm hn hR hpa
  clear hk hle hBH h40
  go_enter Try.func32, Try.ntmps32
  go_wp2_with fail
  refine (rightN_is A c n t true _ HN.out HA.out hl (yes_iff HR.out)).mono ?_
  rintro e w1 ⟨rfl, hb1⟩
  go_wp2_with fail
  refine (findN_at A (some ⟨bb, bo, none⟩) c d n (q + 1) a t p _ HN.out HM.out (HA.out.below hb1) (HB.out.below hb1) hl hp HR.out (by rw [HN.out]; exact ha) HPA.out).mono ?_
  rintro e w2 ⟨rfl, hb2⟩
  have hbn2 := bthen hb1 hb2
  go_wp2_with fail
  refine (keptN A (some ⟨bb, bo, none⟩) c d n (q + 1) q t p _ false HN.out HM.out (HA.out.below hbn2) (HB.out.below hbn2) hl (by omega) hd hp HR.out HK.out).mono ?_
  rintro e w3 ⟨rfl, hb3⟩
  have hbn := bthen hbn2 hb3
  clear hb1 hb2 hb3 hbn2
  have hdq : (q : Int) ≤ (d : Int) := by omega
  have hdq2 : q ≤ d := by omega
  go_wp2_with fail
  refine (withN bb bo q d p wd _ (Nat.lt_of_lt_of_le hbb hbn.size) (HBH.out.belowN hbn hbb) HM.out hd (by omega)).mono ?_
  rintro e w5 ⟨B5, c5, rfl, _, hs5, hb5⟩
  replace hbn := bthen hbn hb5
  clear hb5
  go_wp2_with fail
  refine (findN_no A B5 c c5 n (q + 1) t (p.dropLast ++ [wd]) _ HN.out HBL.out (HA.out.below hbn) hs5 hl hp HR.out HT.out).mono ?_
  rintro e w6 ⟨rfl, hb6⟩
  replace hbn := bthen hbn hb6
  clear hb6 hs5
  go_wp2_with fail
  refine (subN A c n a nl t _ HN.out (HA.out.below hbn) hl ha HR.out HNL.out).mono ?_
  rintro e w7 ⟨A7, c7, rfl, hs7, hb7⟩
  replace hbn := bthen hbn hb7
  clear hb7
  go_wp2_with fail
  refine (put_sub (.slice A n c) t t bb bo q d p wd A7 c7 a nl _ (VecE_n HN.out (HA.out.below hbn) HNILA.out hnc) (Nat.lt_of_lt_of_le hbb hbn.size) (HBH.out.belowN hbn hbb) HM.out hd hs7 HNL.out HR.out (by rw [HN.out]; exact ha) HPA.out H40.out HR.out HOPN.out (fun i hi e => HT.out ⟨i, hi, e⟩) (by rw [HM4.out]; exact H200.out)).mono ?_
  rintro e w9 ⟨v9, rfl, hv9, hb9⟩
  obtain ⟨A9, c9, rfl, _, hs9⟩ := hv9.seen
  have HS9 := Lib.hid hs9
  replace hbn := bthen hbn hb9
  clear hb9 hv9 hs9 hs7
  go_wp2
  go_ret2
  exact ⟨A9, c9, rfl, HS9.out, hbn⟩

set_option maxHeartbeats 2000000 in
/-- Turn, whole. -/
theorem refTurn_any (A B : Option Addr) (c d k : Nat) (t v : List T.Ln) (p : T.Pth) (bit er : Int) (wd : List UInt8) (w : World) (hA : Seen eL w A t) (hB : Seen eS w B p) (hc : NilOk A c) (htc : t.length ≤ c) (hd : p.length ≤ d) (hl : t.length ≤ 1073741824) (hp : p.length ≤ 1073741824) (h1 : 1 ≤ k) (h5 : k ≤ 5) (h : TurnIs t p k bit wd v er) :
    Calls Try.prog 32 #[.slice A t.length c, .int .i64 (k : Int), .slice B p.length d, .int .i64 bit, .string (sB wd)] w (RefAddS w v er) := by
  obtain ⟨n, hn⟩ : ∃ n, t.length = n := ⟨_, rfl⟩
  obtain ⟨m, hm⟩ : ∃ m, p.length = m := ⟨_, rfl⟩
  rw [hn] at htc hl ⊢
  rw [hm] at hd hp ⊢
  by_cases harg : argT k bit wd
  · by_cases hR : T.RightT t
    · by_cases hp0 : p = []
      · have hm0 : m = 0 := by rw [← hm, hp0]; rfl
        have hv : v = t ∧ er = 1 := by
          rcases h with ⟨e1, e2, _⟩ | ⟨_, _, e, _⟩
          · exact ⟨e1, e2⟩
          · exact absurd hp0 e
        obtain ⟨e1, e2⟩ := hv
        subst e1; subst e2
        rcases harg with rfl | ⟨rfl, rfl | rfl⟩ | ⟨rfl, rfl | rfl⟩ | ⟨rfl, h40⟩ | ⟨rfl, h40⟩
        · exact turn_empty_0 A B c d n m _ p bit wd w hn hm hA hB hl hR hm0
        · exact turn_empty_1 A B c d n m _ p 1 wd w hn hm hA hB hl hR hm0
        · exact turn_empty_2 A B c d n m _ p 2 wd w hn hm hA hB hl hR hm0
        · exact turn_empty_3 A B c d n m _ p 1 wd w hn hm hA hB hl hR hm0
        · exact turn_empty_4 A B c d n m _ p 2 wd w hn hm hA hB hl hR hm0
        · exact turn_empty_5 A B c d n m _ p bit wd w hn hm hA hB hl h40 hR hm0
        · exact turn_empty_6 A B c d n m _ p bit wd w hn hm hA hB hl h40 hR hm0
      · have hm0 : 0 < m := by rw [← hm]; exact List.length_pos_iff.2 hp0
        rcases h with ⟨_, _, e | e | e⟩ | ⟨_, _, _, ⟨ht, e1, e2⟩ | ⟨a, ha, hpa, hat⟩⟩
        · exact absurd harg e
        · exact absurd hR e
        · exact absurd e hp0
        · subst e1; subst e2
          rcases harg with rfl | ⟨rfl, rfl | rfl⟩ | ⟨rfl, rfl | rfl⟩ | ⟨rfl, h40⟩ | ⟨rfl, h40⟩
          · exact turn_none_0 A B c d n m _ p bit wd w hn hm hA hB hl hR hm0 hp ht
          · exact turn_none_1 A B c d n m _ p 1 wd w hn hm hA hB hl hR hm0 hp ht
          · exact turn_none_2 A B c d n m _ p 2 wd w hn hm hA hB hl hR hm0 hp ht
          · exact turn_none_3 A B c d n m _ p 1 wd w hn hm hA hB hl hR hm0 hp ht
          · exact turn_none_4 A B c d n m _ p 2 wd w hn hm hA hB hl hR hm0 hp ht
          · exact turn_none_5 A B c d n m _ p bit wd w hn hm hA hB hl h40 hR hm0 hp ht
          · exact turn_none_6 A B c d n m _ p bit wd w hn hm hA hB hl h40 hR hm0 hp ht
        · obtain ⟨q, rfl⟩ : ∃ q, m = q + 1 := ⟨m - 1, by omega⟩
          have hq : p.length - 1 = q := by omega
          rw [hn] at ha
          unfold TurnAt at hat
          rw [hq] at hat
          rcases hat with ⟨rfl, h⟩ | ⟨hk, h⟩ | ⟨rfl, h⟩ | ⟨rfl, h⟩
          · exact turn_1 A B c d n q a t v p bit er wd w hn hm hA hB hl htc hd hp hR ha hpa h
          · have hmk := hR.mark a (by omega)
            have hbit : bit = 1 ∨ bit = 2 := by
              rcases harg with rfl | ⟨_, h⟩ | ⟨_, h⟩ | ⟨rfl, _⟩ | ⟨rfl, _⟩
              · omega
              · exact h
              · exact h
              · omega
              · omega
            rcases h with ⟨h, e1, e2⟩ | ⟨hkp, hb1, e1, e2⟩
            · subst e1; subst e2
              rcases hbit with rfl | rfl
              · by_cases hkp : T.keptL v p q = true
                · rcases hk with rfl | rfl
                  · exact turn_2_1_above A B c d n q a v v p 1 12 wd w hn hm hA hB hl htc hd hp hR ha hpa hkp
                  · exact turn_3_1_above A B c d n q a v v p 1 12 wd w hn hm hA hB hl htc hd hp hR ha hpa hkp
                · have hown : 1 < (T.at_ v a).mark := by
                    rcases h with h | ⟨_, h⟩
                    · exact absurd h hkp
                    · exact h
                  rcases hk with rfl | rfl
                  · exact turn_2_1_own A B c d n q a v v p 1 12 wd w hn hm hA hB hl htc hd hp hR ha hpa (Bool.eq_false_iff.2 hkp) hown
                  · exact turn_3_1_own A B c d n q a v v p 1 12 wd w hn hm hA hB hl htc hd hp hR ha hpa (Bool.eq_false_iff.2 hkp) hown
              · have hkp : T.keptL v p q = true := by
                  rcases h with h | ⟨h, _⟩
                  · exact h
                  · omega
                rcases hk with rfl | rfl
                · exact turn_2_2_above A B c d n q a v v p 2 12 wd w hn hm hA hB hl htc hd hp hR ha hpa hkp
                · exact turn_3_2_above A B c d n q a v v p 2 12 wd w hn hm hA hB hl htc hd hp hR ha hpa hkp
            · subst e1; subst e2
              obtain ⟨mk, hm2⟩ : ∃ mk, (T.at_ t a).mark = mk := ⟨_, rfl⟩
              rw [hm2] at hmk hb1 ⊢
              rcases hbit with rfl | rfl
              · have hle := hb1 rfl
                obtain rfl | rfl : mk = 0 ∨ mk = 1 := by omega
                · rcases hk with rfl | rfl
                  · exact turn_2_1_0 A B c d n q a t t p 1 0 wd w hn hm hA hB hl htc hd hp hR ha hpa hkp hm2
                  · exact turn_3_1_0 A B c d n q a t t p 1 0 wd w hn hm hA hB hl htc hd hp hR ha hpa hkp hm2
                · rcases hk with rfl | rfl
                  · exact turn_2_1_1 A B c d n q a t t p 1 0 wd w hn hm hA hB hl htc hd hp hR ha hpa hkp hm2
                  · exact turn_3_1_1 A B c d n q a t t p 1 0 wd w hn hm hA hB hl htc hd hp hR ha hpa hkp hm2
              · obtain rfl | rfl | rfl | rfl : mk = 0 ∨ mk = 1 ∨ mk = 2 ∨ mk = 3 := by omega
                · rcases hk with rfl | rfl
                  · exact turn_2_2_0 A B c d n q a t t p 2 0 wd w hn hm hA hB hl htc hd hp hR ha hpa hkp hm2
                  · exact turn_3_2_0 A B c d n q a t t p 2 0 wd w hn hm hA hB hl htc hd hp hR ha hpa hkp hm2
                · rcases hk with rfl | rfl
                  · exact turn_2_2_1 A B c d n q a t t p 2 0 wd w hn hm hA hB hl htc hd hp hR ha hpa hkp hm2
                  · exact turn_3_2_1 A B c d n q a t t p 2 0 wd w hn hm hA hB hl htc hd hp hR ha hpa hkp hm2
                · rcases hk with rfl | rfl
                  · exact turn_2_2_2 A B c d n q a t t p 2 0 wd w hn hm hA hB hl htc hd hp hR ha hpa hkp hm2
                  · exact turn_3_2_2 A B c d n q a t t p 2 0 wd w hn hm hA hB hl htc hd hp hR ha hpa hkp hm2
                · rcases hk with rfl | rfl
                  · exact turn_2_2_3 A B c d n q a t t p 2 0 wd w hn hm hA hB hl htc hd hp hR ha hpa hkp hm2
                  · exact turn_3_2_3 A B c d n q a t t p 2 0 wd w hn hm hA hB hl htc hd hp hR ha hpa hkp hm2
          · have h40 : wd.length ≤ 40 := by rcases harg with e | ⟨e, _⟩ | ⟨e, _⟩ | ⟨_, e⟩ | ⟨e, _⟩ <;> first | exact e | omega
            rcases h with ⟨hs, rfl, rfl⟩ | ⟨hs, ⟨ht, rfl, rfl⟩ | ⟨ht, rfl, rfl⟩⟩
            · exact turn_4_shut A B c d n q a _ [] p bit 12 wd w hn hm hA hB hl htc hd hp hR ha hpa h40 hs
            · exact turn_4_there A B c d n q a _ [] p bit 4 wd w hn hm hA hB hl htc hd hp hR ha hpa h40 hs ht
            · exact turn_4_put A B c d n q a t t p bit 0 wd w hn hm hA hB hl htc hd hp hR ha hpa h40 hs ht
          · have h40 : wd.length ≤ 40 := by rcases harg with e | ⟨e, _⟩ | ⟨e, _⟩ | ⟨e, _⟩ | ⟨_, e⟩ <;> first | exact e | omega
            rcases h with ⟨hs, rfl, rfl⟩ | ⟨hs, ⟨ht, rfl, rfl⟩ | ⟨ht, ⟨h200, rfl, rfl⟩ | ⟨h200, rfl, rfl⟩⟩⟩
            · exact turn_5_above A B c d n q a _ [] p bit 12 wd w hn hm hA hB hl htc hd hp hR ha hpa h40 hs
            · exact turn_5_there A B c d n q a _ [] p bit 4 wd w hn hm hA hB hl htc hd hp hR ha hpa h40 hs ht
            · exact turn_5_long A B c d n q a _ [] p bit 5 wd w hn hm hA hB hl htc hd hp hR ha hpa h40 hs ht h200
            · exact turn_5_put A B c d n q a t t p bit 0 wd w hn hm hA hB hl htc hd hp hR ha hpa h40 hc hs ht h200
    · have hv : v = t ∧ er = 1 := by
        rcases h with ⟨e1, e2, _⟩ | ⟨_, e, _⟩
        · exact ⟨e1, e2⟩
        · exact absurd e hR
      obtain ⟨e1, e2⟩ := hv
      subst e1; subst e2
      rcases harg with rfl | ⟨rfl, rfl | rfl⟩ | ⟨rfl, rfl | rfl⟩ | ⟨rfl, h40⟩ | ⟨rfl, h40⟩
      · exact turn_wrong_0 A B c d n m _ p bit wd w hn hm hA hB hl hR
      · exact turn_wrong_1 A B c d n m _ p 1 wd w hn hm hA hB hl hR
      · exact turn_wrong_2 A B c d n m _ p 2 wd w hn hm hA hB hl hR
      · exact turn_wrong_3 A B c d n m _ p 1 wd w hn hm hA hB hl hR
      · exact turn_wrong_4 A B c d n m _ p 2 wd w hn hm hA hB hl hR
      · exact turn_wrong_5 A B c d n m _ p bit wd w hn hm hA hB hl h40 hR
      · exact turn_wrong_6 A B c d n m _ p bit wd w hn hm hA hB hl h40 hR
  · have hv : v = t ∧ er = 1 := by
      rcases h with ⟨e1, e2, _⟩ | ⟨e, _⟩
      · exact ⟨e1, e2⟩
      · exact absurd e harg
    obtain ⟨e1, e2⟩ := hv
    subst e1; subst e2
    obtain rfl | rfl | rfl | rfl | rfl : k = 1 ∨ k = 2 ∨ k = 3 ∨ k = 4 ∨ k = 5 := by omega
    · exact absurd (Or.inl rfl) harg
    · exact turn_bit2 A B c d n m _ p bit wd w hn hm hA hB hl (fun e => harg (.inr (.inl ⟨rfl, .inl e⟩))) (fun e => harg (.inr (.inl ⟨rfl, .inr e⟩)))
    · exact turn_bit3 A B c d n m _ p bit wd w hn hm hA hB hl (fun e => harg (.inr (.inr (.inl ⟨rfl, .inl e⟩)))) (fun e => harg (.inr (.inr (.inl ⟨rfl, .inr e⟩))))
    · exact turn_long4 A B c d n m _ p bit wd w hn hm hA hB hl (Nat.lt_of_not_le fun e => harg (.inr (.inr (.inr (.inl ⟨rfl, e⟩)))))
    · exact turn_long5 A B c d n m _ p bit wd w hn hm hA hB hl (Nat.lt_of_not_le fun e => harg (.inr (.inr (.inr (.inr ⟨rfl, e⟩)))))
end Go.Proofs.Ytfjpeonfkhcpfaa
