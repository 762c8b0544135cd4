/-
  Layer 12's code: which path is inherited; a group's paths; the paths of all groups that are applied. Condition: trees.
-/
import Derived.Test.YtkifapbiimlafaaGroupG
namespace Go.Proofs.Ytkifapbiimlafaa
open Go.RowKit
set_option linter.unusedVariables false

theorem seen_cut12 {w : World} {b o q : Nat} {P : T.Pth} (h : Seen eS w (some ⟨b, o, none⟩) P) : Seen eS w (some ⟨b, o, none⟩) (P.take q) := by
  intro h0
  have hP : 0 < P.length := by rw [List.length_take] at h0; omega
  obtain ⟨b2, o2, e, hb, hH⟩ := h hP
  refine ⟨b2, o2, e, hb, fun d hd j u hu => ?_⟩
  rw [List.getElem_take] at hu
  exact hH d (by rw [List.length_take] at hd; omega) j u hu
set_option maxRecDepth 100000 in
set_option maxHeartbeats 4000000 in
theorem inherited_any (A B : Option Addr) (c d n k : Nat) (x : List T.Ln) (p : T.Pth) (r : Bool) (w : World) (hn : x.length = n) (hA : Seen eL w A x) (hl : n ≤ 200) (hR : T.RightT x) (hk : p.length = k) (hB : Seen eS w B p) (h0 : 0 < k) (hk1 : k ≤ 16) (hd : k ≤ d) (hr : T.inhB x p = r) :
    Calls Try.prog 38 #[.slice A n c, .slice B k d] w (BoolS w r) := by
  have HA := Lib.hid hA
  have HN := Lib.hid hn
  have HR := Lib.hid hR
  have HK := Lib.hid hk
  have hp0 : 0 < p.length := by rw [hk]; exact h0
  have HB := Lib.hid hB
  obtain ⟨bp, op, rfl, hbp, hLp⟩ := hB hp0
  have kp := hLp.str hp0
  rw [Nat.add_zero] at kp
  obtain ⟨hd0, hhd⟩ : ∃ z, p[0] = z := ⟨_, rfl⟩
  rw [hhd] at kp
  have hown := own_head hp0
  rw [hhd] at hown
  have h0z : (0 : Int) < (k : Int) := by omega
  obtain ⟨j, rfl⟩ : ∃ j, k = j + 1 := ⟨k - 1, by omega⟩
  have hjz : 0 ≤ (j : Int) := by omega
  have hjd : (j : Int) ≤ (d : Int) := by omega
  have hj1 : ((j + 1 : Nat) : Int) - 1 = (j : Int) := by omega
  have HTK := Lib.hid (show (p.take j).length = j by rw [List.length_take, hk]; omega)
  have HDL := Lib.hid (show p.dropLast = p.take j by rw [List.dropLast_eq_take, hk]; rfl)
  clear hLp hhd hA hB hn
  cases hg : (hd0 == T.wGroups || hd0 == T.wApply) with
  | true =>
    have hrf : r = false := by
      rw [← hr, T.inh_not]
      rw [hown]
      revert hg
      cases (hd0 == T.wGroups) <;> cases (hd0 == T.wApply) <;> decide
    subst hrf
    have HG := Lib.hid hg
    clear hg hown hr hk hR
    go_enter Try.func38, Try.ntmps38
    go_wp2_with fail
    refine (ofGroups_is hd0 true _ HG.out).mono ?_
    rintro e w1 ⟨rfl, rfl⟩
    go_wp2
    go_ret
    exact ⟨rfl, Below.refl _ _⟩
  | false =>
    have ho : T.ownB p = true := by
      rw [hown]
      revert hg
      cases (hd0 == T.wGroups) <;> cases (hd0 == T.wApply) <;> decide
    have HG := Lib.hid hg
    clear hg hown
    by_cases hin : T.isIn x (p.take j)
    · obtain ⟨i, hi, hp⟩ := hin
      have HR2 := Lib.hid (show decide (T.endL x i = i + 1) = r by rw [← hr, T.inh_at hR ho hi (by rw [HDL.out, hp])])
      have hin : i < n := by rw [← HN.out]; exact hi
      have HP := Lib.hid hp
      obtain ⟨en, hen⟩ : ∃ z, T.endL x i = z := ⟨_, rfl⟩
      have HEN := Lib.hid hen
      rw [hen] at HR2
      have hq : (((en : Nat) : Int) == (i : Int) + 1) = r := by
        rw [← HR2.out, Bool.eq_iff_iff, beq_iff_eq, decide_eq_true_eq]
        omega
      have hi200 : i < 200 := by omega
      clear hp hi hen hr hk hR ho
      go_enter Try.func38, Try.ntmps38
      go_wp2_with fail
      refine (ofGroups_is hd0 false _ HG.out).mono ?_
      rintro e w1 ⟨rfl, rfl⟩
      go_wp2_with fail
      refine (findC12y A (some ⟨bp, op, none⟩) c d n j x i (p.take j) _ HN.out HTK.out HA.out (seen_cut12 HB.out) (by omega) (by omega) HR.out hin HP.out).mono ?_
      rintro e w2 ⟨rfl, hb2⟩
      have HB2 := Lib.hid hb2
      clear hb2
      go_wp2_with fail
      refine (endC12 A c n x i _ HN.out (HA.out.below HB2.out) hin (by omega) HR.out).mono ?_
      rintro e w3 ⟨rfl, hb3⟩
      rw [HEN.out]
      have HB3 := Lib.hid (HB2.out.trans (hb3.mono HB2.out.size))
      clear hb3
      go_wp2
      go_ret
      exact ⟨rfl, HB3.out⟩
    · obtain rfl : true = r := by rw [← hr, T.inh_free hR ho (by rw [HDL.out]; exact hin)]
      have HIN := Lib.hid hin
      clear hr hk hR ho hin
      go_enter Try.func38, Try.ntmps38
      go_wp2_with fail
      refine (ofGroups_is hd0 false _ HG.out).mono ?_
      rintro e w1 ⟨rfl, rfl⟩
      go_wp2_with fail
      refine (findC12n A (some ⟨bp, op, none⟩) c d n j x (p.take j) _ HN.out HTK.out HA.out (seen_cut12 HB.out) (by omega) (by omega) HR.out HIN.out).mono ?_
      rintro e w2 ⟨rfl, hb2⟩
      have HB2 := Lib.hid hb2
      clear hb2
      go_wp2
      go_ret
      exact ⟨rfl, HB2.out⟩
/-- Paths, made by a call. -/
def PathsS (w : World) (m : Nat) (L : List T.Pth) (er : Int) (e : Ending) (w' : World) : Prop := ∃ B d, e = .returned (.tuple #[.slice B m d, .int .i64 er]) ∧ ManyQ w' w.heap.size (.slice B m d) L ∧ Below w.heap.size w w'
theorem leavesC12 (A : Option Addr) (c n m : Nat) (t : List T.Ln) (K : List Nat) (w : World) (hn : t.length = n) (hm : K.length = m) (hA : Seen eL w A t) (hl : n ≤ 1073741824) (hR : T.RightT t) (h : T.leavesL t = K) :
    Calls Try.prog 57 #[.slice A n c] w (fun e w' => ∃ B d, e = .returned (.slice B m d) ∧ m ≤ d ∧ Seen eI w' B K ∧ Below w.heap.size w w') := by
  subst hn; subst hm; exact leaves_is A c t K w hA hl hR h
theorem pathC12n (A : Option Addr) (c n k i : Nat) (t : List T.Ln) (p : T.Pth) (w : World) (hn : t.length = n) (hk : p.length = k) (hA : Seen eL w A t) (hl : n ≤ 1073741824) (hi : i < n) (hR : T.RightT t) (h : T.pathL t i = p) :
    Calls Try.prog 25 #[.slice A n c, .int .i64 (i : Int)] w (fun e w' => ∃ B d, e = .returned (.tuple #[.slice B k d, .int .i64 0]) ∧ PtK w' w.heap.size ⟨B, k, d⟩ p ∧ Below w.heap.size w w') := by
  subst hn; subst hk
  refine (Path_new A c t i w hA hl hi hR).mono ?_
  rintro e w' ⟨B, d, rfl, hd, hs, hf, hb⟩
  rw [h] at hd hs ⊢
  exact ⟨B, d, rfl, ⟨⟨rfl, hd, hs⟩, hf⟩, hb⟩
set_option maxRecDepth 100000 in
set_option maxHeartbeats 16000000 in
/-- The paths of a group of an active tree. -/
theorem codePaths12 (A X : Option Addr) (c d n k m : Nat) (a x : List T.Ln) (g : List UInt8) (L : List T.Pth) (er : Int) (w : World) (hn : a.length = n) (hA : Seen eL w A a) (hl : n ≤ 200) (hR : T.RightT a) (hk : x.length = k) (hX : Seen eL w X x) (hxl : k ≤ 200) (hRX : T.RightT x) (hg : g.length ≤ 100)
    (hL : (T.isIn a [T.wGroups, g] ∧ T.pathsL a x g = L ∧ er = 0) ∨ (¬ T.isIn a [T.wGroups, g] ∧ L = [] ∧ er = 3)) (hm : L.length = m) :
    Calls Try.prog 40 #[.slice A n c, .slice X k d, .string (sB g)] w (PathsS w m L er) := by
  have HA := Lib.hid hA
  have HN := Lib.hid hn
  have HR := Lib.hid hR
  have HX := Lib.hid hX
  have HK := Lib.hid hk
  have HRX := Lib.hid hRX
  have HM := Lib.hid hm
  clear hA hn hR hX hk hRX hm
  rcases hL with ⟨⟨at0, hat, hpat⟩, hL, rfl⟩ | ⟨hno, rfl, rfl⟩
  · have hin : at0 < n := by rw [← HN.out]; exact hat
    have HP := Lib.hid hpat
    obtain ⟨K, hK⟩ : ∃ z, T.leavesL a = z := ⟨_, rfl⟩
    have HLF := Lib.hid (show T.leafTo a x at0 K.length = L by rw [← hL, ← hK]; exact T.leafTo_all HR.out hat hpat)
    have HLE := Lib.hid (fun z => show (T.leafTo a x at0 z).length ≤ 40200 from T.leafTo_len (by rw [HN.out]; exact hl) HRX.out at0 z)
    have HKI := Lib.hid hK
    have HKL := Lib.hid (show ∀ j ∈ K, j < n by
      intro j hj
      rw [← hK] at hj
      have := List.mem_range.1 (List.mem_filter.1 hj).1
      rw [← HN.out]; exact this)
    obtain ⟨kn, hkn⟩ : ∃ z, K.length = z := ⟨_, rfl⟩
    have HKN := Lib.hid hkn
    have hkn200 : kn ≤ 200 := by
      rw [← hkn, ← hK]
      have := T.leaves_few (a := a)
      have := HN.out
      omega
    obtain ⟨en, hen⟩ : ∃ z, T.endL a at0 = z := ⟨_, rfl⟩
    have HEN := Lib.hid hen
    clear hpat hL hK hkn hen hat
    go_enter Try.func40, Try.ntmps40
    go_wp2_with fail
    refine (findC12y A (some ⟨w.heap.size, 0, none⟩) c 2 n 2 a at0 [T.wGroups, g] _ HN.out rfl (HA.out.below (up _ _)) (lit_seen eS w [T.wGroups, g] _ rfl (by simp)) (by omega) (by decide) HR.out hin HP.out).mono ?_
    rintro e w1 ⟨rfl, hb1⟩
    have HB1 := Lib.hid (show Below w.heap.size w w1 from bthen (up _ _) hb1)
    clear hb1
    go_wp2_with fail
    refine (endC12 A c n a at0 _ HN.out (HA.out.below HB1.out) hin (by omega) HR.out).mono ?_
    rintro e w2 ⟨rfl, hb2⟩
    rw [HEN.out]
    have HB2 := Lib.hid (HB1.out.trans (hb2.mono HB1.out.size))
    clear hb2
    go_wp2_with fail
    refine (leavesC12 A c n kn a K _ HN.out HKN.out (HA.out.below HB2.out) (by omega) HR.out HKI.out).mono ?_
    rintro e w3 ⟨B3, c3, rfl, hc3, hs3, hb3⟩
    have HB3 := Lib.hid (HB2.out.trans (hb3.mono HB2.out.size))
    have HS3 := Lib.hid hs3
    clear hs3 hb3
    go_wp2
    go_loopg [11, 13, 14, 15, 31] kn (fun g2 vo v13 v14 v15 vj wr => ∃ j : Nat, Hid (j + g2 = kn) ∧ vj = .int .i64 (j : Int) ∧ Hid (OwnK wr w3.heap.size w.heap.size vo (T.leafTo a x at0 j)) ∧ Hid (Below w3.heap.size w3 wr))
    case atStart => exact ⟨0, Nat.zero_add _, rfl, OwnK.nil _ _ _, Below.refl _ _⟩
    case round =>
      obtain ⟨j, HG, rfl, HO, HBR⟩ := hrel
      have hgk := HG.out
      by_cases hlt : j < kn
      · have blt : decide ((j : Int) < (kn : Int)) = true := decide_eq_true (by omega)
        have blt2 : decide (j < kn) = true := decide_eq_true hlt
        have hjK : j < K.length := by rw [HKN.out]; exact hlt
        have hjl : j < (T.leavesL a).length := by rw [HKI.out]; exact hjK
        have hjz : (j : Int) < (kn : Int) := by omega
        obtain ⟨b3, o3, rfl, hw3, hL3⟩ := HS3.out (by omega)
        have k3 := (hL3.below HBR.out hw3).num hjK
        obtain ⟨q, hq⟩ : ∃ q, K[j] = q := ⟨_, rfl⟩
        rw [hq] at k3
        have hqn : q < n := by rw [← hq]; exact pick_inst HKL.out hjK
        have hlq : (T.leavesL a)[j] = q := by simp only [HKI.out]; exact hq
        have HOF := Lib.hid (fun (h : T.inPart a at0 q = false) => T.leafTo_off (x := x) hjl (by rw [hlq]; exact h))
        have HON := Lib.hid (fun (h : T.inPart a at0 q = true) => T.leafTo_on (x := x) hjl (by rw [hlq]; exact h))
        rw [hlq] at HON
        have HIP := Lib.hid (show T.inPart a at0 q = (decide (at0 < q) && decide (q < en)) by rw [← HEN.out]; rfl)
        have HBW := Lib.hid (HB3.out.trans (HBR.out.mono HB3.out.size))
        clear hq hL3 hlq hjl
        by_cases h1 : at0 < q
        · have d1 : decide ((at0 : Int) < (q : Int)) = true := decide_eq_true (by omega)
          have d2 : decide (at0 < q) = true := decide_eq_true h1
          by_cases h2 : q < en
          · have d3 : decide ((q : Int) < (en : Int)) = true := decide_eq_true (by omega)
            have d4 : decide (q < en) = true := decide_eq_true h2
            have HNX := Lib.hid (HON.out (by rw [HIP.out, d2, d4]; rfl))
            obtain ⟨p, hp⟩ : ∃ z, T.pathL a q = z := ⟨_, rfl⟩
            rw [hp] at HNX
            have HPQ := Lib.hid hp
            have hqa : q < a.length := by rw [HN.out]; exact hqn
            have hdeep := S.RightN.path_deep HR.out hqa
            have hlong : 2 ≤ p.length := by
              have h3 := (HR.out.part_iff (a := at0) (by rw [HN.out]; exact hin) hqa).1 ⟨by omega, by rw [HEN.out]; exact h2⟩
              rw [HP.out] at h3
              have := T.pre_len h3
              rw [hp] at this
              exact this
            rw [hp] at hdeep
            obtain ⟨pl, hpl⟩ : ∃ z, p.length = 2 + z := ⟨p.length - 2, by omega⟩
            have HPL := Lib.hid hpl
            have hpl14 : pl ≤ 14 := by omega
            have HDR := Lib.hid (show (p.drop 2).length = pl by rw [List.length_drop, hpl]; omega)
            obtain ⟨F, hF⟩ : ∃ z, T.fillR x [] (p.drop 2) = z := ⟨_, rfl⟩
            rw [hF] at HNX
            have HFI := Lib.hid hF
            obtain ⟨fm, hfm⟩ : ∃ z, F.length = z := ⟨_, rfl⟩
            have HFM := Lib.hid hfm
            have hfm201 : fm ≤ 201 := by
              rw [← hfm, ← hF]
              have := T.fill_most HRX.out (p.drop 2) []
              have := HK.out
              omega
            obtain ⟨wq, hwq⟩ : ∃ wq, wq = wr := ⟨_, rfl⟩
            subst hwq
            clear hp hdeep hlong hpl hF hfm
            go_wp2_with fail
            refine (pathC12n A c n (2 + pl) q a p _ HN.out HPL.out (HA.out.below HBW.out) (by omega) hqn HR.out HPQ.out).mono ?_
            rintro e w4 ⟨B4, c4, rfl, hp4, hb4⟩
            have hc4 : 2 + pl ≤ c4 := hp4.pt.cap
            obtain ⟨dc, rfl⟩ : ∃ z, c4 = 2 + z := ⟨c4 - 2, by omega⟩
            have h2z : (2 : Int) ≤ (2 : Int) + (pl : Int) := by omega
            have h2d : (2 : Int) ≤ (2 : Int) + (dc : Int) := by omega
            have hpd : pl ≤ dc := by omega
            obtain ⟨b4, o4, e4, hw4, _⟩ := hp4.pt.seen (by rw [HPL.out]; omega)
            have e4 : B4 = some ⟨b4, o4, none⟩ := e4
            subst e4
            have hcut := (hp4.cut 2 (by omega)).pt.seen
            have HSC := Lib.hid (show Seen eS w4 (some ⟨b4, o4 + 2, none⟩) (p.drop 2) from hcut)
            have HB4 := Lib.hid (HBW.out.trans (hb4.mono HBW.out.size))
            have HW4 := Lib.hid hb4
            clear hp4 hb4 hcut
            by_cases hdc : dc = 0
            · obtain rfl : pl = 0 := by omega
              subst hdc
              have HSC0 := Lib.hid (fun B => show Seen eS w4 B (p.drop 2) from fun h => by rw [HDR.out] at h; exact absurd h (Nat.lt_irrefl 0))
              go_wp2_with (first
                | (refine (filled_any X _ d 0 k 0 fm x (p.drop 2) F _ HK.out (HX.out.below HB4.out) hxl HRX.out HDR.out (HSC0.out _) (by omega) HFI.out HFM.out).mono ?_; rintro e w5 ⟨B5, c5, rfl, hm5, hb5⟩; have HM5 := Lib.hid (hm5.less HW4.out.size); have HB5 := Lib.hid (HW4.out.trans (hb5.mono HW4.out.size)); clear hm5 hb5)
                | (at_builtin; refine wpList_appManyQ w5 rfl (.tmp 49) (.tmp 53) rfl w3.heap.size w.heap.size u11 (T.leafTo a x at0 j) rfl wq HO.out HB5.out wq.heap.size (Nat.le_refl _) HBW.out.size _ F rfl HM5.out (by have := HLE.out j; have := HFM.out; omega) (Nat.le_trans HBR.out.size HB5.out.size) ?_; intro v6 w6 ho6 hb6; have HO6 := Lib.hid ho6; have HB6 := Lib.hid ((HBR.out.trans (HB5.out.mono HBR.out.size)).trans hb6); clear ho6 hb6))
              go_roundg (kn - (j + 1))
              case rel => exact ⟨j + 1, (by show _ = _; omega), by go_num, (by rw [HNX.out]; exact HO6.out), HB6.out⟩
              case measure => omega
            · go_wp2_with (first
                | (refine (filled_any X _ d dc k pl fm x (p.drop 2) F _ HK.out (HX.out.below HB4.out) hxl HRX.out HDR.out HSC.out (by omega) HFI.out HFM.out).mono ?_; rintro e w5 ⟨B5, c5, rfl, hm5, hb5⟩; have HM5 := Lib.hid (hm5.less HW4.out.size); have HB5 := Lib.hid (HW4.out.trans (hb5.mono HW4.out.size)); clear hm5 hb5)
                | (at_builtin; refine wpList_appManyQ w5 rfl (.tmp 49) (.tmp 53) rfl w3.heap.size w.heap.size u11 (T.leafTo a x at0 j) rfl wq HO.out HB5.out wq.heap.size (Nat.le_refl _) HBW.out.size _ F rfl HM5.out (by have := HLE.out j; have := HFM.out; omega) (Nat.le_trans HBR.out.size HB5.out.size) ?_; intro v6 w6 ho6 hb6; have HO6 := Lib.hid ho6; have HB6 := Lib.hid ((HBR.out.trans (HB5.out.mono HBR.out.size)).trans hb6); clear ho6 hb6))
              go_roundg (kn - (j + 1))
              case rel => exact ⟨j + 1, (by show _ = _; omega), by go_num, (by rw [HNX.out]; exact HO6.out), HB6.out⟩
              case measure => omega
          · have d3 : decide ((q : Int) < (en : Int)) = false := decide_eq_false (by omega)
            have d4 : decide (q < en) = false := decide_eq_false h2
            have HNX := Lib.hid (HOF.out (by rw [HIP.out, d4, Bool.and_false]))
            go_wp2
            go_roundg (kn - (j + 1))
            case rel => exact ⟨j + 1, (by show _ = _; omega), by go_num, (by rw [HNX.out]; exact HO.out), HBR.out⟩
            case measure => omega
        · have d1 : decide ((at0 : Int) < (q : Int)) = false := decide_eq_false (by omega)
          have d2 : decide (at0 < q) = false := decide_eq_false h1
          have HNX := Lib.hid (HOF.out (by rw [HIP.out, d2, Bool.false_and]))
          go_wp2
          go_roundg (kn - (j + 1))
          case rel => exact ⟨j + 1, (by show _ = _; omega), by go_num, (by rw [HNX.out]; exact HO.out), HBR.out⟩
          case measure => omega
      · have blt : decide ((j : Int) < (kn : Int)) = false := decide_eq_false (by omega)
        have blt2 : decide (j < kn) = false := decide_eq_false hlt
        have hown := HO.out
        rw [show j = K.length by rw [HKN.out]; omega, HLF.out] at hown
        have HMQ := hown.many
        obtain ⟨A6, c6, rfl⟩ := hown.slice
        rw [HM.out] at HMQ ⊢
        have HMQ := Lib.hid HMQ
        clear hown
        go_wp2
        go_ret2
        exact ⟨A6, c6, rfl, HMQ.out, HB3.out.trans (HBR.out.mono HB3.out.size)⟩
  · have HNO := Lib.hid hno
    obtain rfl : m = 0 := HM.out.symm
    clear hno
    go_enter Try.func40, Try.ntmps40
    go_wp2_with fail
    refine (findC12n A (some ⟨w.heap.size, 0, none⟩) c 2 n 2 a [T.wGroups, g] _ HN.out rfl (HA.out.below (up _ _)) (lit_seen eS w [T.wGroups, g] _ rfl (by simp)) (by omega) (by decide) HR.out HNO.out).mono ?_
    rintro e w1 ⟨rfl, hb1⟩
    have HB1 := Lib.hid (show Below w.heap.size w w1 from bthen (up _ _) hb1)
    clear hb1
    go_wp2
    go_ret2
    exact ⟨none, 0, rfl, ManyQ.nil _ _, HB1.out⟩
set_option maxRecDepth 100000 in
set_option maxHeartbeats 16000000 in
/-- The paths of all groups that are applied, or that one of them is not there. -/
theorem codeApplied12 (A X : Option Addr) (c d n k m : Nat) (t a x : List T.Ln) (L : List T.Pth) (er : Int) (w : World) (hT : T.RightT t) (ha : T.actL t = a) (hx : T.expL t = x) (hn : a.length = n) (hA : Seen eL w A a) (hk : x.length = k) (hX : Seen eL w X x)
    (hL : (T.missB t = false ∧ (T.appL t).flatMap (T.pathsA t) = L ∧ er = 0) ∨ (T.missB t = true ∧ L = [] ∧ er = 3)) (hm : L.length = m) :
    Calls Try.prog 37 #[.slice A n c, .slice X k d] w (PathsS w m L er) := by
  have hRA : T.RightT a := by rw [← ha]; exact T.act_right hT
  have hRX : T.RightT x := by rw [← hx]; exact T.exp_right hT
  have hl : n ≤ 200 := by rw [← hn]; exact hRA.len
  have hxl : k ≤ 200 := by rw [← hk]; exact hRX.len
  have hgp : ∀ g, T.pathsL a x g = T.pathsA t g := fun g => by rw [← ha, ← hx]; rfl
  obtain ⟨G, hG⟩ : ∃ z, T.appL t = z := ⟨_, rfl⟩
  have hGU : T.underW a [T.wApply] = G := by rw [← hG, ← ha]; rfl
  have HMY := Lib.hid (fun (g : List UInt8) (hg : g ∈ G) (h : ¬ T.isIn a [T.wGroups, g]) => show T.missB t = true from T.miss_yes (by rw [hG]; exact hg) (by rw [ha]; exact h))
  have HMN := Lib.hid (fun (h : ∀ g ∈ G, T.isIn a [T.wGroups, g]) => show T.missB t = false from T.miss_no (by rw [hG, ha]; exact h))
  rw [hG] at hL
  have HA := Lib.hid hA
  have HN := Lib.hid hn
  have HR := Lib.hid hRA
  have HX := Lib.hid hX
  have HK := Lib.hid hk
  have HRX := Lib.hid hRX
  have HM := Lib.hid hm
  have HT := Lib.hid hT
  have HGP := Lib.hid hgp
  have HL := Lib.hid hL
  clear hA hn hRA hX hk hRX hm hT hgp ha hx hG hL
  by_cases hin : T.isIn a [T.wApply]
  · obtain ⟨at0, hat, hpat⟩ := hin
    have hin : at0 < n := by rw [← HN.out]; exact hat
    have HP := Lib.hid hpat
    obtain ⟨K, hK⟩ : ∃ K, T.kidsL a (at0 : Int) = K := ⟨_, rfl⟩
    have HKW := Lib.hid (show K.map (T.wd a) = G by rw [← hK, T.kids_words HR.out ⟨by omega, by omega⟩, T.pathI_nat, hpat, hGU])
    have HKL := Lib.hid (show ∀ j ∈ K, j < n by
      intro j hj
      rw [← hK, T.mem_kids] at hj
      rw [← HN.out]; exact hj.1)
    have HKI := Lib.hid hK
    obtain ⟨kn, hkn⟩ : ∃ z, K.length = z := ⟨_, rfl⟩
    have HKN := Lib.hid hkn
    have hkn200 : kn ≤ 200 := by
      have h1 : (T.kidsL a (at0 : Int)).length ≤ a.length := by
        unfold T.kidsL
        exact Nat.le_trans (List.length_filter_le _ _) (Nat.le_of_eq List.length_range)
      rw [hK, hkn, HN.out] at h1
      omega
    have HGN := Lib.hid (show G.length = kn by rw [← HKW.out, List.length_map, hkn])
    have HAL := Lib.hid (fun z (h : z ≤ 200) => T.appTo_len HT.out G h)
    clear hpat hK hkn hat hGU
    go_enter Try.func37, Try.ntmps37
    go_wp2_with fail
    refine (findC12y A (some ⟨w.heap.size, 0, none⟩) c 1 n 1 a at0 [T.wApply] _ HN.out rfl (HA.out.below (up _ _)) (lit_seen eS w [T.wApply] _ rfl (by simp)) (by omega) (by decide) HR.out hin HP.out).mono ?_
    rintro e w1 ⟨rfl, hb1⟩
    have HB1 := Lib.hid (show Below w.heap.size w w1 from bthen (up _ _) hb1)
    clear hb1
    go_wp2_with fail
    refine (kidsC12 A c n kn a (at0 : Int) K _ HN.out HKN.out (HA.out.below HB1.out) (by omega) (by omega) (by omega) HR.out HKI.out).mono ?_
    rintro e w3 ⟨B3, c3, rfl, hc3, hs3, hb3⟩
    have HB3 := Lib.hid (HB1.out.trans (hb3.mono HB1.out.size))
    have HS3 := Lib.hid hs3
    clear hs3 hb3
    go_wp2
    go_loopg [8, 10, 11, 12, 25] kn (fun g2 vo v10 v11 v12 vj wr => ∃ j : Nat, Hid (j + g2 = kn) ∧ vj = .int .i64 (j : Int) ∧ Hid (OwnK wr w3.heap.size w.heap.size vo (T.appTo t G j)) ∧ Hid (∀ g ∈ G.take j, T.isIn a [T.wGroups, g]) ∧ Hid (Below w3.heap.size w3 wr))
    case atStart => exact ⟨0, Nat.zero_add _, rfl, OwnK.nil _ _ _, (fun g hg => by cases hg), Below.refl _ _⟩
    case round =>
      obtain ⟨j, HG, rfl, HO, HI, HBR⟩ := hrel
      have hgk := HG.out
      by_cases hlt : j < kn
      · have blt : decide ((j : Int) < (kn : Int)) = true := decide_eq_true (by omega)
        have blt2 : decide (j < kn) = true := decide_eq_true hlt
        have hjK : j < K.length := by rw [HKN.out]; exact hlt
        have hjG : j < G.length := by rw [HGN.out]; exact hlt
        have hjz : (j : Int) < (kn : Int) := by omega
        obtain ⟨b3, o3, rfl, hw3, hL3⟩ := HS3.out (by omega)
        have k3 := (hL3.below HBR.out hw3).num hjK
        obtain ⟨q, hq⟩ : ∃ q, K[j] = q := ⟨_, rfl⟩
        rw [hq] at k3
        have hqn : q < n := by rw [← hq]; exact pick_inst HKL.out hjK
        have hqx : q < a.length := by rw [HN.out]; exact hqn
        have hqz : (q : Int) < (n : Int) := by omega
        have HBW := Lib.hid (HB3.out.trans (HBR.out.mono HB3.out.size))
        obtain ⟨b, o, rfl, hbw, hLn⟩ := HA.out.lines (by omega)
        obtain ⟨_, c1, _⟩ := (hLn.below HBW.out hbw).line hqx
        obtain ⟨g, hg⟩ : ∃ z, T.wd a q = z := ⟨_, rfl⟩
        rw [hg] at c1
        have hGj : G[j] = g := by
          have : (K.map (T.wd a))[j]'(by rw [List.length_map]; exact hjK) = g := by rw [List.getElem_map, hq, hg]
          simp only [HKW.out] at this
          exact this
        have HGM := Lib.hid (show g ∈ G by rw [← hGj]; exact List.getElem_mem hjG)
        have HGS := Lib.hid (show G.take (j + 1) = G.take j ++ [g] by rw [List.take_succ_eq_append_getElem hjG, hGj])
        have HNX := Lib.hid (show T.appTo t G (j + 1) = T.appTo t G j ++ T.pathsA t g by rw [T.appTo_next t hjG, hGj])
        have HGL := Lib.hid (show g.length ≤ 100 by
          rw [← hg]
          have := HR.out.long q hqx
          omega)
        obtain ⟨wq, hwq⟩ : ∃ wq, wq = wr := ⟨_, rfl⟩
        subst hwq
        by_cases hig : T.isIn a [T.wGroups, g]
        · obtain ⟨F, hF⟩ : ∃ z, T.pathsA t g = z := ⟨_, rfl⟩
          rw [hF] at HNX
          have HFI := Lib.hid (show T.pathsL a x g = F by rw [HGP.out, hF])
          have HIG := Lib.hid hig
          obtain ⟨fm, hfm⟩ : ∃ z, F.length = z := ⟨_, rfl⟩
          have HFM := Lib.hid hfm
          have hfm2 : fm ≤ 40200 := by rw [← hfm, ← hF]; exact T.paths_len HT.out g
          have HI2 := Lib.hid (show ∀ g ∈ G.take (j + 1), T.isIn a [T.wGroups, g] by
            intro g2 hg2
            rw [HGS.out] at hg2
            rcases List.mem_append.1 hg2 with h | h
            · exact HI.out g2 h
            · rw [List.mem_singleton.1 h]; exact hig)
          clear hq hL3 hg hGj hLn hig hF hfm hjG
          go_wp2_with fail
          refine (codePaths12 _ X c d n k fm a x g F 0 _ HN.out (HA.out.below HBW.out) hl HR.out HK.out (HX.out.below HBW.out) hxl HRX.out HGL.out (.inl ⟨HIG.out, HFI.out, rfl⟩) HFM.out).mono ?_
          rintro e w5 ⟨B5, c5, rfl, hm5, hb5⟩
          have HM5 := Lib.hid hm5
          have HB5 := Lib.hid hb5
          clear hm5 hb5
          go_wp2_with (at_builtin; refine wpList_appManyQ w5 rfl (.tmp 43) (.tmp 44) rfl w3.heap.size w.heap.size u8 (T.appTo t G j) rfl wq HO.out HB5.out wq.heap.size (Nat.le_refl _) HBW.out.size _ F rfl HM5.out (by have := HAL.out j (by omega); have := HFM.out; omega) (Nat.le_trans HBR.out.size HB5.out.size) ?_; intro v6 w6 ho6 hb6; have HO6 := Lib.hid ho6; have HB6 := Lib.hid ((HBR.out.trans (HB5.out.mono HBR.out.size)).trans hb6); clear ho6 hb6)
          go_roundg (kn - (j + 1))
          case rel => exact ⟨j + 1, (by show _ = _; omega), by go_num, (by rw [HNX.out]; exact HO6.out), HI2.out, HB6.out⟩
          case measure => omega
        · have HIG := Lib.hid hig
          have HE := Lib.hid (show L = [] ∧ er = 3 by
            rcases HL.out with ⟨h, _⟩ | ⟨_, h⟩
            · rw [HMY.out g HGM.out hig] at h; cases h
            · exact h)
          obtain ⟨rfl, rfl⟩ := HE.out
          obtain rfl : m = 0 := HM.out.symm
          clear hq hL3 hg hGj hLn hig hjG
          go_wp2_with fail
          refine (codePaths12 _ X c d n k 0 a x g [] 3 _ HN.out (HA.out.below HBW.out) hl HR.out HK.out (HX.out.below HBW.out) hxl HRX.out HGL.out (.inr ⟨HIG.out, rfl, rfl⟩) rfl).mono ?_
          rintro e w5 ⟨B5, c5, rfl, hm5, hb5⟩
          have HB5 := Lib.hid (HBW.out.trans (hb5.mono HBW.out.size))
          clear hm5 hb5
          go_wp2
          go_ret2
          exact ⟨none, 0, rfl, ManyQ.nil _ _, HB5.out⟩
      · have blt : decide ((j : Int) < (kn : Int)) = false := decide_eq_false (by omega)
        have blt2 : decide (j < kn) = false := decide_eq_false hlt
        have hown := HO.out
        have HE := Lib.hid (show T.appTo t G j = L ∧ er = 0 by
          have h1 : ∀ g ∈ G, T.isIn a [T.wGroups, g] := by
            have := HI.out
            rw [List.take_of_length_le (by rw [HGN.out]; omega)] at this
            exact this
          rcases HL.out with ⟨_, h, h2⟩ | ⟨h, _⟩
          · refine ⟨?_, h2⟩
            rw [show j = G.length by rw [HGN.out]; omega, T.appTo_all]
            exact h
          · rw [HMN.out h1] at h; cases h)
        obtain ⟨he1, rfl⟩ := HE.out
        rw [he1] at hown
        have HMQ := hown.many
        obtain ⟨A6, c6, rfl⟩ := hown.slice
        rw [HM.out] at HMQ ⊢
        have HMQ := Lib.hid HMQ
        clear hown he1
        go_wp2
        go_ret2
        exact ⟨A6, c6, rfl, HMQ.out, HB3.out.trans (HBR.out.mono HB3.out.size)⟩
  · have HNO := Lib.hid hin
    have HE := Lib.hid (show L = [] ∧ er = 0 by
      have h0 : G = [] := by rw [← hGU]; exact T.underW_out HR.out (by simp) hin
      rcases HL.out with ⟨_, h, h2⟩ | ⟨h, _⟩
      · refine ⟨?_, h2⟩
        rw [← h, h0]; rfl
      · rw [HMN.out (by rw [h0]; intro g hg; cases hg)] at h; cases h)
    obtain ⟨rfl, rfl⟩ := HE.out
    obtain rfl : m = 0 := HM.out.symm
    clear hin hGU
    go_enter Try.func37, Try.ntmps37
    go_wp2_with fail
    refine (findC12n A (some ⟨w.heap.size, 0, none⟩) c 1 n 1 a [T.wApply] _ HN.out rfl (HA.out.below (up _ _)) (lit_seen eS w [T.wApply] _ rfl (by simp)) (by omega) (by decide) HR.out HNO.out).mono ?_
    rintro e w1 ⟨rfl, hb1⟩
    have HB1 := Lib.hid (show Below w.heap.size w w1 from bthen (up _ _) hb1)
    clear hb1
    go_wp2
    go_ret2
    exact ⟨none, 0, rfl, ManyQ.nil _ _, HB1.out⟩
end Go.Proofs.Ytkifapbiimlafaa
