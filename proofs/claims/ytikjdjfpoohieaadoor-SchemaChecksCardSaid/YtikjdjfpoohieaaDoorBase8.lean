/-
  The document's side of layer 13: has, there, twice, outside, meant. Condition: a tree.
  The document's side of layer 13: meant. Condition: a tree.
  The document's side of layer 13: Check. Condition: a tree of at most 200 lines.
  Layer 13's statements' own functions: faults that are equal are Same, faults as the document's (refs), few, and that 'awake' is true under the premise. No conditions.
  Layer 13's code, plain laws: which row of the code's table a path meets, what that says of its types, its needs, what it clashes with. No conditions.
  What the library proves once of strconv.Itoa, at this program's numbers. Condition: for numbers of 100 and more that the library's table uint64pow10 holds its numbers.
  Layer 10: what addr does, as one premise (AddrOk); and that 'awake' is true under it. No conditions.
-/
import Derived.Test.YtikjdjfpoohieaaDoorBase7
import Derived.Deep.RegionHeld3
import Derived.Deep.RegionWith
import Derived.Shelf.Strconv.Itoa3
import Derived.Lib.AppendIntMem

namespace Go.Proofs.YtikjdjfpoohieaaDoor
namespace C
open T (Pth pless RightN RightT pathL kidsL underL wd Ln isIn)
theorem out_off {Z : Nat} {t : List Ln} (h : RightN Z t) {x y : Wd} (hno : ¬ isIn t [wVnis, y, wSubnet]) : outP (pths t) x y = false := by
  unfold outP; rw [kids_off h (by simp) hno]
theorem out_bare {Z : Nat} {t : List Ln} (h : RightN Z t) {x y : Wd} {i : Nat} (hi : i < t.length) (hp : pathL t i = [wVnis, y, wSubnet]) (hk : kidsL t i = []) : outP (pths t) x y = false := by
  unfold outP; rw [← hp, kids_pths h hi, hk]; rfl
theorem out_kid {Z : Nat} {t : List Ln} (h : RightN Z t) {x y : Wd} {i k : Nat} {r : List Nat} (hi : i < t.length) (hp : pathL t i = [wVnis, y, wSubnet]) (hk : kidsL t i = k :: r) : outP (pths t) x y = (decide (0 ≤ (N.prefL (wd t k)).1) && !N.inB (N.prefL (wd t k)).1 (N.prefL (wd t k)).2 (N.ipL x)) := by
  unfold outP; rw [← hp, kids_pths h hi, hk, List.map_cons]
  have e : (pathL t k).getLastD [] = wd t k := by
    rw [kid_path (i := i) (by rw [hk]; exact List.mem_cons_self)]
    simp
  simp only [e]
theorem twice_is {Z : Nat} {t : List Ln} (h : RightN Z t) {i : Nat} (hi : i < t.length) (x : Wd) : twiceP (pths t) (pathL t i) x = (List.range i).any fun j => sameAd x (pathL t j) := by
  unfold twiceP pths
  rw [List.any_map, Bool.eq_iff_iff, List.any_eq_true, List.any_eq_true]
  constructor
  · rintro ⟨j, hj, e⟩
    have hj := List.mem_range.1 hj
    simp only [Function.comp_apply, Bool.and_eq_true] at e
    refine ⟨j, List.mem_range.2 ?_, e.2⟩
    rcases Nat.lt_trichotomy j i with k | k | k
    · exact k
    · subst k; rw [T.pless_irr] at e; cases e.1
    · have := h.path_less (i := i) j k hj
      rw [T.pless_asymm this] at e; cases e.1
  · rintro ⟨j, hj, e⟩
    have hj := List.mem_range.1 hj
    refine ⟨j, List.mem_range.2 (by omega), ?_⟩
    simp only [Function.comp_apply, Bool.and_eq_true]
    exact ⟨h.path_less (i := j) i hj hi, e⟩
theorem any_next (f : Nat → Bool) (k : Nat) : (List.range (k + 1)).any f = ((List.range k).any f || f k) := by
  rw [List.range_succ, List.any_append]; simp
theorem sameAd_len {x : Wd} {q : Pth} (h : q.length ≠ 4) : sameAd x q = false := by
  unfold sameAd
  split
  · exact absurd rfl h
  · rfl
theorem any_take {α : Type} {l : List α} {i : Nat} {y : α} (h : l[i]? = some y) (f : α → Bool) : (l.take (i + 1)).any f = ((l.take i).any f || f y) := by
  obtain ⟨h5, h6⟩ := List.getElem?_eq_some_iff.1 h
  rw [List.take_succ_eq_append_getElem h5, List.any_append, h6]; simp
end C
open Go.RowKit
open F
set_option linter.unusedVariables false

theorem path_short {Z : Nat} {t : List T.Ln} (h : T.RightN Z t) : ∀ (n i : Nat), i ≤ n → i < t.length → ∀ x ∈ T.pathL t i, x.length ≤ 40
  | n, i, hn, hi, x, hx => by
    rw [T.path_under t i] at hx
    rcases List.mem_append.1 hx with hx | hx
    · have hlt := T.under_lt t i
      by_cases h0 : T.underL t i < 0
      · rw [show T.underL t i = -1 by omega, T.pathI_none] at hx; cases hx
      · obtain ⟨j, hj⟩ := Int.eq_ofNat_of_zero_le (show 0 ≤ T.underL t i by omega)
        rw [hj, T.pathI_nat] at hx
        match n with
        | 0 => omega
        | n + 1 => exact path_short h n j (by omega) (by omega) x hx
    · rw [List.mem_singleton.1 hx]; exact h.long i hi
theorem kidsN13 (A : Option Addr) (c n : Nat) (t : List T.Ln) (i : Int) (w : World) (hn : t.length = n) (hA : Seen eL w A t) (hl : n ≤ 1073741824) :
    Calls Tryd.prog 39 #[.slice A n c, .int .i64 i] w (SawG eI w (T.kidsL t i)) := by subst hn; exact refKids_any A c t i w hA hl
theorem findN13 {Z : Nat} (A B : Option Addr) (c d n m : Nat) (t : List T.Ln) (p : T.Pth) (w : World) (hn : t.length = n) (hm : p.length = m) (hA : Seen eL w A t) (hB : Seen eS w B p) (hl : n ≤ 1073741824) (hl2 : m ≤ 1073741824) (hR : T.RightN Z t) :
    Calls Tryd.prog 29 #[.slice A n c, .slice B m d] w (fun e w' => ((∃ i : Nat, i < t.length ∧ T.pathL t i = p ∧ e = .returned (.int .i64 (i : Int))) ∨ ((∀ i, i < t.length → T.pathL t i ≠ p) ∧ e = .returned (.int .i64 (-1)))) ∧ Below w.heap.size w w') := by
  subst hn; subst hm; exact refFind_any A B c d t p w hA hB hl hl2 hR
theorem pathN13 {Z : Nat} (A : Option Addr) (c n : Nat) (t : List T.Ln) (i : Nat) (w : World) (hn : t.length = n) (hA : Seen eL w A t) (hi : i < n) (hl : n ≤ 1073741824) (hR : T.RightN Z t) :
    Calls Tryd.prog 28 #[.slice A n c, .int .i64 i] w (FreshP w (T.pathL t i)) := by subst hn; exact refPath_new A c t i w hA hl hi hR
theorem endN13 (A : Option Addr) (c n : Nat) (t : List T.Ln) (i : Nat) (w : World) (hn : t.length = n) (hA : Seen eL w A t) (hi : i < n) (hl : n ≤ 1073741824) :
    Calls Tryd.prog 37 #[.slice A n c, .int .i64 i] w (IntS w (T.endL t i : Nat)) := by subst hn; exact refEnd_any A c t i w hA hi hl
theorem short_path {Z : Nat} {t : List T.Ln} (h : T.RightN Z t) {i : Nat} (hi : i < t.length) : ShortW (T.pathL t i) := fun x hx => Nat.le_trans (path_short h i i (Nat.le_refl _) hi x hx) (by omega)
set_option maxRecDepth 100000 in
set_option maxHeartbeats 2000000 in
theorem hasR (A : Option Addr) (c n : Nat) (t : List T.Ln) (i : Int) (x : List UInt8) (r : Bool) (w : World) (hn : t.length = n) (hA : Seen eL w A t) (hl : n ≤ 1073741824) (hr : ((T.kidsL t i).any fun k => T.wd t k == x) = r) :
    Calls Tryd.prog 40 #[.slice A n c, .int .i64 i, .string (sB x)] w (BoolS w r) := by
  have HA := Lib.hid hA
  have HN := Lib.hid hn
  obtain ⟨K, hK⟩ : ∃ K, T.kidsL t i = K := ⟨_, rfl⟩
  have HK := Lib.hid hK
  have HIN := Lib.hid (show ∀ k ∈ K, k < n by intro k hk; rw [← hK] at hk; have := ((T.mem_kids t i k).1 hk).1; omega)
  have HKL := Lib.hid (show K.length ≤ n by rw [← hK, ← hn]; exact T.filter_len t.length _)
  rw [hK] at hr
  have HR := Lib.hid hr
  clear hA hn hK hr
  go_enter Tryd.func40, Tryd.ntmps40
  go_wp2_with fail
  refine (kidsN13 A c n t i _ HN.out HA.out hl).mono ?_
  rintro e w2 ⟨A2, c2, rfl, hc2, hs2, hb2⟩
  rw [HK.out] at hc2 hs2 ⊢
  have HB2 := Lib.hid hb2
  have HS2 := Lib.hid hs2
  obtain ⟨nk, hnk⟩ : ∃ k, K.length = k := ⟨_, rfl⟩
  rw [hnk]
  have HNK := Lib.hid hnk
  have hnk2 : nk ≤ 1073741824 := by have := HKL.out; have := HNK.out; omega
  clear hc2 hs2 hb2 hnk
  go_wp2
  go_loopg [8] nk (fun g vi wr => ∃ k : Nat, Hid (k + g = nk) ∧ k ≤ nk ∧ vi = .int .i64 (k : Int) ∧ Hid (((K.take k).any fun q => T.wd t q == x) = false) ∧ wr = w2)
  case atStart => exact ⟨0, Nat.zero_add _, Nat.zero_le _, rfl, rfl, rfl⟩
  case round =>
    obtain ⟨k, HG, hk, rfl, HF, rfl⟩ := hrel
    have hgk := HG.out
    by_cases hlt : k < nk
    · have blt : decide ((k : Int) < (nk : Int)) = true := decide_eq_true (by omega)
      have blt2 : decide (k < nk) = true := decide_eq_true hlt
      have hkK : k < K.length := by rw [HNK.out]; exact hlt
      have hki : (k : Int) < (nk : Int) := by omega
      obtain ⟨q, hq⟩ : ∃ q, K[k] = q := ⟨_, rfl⟩
      have hqn : q < n := by rw [← hq]; exact HIN.out _ (List.getElem_mem hkK)
      have hqt : q < t.length := by rw [HN.out]; exact hqn
      have hqi : (q : Int) < (n : Int) := by omega
      obtain ⟨b3, o3, rfl, hw3, hL3⟩ := HS2.out (by omega)
      have c3 := hL3.num hkK
      rw [hq] at c3
      obtain ⟨b4, o4, hA4, hw4, hL4⟩ := HA.out.lines (by rw [HN.out]; omega)
      subst hA4
      obtain ⟨_, c4, _⟩ := (hL4.below HB2.out hw4).line hqt
      have HNX := Lib.hid (C.any_take (show K[k]? = some q by rw [List.getElem?_eq_getElem hkK, hq]) fun q => T.wd t q == x)
      by_cases he : T.wd t q = x
      · have e1 : ((sB (T.wd t q)).toList == (sB x).toList) = true := sB_eq he
        have HE := Lib.hid (show r = true by
          rw [← HR.out, List.any_eq_true]
          exact ⟨q, by rw [← hq]; exact List.getElem_mem hkK, by rw [he]; simp⟩)
        clear hq hqt hL3 hL4 he
        go_wp2
        go_ret
        exact ⟨by rw [HE.out]; rfl, HB2.out⟩
      · have e1 : ((sB (T.wd t q)).toList == (sB x).toList) = false := sB_ne he
        have HF2 := Lib.hid (show ((K.take (k + 1)).any fun q => T.wd t q == x) = false by rw [HNX.out, HF.out, Bool.false_or]; exact beq_eq_false_iff_ne.2 he)
        clear hq hqt hL3 hL4 he
        go_wp2
        go_roundg (nk - (k + 1))
        case rel => exact ⟨k + 1, (by show _ = _; omega), by omega, by go_num, HF2.out, rfl⟩
        case measure => omega
    · have blt : decide ((k : Int) < (nk : Int)) = false := decide_eq_false (by omega)
      have blt2 : decide (k < nk) = false := decide_eq_false hlt
      have HE := Lib.hid (show r = false by rw [← HR.out, ← HF.out, List.take_of_length_le (by rw [HNK.out]; omega)])
      go_wp2
      go_ret
      exact ⟨by rw [HE.out]; rfl, HB2.out⟩
set_option maxRecDepth 100000 in
theorem thereR {Z : Nat} (A : Option Addr) (c n : Nat) (t : List T.Ln) (a b : List UInt8) (r : Bool) (w : World) (hn : t.length = n) (hA : Seen eL w A t) (hl : n ≤ 1073741824) (hR : T.RightN Z t) (hr : decide ([a, b] ∈ C.pths t) = r) :
    Calls Tryd.prog 69 #[.slice A n c, .string (sB a), .string (sB b)] w (BoolS w r) := by
  have HA := Lib.hid hA
  have HN := Lib.hid hn
  have HR := Lib.hid hR
  have HV := Lib.hid hr
  clear hA hn hR hr
  go_enter Tryd.func69, Tryd.ntmps69
  go_wp2_with fail
  refine (findN13 A _ c _ n 2 t [a, b] _ HN.out rfl (HA.out.below (up w _)) (lit_seen eS w [a, b] _ rfl (by simp)) hl (by omega) HR.out).mono ?_
  rintro e w1 ⟨⟨i0, hi0, hp0, rfl⟩ | ⟨hno, rfl⟩, hb1⟩
  · have d1 : decide ((i0 : Int) ≥ 0) = true := decide_eq_true (by omega)
    have d2 : decide ((0 : Int) ≤ (i0 : Int)) = true := decide_eq_true (by omega)
    have HE := Lib.hid (show r = true by rw [← HV.out]; exact decide_eq_true (C.mem_pths.2 ⟨i0, hi0, hp0⟩))
    have hb := (up w _).trans (hb1.mono (up w (.cells #[.string (sB a), .string (sB b)] 9)).size)
    clear hp0 hi0 hb1
    go_wp2
    go_ret
    exact ⟨by rw [HE.out]; rfl, hb⟩
  · have HE := Lib.hid (show r = false by rw [← HV.out]; exact decide_eq_false (fun h => by obtain ⟨i, h1, h2⟩ := C.mem_pths.1 h; exact hno i h1 h2))
    have hb := (up w _).trans (hb1.mono (up w (.cells #[.string (sB a), .string (sB b)] 9)).size)
    clear hno hb1
    go_wp2
    go_ret
    exact ⟨by rw [HE.out]; rfl, hb⟩
set_option maxRecDepth 100000 in
set_option maxHeartbeats 4000000 in
theorem twiceR {Z : Nat} (A : Option Addr) (c n : Nat) (t : List T.Ln) (i : Nat) (x : List UInt8) (r : Bool) (w : World) (hn : t.length = n) (hA : Seen eL w A t) (hl : n ≤ 1073741824) (hR : T.RightN Z t) (hi : i ≤ n) (hr : ((List.range i).any fun j => C.sameAd x (T.pathL t j)) = r) :
    Calls Tryd.prog 68 #[.slice A n c, .int .i64 (i : Int), .string (sB x)] w (BoolS w r) := by
  have HA := Lib.hid hA
  have HN := Lib.hid hn
  have HRT := Lib.hid hR
  have HR := Lib.hid hr
  clear hA hn hR hr
  go_enter Tryd.func68, Tryd.ntmps68
  go_wp2
  go_loopg [7] i (fun g vi wr => ∃ k : Nat, Hid (k + g = i) ∧ k ≤ i ∧ vi = .int .i64 (k : Int) ∧ Hid (((List.range k).any fun j => C.sameAd x (T.pathL t j)) = false) ∧ Below w.heap.size w wr)
  case atStart => exact ⟨0, Nat.zero_add _, Nat.zero_le _, rfl, rfl, Below.refl _ _⟩
  case round =>
    obtain ⟨k, HG, hk, rfl, HF, hb⟩ := hrel
    have hgk := HG.out
    by_cases hlt : k < i
    · have blt : decide ((k : Int) < (i : Int)) = true := decide_eq_true (by omega)
      have blt2 : decide (k < i) = true := decide_eq_true hlt
      go_wp2_with fail
      refine (pathN13 A c n t k _ HN.out (HA.out.below hb) (by omega) hl HRT.out).mono ?_
      rintro e w2 ⟨B, d, rfl, hd, hs, _, hx⟩
      replace hb := bthen hb hx
      clear hx
      obtain ⟨p, hp⟩ : ∃ p, T.pathL t k = p := ⟨_, rfl⟩
      rw [hp] at hd hs ⊢
      have HNX := Lib.hid (show ((List.range (k + 1)).any fun j => C.sameAd x (T.pathL t j)) = C.sameAd x p by rw [C.any_next, HF.out, Bool.false_or, hp])
      have HW := Lib.hid (show ShortW p by rw [← hp]; exact short_path HRT.out (by rw [HN.out]; omega))
      have HTR := Lib.hid (show C.sameAd x p = true → r = true by
        intro h
        rw [← HR.out, List.any_eq_true]
        exact ⟨k, List.mem_range.2 hlt, by rw [hp]; exact h⟩)
      clear hp
      by_cases h4 : p.length = 4
      · rcases p with _ | ⟨x0, _ | ⟨x1, _ | ⟨x2, _ | ⟨x3, _ | ⟨x4, rest⟩⟩⟩⟩⟩
        · cases h4
        · cases h4
        · cases h4
        · cases h4
        · obtain ⟨b, o, rfl, hbw, hL⟩ := hs (by simp)
          have c0 : w2.cell? ⟨b, o, none⟩ = some (.string (sB x0)) := cellS hL (i := 0) rfl
          have c1 : w2.cell? ⟨b, o + 1, none⟩ = some (.string (sB x1)) := cellS hL (i := 1) rfl
          have c2 : w2.cell? ⟨b, o + 2, none⟩ = some (.string (sB x2)) := cellS hL (i := 2) rfl
          have c3 : w2.cell? ⟨b, o + 3, none⟩ = some (.string (sB x3)) := cellS hL (i := 3) rfl
          have HX1 := Lib.hid (show x1.length ≤ 1073741824 from Nat.le_trans (HW.out x1 (by simp)) (by omega))
          clear h4 hL hs hd HW

          by_cases g0 : x0 = C.wHosts
          · have q0 : ((sB x0).toList == [104, 111, 115, 116, 115]) = true := by rw [sB_toList, beq_iff_eq]; exact g0
            obtain ⟨nm, hnm⟩ : ∃ nm, C.nameB x1 = nm := ⟨_, rfl⟩
            have HNM := Lib.hid hnm
            cases nm with
            | false =>
              have HF2 := Lib.hid (show ((List.range (k + 1)).any fun j => C.sameAd x (T.pathL t j)) = false by rw [HNX.out]; show (decide (x0 = C.wHosts) && C.nameB x1 && decide (x2 = C.wIp) && decide (x3 = x)) = false; rw [hnm, Bool.and_false, Bool.false_and, Bool.false_and])
              clear g0 hnm
              go_wp2_with fail
              refine (nameQ x1 false _ HX1.out HNM.out).mono ?_
              rintro e w3 ⟨rfl, rfl⟩
              go_wp2
              go_roundg (i - (k + 1))
              case rel => exact ⟨k + 1, (by show _ = _; omega), by omega, by go_num, HF2.out, hb⟩
              case measure => omega
            | true =>
              by_cases g2 : x2 = C.wIp
              · have q2 : ((sB x2).toList == [105, 112]) = true := by rw [sB_toList, beq_iff_eq]; exact g2
                by_cases g3 : x3 = x
                · have q3 : ((sB x3).toList == (sB x).toList) = true := sB_eq g3
                  have HE := Lib.hid (HTR.out (by show (decide (x0 = C.wHosts) && C.nameB x1 && decide (x2 = C.wIp) && decide (x3 = x)) = true; rw [decide_eq_true g0, hnm, decide_eq_true g2, decide_eq_true g3]; rfl))
                  clear g0 hnm g2 g3
                  go_wp2_with fail
                  refine (nameQ x1 true _ HX1.out HNM.out).mono ?_
                  rintro e w3 ⟨rfl, rfl⟩
                  go_wp2
                  go_ret
                  exact ⟨by rw [HE.out]; rfl, hb⟩
                · have q3 : ((sB x3).toList == (sB x).toList) = false := sB_ne g3
                  have HF2 := Lib.hid (show ((List.range (k + 1)).any fun j => C.sameAd x (T.pathL t j)) = false by rw [HNX.out]; show (decide (x0 = C.wHosts) && C.nameB x1 && decide (x2 = C.wIp) && decide (x3 = x)) = false; rw [decide_eq_false g3, Bool.and_false])
                  clear g0 hnm g2 g3
                  go_wp2_with fail
                  refine (nameQ x1 true _ HX1.out HNM.out).mono ?_
                  rintro e w3 ⟨rfl, rfl⟩
                  go_wp2
                  go_roundg (i - (k + 1))
                  case rel => exact ⟨k + 1, (by show _ = _; omega), by omega, by go_num, HF2.out, hb⟩
                  case measure => omega
              · have q2 : ((sB x2).toList == [105, 112]) = false := by rw [sB_toList, beq_eq_false_iff_ne]; exact g2
                have HF2 := Lib.hid (show ((List.range (k + 1)).any fun j => C.sameAd x (T.pathL t j)) = false by rw [HNX.out]; show (decide (x0 = C.wHosts) && C.nameB x1 && decide (x2 = C.wIp) && decide (x3 = x)) = false; rw [decide_eq_false g2, Bool.and_false, Bool.false_and])
                clear g0 hnm g2
                go_wp2_with fail
                refine (nameQ x1 true _ HX1.out HNM.out).mono ?_
                rintro e w3 ⟨rfl, rfl⟩
                go_wp2
                go_roundg (i - (k + 1))
                case rel => exact ⟨k + 1, (by show _ = _; omega), by omega, by go_num, HF2.out, hb⟩
                case measure => omega
          · have q0 : ((sB x0).toList == [104, 111, 115, 116, 115]) = false := by rw [sB_toList, beq_eq_false_iff_ne]; exact g0
            have HF2 := Lib.hid (show ((List.range (k + 1)).any fun j => C.sameAd x (T.pathL t j)) = false by rw [HNX.out]; show (decide (x0 = C.wHosts) && C.nameB x1 && decide (x2 = C.wIp) && decide (x3 = x)) = false; rw [decide_eq_false g0, Bool.false_and, Bool.false_and, Bool.false_and])
            clear g0
            go_wp2
            go_roundg (i - (k + 1))
            case rel => exact ⟨k + 1, (by show _ = _; omega), by omega, by go_num, HF2.out, hb⟩
            case measure => omega
        · simp only [List.length_cons] at h4; omega
      · obtain ⟨lp, hlp⟩ : ∃ lp, p.length = lp := ⟨_, rfl⟩
        rw [hlp] at h4 ⊢
        have e4 : ((lp : Int) == 4) = false := beq_eq_false_iff_ne.2 (by omega)
        have e4b : (lp == 4) = false := beq_eq_false_iff_ne.2 h4
        have HF2 := Lib.hid (show ((List.range (k + 1)).any fun j => C.sameAd x (T.pathL t j)) = false by rw [HNX.out]; exact C.sameAd_len (by omega))
        clear h4 hlp hs hd
        go_wp2
        go_roundg (i - (k + 1))
        case rel => exact ⟨k + 1, (by show _ = _; omega), by omega, by go_num, HF2.out, hb⟩
        case measure => omega
    · have blt : decide ((k : Int) < (i : Int)) = false := decide_eq_false (by omega)
      have blt2 : decide (k < i) = false := decide_eq_false hlt
      obtain rfl : k = i := by omega
      have HE := Lib.hid (show r = false by rw [← HR.out]; exact HF.out)
      go_wp2
      go_ret
      exact ⟨by rw [HE.out]; rfl, hb⟩
theorem inQ13 (n bits ip : Int) (r : Bool) (w : World) (h : N.inB n bits ip = r) : Calls Tryd.prog 90 #[.int .i64 n, .int .i64 bits, .int .i64 ip] w (fun e w' => e = .returned (.bool r) ∧ Below w.heap.size w w') := by subst h; exact inR10 n bits ip w
set_option maxRecDepth 100000 in
set_option maxHeartbeats 4000000 in
theorem outsideR {Z : Nat} (A : Option Addr) (c n : Nat) (t : List T.Ln) (x y : List UInt8) (r : Bool) (w : World) (hn : t.length = n) (hA : Seen eL w A t) (hl : n ≤ 1073741824) (hR : T.RightN Z t) (hx : x.length ≤ 1073741824) (hr : C.outP (C.pths t) x y = r) :
    Calls Tryd.prog 70 #[.slice A n c, .string (sB x), .string (sB y)] w (BoolS w r) := by
  have HA := Lib.hid hA
  have HN := Lib.hid hn
  have HRT := Lib.hid hR
  have HV := Lib.hid hr
  have HXL := Lib.hid hx
  clear hA hn hR hr hx
  go_enter Tryd.func70, Tryd.ntmps70
  go_wp2_with fail
  refine (findN13 A _ c _ n 3 t [C.wVnis, y, C.wSubnet] _ HN.out rfl (HA.out.below (up w _)) (lit_seen eS w [C.wVnis, y, C.wSubnet] _ rfl (by simp)) hl (by omega) HRT.out).mono ?_
  rintro e w1 ⟨hf, hb1⟩
  replace hb1 := (up w (.cells #[.string (sB C.wVnis), .string (sB y), .string (sB C.wSubnet)] 9)).trans (hb1.mono (up w _).size)
  rcases hf with ⟨i0, hi0, hp0, rfl⟩ | ⟨hno, rfl⟩
  · have d1 : decide ((i0 : Int) < 0) = false := decide_eq_false (by omega)
    obtain ⟨K, hK⟩ : ∃ K, T.kidsL t (i0 : Int) = K := ⟨_, rfl⟩
    have HK := Lib.hid hK
    have HP := Lib.hid hp0
    have HI0 := Lib.hid hi0
    clear hp0 hK hi0
    go_wp2_with fail
    refine (kidsN13 A c n t (i0 : Int) _ HN.out (HA.out.below hb1) hl).mono ?_
    rintro e w2 ⟨A2, c2, rfl, hc2, hs2, hb2⟩
    rw [HK.out] at hc2 hs2 ⊢
    replace hb2 := bthen hb1 hb2
    clear hb1
    cases K with
    | nil =>
      have HE := Lib.hid (show r = false by rw [← HV.out]; exact C.out_bare HRT.out HI0.out HP.out HK.out)
      clear hc2 hs2
      go_wp2
      go_ret
      exact ⟨by rw [HE.out]; rfl, hb2⟩
    | cons q rest =>
      obtain ⟨nk, hnk⟩ : ∃ nk, (q :: rest).length = nk := ⟨_, rfl⟩
      have hnk1 : 1 ≤ nk := by rw [← hnk, List.length_cons]; omega
      rw [hnk] at hc2 ⊢
      have d2 : ((nk : Int) == 0) = false := beq_eq_false_iff_ne.2 (by omega)
      have d2b : (nk == 0) = false := beq_eq_false_iff_ne.2 (by omega)
      have d2c : ¬ nk = 0 := by omega
      have hnki : (0 : Int) < (nk : Int) := by omega
      have hqt : q < t.length := ((T.mem_kids t (i0 : Int) q).1 (by rw [HK.out]; exact List.mem_cons_self)).1
      have hqn : q < n := by rw [← HN.out]; exact hqt
      have hqi : (q : Int) < (n : Int) := by omega
      obtain ⟨b3, o3, rfl, hw3, hL3⟩ := hs2 (by rw [List.length_cons]; omega)
      have c3 : w2.cell? ⟨b3, o3, none⟩ = some (.int .i64 ((q : Nat) : Int)) := hL3.num (i := 0) (by simp)
      obtain ⟨b4, o4, hA4, hw4, hL4⟩ := HA.out.lines (by rw [HN.out]; omega)
      subst hA4
      obtain ⟨_, c4, _⟩ := (hL4.below hb2 hw4).line hqt
      obtain ⟨z, hz⟩ : ∃ z, (N.prefL (T.wd t q)).1 = z := ⟨_, rfl⟩
      obtain ⟨zb, hzb⟩ : ∃ z, (N.prefL (T.wd t q)).2 = z := ⟨_, rfl⟩
      obtain ⟨zi, hzi⟩ : ∃ z, N.ipL x = z := ⟨_, rfl⟩
      have HZ := Lib.hid hz
      have HZB := Lib.hid hzb
      have HZI := Lib.hid hzi
      have HO := Lib.hid (show r = (decide (0 ≤ z) && !N.inB z zb zi) by rw [← HV.out, ← hz, ← hzb, ← hzi]; exact C.out_kid HRT.out HI0.out HP.out HK.out)
      have HWL := Lib.hid (show (T.wd t q).length ≤ 1073741824 from Nat.le_trans (HRT.out.long q hqt) (by omega))
      clear hnk hL3 hL4 hz hzb hzi hc2 hqt
      go_wp2_with fail
      refine (prefQ13 (T.wd t q) z zb _ HWL.out HZ.out HZB.out).mono ?_
      rintro e w3 ⟨rfl, hb3⟩
      replace hb3 := bthen hb2 hb3
      by_cases g : 0 ≤ z
      · have d3 : decide (z ≥ 0) = true := decide_eq_true g
        have d3b : decide (0 ≤ z) = true := decide_eq_true g
        obtain ⟨ib, hib⟩ : ∃ ib, N.inB z zb zi = ib := ⟨_, rfl⟩
        have HIB := Lib.hid hib
        have HE := Lib.hid (show r = !ib by rw [HO.out, d3b, hib, Bool.true_and])
        clear g hib
        go_wp2_with fail
        refine (ipQ x zi _ HXL.out HZI.out).mono ?_
        rintro e w4 ⟨rfl, hb4⟩
        replace hb4 := bthen hb3 hb4
        go_wp2_with fail
        refine (inQ13 z zb zi ib _ HIB.out).mono ?_
        rintro e w5 ⟨rfl, hb5⟩
        replace hb5 := bthen hb4 hb5
        go_wp2
        go_ret
        exact ⟨by rw [HE.out]; rfl, hb5⟩
      · have d3 : decide (z ≥ 0) = false := decide_eq_false g
        have d3b : decide (0 ≤ z) = false := decide_eq_false g
        have HE := Lib.hid (show r = false by rw [HO.out, d3b, Bool.false_and])
        clear g
        go_wp2
        go_ret
        exact ⟨by rw [HE.out]; rfl, hb3⟩
  · have HE := Lib.hid (show r = false by rw [← HV.out]; exact C.out_off HRT.out (fun ⟨i, h1, h2⟩ => hno i h1 h2))
    clear hno
    go_wp2
    go_ret
    exact ⟨by rw [HE.out]; rfl, hb1⟩
end Go.Proofs.YtikjdjfpoohieaaDoor

namespace Go.Proofs.YtikjdjfpoohieaaDoor
open Go.RowKit
open F
set_option linter.unusedVariables false
set_option linter.unusedSimpArgs false

open Go.Region in
/-- 'wpAnyH_take', the operation's own slot named. -/
theorem takeD13 {P : Program} {ops : Array Oper} {Q : Exit → Act → World → Prop} {md : Region.Mode} {S : World → Prop} {i : Nat} {oi : Oper} {v : Value} {d : Option Nat} {fuel : Nat} {listed : Array Bool} {a : Act} {w : World} (hi : ops[i]? = some oi) (hd : oi.dst = d)
    (hs : Region.noSelect ops = true) (hf : free md ops listed i = true) (hr : (Region.ready md ops listed).contains i = true)
    (hQ : ∀ c a w, Q (.panic c) (a.put d v) w → Q (.panic c) a w) (hy : YieldsIf P ops S oi v a) (hS : S w)
    (h : wpAnyH P md ops Q S fuel (listed.setIfInBounds i true) (a.put d v) w) : wpAnyH P md ops Q S (fuel + 1) listed a w := by
  subst hd; exact wpAnyH_take hi hs hf hr hQ hy hS h
theorem keep13 {w w1 w2 : World} {b o : Nat} {u v : Value} (h : Below w.heap.size w w1 ∧ w1.cell? ⟨b, o + 1, none⟩ = some u ∧ w1.cell? ⟨b, o + 3, none⟩ = some v) (hx : Below w1.heap.size w1 w2) (hb : b < w.heap.size) : Below w.heap.size w w2 ∧ w2.cell? ⟨b, o + 1, none⟩ = some u ∧ w2.cell? ⟨b, o + 3, none⟩ = some v :=
  ⟨bthen h.1 hx, (hx.cell (p := ⟨b, o + 1, none⟩) (Nat.lt_of_lt_of_le hb h.1.size)).trans h.2.1, (hx.cell (p := ⟨b, o + 3, none⟩) (Nat.lt_of_lt_of_le hb h.1.size)).trans h.2.2⟩
theorem C.key_apart {x0 x2 z : List UInt8} (h : C.key x0 x2 = z) (P : List T.Pth) (x1 x3 : List UInt8) : C.meantP P [x0, x1, x2, x3] = if z = C.key C.wHosts C.wIp then C.twiceP P [x0, x1, x2, x3] x3
    else if z = C.key C.wBindings C.wHost ∨ z = C.key C.wRoutes C.wVia then !decide ([C.wHosts, x3] ∈ P)
    else if z = C.key C.wHosts C.wVnis then !decide ([C.wVnis, x3] ∈ P)
    else if z = C.key C.wBindings C.wVni then (!decide ([C.wVnis, x3] ∈ P)) || C.outP P x1 x3 else false := by rw [← h]; rfl
set_option maxRecDepth 100000 in
set_option maxHeartbeats 8000000 in
theorem meantR {Z : Nat} (A : Option Addr) (c n : Nat) (t : List T.Ln) (i : Nat) (B : Option Addr) (d : Nat) (x0 x1 x2 x3 : List UInt8) (r : Bool) (w : World) (hn : t.length = n) (hA : Seen eL w A t) (hl : n ≤ 1073741824) (hR : T.RightN Z t) (hi : i < n) (hp : T.pathL t i = [x0, x1, x2, x3]) (hB : Seen eS w B [x0, x1, x2, x3]) (hr : C.meantP (C.pths t) [x0, x1, x2, x3] = r) :
    Calls Tryd.prog 42 #[.slice A n c, .int .i64 (i : Int), .slice B 4 d] w (BoolS w r) := by
  have HA := Lib.hid hA
  have HN := Lib.hid hn
  have HRT := Lib.hid hR
  have hsw : ShortW [x0, x1, x2, x3] := by rw [← hp]; exact short_path hR (by omega)
  obtain ⟨b, o, rfl, hbw, hL⟩ := hB (by simp)
  have c0 : w.cell? ⟨b, o, none⟩ = some (.string (sB x0)) := cellS hL (i := 0) rfl
  have c1 : w.cell? ⟨b, o + 1, none⟩ = some (.string (sB x1)) := cellS hL (i := 1) rfl
  have c2 : w.cell? ⟨b, o + 2, none⟩ = some (.string (sB x2)) := cellS hL (i := 2) rfl
  have c3 : w.cell? ⟨b, o + 3, none⟩ = some (.string (sB x3)) := cellS hL (i := 3) rfl
  have hx0 := hsw x0 (by simp)
  have hx2 := hsw x2 (by simp)
  have HX1 := Lib.hid (show x1.length ≤ 1073741824 from Nat.le_trans (hsw x1 (by simp)) (by omega))
  have HTW := Lib.hid (show C.twiceP (C.pths t) [x0, x1, x2, x3] x3 = (List.range i).any fun j => C.sameAd x3 (T.pathL t j) by rw [← hp]; exact C.twice_is hR (by omega) x3)
  obtain ⟨z, hz⟩ : ∃ z, C.key x0 x2 = z := ⟨_, rfl⟩
  have HC := Lib.hid (show C.meantP (C.pths t) [x0, x1, x2, x3] = _ from C.key_apart hz (C.pths t) x1 x3)
  have a1 : ∀ w : World, Sem.run Tryd.prog (Op.stringOp .add (sB x0) (⟨#[32]⟩ : ByteArray)) w = .ok (.string (sB (x0 ++ [32]))) w := fun w => by
    rw [sB_join13]
    exact run_string_add_sum (P := Tryd.prog) (w := w) (sB x0) (sB [32]) (by rw [sB_size, sB_size, List.length_singleton]; omega)
  have a2 : ∀ w : World, Sem.run Tryd.prog (Op.stringOp .add (sB (x0 ++ [32])) (sB x2)) w = .ok (.string (sB z)) w := fun w => by
    rw [← hz, show C.key x0 x2 = (x0 ++ [32]) ++ x2 by unfold C.key; simp, sB_join13 (x0 ++ [32]) x2]
    exact run_string_add_sum (P := Tryd.prog) (w := w) (sB (x0 ++ [32])) (sB x2) (by rw [sB_size, sB_size, List.length_append, List.length_singleton]; omega)
  have HV := Lib.hid hr
  clear hA hn hR hsw hL hx0 hx2 hz hr hp hB
  have hb0 : ∀ q, Below w.heap.size w (w.drewN q) := fun q => below_drawn10 (Below.refl _ _) q
  by_cases h0 : z = C.key C.wHosts C.wIp
  · have q0 : ((sB z).toList == [104, 111, 115, 116, 115, 32, 105, 112]) = true := by rw [sB_toList, beq_iff_eq]; exact h0
    have HE := Lib.hid (show ((List.range i).any fun j => C.sameAd x3 (T.pathL t j)) = r by rw [← HV.out, HC.out, if_pos h0]; exact HTW.out.symm)
    clear h0
    go_enter Tryd.func42, Tryd.ntmps42
    go_wp2
    go_quiet (fail)
    go_wp2_with fail
    refine (twiceR A c n t i x3 r _ HN.out (HA.out.below (hb0 _)) hl HRT.out (by omega) HE.out).mono ?_
    rintro e w2 ⟨rfl, hx⟩
    go_wp2
    go_ret
    exact ⟨rfl, bthen (hb0 _) hx⟩
  have q0 : ((sB z).toList == [104, 111, 115, 116, 115, 32, 105, 112]) = false := by rw [sB_toList, beq_eq_false_iff_ne]; exact h0
  by_cases h1 : z = C.key C.wBindings C.wHost
  · have q1 : ((sB z).toList == [98, 105, 110, 100, 105, 110, 103, 115, 32, 104, 111, 115, 116]) = true := by rw [sB_toList, beq_iff_eq]; exact h1
    obtain ⟨th, hth⟩ : ∃ th, decide ([C.wHosts, x3] ∈ C.pths t) = th := ⟨_, rfl⟩
    have HTH := Lib.hid hth
    have HE := Lib.hid (show r = !th by rw [← HV.out, HC.out, if_neg h0, if_pos (.inl h1)]; rw [hth])
    clear h0 h1 hth
    go_enter Tryd.func42, Tryd.ntmps42
    go_wp2
    go_quiet (fail)
    go_wp2_with fail
    refine (thereR A c n t C.wHosts x3 th _ HN.out (HA.out.below (hb0 _)) hl HRT.out HTH.out).mono ?_
    rintro e w2 ⟨rfl, hx⟩
    go_wp2
    go_ret
    exact ⟨by rw [HE.out]; rfl, bthen (hb0 _) hx⟩
  have q1 : ((sB z).toList == [98, 105, 110, 100, 105, 110, 103, 115, 32, 104, 111, 115, 116]) = false := by rw [sB_toList, beq_eq_false_iff_ne]; exact h1
  by_cases h2 : z = C.key C.wRoutes C.wVia
  · have q2 : ((sB z).toList == [114, 111, 117, 116, 101, 115, 32, 118, 105, 97]) = true := by rw [sB_toList, beq_iff_eq]; exact h2
    obtain ⟨th, hth⟩ : ∃ th, decide ([C.wHosts, x3] ∈ C.pths t) = th := ⟨_, rfl⟩
    have HTH := Lib.hid hth
    have HE := Lib.hid (show r = !th by rw [← HV.out, HC.out, if_neg h0, if_pos (.inr h2)]; rw [hth])
    clear h0 h1 h2 hth
    go_enter Tryd.func42, Tryd.ntmps42
    go_wp2
    go_quiet (fail)
    go_wp2_with fail
    refine (thereR A c n t C.wHosts x3 th _ HN.out (HA.out.below (hb0 _)) hl HRT.out HTH.out).mono ?_
    rintro e w2 ⟨rfl, hx⟩
    go_wp2
    go_ret
    exact ⟨by rw [HE.out]; rfl, bthen (hb0 _) hx⟩
  have q2 : ((sB z).toList == [114, 111, 117, 116, 101, 115, 32, 118, 105, 97]) = false := by rw [sB_toList, beq_eq_false_iff_ne]; exact h2
  by_cases h3 : z = C.key C.wHosts C.wVnis
  · have q3 : ((sB z).toList == [104, 111, 115, 116, 115, 32, 118, 110, 105, 115]) = true := by rw [sB_toList, beq_iff_eq]; exact h3
    obtain ⟨th, hth⟩ : ∃ th, decide ([C.wVnis, x3] ∈ C.pths t) = th := ⟨_, rfl⟩
    have HTH := Lib.hid hth
    have HE := Lib.hid (show r = !th by rw [← HV.out, HC.out, if_neg h0, if_neg (fun h => h.elim h1 h2), if_pos h3]; rw [hth])
    clear h0 h1 h2 h3 hth
    go_enter Tryd.func42, Tryd.ntmps42
    go_wp2
    go_quiet (fail)
    go_wp2_with fail
    refine (thereR A c n t C.wVnis x3 th _ HN.out (HA.out.below (hb0 _)) hl HRT.out HTH.out).mono ?_
    rintro e w2 ⟨rfl, hx⟩
    go_wp2
    go_ret
    exact ⟨by rw [HE.out]; rfl, bthen (hb0 _) hx⟩
  have q3 : ((sB z).toList == [104, 111, 115, 116, 115, 32, 118, 110, 105, 115]) = false := by rw [sB_toList, beq_eq_false_iff_ne]; exact h3
  by_cases h4 : z = C.key C.wBindings C.wVni
  · have q4 : ((sB z).toList == [98, 105, 110, 100, 105, 110, 103, 115, 32, 118, 110, 105]) = true := by rw [sB_toList, beq_iff_eq]; exact h4
    obtain ⟨th, hth⟩ : ∃ th, decide ([C.wVnis, x3] ∈ C.pths t) = th := ⟨_, rfl⟩
    have HTH := Lib.hid hth
    obtain ⟨ou, hou⟩ : ∃ ou, C.outP (C.pths t) x1 x3 = ou := ⟨_, rfl⟩
    have HOU := Lib.hid hou
    have HE := Lib.hid (show r = ((!th) || ou) by rw [← HV.out, HC.out, if_neg h0, if_neg (fun h => h.elim h1 h2), if_neg h3, if_pos h4]; rw [hth, hou])
    clear h0 h1 h2 h3 h4 hth hou
    cases th with
    | true =>
      go_enter Tryd.func42, Tryd.ntmps42
      go_wp2
      go_quiet (fail)
      go_wp2
      refine wp_region_held_drew (S := fun w' => Below w.heap.size w w' ∧ w'.cell? ⟨b, o + 1, none⟩ = some (.string (sB x1)) ∧ w'.cell? ⟨b, o + 3, none⟩ = some (.string (sB x3))) (by kernel_rfl) ⟨(hb0 _).drew, c1, c3⟩ (fun hHeld => ?_)
      refine takeD13 (i := 0) (v := ?vt0) (d := some 42) rfl rfl (by kernel_rfl) (by kernel_rfl) (by kernel_rfl) (fun _ _ _ h => h) (Or.inl ⟨by rfl, ?hyt0⟩) (by assumption) ?restt0
      case hyt0 => intro w hSw; obtain ⟨_, hs1, hs3⟩ := hSw; go_simp; try (with_reducible rfl)
      try simp only [Act.put, List.setIfInBounds_toArray, List.set_cons_zero, List.set_cons_succ]
      refine takeD13 (i := 1) (v := ?vt1) (d := some 43) rfl rfl (by kernel_rfl) (by kernel_rfl) (by kernel_rfl) (fun _ _ _ h => h) (Or.inl ⟨by rfl, ?hyt1⟩) (by assumption) ?restt1
      case hyt1 => intro w hSw; obtain ⟨_, hs1, hs3⟩ := hSw; go_simp; try (with_reducible rfl)
      try simp only [Act.put, List.setIfInBounds_toArray, List.set_cons_zero, List.set_cons_succ]
      refine takeD13 (i := 2) (v := ?vt2) (d := some 44) rfl rfl (by kernel_rfl) (by kernel_rfl) (by kernel_rfl) (fun _ _ _ h => h) (Or.inl ⟨by rfl, ?hyt2⟩) (by assumption) ?restt2
      case hyt2 => intro w hSw; obtain ⟨_, hs1, hs3⟩ := hSw; go_simp; try (with_reducible rfl)
      try simp only [Act.put, List.setIfInBounds_toArray, List.set_cons_zero, List.set_cons_succ]
      refine takeD13 (i := 3) (v := ?vt3) (d := some 45) rfl rfl (by kernel_rfl) (by kernel_rfl) (by kernel_rfl) (fun _ _ _ h => h) (Or.inl ⟨by rfl, ?hyt3⟩) (by assumption) ?restt3
      case hyt3 => intro w hSw; obtain ⟨_, hs1, hs3⟩ := hSw; go_simp; try (with_reducible rfl)
      try simp only [Act.put, List.setIfInBounds_toArray, List.set_cons_zero, List.set_cons_succ]
      refine wpAnyH_ready (rs := [4]) (by kernel_rfl) (by simp) ?_
      refine AllReadyH.cons rfl (fun K hK => ?_) AllReadyH.nil
      go_simp
      go_at_call 69
      refine (thereR A c n t C.wVnis x3 true _ HN.out (HA.out.below hHeld.1) hl HRT.out HTH.out).mono ?_
      rintro e wq4 ⟨rfl, hx⟩
      have hbx4 : Below w.heap.size w wq4 ∧ wq4.cell? ⟨b, o + 1, none⟩ = some (.string (sB x1)) ∧ wq4.cell? ⟨b, o + 3, none⟩ = some (.string (sB x3)) := keep13 hHeld hx hbw
      clear hHeld hx
      refine hK.out _ _ hbx4 (fun hHeld => ?_)
      clear hK K
      try simp only [Act.put, List.setIfInBounds_toArray, List.set_cons_zero, List.set_cons_succ]
      refine takeD13 (i := 5) (v := ?vt5) (d := some 47) rfl rfl (by kernel_rfl) (by kernel_rfl) (by kernel_rfl) (fun _ _ _ h => h) (Or.inl ⟨by rfl, ?hyt5⟩) (by assumption) ?restt5
      case hyt5 => intro w hSw; obtain ⟨_, hs1, hs3⟩ := hSw; go_simp; try (with_reducible rfl)
      try simp only [Act.put, List.setIfInBounds_toArray, List.set_cons_zero, List.set_cons_succ]
      refine takeD13 (i := 6) (v := ?vt6) (d := some 48) rfl rfl (by kernel_rfl) (by kernel_rfl) (by kernel_rfl) (fun _ _ _ h => h) (Or.inl ⟨by rfl, ?hyt6⟩) (by assumption) ?restt6
      case hyt6 => intro w hSw; obtain ⟨_, hs1, hs3⟩ := hSw; go_simp; try (with_reducible rfl)
      try simp only [Act.put, List.setIfInBounds_toArray, List.set_cons_zero, List.set_cons_succ]
      refine takeD13 (i := 7) (v := ?vt7) (d := some 49) rfl rfl (by kernel_rfl) (by kernel_rfl) (by kernel_rfl) (fun _ _ _ h => h) (Or.inl ⟨by rfl, ?hyt7⟩) (by assumption) ?restt7
      case hyt7 => intro w hSw; obtain ⟨_, hs1, hs3⟩ := hSw; go_simp; try (with_reducible rfl)
      try simp only [Act.put, List.setIfInBounds_toArray, List.set_cons_zero, List.set_cons_succ]
      refine takeD13 (i := 8) (v := ?vt8) (d := some 50) rfl rfl (by kernel_rfl) (by kernel_rfl) (by kernel_rfl) (fun _ _ _ h => h) (Or.inl ⟨by rfl, ?hyt8⟩) (by assumption) ?restt8
      case hyt8 => intro w hSw; obtain ⟨_, hs1, hs3⟩ := hSw; go_simp; try (with_reducible rfl)
      try simp only [Act.put, List.setIfInBounds_toArray, List.set_cons_zero, List.set_cons_succ]
      refine takeD13 (i := 9) (v := ?vt9) (d := some 51) rfl rfl (by kernel_rfl) (by kernel_rfl) (by kernel_rfl) (fun _ _ _ h => h) (Or.inl ⟨by rfl, ?hyt9⟩) (by assumption) ?restt9
      case hyt9 => intro w hSw; obtain ⟨_, hs1, hs3⟩ := hSw; go_simp; try (with_reducible rfl)
      try simp only [Act.put, List.setIfInBounds_toArray, List.set_cons_zero, List.set_cons_succ]
      refine takeD13 (i := 10) (v := ?vt10) (d := some 52) rfl rfl (by kernel_rfl) (by kernel_rfl) (by kernel_rfl) (fun _ _ _ h => h) (Or.inl ⟨by rfl, ?hyt10⟩) (by assumption) ?restt10
      case hyt10 => intro w hSw; obtain ⟨_, hs1, hs3⟩ := hSw; go_simp; try (with_reducible rfl)
      try simp only [Act.put, List.setIfInBounds_toArray, List.set_cons_zero, List.set_cons_succ]
      refine takeD13 (i := 11) (v := ?vt11) (d := some 53) rfl rfl (by kernel_rfl) (by kernel_rfl) (by kernel_rfl) (fun _ _ _ h => h) (Or.inl ⟨by rfl, ?hyt11⟩) (by assumption) ?restt11
      case hyt11 => intro w hSw; obtain ⟨_, hs1, hs3⟩ := hSw; go_simp; try (with_reducible rfl)
      try simp only [Act.put, List.setIfInBounds_toArray, List.set_cons_zero, List.set_cons_succ]
      refine takeD13 (i := 12) (v := ?vt12) (d := some 54) rfl rfl (by kernel_rfl) (by kernel_rfl) (by kernel_rfl) (fun _ _ _ h => h) (Or.inl ⟨by rfl, ?hyt12⟩) (by assumption) ?restt12
      case hyt12 => intro w hSw; obtain ⟨_, hs1, hs3⟩ := hSw; go_simp; try (with_reducible rfl)
      try simp only [Act.put, List.setIfInBounds_toArray, List.set_cons_zero, List.set_cons_succ]
      refine takeD13 (i := 13) (v := ?vt13) (d := some 55) rfl rfl (by kernel_rfl) (by kernel_rfl) (by kernel_rfl) (fun _ _ _ h => h) (Or.inl ⟨by rfl, ?hyt13⟩) (by assumption) ?restt13
      case hyt13 => intro w hSw; obtain ⟨_, hs1, hs3⟩ := hSw; go_simp; try (with_reducible rfl)
      try simp only [Act.put, List.setIfInBounds_toArray, List.set_cons_zero, List.set_cons_succ]
      refine wpAnyH_ready (rs := [14]) (by kernel_rfl) (by simp) ?_
      refine AllReadyH.cons rfl (fun K hK => ?_) AllReadyH.nil
      go_simp
      go_at_call 70
      refine (outsideR A c n t x1 x3 ou _ HN.out (HA.out.below hHeld.1) hl HRT.out HX1.out HOU.out).mono ?_
      rintro e wq14 ⟨rfl, hx⟩
      have hbx14 : Below w.heap.size w wq14 ∧ wq14.cell? ⟨b, o + 1, none⟩ = some (.string (sB x1)) ∧ wq14.cell? ⟨b, o + 3, none⟩ = some (.string (sB x3)) := keep13 hHeld hx hbw
      clear hHeld hx
      refine hK.out _ _ hbx14 (fun hHeld => ?_)
      clear hK K
      try simp only [Act.put, List.setIfInBounds_toArray, List.set_cons_zero, List.set_cons_succ]
      refine takeD13 (i := 15) (v := ?vt15) (d := some 57) rfl rfl (by kernel_rfl) (by kernel_rfl) (by kernel_rfl) (fun _ _ _ h => h) (Or.inl ⟨by rfl, ?hyt15⟩) (by assumption) ?restt15
      case hyt15 => intro w hSw; obtain ⟨_, hs1, hs3⟩ := hSw; go_simp; try (with_reducible rfl)
      try simp only [Act.put, List.setIfInBounds_toArray, List.set_cons_zero, List.set_cons_succ]
      refine takeD13 (i := 16) (v := ?vt16) (d := some 6) rfl rfl (by kernel_rfl) (by kernel_rfl) (by kernel_rfl) (fun _ _ _ h => h) (Or.inl ⟨by rfl, ?hyt16⟩) (by assumption) ?restt16
      case hyt16 => intro w hSw; obtain ⟨_, hs1, hs3⟩ := hSw; go_simp; try (with_reducible rfl)
      try simp only [Act.put, List.setIfInBounds_toArray, List.set_cons_zero, List.set_cons_succ]
      refine wpAnyH_done (by kernel_rfl) ?_ _
      go_wp2
      go_ret
      exact ⟨by rw [HE.out]; rfl, hbx14.1⟩
    | false =>
      go_enter Tryd.func42, Tryd.ntmps42
      go_wp2
      go_quiet (fail)
      go_wp2
      refine wp_region_held_drew (S := fun w' => Below w.heap.size w w' ∧ w'.cell? ⟨b, o + 1, none⟩ = some (.string (sB x1)) ∧ w'.cell? ⟨b, o + 3, none⟩ = some (.string (sB x3))) (by kernel_rfl) ⟨(hb0 _).drew, c1, c3⟩ (fun hHeld => ?_)
      refine takeD13 (i := 0) (v := ?vf0) (d := some 42) rfl rfl (by kernel_rfl) (by kernel_rfl) (by kernel_rfl) (fun _ _ _ h => h) (Or.inl ⟨by rfl, ?hyf0⟩) (by assumption) ?restf0
      case hyf0 => intro w hSw; obtain ⟨_, hs1, hs3⟩ := hSw; go_simp; try (with_reducible rfl)
      try simp only [Act.put, List.setIfInBounds_toArray, List.set_cons_zero, List.set_cons_succ]
      refine takeD13 (i := 1) (v := ?vf1) (d := some 43) rfl rfl (by kernel_rfl) (by kernel_rfl) (by kernel_rfl) (fun _ _ _ h => h) (Or.inl ⟨by rfl, ?hyf1⟩) (by assumption) ?restf1
      case hyf1 => intro w hSw; obtain ⟨_, hs1, hs3⟩ := hSw; go_simp; try (with_reducible rfl)
      try simp only [Act.put, List.setIfInBounds_toArray, List.set_cons_zero, List.set_cons_succ]
      refine takeD13 (i := 2) (v := ?vf2) (d := some 44) rfl rfl (by kernel_rfl) (by kernel_rfl) (by kernel_rfl) (fun _ _ _ h => h) (Or.inl ⟨by rfl, ?hyf2⟩) (by assumption) ?restf2
      case hyf2 => intro w hSw; obtain ⟨_, hs1, hs3⟩ := hSw; go_simp; try (with_reducible rfl)
      try simp only [Act.put, List.setIfInBounds_toArray, List.set_cons_zero, List.set_cons_succ]
      refine takeD13 (i := 3) (v := ?vf3) (d := some 45) rfl rfl (by kernel_rfl) (by kernel_rfl) (by kernel_rfl) (fun _ _ _ h => h) (Or.inl ⟨by rfl, ?hyf3⟩) (by assumption) ?restf3
      case hyf3 => intro w hSw; obtain ⟨_, hs1, hs3⟩ := hSw; go_simp; try (with_reducible rfl)
      try simp only [Act.put, List.setIfInBounds_toArray, List.set_cons_zero, List.set_cons_succ]
      refine wpAnyH_ready (rs := [4]) (by kernel_rfl) (by simp) ?_
      refine AllReadyH.cons rfl (fun K hK => ?_) AllReadyH.nil
      go_simp
      go_at_call 69
      refine (thereR A c n t C.wVnis x3 false _ HN.out (HA.out.below hHeld.1) hl HRT.out HTH.out).mono ?_
      rintro e wq4 ⟨rfl, hx⟩
      have hbx4 : Below w.heap.size w wq4 ∧ wq4.cell? ⟨b, o + 1, none⟩ = some (.string (sB x1)) ∧ wq4.cell? ⟨b, o + 3, none⟩ = some (.string (sB x3)) := keep13 hHeld hx hbw
      clear hHeld hx
      refine hK.out _ _ hbx4 (fun hHeld => ?_)
      clear hK K
      try simp only [Act.put, List.setIfInBounds_toArray, List.set_cons_zero, List.set_cons_succ]
      refine takeD13 (i := 5) (v := ?vf5) (d := some 47) rfl rfl (by kernel_rfl) (by kernel_rfl) (by kernel_rfl) (fun _ _ _ h => h) (Or.inl ⟨by rfl, ?hyf5⟩) (by assumption) ?restf5
      case hyf5 => intro w hSw; obtain ⟨_, hs1, hs3⟩ := hSw; go_simp; try (with_reducible rfl)
      try simp only [Act.put, List.setIfInBounds_toArray, List.set_cons_zero, List.set_cons_succ]
      refine takeD13 (i := 6) (v := ?vf6) (d := some 48) rfl rfl (by kernel_rfl) (by kernel_rfl) (by kernel_rfl) (fun _ _ _ h => h) (Or.inl ⟨by rfl, ?hyf6⟩) (by assumption) ?restf6
      case hyf6 => intro w hSw; obtain ⟨_, hs1, hs3⟩ := hSw; go_simp; try (with_reducible rfl)
      try simp only [Act.put, List.setIfInBounds_toArray, List.set_cons_zero, List.set_cons_succ]
      refine takeD13 (i := 7) (v := undef) (d := some 49) rfl rfl (by kernel_rfl) (by kernel_rfl) (by kernel_rfl) (fun _ _ _ h => h) (Or.inr ⟨by rfl, rfl⟩) (by assumption) ?_
      try simp only [Act.put, List.setIfInBounds_toArray, List.set_cons_zero, List.set_cons_succ]
      refine takeD13 (i := 8) (v := undef) (d := some 50) rfl rfl (by kernel_rfl) (by kernel_rfl) (by kernel_rfl) (fun _ _ _ h => h) (Or.inr ⟨by rfl, rfl⟩) (by assumption) ?_
      try simp only [Act.put, List.setIfInBounds_toArray, List.set_cons_zero, List.set_cons_succ]
      refine takeD13 (i := 9) (v := undef) (d := some 51) rfl rfl (by kernel_rfl) (by kernel_rfl) (by kernel_rfl) (fun _ _ _ h => h) (Or.inr ⟨by rfl, rfl⟩) (by assumption) ?_
      try simp only [Act.put, List.setIfInBounds_toArray, List.set_cons_zero, List.set_cons_succ]
      refine takeD13 (i := 10) (v := undef) (d := some 52) rfl rfl (by kernel_rfl) (by kernel_rfl) (by kernel_rfl) (fun _ _ _ h => h) (Or.inr ⟨by rfl, rfl⟩) (by assumption) ?_
      try simp only [Act.put, List.setIfInBounds_toArray, List.set_cons_zero, List.set_cons_succ]
      refine takeD13 (i := 11) (v := undef) (d := some 53) rfl rfl (by kernel_rfl) (by kernel_rfl) (by kernel_rfl) (fun _ _ _ h => h) (Or.inr ⟨by rfl, rfl⟩) (by assumption) ?_
      try simp only [Act.put, List.setIfInBounds_toArray, List.set_cons_zero, List.set_cons_succ]
      refine takeD13 (i := 12) (v := undef) (d := some 54) rfl rfl (by kernel_rfl) (by kernel_rfl) (by kernel_rfl) (fun _ _ _ h => h) (Or.inr ⟨by rfl, rfl⟩) (by assumption) ?_
      try simp only [Act.put, List.setIfInBounds_toArray, List.set_cons_zero, List.set_cons_succ]
      refine takeD13 (i := 13) (v := undef) (d := some 55) rfl rfl (by kernel_rfl) (by kernel_rfl) (by kernel_rfl) (fun _ _ _ h => h) (Or.inr ⟨by rfl, rfl⟩) (by assumption) ?_
      try simp only [Act.put, List.setIfInBounds_toArray, List.set_cons_zero, List.set_cons_succ]
      refine takeD13 (i := 14) (v := undef) (d := some 56) rfl rfl (by kernel_rfl) (by kernel_rfl) (by kernel_rfl) (fun _ _ _ h => h) (Or.inr ⟨by rfl, rfl⟩) (by assumption) ?_
      try simp only [Act.put, List.setIfInBounds_toArray, List.set_cons_zero, List.set_cons_succ]
      refine takeD13 (i := 15) (v := ?vf15) (d := some 57) rfl rfl (by kernel_rfl) (by kernel_rfl) (by kernel_rfl) (fun _ _ _ h => h) (Or.inl ⟨by rfl, ?hyf15⟩) (by assumption) ?restf15
      case hyf15 => intro w hSw; obtain ⟨_, hs1, hs3⟩ := hSw; go_simp; try (with_reducible rfl)
      try simp only [Act.put, List.setIfInBounds_toArray, List.set_cons_zero, List.set_cons_succ]
      refine takeD13 (i := 16) (v := ?vf16) (d := some 6) rfl rfl (by kernel_rfl) (by kernel_rfl) (by kernel_rfl) (fun _ _ _ h => h) (Or.inl ⟨by rfl, ?hyf16⟩) (by assumption) ?restf16
      case hyf16 => intro w hSw; obtain ⟨_, hs1, hs3⟩ := hSw; go_simp; try (with_reducible rfl)
      try simp only [Act.put, List.setIfInBounds_toArray, List.set_cons_zero, List.set_cons_succ]
      refine wpAnyH_done (by kernel_rfl) ?_ _
      go_wp2
      go_ret
      exact ⟨by rw [HE.out]; rfl, hbx4.1⟩
  have q4 : ((sB z).toList == [98, 105, 110, 100, 105, 110, 103, 115, 32, 118, 110, 105]) = false := by rw [sB_toList, beq_eq_false_iff_ne]; exact h4
  have HE := Lib.hid (show r = false by rw [← HV.out, HC.out, if_neg h0, if_neg (fun h => h.elim h1 h2), if_neg h3, if_neg h4])
  clear h0 h1 h2 h3 h4
  go_enter Tryd.func42, Tryd.ntmps42
  go_wp2
  go_quiet (fail)
  go_wp2
  go_ret
  exact ⟨by rw [HE.out]; rfl, hb0 _⟩
end Go.Proofs.YtikjdjfpoohieaaDoor

namespace Go.Proofs.YtikjdjfpoohieaaDoor
namespace C
open T (Pth pless RightN RightT pathL kidsL endL wd Ln isIn)
theorem step_live {Z : Nat} {t : List Ln} (h : RightN Z t) {i : Nat} (hi : i < t.length) (g : Going t i) {p : Pth} (hp : pathL t i = p) : checkTo t (i + 1) = checkTo t i ++ faultsP (pths t) p := by
  rw [check_step hi, ← hp]; unfold atP; rw [if_pos (Going.live h hi g)]
theorem step_end {Z : Nat} {t : List Ln} (h : RightN Z t) {i : Nat} (hi : i < t.length) (g : Going t i) {p : Pth} (hp : pathL t i = p) {k : Int} (hk : knownP p = k) (h0 : k ≠ 0) : checkTo t (endL t i) = checkTo t i ++ [(p, k)] := by
  subst hp; subst hk
  rw [check_end h hi h0]
  unfold atP
  rw [if_pos (Going.live h hi g)]
  unfold faultsP
  rw [if_pos h0]
theorem needs_few (a : Wd) : (needsW a).length ≤ 3 := by
  unfold needsW
  repeat' split
  all_goals simp
theorem faults_few (P : List Pth) (p : Pth) : (faultsP P p).length ≤ 3 := by
  unfold faultsP
  split
  · simp
  · split
    · rw [List.length_map]; exact Nat.le_trans (List.length_filter_le _ _) (needs_few _)
    · repeat' split
      all_goals simp
    · split <;> simp
    · simp
theorem check_few (t : List Ln) : ∀ i, i ≤ t.length → (checkTo t i).length ≤ 3 * i
  | 0, _ => by rw [check_none0]; simp
  | i + 1, h => by
    rw [check_step (by omega), List.length_append]
    have h1 := check_few t i (by omega)
    have h2 : (atP (pths t) (pathL t i)).length ≤ 3 := by
      unfold atP
      split
      · exact faults_few _ _
      · simp
    omega
/-- The words that lack, of the first k. -/
def lackTo (P : List Pth) (a b : Wd) (k : Nat) : List (Pth × Int) := (((needsW a).take k).filter fun w => !hasP P [a, b] w).map fun w => ([a, b] ++ [w], 1)
theorem lack_next (P : List Pth) (a b : Wd) {k : Nat} {x : Wd} (hx : (needsW a)[k]? = some x) : lackTo P a b (k + 1) = lackTo P a b k ++ if hasP P [a, b] x = true then [] else [([a, b] ++ [x], 1)] := by
  unfold lackTo
  obtain ⟨h5, h6⟩ := List.getElem?_eq_some_iff.1 hx
  rw [List.take_succ_eq_append_getElem h5, h6, List.filter_append, List.map_append]
  congr 1
  cases h : hasP P [a, b] x <;> simp [List.filter, h]
theorem lack_all (P : List Pth) (a b : Wd) (hk : knownP [a, b] = 0) : faultsP P [a, b] = lackTo P a b (needsW a).length := by
  unfold faultsP lackTo
  rw [if_neg (fun h => h hk), List.take_of_length_le (Nat.le_refl _)]
theorem lack_few (P : List Pth) (a b : Wd) (k : Nat) : (lackTo P a b k).length ≤ 3 := by
  unfold lackTo
  rw [List.length_map]
  refine Nat.le_trans (List.length_filter_le _ _) ?_
  rw [List.length_take]
  have := needs_few a
  omega
theorem faults_three (P : List Pth) (a b c : Wd) (hk : knownP [a, b, c] = 0) : faultsP P [a, b, c] = if (thirdK (key a c)).2.1 = true then (if (kidsP P [a, b, c]).length = 0 then [([a, b, c], 1)] else if 1 < (kidsP P [a, b, c]).length then [([a, b, c], 4)] else []) else [] := by
  unfold faultsP; rw [if_neg (fun h => h hk)]
theorem faults_four (P : List Pth) (a b c d : Wd) (hk : knownP [a, b, c, d] = 0) : faultsP P [a, b, c, d] = if meantP P [a, b, c, d] = true then [([a, b, c, d], 7)] else [] := by
  unfold faultsP; rw [if_neg (fun h => h hk)]
theorem faults_one (P : List Pth) (a : Wd) (hk : knownP [a] = 0) : faultsP P [a] = [] := by
  unfold faultsP; rw [if_neg (fun h => h hk)]
end C
open Go.RowKit
open F
set_option linter.unusedVariables false

theorem free13 {E : Elem FlM} {w : World} {base k : Nat} {v : Value} {L : List Fl} {m : PtM} {x : T.Pth} (h : OwnF E w base k v L) (hf : ∀ a, m.A = some a → w.heap.size ≤ a.block) : FreeQ v m x := by
  intro _ a ha e
  have h5 := hf a ha
  have h6 := (h.flBlock _ e).2
  omega
/-- append of one fault: what lies outside the row stays, outside. -/
theorem wpList_appF2 (E : Elem FlM) {ops : Array Oper} {rest : List Oper} {o : Oper} {a : Act} {Q : Exit → Act → World → Prop} (w : World) (hgd : o.guard = none) (s x : Operand)
    (ho : o.op = .call { callee := .builtin .append, args := #[s, x], argTypes := #[E.st, E.st] })
    (base k : Nat) (v : Value) (L : List Fl) (hs : a.eval s = v) (hown : OwnF E w base k v L) (y : Fl) (m : FlM) (hy : FlK w k m y) (hf : FreeQ v m.1 y.1) (cap : Nat) (cs : Array Value) (hcs : cs.toList = E.C m)
    (g : Nat) (hg : w.heap.size = g) (hx : a.eval x = .slice (some ⟨g, 0, none⟩) 1 cap) (hlen : L.length + 1 ≤ 1099511627776) (hb : base ≤ w.heap.size)
    (h : ∀ v' w', OwnF E w' base k v' (L ++ [y]) → Below base w w' → (∀ (m : PtM) (x : T.Pth), PtS w m x → FreeQ v m x → PtS w' m x ∧ FreeQ v' m x) → wpList Tryd.prog ops Q rest (a.put o.dst v') w') : wpList Tryd.prog ops Q (o :: rest) a (w.alloc (.cells cs E.T)) := by
  obtain ⟨M, h1, h2, h3⟩ := hown
  refine wpList_app3 E w hgd s x ho base v M hs h2 m cap cs hcs g hg hx (by omega) hb fun v' w' hG => h v' w' (OwnF.snoc h1 h3 hy hf hG) (hG.below h2 hb) fun m x hx hf => ?_
  refine ⟨⟨hx.len, hx.cap, fun hp => ?_⟩, fun hp a ha e => ?_⟩
  · obtain ⟨b, o, e, hb, hH⟩ := hx.seen hp
    have hne := hf hp _ e
    exact ⟨b, o, e, Nat.lt_of_lt_of_le hb hG.grown.size, holds_of_block hH (hG.grown.block b hb (fun e => hne e.symm))⟩
  · obtain ⟨b, o, e2, hb, _⟩ := hx.seen hp
    have hne := hf hp a ha
    have eb : a.block = b := by rw [e2] at ha; injection ha with ha; rw [← ha]
    rcases hG.at_ with h | ⟨g, h, h4⟩
    · rw [h] at e; exact hne e
    · rw [h] at e; injection e with e; omega
theorem vec13 {w : World} {m : PtM} {x : T.Pth} (h : PtS w m x) (h0 : 0 < x.length) : VecAt eS w (.slice m.A m.n m.c) x := by
  obtain ⟨A, n, c⟩ := m
  obtain ⟨b, o, e, hb, hH⟩ := h.seen h0
  have e : A = some ⟨b, o, none⟩ := e
  subst e
  have hl : x.length = n := h.len
  subst hl
  exact .inr ⟨b, o, c, rfl, h.cap, hb, hH⟩
theorem meantQ {Z : Nat} (A : Option Addr) (c n : Nat) (t : List T.Ln) (i : Nat) (B : Option Addr) (d : Nat) (x0 x1 x2 x3 : List UInt8) (r : Bool) (w : World) (hn : t.length = n) (hA : Seen eL w A t) (hl : n ≤ 1073741824) (hR : T.RightN Z t) (hi : i < n) (hp : T.pathL t i = [x0, x1, x2, x3]) (hB : Seen eS w B [x0, x1, x2, x3]) (hr : C.meantP (C.pths t) [x0, x1, x2, x3] = r) :
    Calls Tryd.prog 42 #[.slice A n c, .int .i64 (i : Int), .slice B 4 d] w (BoolS w r) := meantR A c n t i B d x0 x1 x2 x3 r w hn hA hl hR hi hp hB hr
theorem needsQ (x : List UInt8) (l : List C.Wd) (m : Nat) (w : World) (h : C.needsW x = l) (hm : l.length = m) : Calls Tryd.prog 22 #[.string (sB x)] w (fun e w' => ∃ A c, e = .returned (.slice A m c) ∧ PtK w' w.heap.size ⟨A, m, c⟩ l ∧ Below w.heap.size w w') := by
  subst h; subst hm
  refine (needsR x w).mono ?_
  rintro e w' ⟨A, c, rfl, h1, h2, h3, h4⟩
  exact ⟨A, c, rfl, ⟨⟨rfl, h1, h2⟩, h3⟩, h4⟩
set_option maxRecDepth 100000 in
set_option maxHeartbeats 8000000 in
theorem checkR {Z : Nat} (A : Option Addr) (c n : Nat) (t : List T.Ln) (w : World) (hn : t.length = n) (hA : Seen eL w A t) (hl : n ≤ 200) (hR : T.RightN Z t) :
    Calls Tryd.prog 16 #[.slice A n c] w (fun e w' => ∃ v, e = .returned v ∧ OwnF eFd w' w.heap.size w.heap.size v (C.checkP (C.pths t)) ∧ Below w.heap.size w w') := by
  have HA := Lib.hid hA
  have HN := Lib.hid hn
  have HRT := Lib.hid hR
  have hl30 : n ≤ 1073741824 := by omega
  have HFEW := Lib.hid (show ∀ i, i ≤ n → (C.checkTo t i).length ≤ 600 by intro i hi; have := C.check_few t i (by omega); omega)
  clear hA hn hR
  go_enter Tryd.func16, Tryd.ntmps16
  go_wp2
  go_loopg [3, 4] n (fun gk vo vi wr => ∃ i : Nat, Hid (i + gk = n) ∧ i ≤ n ∧ vi = .int .i64 (i : Int) ∧ Hid (OwnF eFd wr w.heap.size w.heap.size vo (C.checkTo t i)) ∧ Hid (C.Going t i) ∧ Below w.heap.size w wr)
  case atStart => exact ⟨0, Nat.zero_add _, Nat.zero_le _, rfl, OwnF.nil _ _ _ _, C.Going.start t, Below.refl _ _⟩
  case round =>
    obtain ⟨i, HG, hi, rfl, HO, HGO, hb⟩ := hrel
    have hgk := HG.out
    by_cases hlt : i < n
    · have blt : decide ((i : Int) < (n : Int)) = true := decide_eq_true (by omega)
      have blt2 : decide (i < n) = true := decide_eq_true hlt
      have hit : i < t.length := by rw [HN.out]; exact hlt
      have HIT := Lib.hid hit
      go_wp2_with fail
      refine (pathN13 A c n t i _ HN.out (HA.out.below hb) hlt hl30 HRT.out).mono ?_
      rintro e w2 ⟨B, d, rfl, hd, hs, hfr, hx⟩
      obtain ⟨p, hp⟩ : ∃ p, T.pathL t i = p := ⟨_, rfl⟩
      rw [hp] at hd hs ⊢
      have HP := Lib.hid hp
      have hne : p ≠ [] := by rw [← hp]; exact T.path_ne
      have hsw : ShortW p := by rw [← hp]; exact short_path HRT.out hit
      obtain ⟨ke, hke⟩ : ∃ ke, C.knownP p = ke := ⟨_, rfl⟩
      obtain ⟨np, hnp⟩ : ∃ np, p.length = np := ⟨_, rfl⟩
      have hnp30 : np ≤ 1073741824 := by
        have h1 := HRT.out.path_len i i (Nat.le_refl _) hit
        have h2 := HRT.out.deep i hit
        rw [hp] at h1; omega
      rw [hnp] at hd ⊢
      have HFR := Lib.hid (free13 (m := ⟨B, np, d⟩) (x := p) HO.out hfr)
      have hpt : PtK w2 wr.heap.size ⟨B, np, d⟩ p := ⟨⟨hnp, hd, hs⟩, hfr⟩
      have HO2 := Lib.hid (HO.out.keep hx)
      have hb2 := bthen hb hx
      have hwr := hb.size
      have HSW := Lib.hid hsw
      have HKE := Lib.hid hke
      have HNP := Lib.hid hnp
      have HS2 := Lib.hid hs
      have HNE := Lib.hid hne
      have HPT := Lib.hid hpt
      clear hp hx hfr hd hs hne hsw hke hnp hit hpt
      go_wp2_with fail
      refine (knownR B d np p ke _ HNP.out HS2.out HNE.out HSW.out hnp30 HKE.out).mono ?_
      rintro e w3 ⟨rfl, hx⟩
      have HO3 := Lib.hid (HO2.out.keep hx)
      have hb3 := bthen hb2 hx
      have HPT3 := Lib.hid ((HPT.out.below hx).less hwr)
      have hsz3 := hb3.size
      clear hx hb2 HO2 HS2 HPT
      by_cases hk0 : ke = 0

      · subst hk0
        have z0 : ((0 : Int) != 0) = false := rfl
        have HGN := Lib.hid (C.Going.next HGO.out (by rw [HP.out]; exact HKE.out))
        have HST := Lib.hid (show C.checkTo t (i + 1) = C.checkTo t i ++ C.faultsP (C.pths t) p from C.step_live HRT.out HIT.out HGO.out HP.out)
        rcases p with _ | ⟨x0, _ | ⟨x1, _ | ⟨x2, _ | ⟨x3, _ | ⟨x4, rest⟩⟩⟩⟩⟩
        · exact absurd rfl HNE.out
        · obtain rfl : 1 = np := HNP.out
          have HE := Lib.hid (show C.checkTo t (i + 1) = C.checkTo t i by rw [HST.out, C.faults_one _ _ HKE.out, List.append_nil])
          go_wp2
          go_roundg (n - (i + 1))
          case rel => exact ⟨i + 1, (by show _ = _; omega), by omega, by go_num, (by rw [HE.out]; exact HO3.out), HGN.out, hb3⟩
          case measure => omega
        · obtain rfl : 2 = np := HNP.out
          obtain ⟨b, o, rfl, hbw, hL⟩ := HPT3.out.pt.seen (by simp)
          have c0 : w3.cell? ⟨b, o, none⟩ = some (.string (sB x0)) := cellS hL (i := 0) rfl
          obtain ⟨l, hl0⟩ : ∃ l, C.needsW x0 = l := ⟨_, rfl⟩
          obtain ⟨nl, hnl⟩ : ∃ nl, l.length = nl := ⟨_, rfl⟩
          have HLL := Lib.hid hl0
          have HNL := Lib.hid hnl
          have hnl3 : nl ≤ 3 := by rw [← hnl, ← hl0]; exact C.needs_few x0
          have HALL := Lib.hid (show C.checkTo t (i + 1) = C.checkTo t i ++ C.lackTo (C.pths t) x0 x1 nl by rw [HST.out, C.lack_all _ _ _ HKE.out, hl0, hnl])
          have HFW := Lib.hid (HFEW.out i (by omega))
          clear hL hl0 hnl
          go_wp2_with fail
          refine (needsQ x0 l nl _ HLL.out HNL.out).mono ?_
          rintro e w4 ⟨A4, c4, rfl, hpl, hx⟩
          have HO4 := Lib.hid (HO3.out.keep hx)
          have hb4 := bthen hb3 hx
          have HPT4 := Lib.hid (HPT3.out.below hx)
          have HPL := Lib.hid (hpl.pt)
          have HFL := Lib.hid (free13 (m := ⟨A4, nl, c4⟩) (x := l) HO3.out hpl.from_)
          clear hx hpl
          go_wp2
          go_loopg [3, 12] nl (fun g2 vo vi wi => ∃ k : Nat, Hid (k + g2 = nl) ∧ k ≤ nl ∧ vi = .int .i64 (k : Int) ∧ Hid (OwnF eFd wi w.heap.size w.heap.size vo (C.checkTo t i ++ C.lackTo (C.pths t) x0 x1 k)) ∧ Hid (PtS wi ⟨some ⟨b, o, none⟩, 2, d⟩ [x0, x1]) ∧ Hid (FreeQ vo ⟨some ⟨b, o, none⟩, 2, d⟩ [x0, x1]) ∧ Hid (PtS wi ⟨A4, nl, c4⟩ l) ∧ Hid (FreeQ vo ⟨A4, nl, c4⟩ l) ∧ Below w.heap.size w wi)
          case atStart => exact ⟨0, Nat.zero_add _, Nat.zero_le _, rfl, (by show OwnF _ _ _ _ _ (C.checkTo t i ++ []); rw [List.append_nil]; exact HO4.out), HPT4.out.pt, HFR.out, HPL.out, HFL.out, hb4⟩
          case round =>
            obtain ⟨k, HG2, hk, rfl, HOK, HPK, HFK, HPLK, HFLK, hbk⟩ := hrel
            have hgk2 := HG2.out
            by_cases hlt2 : k < nl
            · have blt3 : decide ((k : Int) < (nl : Int)) = true := decide_eq_true (by omega)
              have blt4 : decide (k < nl) = true := decide_eq_true hlt2
              have hki : (k : Int) < (nl : Int) := by omega
              obtain ⟨x, hx0⟩ : ∃ x, l[k]? = some x := ⟨_, List.getElem?_eq_getElem (by rw [HNL.out]; exact hlt2)⟩
              obtain ⟨b5, o5, hA5, hw5, hL5⟩ := HPLK.out.seen (by rw [HNL.out]; omega)
              have hA5 : A4 = some ⟨b5, o5, none⟩ := hA5
              subst hA5
              have c5 : wr.cell? ⟨b5, o5 + k, none⟩ = some (.string (sB x)) := cellS hL5 hx0
              obtain ⟨hz, hhz⟩ : ∃ hz, C.hasP (C.pths t) [x0, x1] x = hz := ⟨_, rfl⟩
              have HHZ := Lib.hid (show ((T.kidsL t (i : Int)).any fun q => T.wd t q == x) = hz by rw [← C.has_pths HRT.out HIT.out x, HP.out]; exact hhz)
              have HNX := Lib.hid (C.lack_next (C.pths t) x0 x1 (k := k) (x := x) (by rw [HLL.out]; exact hx0))
              have HW5 := Lib.hid hw5
              cases hz with
              | true =>
                have HE2 := Lib.hid (show C.lackTo (C.pths t) x0 x1 (k + 1) = C.lackTo (C.pths t) x0 x1 k by rw [HNX.out, if_pos hhz, List.append_nil])
                clear hhz hL5 hx0 HNX hw5
                go_wp2_with fail
                refine (hasR A c n t (i : Int) x true _ HN.out (HA.out.below hbk) hl30 HHZ.out).mono ?_
                rintro e w6 ⟨rfl, hx⟩
                go_wp2
                go_roundg (nl - (k + 1))
                case rel => exact ⟨k + 1, (by show _ = _; omega), by omega, by go_num, (by rw [HE2.out]; exact HOK.out.keep hx), HPK.out.below hx, HFK.out, HPLK.out.below hx, HFLK.out, bthen hbk hx⟩
                case measure => omega
              | false =>
                have HE2 := Lib.hid (show C.lackTo (C.pths t) x0 x1 (k + 1) = C.lackTo (C.pths t) x0 x1 k ++ [([x0, x1] ++ [x], 1)] by rw [HNX.out, if_neg (by rw [hhz]; decide)])
                clear hhz hL5 hx0 HNX hw5
                go_wp2_with fail
                refine (hasR A c n t (i : Int) x false _ HN.out (HA.out.below hbk) hl30 HHZ.out).mono ?_
                rintro e w6 ⟨rfl, hx⟩
                have HO6 := Lib.hid (HOK.out.keep hx)
                have hb6 := bthen hbk hx
                have HPK6 := Lib.hid (HPK.out.below hx)
                have HPL6 := Lib.hid (HPLK.out.below hx)
                have c6 : w6.cell? ⟨b5, o5 + k, none⟩ = some (.string (sB x)) := (hx.cell (p := ⟨b5, o5 + k, none⟩) HW5.out).trans c5
                clear hx c5
                go_wp2_with fail
                refine (with_own (.slice (some ⟨b, o, none⟩) 2 d) [x0, x1] x _ (vec13 HPK6.out (by simp)) (by simp)).mono ?_
                rintro e w7 ⟨v2, rfl, hown2, hx⟩
                obtain ⟨A7, c7, rfl, hpt7⟩ := own_pt hown2
                have hpt7 : PtK w7 w6.heap.size ⟨A7, 3, c7⟩ ([x0, x1] ++ [x]) := hpt7
                rw [show ([x0, x1] ++ [x]).length = 3 from rfl]
                have HOX := Lib.hid (HO6.out.keep hx)
                have hb7 := bthen hb6 hx
                have HFX := Lib.hid (free13 (m := ⟨A7, 3, c7⟩) (x := [x0, x1] ++ [x]) HO6.out hpt7.from_)
                have HFK7 := Lib.hid (show FlK w7 w.heap.size ⟨⟨A7, 3, c7⟩, 1⟩ ([x0, x1] ++ [x], 1) from ⟨hpt7.less hb6.size, rfl⟩)
                have HPK7 := Lib.hid (HPK6.out.below hx)
                have HPL7 := Lib.hid (HPL6.out.below hx)
                have HLN := Lib.hid (show (C.checkTo t i ++ C.lackTo (C.pths t) x0 x1 k).length + 1 ≤ 1099511627776 by rw [List.length_append]; have := HFW.out; have := C.lack_few (C.pths t) x0 x1 k; omega)
                have hszx := hb7.size
                clear hx hown2 hpt7 c6 HO6 HPK6 HPL6
                go_wp2_with (at_builtin; refine wpList_appF2 eFd w7 rfl (.tmp 92) (.tmp 100) rfl w.heap.size w.heap.size u3 (C.checkTo t i ++ C.lackTo (C.pths t) x0 x1 k) rfl HOX.out ([x0, x1] ++ [x], 1) ⟨⟨A7, 3, c7⟩, 1⟩ HFK7.out HFX.out 1 _ rfl w7.heap.size rfl rfl HLN.out hszx ?_; intro v8 w8 hown8 hb8 hst8)
                obtain ⟨s1, s2⟩ := hst8 _ _ HPK7.out HFK.out
                obtain ⟨s3, s4⟩ := hst8 _ _ HPL7.out HFLK.out
                go_roundg (nl - (k + 1))
                case rel => exact ⟨k + 1, (by show _ = _; omega), by omega, by go_num, (by rw [HE2.out, ← List.append_assoc]; exact hown8), s1, s2, s3, s4, hb7.trans hb8⟩
                case measure => omega
            · have blt3 : decide ((k : Int) < (nl : Int)) = false := decide_eq_false (by omega)
              have blt4 : decide (k < nl) = false := decide_eq_false hlt2
              obtain rfl : k = nl := by omega
              go_wp2
              go_roundg (n - (i + 1))
              case rel => exact ⟨i + 1, (by show _ = _; omega), by omega, by go_num, (by rw [HALL.out]; exact HOK.out), HGN.out, hbk⟩
              case measure => omega
        · obtain rfl : 3 = np := HNP.out
          obtain ⟨b, o, rfl, hbw, hL⟩ := HPT3.out.pt.seen (by simp)
          have c0 : w3.cell? ⟨b, o, none⟩ = some (.string (sB x0)) := cellS hL (i := 0) rfl
          have c2 : w3.cell? ⟨b, o + 2, none⟩ = some (.string (sB x2)) := cellS hL (i := 2) rfl
          obtain ⟨ky, on, ne, hk⟩ : ∃ ky on ne, C.thirdK (C.key x0 x2) = (ky, on, ne) := ⟨_, _, _, rfl⟩
          have HK := Lib.hid hk
          have HX0 := Lib.hid (show x0.length ≤ 1073741824 from Nat.le_trans (HSW.out x0 (by simp)) (by omega))
          have HX2 := Lib.hid (show x2.length ≤ 1073741824 from Nat.le_trans (HSW.out x2 (by simp)) (by omega))
          obtain ⟨K, hK⟩ : ∃ K, T.kidsL t (i : Int) = K := ⟨_, rfl⟩
          obtain ⟨nk, hnk⟩ : ∃ nk, K.length = nk := ⟨_, rfl⟩
          have HKK := Lib.hid hK
          have HNK := Lib.hid hnk
          have hnk30 : nk ≤ 1073741824 := by
            have : K.length ≤ t.length := by rw [← hK]; exact T.filter_len t.length _
            have := HN.out; omega
          have HCT := Lib.hid (show C.checkTo t (i + 1) = C.checkTo t i ++ if on = true then (if nk = 0 then [([x0, x1, x2], 1)] else if 1 < nk then [([x0, x1, x2], 4)] else []) else [] by
            rw [HST.out, C.faults_three _ _ _ _ HKE.out, hk, ← HP.out, C.kids_count HRT.out HIT.out, hK, hnk])
          have HLN := Lib.hid (show (C.checkTo t i).length + 1 ≤ 1099511627776 by have := HFEW.out i (by omega); omega)
          clear hL hk hK hnk
          go_wp2
          go_quiet (first | (go_at_call 38; exact Calls.quiet_of_same (calls_sym (thirdR x0 x2 _ ky on ne _ HX0.out HX2.out rfl HK.out))))
          go_wp2_with fail
          refine (kidsN13 A c n t (i : Int) _ HN.out (HA.out.below (below_drawn10 hb3 _)) hl30).mono ?_
          rintro e w4 ⟨A4, c4, rfl, hc4, hs4, hx⟩
          rw [HKK.out, HNK.out]
          have HOX := Lib.hid ((HO3.out.keep (below_drawn10 (Below.refl _ _) _)).keep hx)
          have hb4 := bthen (below_drawn10 hb3 _) hx
          have HPT4 := Lib.hid ((HPT3.out.below (below_drawn10 (Below.refl _ _) _)).below hx)
          have hszx := hb4.size
          clear hx hc4 hs4
          cases on with
          | false =>
            have HE := Lib.hid (show C.checkTo t (i + 1) = C.checkTo t i by rw [HCT.out, if_neg (by decide), List.append_nil])
            go_wp2
            go_roundg (n - (i + 1))
            case rel => exact ⟨i + 1, (by show _ = _; omega), by omega, by go_num, (by rw [HE.out]; exact HOX.out), HGN.out, hb4⟩
            case measure => omega
          | true =>
            by_cases g0 : nk = 0
            · have d0 : ((nk : Int) == 0) = true := beq_iff_eq.2 (by omega)
              have d0b : (nk == 0) = true := beq_iff_eq.2 g0
              have d1 : decide ((nk : Int) > 1) = false := decide_eq_false (by omega)
              have d1a : decide ((1 : Int) < (nk : Int)) = false := decide_eq_false (by omega)
              have d1b : decide (1 < nk) = false := decide_eq_false (by omega)
              have HE := Lib.hid (show C.checkTo t (i + 1) = C.checkTo t i ++ [([x0, x1, x2], 1)] by rw [HCT.out, if_pos rfl, if_pos g0])
              have HFX := Lib.hid (show FlK w4 w.heap.size ⟨⟨some ⟨b, o, none⟩, 3, d⟩, 1⟩ ([x0, x1, x2], 1) from ⟨HPT4.out, rfl⟩)
              clear g0
              go_wp2_with (at_builtin; refine wpList_appF eFd w4 rfl (.tmp 56) (.tmp 59) rfl w.heap.size w.heap.size u3 (C.checkTo t i) rfl HOX.out ([x0, x1, x2], 1) ⟨⟨some ⟨b, o, none⟩, 3, d⟩, 1⟩ HFX.out HFR.out 1 _ rfl w4.heap.size rfl rfl HLN.out hszx ?_; intro v5 w5 hown5 hb5)
              go_roundg (n - (i + 1))
              case rel => exact ⟨i + 1, (by show _ = _; omega), by omega, by go_num, (by rw [HE.out]; exact hown5), HGN.out, hb4.trans hb5⟩
              case measure => omega
            · have d0 : ((nk : Int) == 0) = false := beq_eq_false_iff_ne.2 (by omega)
              have d0b : (nk == 0) = false := beq_eq_false_iff_ne.2 g0
              have d0c : ¬ nk = 0 := g0
              by_cases g1 : 1 < nk
              · have d1 : decide ((nk : Int) > 1) = true := decide_eq_true (by omega)
                have d1a : decide ((1 : Int) < (nk : Int)) = true := decide_eq_true (by omega)
                have d1b : decide (1 < nk) = true := decide_eq_true g1
                have HE := Lib.hid (show C.checkTo t (i + 1) = C.checkTo t i ++ [([x0, x1, x2], 4)] by rw [HCT.out, if_pos rfl, if_neg g0, if_pos g1])
                have HFX := Lib.hid (show FlK w4 w.heap.size ⟨⟨some ⟨b, o, none⟩, 3, d⟩, 4⟩ ([x0, x1, x2], 4) from ⟨HPT4.out, rfl⟩)
                clear g0 g1
                go_wp2_with (at_builtin; refine wpList_appF eFd w4 rfl (.tmp 66) (.tmp 69) rfl w.heap.size w.heap.size u3 (C.checkTo t i) rfl HOX.out ([x0, x1, x2], 4) ⟨⟨some ⟨b, o, none⟩, 3, d⟩, 4⟩ HFX.out HFR.out 1 _ rfl w4.heap.size rfl rfl HLN.out hszx ?_; intro v5 w5 hown5 hb5)
                go_roundg (n - (i + 1))
                case rel => exact ⟨i + 1, (by show _ = _; omega), by omega, by go_num, (by rw [HE.out]; exact hown5), HGN.out, hb4.trans hb5⟩
                case measure => omega
              · have d1 : decide ((nk : Int) > 1) = false := decide_eq_false (by omega)
                have d1a : decide ((1 : Int) < (nk : Int)) = false := decide_eq_false (by omega)
                have d1b : decide (1 < nk) = false := decide_eq_false g1
                have HE := Lib.hid (show C.checkTo t (i + 1) = C.checkTo t i by rw [HCT.out, if_pos rfl, if_neg g0, if_neg g1, List.append_nil])
                clear g0 g1
                go_wp2
                go_roundg (n - (i + 1))
                case rel => exact ⟨i + 1, (by show _ = _; omega), by omega, by go_num, (by rw [HE.out]; exact HOX.out), HGN.out, hb4⟩
                case measure => omega
        · obtain rfl : 4 = np := HNP.out
          obtain ⟨mb, hmb⟩ : ∃ mb, C.meantP (C.pths t) [x0, x1, x2, x3] = mb := ⟨_, rfl⟩
          have HMB := Lib.hid hmb
          have HCT := Lib.hid (show C.checkTo t (i + 1) = C.checkTo t i ++ if mb = true then [([x0, x1, x2, x3], 7)] else [] by rw [HST.out, C.faults_four _ _ _ _ _ HKE.out, hmb])
          have HLN := Lib.hid (show (C.checkTo t i).length + 1 ≤ 1099511627776 by have := HFEW.out i (by omega); omega)
          clear hmb
          go_wp2_with fail
          refine (meantQ A c n t i B d x0 x1 x2 x3 mb _ HN.out (HA.out.below hb3) hl30 HRT.out hlt HP.out HPT3.out.pt.seen HMB.out).mono ?_
          rintro e w4 ⟨rfl, hx⟩
          have HOX := Lib.hid (HO3.out.keep hx)
          have hb4 := bthen hb3 hx
          have HPT4 := Lib.hid (HPT3.out.below hx)
          have hszx := hb4.size
          clear hx
          cases mb with
          | false =>
            have HE := Lib.hid (show C.checkTo t (i + 1) = C.checkTo t i by rw [HCT.out, if_neg (by decide), List.append_nil])
            go_wp2
            go_roundg (n - (i + 1))
            case rel => exact ⟨i + 1, (by show _ = _; omega), by omega, by go_num, (by rw [HE.out]; exact HOX.out), HGN.out, hb4⟩
            case measure => omega
          | true =>
            have HE := Lib.hid (show C.checkTo t (i + 1) = C.checkTo t i ++ [([x0, x1, x2, x3], 7)] by rw [HCT.out, if_pos rfl])
            have HFX := Lib.hid (show FlK w4 w.heap.size ⟨⟨B, 4, d⟩, 7⟩ ([x0, x1, x2, x3], 7) from ⟨HPT4.out, rfl⟩)
            go_wp2_with (at_builtin; refine wpList_appF eFd w4 rfl (.tmp 111) (.tmp 114) rfl w.heap.size w.heap.size u3 (C.checkTo t i) rfl HOX.out ([x0, x1, x2, x3], 7) ⟨⟨B, 4, d⟩, 7⟩ HFX.out HFR.out 1 _ rfl w4.heap.size rfl rfl HLN.out hszx ?_; intro v5 w5 hown5 hb5)
            go_roundg (n - (i + 1))
            case rel => exact ⟨i + 1, (by show _ = _; omega), by omega, by go_num, (by rw [HE.out]; exact hown5), HGN.out, hb4.trans hb5⟩
            case measure => omega
        · exact absurd (show (3 : Int) = 0 from HKE.out) (by decide)
      · have z0 : (ke != 0) = true := by simp [hk0]
        obtain ⟨en, hen⟩ : ∃ en, T.endL t i = en := ⟨_, rfl⟩
        have HEN := Lib.hid hen
        have hsp := T.end_spec t i HIT.out
        have hen1 : i < en := by rw [← hen]; omega
        have hen2 : en ≤ n := by rw [← hen, ← HN.out]; exact hsp.2.1
        have HGN := Lib.hid (show C.Going t en by rw [← hen]; exact C.Going.skip HRT.out HIT.out HGO.out)
        have HE := Lib.hid (show C.checkTo t en = C.checkTo t i ++ [(p, ke)] by rw [← hen]; exact C.step_end HRT.out HIT.out HGO.out HP.out HKE.out hk0)
        have HLN := Lib.hid (show (C.checkTo t i).length + 1 ≤ 1099511627776 by have := HFEW.out i (by omega); omega)
        have HFX := Lib.hid (show FlK w3 w.heap.size ⟨⟨B, np, d⟩, ke⟩ (p, ke) from ⟨HPT3.out, rfl⟩)
        clear hsp hen hk0
        go_wp2_with (at_builtin; refine wpList_appF eFd w3 rfl (.tmp 24) (.tmp 28) rfl w.heap.size w.heap.size u3 (C.checkTo t i) rfl HO3.out (p, ke) ⟨⟨B, np, d⟩, ke⟩ HFX.out HFR.out 1 _ rfl w3.heap.size rfl rfl HLN.out hsz3 ?_; intro v5 w5 hown5 hb5)
        refine (endN13 A c n t i _ HN.out (HA.out.below (hb3.trans hb5)) hlt hl30).mono ?_
        rintro e w6 ⟨rfl, hx⟩
        rw [HEN.out]
        go_wp2
        go_roundg (n - en)
        case rel => exact ⟨en, (by show _ = _; omega), hen2, rfl, (by rw [HE.out]; exact hown5.keep hx), HGN.out, bthen (hb3.trans hb5) hx⟩
        case measure => omega
    · have blt : decide ((i : Int) < (n : Int)) = false := decide_eq_false (by omega)
      have blt2 : decide (i < n) = false := decide_eq_false hlt
      obtain rfl : i = n := by omega
      have HE := Lib.hid (show C.checkTo t i = C.checkP (C.pths t) by rw [← HN.out]; exact C.check_full t)
      go_wp2
      go_ret
      exact ⟨_, rfl, (by rw [← HE.out]; exact HO.out), hb⟩
end Go.Proofs.YtikjdjfpoohieaaDoor

namespace Go.Proofs.YtikjdjfpoohieaaDoor
open Go.RowKit
set_option linter.unusedVariables false

/-- A slice of this address reads as these faults. -/
def SeenF (E : Elem FlM) (w : World) (A : Option Addr) (L : List Fl) : Prop := ∃ M : List FlM, M.length = L.length ∧ Seen E w A M ∧ ∀ i (h1 : i < M.length) (h2 : i < L.length), PtS w M[i].1 L[i].1 ∧ M[i].2 = L[i].2
theorem SeenF.below {E : Elem FlM} {w w1 : World} {A : Option Addr} {L : List Fl} (h : SeenF E w A L) (hb : Below w.heap.size w w1) : SeenF E w1 A L := by
  obtain ⟨M, h1, h2, h3⟩ := h
  exact ⟨M, h1, h2.below hb, fun i h4 h5 => ⟨(h3 i h4 h5).1.below hb, (h3 i h4 h5).2⟩⟩
theorem ManyF.seenF {E : Elem FlM} {w : World} {k : Nat} {v : Value} {L : List Fl} (h : ManyF E w k v L) : ∃ A c, v = .slice A L.length c ∧ L.length ≤ c ∧ SeenF E w A L := by
  obtain ⟨M, h1, h2, h3⟩ := h
  obtain ⟨A, c, e, h4, h5⟩ := h2.seen
  rw [h1] at e h4
  exact ⟨A, c, e, h4, M, h1, h5, fun i h6 h7 => ⟨(h3 i h6 h7).pt.pt, (h3 i h6 h7).num⟩⟩
theorem ManyF.seenV {E : Elem FlM} {w : World} {k m d : Nat} {B : Option Addr} {L : List Fl} (h : ManyF E w k (.slice B m d) L) : m = L.length ∧ m ≤ d ∧ SeenF E w B L := by
  obtain ⟨A, c, e, h4, h5⟩ := h.seenF
  injection e with e1 e2 e3
  subst e1; subst e2; subst e3
  exact ⟨rfl, h4, h5⟩
/-- One fault of a slice. -/
theorem SeenF.atV {E : Elem FlM} (hz : E.sz = 2) (hC : E.C = flC) {w : World} {A : Option Addr} {L : List Fl} (h : SeenF E w A L) {i : Nat} {y : Fl} (hy : L[i]? = some y) : ∃ b o B n c, A = some ⟨b, o, none⟩ ∧ b < w.heap.size ∧ w.cell? ⟨b, o + i * 2, none⟩ = some (.slice B n c) ∧ w.cell? ⟨b, o + i * 2 + 1, none⟩ = some (.int .i64 y.2) ∧ PtS w ⟨B, n, c⟩ y.1 := by
  obtain ⟨M, h1, h2, h3⟩ := h
  obtain ⟨h5, h6⟩ := List.getElem?_eq_some_iff.1 hy
  have hM : i < M.length := by omega
  obtain ⟨b, o, rfl, hb, hH⟩ := h2 (by omega)
  obtain ⟨c1, c2⟩ := hH.flQ hz hC hM
  obtain ⟨p1, p2⟩ := h3 i hM h5
  rw [h6] at p1 p2
  exact ⟨b, o, M[i].1.A, M[i].1.n, M[i].1.c, rfl, hb, c1, by rw [← p2]; exact c2, p1⟩
set_option maxRecDepth 100000 in
set_option maxHeartbeats 4000000 in
theorem sameF13 (A B : Option Addr) (c d n : Nat) (L : List Fl) (w : World) (hn : L.length = n) (hn30 : n ≤ 1073741824) (hp30 : ∀ x ∈ L, x.1.length ≤ 1073741824) (hA : SeenF eFd w A L) (hB : SeenF eFd w B L) :
    Calls Tryd.prog 14 #[.slice A n c, .slice B n d] w (TrueS w) := by
  have HA := Lib.hid hA
  have HB := Lib.hid hB
  have HN := Lib.hid hn
  have HP := Lib.hid hp30
  clear hA hB hn hp30
  go_enter Tryd.func14, Tryd.ntmps14
  go_wp2
  go_loopg [5] n (fun gk vi wr => ∃ k : Nat, Hid (k + gk = n) ∧ k ≤ n ∧ vi = .int .i64 (k : Int) ∧ Below w.heap.size w wr)
  case atStart => exact ⟨0, Nat.zero_add _, Nat.zero_le _, rfl, Below.refl _ _⟩
  case round =>
    obtain ⟨k, HG, hk, rfl, hb⟩ := hrel
    by_cases hlt : k < n
    · have blt : decide ((k : Int) < (n : Int)) = true := decide_eq_true (by omega)
      have blt2 : decide (k < n) = true := decide_eq_true hlt
      obtain ⟨y, hy⟩ : ∃ y, L[k]? = some y := ⟨_, List.getElem?_eq_getElem (by have := HN.out; omega)⟩
      obtain ⟨b, o, B1, n1, c1, rfl, hw1, e1, e2, hp1⟩ := HA.out.atV rfl rfl hy
      obtain ⟨b2, o2, B2, n2, c2, rfl, hw2, e3, e4, hp2⟩ := HB.out.atV rfl rfl hy
      have HQ := Lib.hid (HP.out y (List.mem_of_getElem? hy))
      obtain ⟨P, er⟩ := y
      have hl1 : P.length = n1 := hp1.len
      have hl2 : P.length = n2 := hp2.len
      obtain rfl : n2 = n1 := by omega
      simp only at e2 e4
      have hn1le : n2 ≤ 1073741824 := by have := HQ.out; simp only at this; omega
      have HPN := Lib.hid hl1
      have HKP := Lib.hid (fun w' (h : Below w.heap.size w w') => show (w'.cell? ⟨b, o + k * 2, none⟩ = some (.slice B1 n2 c1) ∧ w'.cell? ⟨b, o + k * 2 + 1, none⟩ = some (.int .i64 er)) ∧ w'.cell? ⟨b2, o2 + k * 2, none⟩ = some (.slice B2 n2 c2) ∧ w'.cell? ⟨b2, o2 + k * 2 + 1, none⟩ = some (.int .i64 er) from
        ⟨⟨(h.cell (p := ⟨b, o + k * 2, none⟩) hw1).trans e1, (h.cell (p := ⟨b, o + k * 2 + 1, none⟩) hw1).trans e2⟩, (h.cell (p := ⟨b2, o2 + k * 2, none⟩) hw2).trans e3, (h.cell (p := ⟨b2, o2 + k * 2 + 1, none⟩) hw2).trans e4⟩)
      have HEQ := Lib.hid (fun w' (h : Below w.heap.size w w') => equal_yes B1 B2 c1 c2 P P n2 n2 w' rfl HPN.out HPN.out hn1le ((hp1.below h).seen) ((hp2.below h).seen))
      have hbd : Below w.heap.size w wr.drew := hb.drew
      have hki : (k : Int) < (n : Int) := by omega
      have hgk := HG.out
      clear hy hp1 hp2 hl1 hl2 e1 e2 e3 e4
      go_wp2
      go_region_held3 (fun w' => Below w.heap.size w w' ∧ (w'.cell? ⟨b, o + k * 2, none⟩ = some (.slice B1 n2 c1) ∧ w'.cell? ⟨b, o + k * 2 + 1, none⟩ = some (.int .i64 er)) ∧ w'.cell? ⟨b2, o2 + k * 2, none⟩ = some (.slice B2 n2 c2) ∧ w'.cell? ⟨b2, o2 + k * 2 + 1, none⟩ = some (.int .i64 er)) (first | ((refine ⟨?_, HKP.out _ ?_⟩) <;> (first | assumption | (refine Below.drew ?_; assumption))) | go_keep) (first | (go_at_call 23; refine (HEQ.out _ (by assumption)).mono ?_; rintro e w' ⟨rfl, hx⟩; have hbx := bthen (show Below w.heap.size w _ by assumption) hx))
      all_goals go_wp2
      all_goals
        go_roundg (n - (k + 1))
        case rel => exact ⟨k + 1, (by show _ = _; omega), by omega, by go_num, hbx⟩
        case measure => omega
    · have blt : decide ((k : Int) < (n : Int)) = false := decide_eq_false (by omega)
      have blt2 : decide (k < n) = false := decide_eq_false hlt
      go_wp2
      go_ret
      exact ⟨rfl, hb⟩
set_option maxRecDepth 100000 in
set_option maxHeartbeats 4000000 in
theorem refsF13 (A : Option Addr) (c n : Nat) (L : List Fl) (w : World) (hn : L.length = n) (hn30 : n ≤ 1073741824) (hA : SeenF eFc w A L) :
    Calls Tryd.prog 15 #[.slice A n c] w (fun e w' => ∃ B d, e = .returned (.slice B n d) ∧ n ≤ d ∧ SeenF eFd w' B L ∧ Below w.heap.size w w') := by
  have HA := Lib.hid hA
  have HN := Lib.hid hn
  clear hA hn
  go_enter Tryd.func15, Tryd.ntmps15
  go_wp2
  go_loopg [3, 8] n (fun gk vo vi wr => ∃ k : Nat, Hid (k + gk = n) ∧ k ≤ n ∧ vi = .int .i64 (k : Int) ∧ Hid (OwnF eFd wr w.heap.size 0 vo (L.take k)) ∧ Below w.heap.size w wr)
  case atStart => exact ⟨0, Nat.zero_add _, Nat.zero_le _, rfl, OwnF.nil _ _ _ _, Below.refl _ _⟩
  case round =>
    obtain ⟨k, HG, hk, rfl, HO, hb⟩ := hrel
    have hgk := HG.out
    by_cases hlt : k < n
    · have blt : decide ((k : Int) < (n : Int)) = true := decide_eq_true (by omega)
      have blt2 : decide (k < n) = true := decide_eq_true hlt
      have hki : (k : Int) < (n : Int) := by omega
      obtain ⟨y, hy⟩ : ∃ y, L[k]? = some y := ⟨_, List.getElem?_eq_getElem (by have := HN.out; omega)⟩
      obtain ⟨b, o, B1, n1, c1, rfl, hw1, e1, e2, hp1⟩ := HA.out.atV rfl rfl hy
      obtain ⟨P, er⟩ := y
      simp only at e2 hp1
      have q1 : wr.cell? ⟨b, o + k * 2, none⟩ = some (.slice B1 n1 c1) := (hb.cell (p := ⟨b, o + k * 2, none⟩) hw1).trans e1
      have q2 : wr.cell? ⟨b, o + k * 2 + 1, none⟩ = some (.int .i64 er) := (hb.cell (p := ⟨b, o + k * 2 + 1, none⟩) hw1).trans e2
      have HNX := Lib.hid (show L.take (k + 1) = L.take k ++ [(P, er)] by
        obtain ⟨h5, h6⟩ := List.getElem?_eq_some_iff.1 hy
        rw [List.take_succ_eq_append_getElem h5, h6])
      have HPT := Lib.hid hp1
      have hb1 := up wr (.cells #[.slice B1 n1 c1, .int .i64 er] 44)
      have HO1 := Lib.hid (HO.out.keep hb1)
      have HFR := Lib.hid (OwnF.flFreeB (m := ⟨B1, n1, c1⟩) (x := P) HO1.out hp1 (Nat.le_refl _))
      have hbw := bthen hb hb1
      have HFX := Lib.hid (show FlK (wr.alloc (.cells #[.slice B1 n1 c1, .int .i64 er] 44)) 0 ⟨⟨B1, n1, c1⟩, er⟩ (P, er) from ⟨⟨hp1.below hbw, fun _ _ => Nat.zero_le _⟩, rfl⟩)
      have HLN := Lib.hid (show (L.take k).length + 1 ≤ 1099511627776 by rw [List.length_take]; omega)
      have hszx := hbw.size
      have y0 : (wr.alloc (.cells #[.slice B1 n1 c1, .int .i64 er] 44)).cell? ⟨wr.heap.size, 0, none⟩ = some (.slice B1 n1 c1) := World.cell?_alloc_mark wr #[.slice B1 n1 c1, .int .i64 er] 44 (0, 0) 0
      have y1 : (wr.alloc (.cells #[.slice B1 n1 c1, .int .i64 er] 44)).cell? ⟨wr.heap.size, 1, none⟩ = some (.int .i64 er) := World.cell?_alloc_mark wr #[.slice B1 n1 c1, .int .i64 er] 44 (0, 0) 1
      have HBW := Lib.hid hbw
      clear hy e1 e2 hp1 hb1 hbw
      go_wp2_with (at_builtin; refine wpList_appF eFd _ rfl (.tmp 12) (.tmp 18) rfl w.heap.size 0 u3 (L.take k) rfl HO1.out (P, er) ⟨⟨B1, n1, c1⟩, er⟩ HFX.out HFR.out 1 _ rfl (wr.heap.size + 1) (by simp) rfl HLN.out hszx ?_; intro v5 w5 hown5 hb5)
      go_roundg (n - (k + 1))
      case rel => exact ⟨k + 1, (by show _ = _; omega), by omega, by go_num, (by rw [HNX.out]; exact hown5), HBW.out.trans hb5⟩
      case measure => omega
    · have blt : decide ((k : Int) < (n : Int)) = false := decide_eq_false (by omega)
      have blt2 : decide (k < n) = false := decide_eq_false hlt
      have HE := Lib.hid (show L.take k = L from List.take_of_length_le (by have := HN.out; omega))
      obtain ⟨B, d, rfl, hd, hs⟩ := HO.out.flMany.seenF
      rw [HE.out, HN.out] at hd ⊢
      rw [HE.out] at hs
      go_wp2
      go_ret
      exact ⟨B, d, rfl, hd, hs, hb⟩
theorem few13 (A : Option Addr) (c n : Nat) (t : List T.Ln) (w : World) (hn : t.length = n) (hA : Seen eL w A t) :
    Calls Tryd.prog 10 #[.slice A n c] w (fun e w' => ∃ r : Bool, e = .returned (.bool r) ∧ (r = true → n ≤ 60) ∧ Below w.heap.size w w') := by
  subst hn
  have HA := Lib.hid hA
  clear hA
  go_enter Tryd.func10, Tryd.ntmps10
  go_wp2_with fail
  refine (small_is A c t _ HA.out).mono ?_
  rintro e w1 ⟨b, rfl, hs, hb⟩
  cases b with
  | false =>
    go_wp2
    go_ret
    exact ⟨false, rfl, (fun h => by cases h), hb⟩
  | true =>
    by_cases h : t.length ≤ 60
    · have d1 : decide ((t.length : Int) ≤ 60) = true := decide_eq_true (by omega)
      have d2 : decide (t.length ≤ 60) = true := decide_eq_true h
      go_wp2
      go_ret
      exact ⟨true, rfl, fun _ => h, hb⟩
    · have d1 : decide ((t.length : Int) ≤ 60) = false := decide_eq_false (by omega)
      have d2 : decide (t.length ≤ 60) = false := decide_eq_false h
      go_wp2
      go_ret
      exact ⟨false, rfl, (fun h => by cases h), hb⟩
def aw13T : List T.Ln := [⟨0, C.wHosts, 0⟩, ⟨1, [97], 0⟩, ⟨1, [98], 0⟩, ⟨2, C.wIp, 0⟩, ⟨3, [49, 48, 46, 48, 46, 48, 46, 49], 0⟩, ⟨0, [120], 0⟩]
theorem aw13_right : T.RightT aw13T := by
  have h1 : ∀ k, k < 6 → (0 ≤ T.dp aw13T k ∧ T.dp aw13T k ≤ 15) ∧ (T.wd aw13T k).length ≤ 40 ∧ 0 ≤ (T.at_ aw13T k).mark ∧ (T.at_ aw13T k).mark ≤ 3 := by decide +kernel
  have h2 : ∀ k, k < 5 → T.dp aw13T (k + 1) ≤ T.dp aw13T k + 1 := by decide +kernel
  have h3 : ∀ k, k < 6 → ∀ i, i < k → T.dp aw13T k = T.dp aw13T i → (∀ j, j < k → i < j → T.dp aw13T i ≤ T.dp aw13T j) → Op.bytesLess (T.wd aw13T i) (T.wd aw13T k) = true := by decide +kernel
  exact ⟨by decide, fun i hi => (h1 i hi).1, fun i hi => (h1 i hi).2.1, fun i hi => (h1 i hi).2.2, fun _ => by decide +kernel, fun i hi => h2 i (by have : i + 1 < 6 := hi; omega), fun i k h4 h5 h6 h7 => h3 k h5 i h4 h6 (fun j h8 h9 => h7 j h9 h8)⟩
theorem aw13_check : C.checkP (C.pths aw13T) = [([C.wHosts, [97], C.wIp], 1), ([[120]], 3)] := by decide +kernel
theorem aw13_needs : needsL [C.wBindings, [49, 46, 50, 46, 51, 46, 52]] = [C.wHost, C.wMac, C.wVni] := by decide +kernel
theorem aw13_deny : C.typeB C.kAction C.wDeny = true := by decide +kernel
theorem aw13_vni : C.typeB C.kVni [48] = false := by decide +kernel
set_option maxRecDepth 100000 in
set_option maxHeartbeats 4000000 in
theorem awake13 (E : SchemaOk) (w : World) (HTAB : RowsOk w) : Calls Tryd.prog 11 #[] w (TrueS w) := by
  have TAB := Lib.hid HTAB
  clear HTAB
  have HT := fun (w : World) (cs : Array Value) (h : cs.toList = cellsG eL aw13T) => lit_seen eL w aw13T cs h (by decide)
  go_enter Tryd.func11, Tryd.ntmps11
  go_wp2_with fail
  refine (E.checkOf _ 6 6 2 aw13T _ 0 _ ⟨rfl, by omega, by omega, (by intro h; cases h), HT w _ rfl⟩ (.inl ⟨aw13_right, aw13_check.symm, rfl⟩) rfl (rowsAt TAB (up w _))).mono ?_
  rintro e w1 ⟨B1, d1, rfl, hm, hx⟩
  have hb1 := (up w (.cells #[.int .i64 0, .string (sB C.wHosts), .int .i64 0, .int .i64 1, .string (sB [97]), .int .i64 0, .int .i64 1, .string (sB [98]), .int .i64 0, .int .i64 2, .string (sB C.wIp), .int .i64 0, .int .i64 3, .string (sB [49, 48, 46, 48, 46, 48, 46, 49]), .int .i64 0, .int .i64 0, .string (sB [120]), .int .i64 0] 42)).trans (hx.mono (up w _).size)
  obtain ⟨_, _, hs⟩ := hm.1.seenV
  have HS := Lib.hid hs
  clear hx hm hs
  go_wp2_with fail
  refine (E.needsOf _ 2 2 3 [C.wBindings, [49, 46, 50, 46, 51, 46, 52]] _ _ rfl (by omega) (by omega) (by decide) (lit_seen eS w1 [C.wBindings, [49, 46, 50, 46, 51, 46, 52]] _ rfl (by decide)) aw13_needs rfl (rowsAt TAB (hb1.trans ((up w1 _).mono hb1.size)))).mono ?_
  rintro e w2 ⟨B2, d2, rfl, hd2, hs2, hx⟩
  have hx2 := (up w1 (.cells #[.string (sB C.wBindings), .string (sB [49, 46, 50, 46, 51, 46, 52])] 9)).trans (hx.mono (up w1 _).size)
  have hb2 := bthen hb1 hx2
  obtain ⟨b, o, B3, n3, c3, rfl, hw3, e1, e2, hp1⟩ := (HS.out.below hx2).atV rfl rfl (i := 0) rfl
  obtain ⟨b', o', B4, n4, c4, hAe, hw4, e3, e4, hp2⟩ := (HS.out.below hx2).atV rfl rfl (i := 1) rfl
  injection hAe with hAe
  injection hAe with ha1 ha2 _
  subst ha1; subst ha2
  have hn3 : 3 = n3 := hp1.len
  subst hn3
  simp only [Nat.zero_mul, Nat.add_zero, Nat.one_mul] at e1 e2 e3 e4
  obtain ⟨b5, o5, rfl, hw5, hL5⟩ := hs2 (by decide)
  have e5 : w2.cell? ⟨b5, o5, none⟩ = some (.string (sB C.wHost)) := cellS hL5 (i := 0) rfl
  have HS3 := Lib.hid hp1.seen
  have HL3 := Lib.hid (show Seen eS (w2.alloc (.cells #[.string (sB C.wHosts), .string (sB [97]), .string (sB C.wIp)] 9)) (some ⟨w2.heap.size, 0, none⟩) [C.wHosts, [97], C.wIp] from lit_seen eS w2 [C.wHosts, [97], C.wIp] _ rfl (by decide))
  have h5 : ((sB C.wHost).toList == [104, 111, 115, 116]) = true := by decide +kernel
  clear hx hx2 hs2 hp1 hp2 hL5 hb1
  go_wp2_with fail
  refine (equal_yes B3 _ c3 _ [C.wHosts, [97], C.wIp] [C.wHosts, [97], C.wIp] 3 3 _ rfl rfl rfl (by omega) (HS3.out.below (up w2 _)) HL3.out).mono ?_
  rintro e w3 ⟨rfl, hx⟩
  have hx3 := (up w2 (.cells #[.string (sB C.wHosts), .string (sB [97]), .string (sB C.wIp)] 9)).trans (hx.mono (up w2 _).size)
  have hb3 := bthen hb2 hx3
  have e4' : w3.cell? ⟨b, o + 2 + 1, none⟩ = some (.int .i64 3) := (hx3.cell (p := ⟨b, o + 2 + 1, none⟩) hw3).trans e4
  have e5' : w3.cell? ⟨b5, o5, none⟩ = some (.string (sB C.wHost)) := (hx3.cell (p := ⟨b5, o5, none⟩) hw5).trans e5
  clear hx hx3 e4 e5
  go_wp2_with fail
  refine (E.typeOf (sB C.kAction) (sB C.wDeny) true _ (by decide) (by decide) (by rw [sB_data, sB_data]; exact aw13_deny)).mono ?_
  rintro e w4 ⟨rfl, hx⟩
  have hb4 := bthen hb3 hx
  clear hx
  go_wp2_with fail
  refine (E.typeOf (sB C.kVni) (sB [48]) false _ (by decide) (by decide) (by rw [sB_data, sB_data]; exact aw13_vni)).mono ?_
  rintro e w5 ⟨rfl, hx⟩
  have hb5 := bthen hb4 hx
  clear hx
  go_wp2
  go_ret
  exact ⟨rfl, hb5⟩
end Go.Proofs.YtikjdjfpoohieaaDoor

namespace Go.Proofs.YtikjdjfpoohieaaDoor
open C (Wd)
open T (Pth)
set_option linter.unusedVariables false

abbrev Rw := Wd × Wd × Bool × Bool
namespace C
/-- May a word stand where the table has that one? -/
def standsB (w s : Wd) : Bool := if s.head? = some 36 then typeB s w else decide (w = s)
def matchB : Pth → List Wd → Bool
  | [], [] => true
  | a :: p, s :: l => standsB a s && matchB p l
  | _, _ => false
/-- Is a path, word by word, what the table says? -/
def meetsB (p : Pth) (said : Wd) : Bool := matchB p (N.splitL 32 said)
theorem match_nil {l : List Wd} (h : l ≠ []) : matchB [] l = false := by cases l with | nil => exact absurd rfl h | cons => rfl
theorem match_none (p : Pth) : p ≠ [] → matchB p [] = false := by cases p with | nil => exact fun h => absurd rfl h | cons => exact fun _ => rfl
theorem meets_nil (s : Wd) : meetsB [] s = false := match_nil (N.split_ne 32 s)
/-- Some rows with their words. -/
def wordsS : List (List Wd × Rw) := [([wHosts], (wHosts, kName, false, false)), ([wHosts, kName, wIp], (wHosts ++ 32 :: (kName ++ 32 :: wIp), kIp, true, true)), ([wHosts, kName, wMac], (wHosts ++ 32 :: (kName ++ 32 :: wMac), kMac, true, false)), ([wHosts, kName, wVnis], (wHosts ++ 32 :: (kName ++ 32 :: wVnis), kVni, false, false)),
  ([wVnis], (wVnis, kVni, false, false)), ([wVnis, kVni, wSubnet], (wVnis ++ 32 :: (kVni ++ 32 :: wSubnet), kPrefix, true, true)),
  ([wBindings], (wBindings, kIp, false, false)), ([wBindings, kIp, wHost], (wBindings ++ 32 :: (kIp ++ 32 :: wHost), kName, true, true)), ([wBindings, kIp, wMac], (wBindings ++ 32 :: (kIp ++ 32 :: wMac), kMac, true, true)), ([wBindings, kIp, wVni], (wBindings ++ 32 :: (kIp ++ 32 :: wVni), kVni, true, true)),
  ([wRoutes], (wRoutes, kPrefix, false, false)), ([wRoutes, kPrefix, wVia], (wRoutes ++ 32 :: (kPrefix ++ 32 :: wVia), kName, true, true)), ([wRoutes, kPrefix, wMetric], (wRoutes ++ 32 :: (kPrefix ++ 32 :: wMetric), kMetric, true, false)),
  ([wPolicy], (wPolicy, kNum, false, false)), ([wPolicy, kNum, wAction], (wPolicy ++ 32 :: (kNum ++ 32 :: wAction), kAction, true, true)), ([wPolicy, kNum, wFrom], (wPolicy ++ 32 :: (kNum ++ 32 :: wFrom), kPrefix, true, false)), ([wPolicy, kNum, wTo], (wPolicy ++ 32 :: (kNum ++ 32 :: wTo), kPrefix, true, false))]
theorem rows_words : rowsL = wordsS.map (·.2) := by decide +kernel
theorem words_said : ∀ x ∈ wordsS, N.splitL 32 x.2.1 = x.1 := by decide +kernel
theorem find_words (p : Pth) : ∀ l : List (List Wd × Rw), (∀ x ∈ l, N.splitL 32 x.2.1 = x.1) → (l.map (·.2)).find? (fun r => meetsB p r.1) = (l.find? fun x => matchB p x.1).map (·.2)
  | [], _ => rfl
  | x :: l, h => by
    rw [List.map_cons, List.find?_cons, List.find?_cons]
    show (match meetsB p x.2.1 with | true => _ | false => _) = _
    unfold meetsB
    rw [h x List.mem_cons_self]
    cases matchB p x.1
    · exact find_words p l fun y hy => h y (List.mem_cons_of_mem _ hy)
    · rfl
/-- The first row whose first path a path is. -/
def firstR (p : Pth) : Option Rw := rowsL.find? fun r => meetsB p r.1
theorem first_words (p : Pth) : firstR p = (wordsS.find? fun x => matchB p x.1).map (·.2) := by
  unfold firstR; rw [rows_words]; exact find_words p wordsS words_said
theorem st_hosts (a : Wd) : standsB a wHosts = decide (a = wHosts) := rfl
theorem st_vnis (a : Wd) : standsB a wVnis = decide (a = wVnis) := rfl
theorem st_bindings (a : Wd) : standsB a wBindings = decide (a = wBindings) := rfl
theorem st_routes (a : Wd) : standsB a wRoutes = decide (a = wRoutes) := rfl
theorem st_policy (a : Wd) : standsB a wPolicy = decide (a = wPolicy) := rfl
theorem st_ip (a : Wd) : standsB a wIp = decide (a = wIp) := rfl
theorem st_mac (a : Wd) : standsB a wMac = decide (a = wMac) := rfl
theorem st_subnet (a : Wd) : standsB a wSubnet = decide (a = wSubnet) := rfl
theorem st_host (a : Wd) : standsB a wHost = decide (a = wHost) := rfl
theorem st_vni (a : Wd) : standsB a wVni = decide (a = wVni) := rfl
theorem st_via (a : Wd) : standsB a wVia = decide (a = wVia) := rfl
theorem st_metric (a : Wd) : standsB a wMetric = decide (a = wMetric) := rfl
theorem st_action (a : Wd) : standsB a wAction = decide (a = wAction) := rfl
theorem st_from (a : Wd) : standsB a wFrom = decide (a = wFrom) := rfl
theorem st_to (a : Wd) : standsB a wTo = decide (a = wTo) := rfl
theorem sk_name (a : Wd) : standsB a kName = typeB kName a := rfl
theorem sk_ip (a : Wd) : standsB a kIp = typeB kIp a := rfl
theorem sk_prefix (a : Wd) : standsB a kPrefix = typeB kPrefix a := rfl
theorem sk_vni (a : Wd) : standsB a kVni = typeB kVni a := rfl
theorem sk_num (a : Wd) : standsB a kNum = typeB kNum a := rfl
theorem type_none (w : Wd) : typeB [] w = false := rfl
theorem mB1 (a s : Wd) : matchB [a] [s] = standsB a s := by show (standsB a s && true) = _; rw [Bool.and_true]
theorem mB13 (a s1 s2 s3 : Wd) : matchB [a] [s1, s2, s3] = false := by show (standsB a s1 && false) = _; rw [Bool.and_false]
theorem mB21 (a b s : Wd) : matchB [a, b] [s] = false := by show (standsB a s && false) = _; rw [Bool.and_false]
theorem mB23 (a b s1 s2 s3 : Wd) : matchB [a, b] [s1, s2, s3] = false := by show (standsB a s1 && (standsB b s2 && false)) = _; rw [Bool.and_false, Bool.and_false]
theorem mB31 (a b c s : Wd) : matchB [a, b, c] [s] = false := by show (standsB a s && false) = _; rw [Bool.and_false]
theorem mB33 (a b c s1 s2 s3 : Wd) : matchB [a, b, c] [s1, s2, s3] = (standsB a s1 && (standsB b s2 && standsB c s3)) := by show (standsB a s1 && (standsB b s2 && (standsB c s3 && true))) = _; rw [Bool.and_true]
theorem mB4 (a b c d : Wd) (r : Pth) (l : List Wd) (h : l.length ≤ 3) : matchB (a :: b :: c :: d :: r) l = false := by
  match l, h with
  | [], _ => rfl
  | [x], _ => show (standsB a x && false) = _; rw [Bool.and_false]
  | [x, y], _ => show (standsB a x && (standsB b y && false)) = _; rw [Bool.and_false, Bool.and_false]
  | [x, y, z], _ => show (standsB a x && (standsB b y && (standsB c z && false))) = _; rw [Bool.and_false, Bool.and_false, Bool.and_false]
theorem first_one (a : Wd) : firstR [a] = if secondW a = [] then none else some (a, secondW a, false, false) := by
  rw [first_words]
  by_cases h1 : a = wHosts
  · subst h1; decide +kernel
  by_cases h2 : a = wVnis
  · subst h2; decide +kernel
  by_cases h3 : a = wBindings
  · subst h3; decide +kernel
  by_cases h4 : a = wRoutes
  · subst h4; decide +kernel
  by_cases h5 : a = wPolicy
  · subst h5; decide +kernel
  simp only [wordsS, List.find?_cons, List.find?_nil, mB1, mB13, st_hosts, st_vnis, st_bindings, st_routes, st_policy, decide_eq_false h1, decide_eq_false h2, decide_eq_false h3, decide_eq_false h4, decide_eq_false h5]
  unfold secondW
  rw [if_neg h1, if_neg h2, if_neg h3, if_neg h4, if_neg h5]; rfl
theorem first_two (a b : Wd) : firstR [a, b] = none := by
  rw [first_words]
  simp only [wordsS, List.find?_cons, List.find?_nil, mB21, mB23]; rfl
theorem first_many (a b c d : Wd) (r : Pth) : firstR (a :: b :: c :: d :: r) = none := by
  rw [first_words, List.find?_eq_none.2]
  · rfl
  · intro x hx
    rw [mB4 a b c d r x.1 ((show ∀ x ∈ wordsS, x.1.length ≤ 3 by decide +kernel) x hx)]; decide
theorem first_nil : firstR [] = none := by decide +kernel
theorem key_ne {x y z : Wd} (h : y ≠ z) : key x y ≠ key x z := fun e => h (by unfold key at e; have := List.append_cancel_left e; injection this)
theorem head_ne {x y u v : Wd} (h : x.take 4 ≠ y.take 4 ∧ 4 ≤ x.length ∧ 4 ≤ y.length) : key x u ≠ key y v := fun e => h.1 (by
  have := congrArg (List.take 4) e
  unfold key at this
  rwa [List.take_append_of_le_length h.2.1, List.take_append_of_le_length h.2.2] at this)
theorem third_none {z : Wd} (h : ∀ k ∈ [key wHosts wIp, key wHosts wMac, key wHosts wVnis, key wVnis wSubnet, key wBindings wHost, key wRoutes wVia, key wBindings wMac, key wBindings wVni, key wRoutes wMetric, key wPolicy wAction, key wPolicy wFrom, key wPolicy wTo], z ≠ k) : thirdK z = ([], false, false) := by
  simp only [List.forall_mem_cons] at h
  obtain ⟨h1, h2, h3, h4, h5, h6, h7, h8, h9, h10, h11, h12, _⟩ := h
  unfold thirdK
  rw [if_neg h1, if_neg h2, if_neg h3, if_neg h4, if_neg (by rintro (h | h); exact h5 h; exact h6 h), if_neg h7, if_neg h8, if_neg h9, if_neg h10, if_neg (by rintro (h | h); exact h11 h; exact h12 h)]
/-- A row's first path, of three words. -/
def said3 (a c : Wd) : Wd := a ++ 32 :: (secondW a ++ 32 :: c)
/-- What the table says of a path of three words. -/
def row3 (a b c : Wd) : Option Rw := if typeB (secondW a) b = true then (if (thirdK (key a c)).1 = [] then none else some (said3 a c, thirdK (key a c))) else none
theorem first_three (a b c : Wd) : firstR [a, b, c] = row3 a b c := by
  rw [first_words]
  unfold row3
  by_cases h1 : a = wHosts
  · subst h1
    rw [show secondW wHosts = kName from rfl]
    simp only [wordsS, List.find?_cons, List.find?_nil, mB31, mB33, st_hosts, st_vnis, st_bindings, st_routes, st_policy, sk_name, show decide (wHosts = wVnis) = false from rfl, show decide (wHosts = wBindings) = false from rfl, show decide (wHosts = wRoutes) = false from rfl, show decide (wHosts = wPolicy) = false from rfl, Bool.false_and, st_ip, st_mac, st_vnis]
    cases typeB kName b with
    | false => rfl
    | true =>
      by_cases g1 : c = wIp
      · subst g1; decide +kernel
      by_cases g2 : c = wMac
      · subst g2; decide +kernel
      by_cases g3 : c = wVnis
      · subst g3; decide +kernel
      rw [third_none (by
        simp only [List.forall_mem_cons]
        refine ⟨key_ne g1, key_ne g2, key_ne g3, head_ne (by decide), head_ne (by decide), head_ne (by decide), head_ne (by decide), head_ne (by decide), head_ne (by decide), head_ne (by decide), head_ne (by decide), head_ne (by decide), fun _ h => by cases h⟩)]
      rw [decide_eq_false g1, decide_eq_false g2, decide_eq_false g3]; rfl
  by_cases h2 : a = wVnis
  · subst h2
    rw [show secondW wVnis = kVni from rfl]
    simp only [wordsS, List.find?_cons, List.find?_nil, mB31, mB33, st_hosts, st_vnis, st_bindings, st_routes, st_policy, sk_vni, show decide (wVnis = wBindings) = false from rfl, show decide (wVnis = wRoutes) = false from rfl, show decide (wVnis = wPolicy) = false from rfl, show decide (wVnis = wHosts) = false from rfl, Bool.false_and, st_subnet]
    cases typeB kVni b with
    | false => rfl
    | true =>
      by_cases g1 : c = wSubnet
      · subst g1; decide +kernel
      rw [third_none (by
        simp only [List.forall_mem_cons]
        refine ⟨head_ne (by decide), head_ne (by decide), head_ne (by decide), key_ne g1, head_ne (by decide), head_ne (by decide), head_ne (by decide), head_ne (by decide), head_ne (by decide), head_ne (by decide), head_ne (by decide), head_ne (by decide), fun _ h => by cases h⟩)]
      rw [decide_eq_false g1]; rfl
  by_cases h3 : a = wBindings
  · subst h3
    rw [show secondW wBindings = kIp from rfl]
    simp only [wordsS, List.find?_cons, List.find?_nil, mB31, mB33, st_hosts, st_vnis, st_bindings, st_routes, st_policy, sk_ip, show decide (wBindings = wVnis) = false from rfl, show decide (wBindings = wRoutes) = false from rfl, show decide (wBindings = wPolicy) = false from rfl, show decide (wBindings = wHosts) = false from rfl, Bool.false_and, st_host, st_mac, st_vni]
    cases typeB kIp b with
    | false => rfl
    | true =>
      by_cases g1 : c = wHost
      · subst g1; decide +kernel
      by_cases g2 : c = wMac
      · subst g2; decide +kernel
      by_cases g3 : c = wVni
      · subst g3; decide +kernel
      rw [third_none (by
        simp only [List.forall_mem_cons]
        refine ⟨head_ne (by decide), head_ne (by decide), head_ne (by decide), head_ne (by decide), key_ne g1, head_ne (by decide), key_ne g2, key_ne g3, head_ne (by decide), head_ne (by decide), head_ne (by decide), head_ne (by decide), fun _ h => by cases h⟩)]
      rw [decide_eq_false g1, decide_eq_false g2, decide_eq_false g3]; rfl
  by_cases h4 : a = wRoutes
  · subst h4
    rw [show secondW wRoutes = kPrefix from rfl]
    simp only [wordsS, List.find?_cons, List.find?_nil, mB31, mB33, st_hosts, st_vnis, st_bindings, st_routes, st_policy, sk_prefix, show decide (wRoutes = wVnis) = false from rfl, show decide (wRoutes = wBindings) = false from rfl, show decide (wRoutes = wPolicy) = false from rfl, show decide (wRoutes = wHosts) = false from rfl, Bool.false_and, st_via, st_metric]
    cases typeB kPrefix b with
    | false => rfl
    | true =>
      by_cases g1 : c = wVia
      · subst g1; decide +kernel
      by_cases g2 : c = wMetric
      · subst g2; decide +kernel
      rw [third_none (by
        simp only [List.forall_mem_cons]
        refine ⟨head_ne (by decide), head_ne (by decide), head_ne (by decide), head_ne (by decide), head_ne (by decide), key_ne g1, head_ne (by decide), head_ne (by decide), key_ne g2, head_ne (by decide), head_ne (by decide), head_ne (by decide), fun _ h => by cases h⟩)]
      rw [decide_eq_false g1, decide_eq_false g2]; rfl
  by_cases h5 : a = wPolicy
  · subst h5
    rw [show secondW wPolicy = kNum from rfl]
    simp only [wordsS, List.find?_cons, List.find?_nil, mB31, mB33, st_hosts, st_vnis, st_bindings, st_routes, st_policy, sk_num, show decide (wPolicy = wVnis) = false from rfl, show decide (wPolicy = wBindings) = false from rfl, show decide (wPolicy = wRoutes) = false from rfl, show decide (wPolicy = wHosts) = false from rfl, Bool.false_and, st_action, st_from, st_to]
    cases typeB kNum b with
    | false => rfl
    | true =>
      by_cases g1 : c = wAction
      · subst g1; decide +kernel
      by_cases g2 : c = wFrom
      · subst g2; decide +kernel
      by_cases g3 : c = wTo
      · subst g3; decide +kernel
      rw [third_none (by
        simp only [List.forall_mem_cons]
        refine ⟨head_ne (by decide), head_ne (by decide), head_ne (by decide), head_ne (by decide), head_ne (by decide), head_ne (by decide), head_ne (by decide), head_ne (by decide), head_ne (by decide), key_ne g1, key_ne g2, key_ne g3, fun _ h => by cases h⟩)]
      rw [decide_eq_false g1, decide_eq_false g2, decide_eq_false g3]; rfl
  have e0 : secondW a = [] := by unfold secondW; rw [if_neg h1, if_neg h2, if_neg h3, if_neg h4, if_neg h5]
  rw [e0, type_none, if_neg (by decide)]
  simp only [wordsS, List.find?_cons, List.find?_nil, mB31, mB33, st_hosts, st_vnis, st_bindings, st_routes, st_policy, decide_eq_false h1, decide_eq_false h2, decide_eq_false h3, decide_eq_false h4, decide_eq_false h5, Bool.false_and]
  rfl
end C
end Go.Proofs.YtikjdjfpoohieaaDoor

namespace Go.Proofs.YtikjdjfpoohieaaDoor
open Go.Shelf Go.RowKit

/-- The library's table of the powers of ten holds its numbers. -/
def TabOk (w : World) : Prop := Lib.TabIs Tryd.prog w "internal/strconv.uint64pow10" .u64 Lib.pow10Tab
theorem TabOk.below {w w1 : World} (h : TabOk w) (hb : Below w.heap.size w w1) : TabOk w1 := Lib.tabBelow_of_tabIs h w1 hb
end Go.Proofs.YtikjdjfpoohieaaDoor

namespace Go.Proofs.YtikjdjfpoohieaaDoor
open Go.RowKit
set_option linter.unusedVariables false

/-- An int of Go. -/
def I64 (n : Int) : Prop := -9223372036854775808 ≤ n ∧ n ≤ 9223372036854775807
/-- A number, if there is one. -/
def okA (z : Int) : Int × Bool := if 0 ≤ z then (z, true) else (0, false)
/-- The number of a text within bounds. -/
def numA (l : List UInt8) (least most : Int) : Int × Bool := if 0 ≤ N.numL l ∧ least ≤ N.numL l ∧ N.numL l ≤ most then (N.numL l, true) else (0, false)
/-- The prefix of a text. -/
def prefA (l : List UInt8) : Int × Int × Bool := if 0 ≤ (N.prefL l).1 then ((N.prefL l).1, (N.prefL l).2, true) else (0, 0, false)
end Go.Proofs.YtikjdjfpoohieaaDoor
