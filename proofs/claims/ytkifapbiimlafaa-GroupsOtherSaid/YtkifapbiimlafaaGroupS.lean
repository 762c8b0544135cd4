/-
  The document's side of layer 12 (ferryslipref12): star, Under, Fill. Condition: trees.
-/
import Derived.Test.YtkifapbiimlafaaGroupQ
import Derived.Test.YtkifapbiimlafaaPathsM
import Derived.Test.YtkifapbiimlafaaLinesR
import Derived.Test.YtkifapbiimlafaaTreeE
namespace Go.Proofs.Ytkifapbiimlafaa.T
set_option linter.unusedVariables false
/-- Where the first * of a path stands, from a place on. -/
def StarAt (p : Pth) (f : Nat) (z : Int) : Prop := (z = -1 ∧ starW ∉ p.drop f) ∨ ∃ i : Nat, z = (i : Int) ∧ f ≤ i ∧ i < p.length ∧ p = p.take i ++ starW :: p.drop (i + 1) ∧ starW ∉ (p.drop f).take (i - f)
theorem star_here {p : Pth} {f i : Nat} (hf : f ≤ i) (hi : i < p.length) (e : p[i] = starW) (h : starW ∉ (p.drop f).take (i - f)) : StarAt p f i := by
  refine .inr ⟨i, rfl, hf, hi, ?_, h⟩
  rw [← e, ← List.drop_eq_getElem_cons hi, List.take_append_drop]
theorem star_next {p : Pth} {f i : Nat} (hf : f ≤ i) (hi : i < p.length) (e : p[i] ≠ starW) (h : starW ∉ (p.drop f).take (i - f)) : starW ∉ (p.drop f).take (i + 1 - f) := by
  have hlt : i - f < (p.drop f).length := by rw [List.length_drop]; omega
  rw [show i + 1 - f = (i - f) + 1 by omega, List.take_succ_eq_append_getElem hlt, List.mem_append, List.mem_singleton]
  rintro (k | k)
  · exact h k
  · rw [List.getElem_drop] at k
    exact e (by rw [k]; congr 1; omega)
theorem star_none {p : Pth} {f : Nat} (h : starW ∉ (p.drop f).take (p.length - f)) : StarAt p f (-1) := by
  refine .inl ⟨rfl, ?_⟩
  rwa [List.take_of_length_le (by rw [List.length_drop]; omega)] at h
theorem fill_from {x : List Ln} {p : Pth} {f : Nat} (h : starW ∉ p.drop f) : fillR x (p.take f) (p.drop f) = [p] := by
  rw [fill_plain x _ _ h, List.take_append_drop]
/-- What the first words make of a path. -/
def fillTo (x : List Ln) (p : Pth) (a i : Nat) : List Pth := ((underW x (p.take a)).take i).flatMap fun k => fillR x (p.take a ++ [k]) (p.drop (a + 1))
theorem fill_all {x : List Ln} {p : Pth} {f a : Nat} (hf : f ≤ a) (ha : a < p.length) (e : p = p.take a ++ starW :: p.drop (a + 1)) (h : starW ∉ (p.drop f).take (a - f)) : fillR x (p.take f) (p.drop f) = fillTo x p a (underW x (p.take a)).length := by
  have e1 : p.drop f = (p.drop f).take (a - f) ++ starW :: p.drop (a + 1) := by
    conv => lhs; rw [← List.take_append_drop (a - f) (p.drop f)]
    rw [List.drop_drop, show f + (a - f) = a by omega]
    congr 1
    conv => lhs; rw [e]
    rw [List.drop_left' (by rw [List.length_take]; omega)]
  have e2 : p.take f ++ (p.drop f).take (a - f) = p.take a := by
    rw [← List.take_add]
    congr 1
    omega
  rw [e1, fill_star x _ _ _ h, e2]
  unfold fillTo
  rw [List.take_length]
theorem fillTo_next {x : List Ln} {p : Pth} {a i : Nat} (hi : i < (underW x (p.take a)).length) : fillTo x p a (i + 1) = fillTo x p a i ++ fillR x (p.take a ++ [(underW x (p.take a))[i]]) (p.drop (a + 1)) := by
  unfold fillTo
  rw [List.take_succ_eq_append_getElem hi, List.flatMap_append]
  simp
theorem flat_take_len {α β : Type} (f : α → List β) (l : List α) (i : Nat) : ((l.take i).flatMap f).length ≤ (l.flatMap f).length := by
  conv => rhs; rw [← List.take_append_drop i l]
  rw [List.flatMap_append, List.length_append]
  omega
theorem fillTo_len {N : Nat} {x : List Ln} (hx : RightN N x) {p : Pth} {f a : Nat} (hf : f ≤ a) (ha : a < p.length) (e : p = p.take a ++ starW :: p.drop (a + 1)) (h : starW ∉ (p.drop f).take (a - f)) (i : Nat) : (fillTo x p a i).length ≤ 1 + x.length := by
  have h1 := fill_most hx (p.drop f) (p.take f)
  rw [fill_all hf ha e h] at h1
  unfold fillTo at h1 ⊢
  rw [List.take_length] at h1
  exact Nat.le_trans (flat_take_len _ _ _) h1
theorem with_take {p : Pth} {a : Nat} (ha : a < p.length) (k : List UInt8) : (p.take a ++ [k] ++ p.drop (a + 1)).take (a + 1) = p.take a ++ [k] ∧ (p.take a ++ [k] ++ p.drop (a + 1)).drop (a + 1) = p.drop (a + 1) := by
  have hl : (p.take a ++ [k]).length = a + 1 := by rw [List.length_append, List.length_take, List.length_singleton]; omega
  exact ⟨List.take_left' hl, List.drop_left' hl⟩
end Go.Proofs.Ytkifapbiimlafaa.T
namespace Go.Proofs.Ytkifapbiimlafaa
open Go.RowKit
set_option linter.unusedVariables false

set_option maxRecDepth 100000 in
set_option maxHeartbeats 1000000 in
theorem starR12 (A : Option Addr) (c n : Nat) (p : T.Pth) (f : Nat) (w : World) (hn : p.length = n) (hA : Seen eS w A p) (hl : n ≤ 1073741824) (hf : f ≤ n) :
    Calls Try.prog 59 #[.slice A n c, .int .i64 (f : Int)] w (fun e w' => ∃ z : Int, e = .returned (.int .i64 z) ∧ T.StarAt p f z ∧ w = w') := by
  have HA := Lib.hid hA
  have HN := Lib.hid hn
  clear hA hn
  go_enter Try.func59, Try.ntmps59
  go_wp2
  go_loopg [5] (n - f) (fun g vi wr => ∃ i : Nat, Hid (i + g = n) ∧ Hid (f ≤ i) ∧ vi = .int .i64 (i : Int) ∧ Hid (T.starW ∉ (p.drop f).take (i - f)) ∧ w = wr)
  case atStart => exact ⟨f, (by show f + (n - f) = n; omega), Nat.le_refl _, rfl, (by show _ ∉ _; rw [Nat.sub_self, List.take_zero]; exact List.not_mem_nil), rfl⟩
  case round =>
    obtain ⟨i, HG, HF, rfl, HS, rfl⟩ := hrel
    have hgk := HG.out
    by_cases hlt : i < n
    · have blt : decide ((i : Int) < (n : Int)) = true := decide_eq_true (by omega)
      have blt2 : decide (i < n) = true := decide_eq_true hlt
      have hip : i < p.length := by rw [HN.out]; exact hlt
      have hki : (i : Int) < (n : Int) := by omega
      obtain ⟨b, o, rfl, hbw, hL⟩ := HA.out (by omega)
      have c1 := hL.str hip
      by_cases he : p[i] = T.starW
      · have hq : ((sB p[i]).toList == [42]) = true := by rw [sB_toList, he]; rfl
        have HZ := Lib.hid (T.star_here HF.out hip he HS.out)
        clear he hL
        go_wp2
        go_ret
        exact ⟨_, rfl, HZ.out, rfl⟩
      · have hq : ((sB p[i]).toList == [42]) = false := by rw [sB_toList]; exact beq_eq_false_iff_ne.2 he
        have HZ := Lib.hid (T.star_next HF.out hip he HS.out)
        have HF2 := Lib.hid (show f ≤ i + 1 by have := HF.out; omega)
        clear he hL
        go_wp2
        go_roundg (n - (i + 1))
        case rel => exact ⟨i + 1, (by show _ = _; omega), HF2.out, by go_num, HZ.out, rfl⟩
        case measure => omega
    · have blt : decide ((i : Int) < (n : Int)) = false := decide_eq_false (by omega)
      have blt2 : decide (i < n) = false := decide_eq_false hlt
      have HZ := Lib.hid (T.star_none (p := p) (f := f) (by have := HS.out; rwa [show i = p.length by rw [HN.out]; omega] at this))
      go_wp2
      go_ret
      exact ⟨_, rfl, HZ.out, rfl⟩
/-- What a call has made: words. -/
def MadeS (w : World) (l : List (List UInt8)) (e : Ending) (w' : World) : Prop := ∃ A c, e = .returned (.slice A l.length c) ∧ l.length ≤ c ∧ Seen eS w' A l ∧ Below w.heap.size w w'
theorem kidsN12 (A : Option Addr) (c n : Nat) (t : List T.Ln) (i : Int) (w : World) (hn : t.length = n) (hA : Seen eL w A t) (hl : n ≤ 1073741824) :
    Calls Try.prog 48 #[.slice A n c, .int .i64 i] w (SawG eI w (T.kidsL t i)) := by subst hn; exact refKids_any A c t i w hA hl
theorem findN12 {N : Nat} (A B : Option Addr) (c d n m : Nat) (t : List T.Ln) (p : T.Pth) (w : World) (hn : t.length = n) (hm : p.length = m) (hA : Seen eL w A t) (hB : Seen eS w B p) (hl : n ≤ 1073741824) (hl2 : m ≤ 1073741824) (hR : T.RightN N t) :
    Calls Try.prog 30 #[.slice A n c, .slice B m d] w (fun e w' => ((∃ i : Nat, i < t.length ∧ T.pathL t i = p ∧ e = .returned (.int .i64 (i : Int))) ∨ ((∀ i, i < t.length → T.pathL t i ≠ p) ∧ e = .returned (.int .i64 (-1)))) ∧ Below w.heap.size w w') := by
  subst hn; subst hm; exact refFind_any A B c d t p w hA hB hl hl2 hR
/-- What is owned from a block on is owned from an elder one on. -/
theorem Own.lower {α : Type} {E : Elem α} {w : World} {base b2 : Nat} {v : Value} {l : List α} (h : Own E w base v l) (hb : b2 ≤ base) : Own E w b2 v l := by
  refine ⟨h.1, ?_⟩
  rcases h.2 with hn | ⟨g, cap, cur, e, hbg, rest⟩
  · exact .inl hn
  · exact .inr ⟨g, cap, cur, e, Nat.le_trans hb hbg, rest⟩
/-- A slice of the call's own. -/
def MadeO (w : World) (l : List (List UInt8)) (e : Ending) (w' : World) : Prop := ∃ v, e = .returned v ∧ Own eS w' w.heap.size v l ∧ Below w.heap.size w w'
set_option maxRecDepth 100000 in
set_option maxHeartbeats 4000000 in
theorem underO12 {N : Nat} (A : Option Addr) (c n : Nat) (t : List T.Ln) (B : Option Addr) (d m : Nat) (p : T.Pth) (w : World) (hn : t.length = n) (hm : p.length = m) (hA : Seen eL w A t) (hB : Seen eS w B p) (hl : n ≤ 1073741824) (hl2 : m ≤ 1073741824) (hR : T.RightN N t) :
    Calls Try.prog 27 #[.slice A n c, .slice B m d] w (MadeO w (T.underW t p)) := by
  have HA := Lib.hid hA
  have HN := Lib.hid hn
  have HR := Lib.hid hR
  have HM := Lib.hid hm
  have HKL := Lib.hid (show ∀ i, (T.kidsL t i).length ≤ n by intro i; rw [← hn]; exact T.filter_len t.length _)
  by_cases h0 : m = 0
  · have hp : p = [] := List.eq_nil_of_length_eq_zero (by omega)
    have b1 : decide ((0 : Int) < (m : Int)) = false := decide_eq_false (by omega)
    have b1b : decide (0 < m) = false := decide_eq_false (by omega)
    obtain ⟨K, hK⟩ : ∃ K, T.kidsL t (-1) = K := ⟨_, rfl⟩
    have HK := Lib.hid hK
    have HU := Lib.hid (show K.map (T.wd t) = T.underW t p by rw [← hK, hp, T.kids_words hR ⟨by omega, by omega⟩, T.pathI_none])
    have HIN := Lib.hid (show ∀ k ∈ K, k < n by intro k hk; rw [← hK] at hk; have := ((T.mem_kids t (-1) k).1 hk).1; omega)
    replace HKL := Lib.hid (show K.length ≤ n by rw [← hK]; exact HKL.out _)
    clear hA hB hn hm hR hK hl2 hp h0
    go_enter Try.func27, Try.ntmps27
    go_wp2_with fail
    refine (kidsN12 A c n t (-1) _ HN.out (HA.out) hl).mono ?_
    rintro e w2 ⟨A2, c2, rfl, hc2, hs2, hb2⟩
    rw [HK.out] at hc2 hs2 ⊢
    have HB2 := Lib.hid (hb2)
    have HS2 := Lib.hid hs2
    obtain ⟨nk, hnk⟩ : ∃ k, K.length = k := ⟨_, rfl⟩
    rw [hnk]
    have HNK := Lib.hid hnk
    have hnk2 : nk ≤ 1073741824 := by have := HKL.out; have := HNK.out; omega
    clear hc2 hs2 hb2 hnk
    go_wp2
    go_loopg [6, 8] nk (fun g vo vi wr => ∃ i : Nat, Hid (i + g = nk) ∧ vi = .int .i64 (i : Int) ∧ Hid (Own eS wr w2.heap.size vo ((K.take i).map (T.wd t))) ∧ Hid (Below w2.heap.size w2 wr))
    case atStart => exact ⟨0, Nat.zero_add _, rfl, Own.nil _ _, Below.refl _ _⟩
    case round =>
      obtain ⟨i, HG, rfl, HO, HBR⟩ := hrel
      have hgk := HG.out
      by_cases hlt : i < nk
      · have blt : decide ((i : Int) < (nk : Int)) = true := decide_eq_true (by omega)
        have blt2 : decide (i < nk) = true := decide_eq_true hlt
        have hiK : i < K.length := by rw [HNK.out]; exact hlt
        have hki : (i : Int) < (nk : Int) := by omega
        obtain ⟨q, hq⟩ : ∃ q, K[i] = q := ⟨_, rfl⟩
        have hqn : q < n := by rw [← hq]; exact HIN.out _ (List.getElem_mem hiK)
        have hqt : q < t.length := by rw [HN.out]; exact hqn
        have hqi : (q : Int) < (n : Int) := by omega
        obtain ⟨b3, o3, rfl, hw3, hL3⟩ := HS2.out (by omega)
        have c3 := (hL3.below HBR.out hw3).num hiK
        rw [hq] at c3
        obtain ⟨b4, o4, hA4, hw4, hL4⟩ := HA.out.lines (by rw [HN.out]; omega)
        subst hA4
        obtain ⟨_, c4, _⟩ := (hL4.below (HB2.out.trans (HBR.out.mono HB2.out.size)) hw4).line hqt
        have HNX := Lib.hid (show (K.take (i + 1)).map (T.wd t) = (K.take i).map (T.wd t) ++ [T.wd t q] by rw [List.take_succ_eq_append_getElem hiK, List.map_append, hq]; rfl)
        have HLN := Lib.hid (show ((K.take i).map (T.wd t)).length ≤ nk by rw [List.length_map, List.length_take]; omega)
        have hsz := HBR.out.size
        clear hq hqt hL3 hL4
        go_wp2_with (at_builtin; refine wpList_appG eS wr rfl (.tmp 26) (.tmp 35) rfl w2.heap.size u6 ((K.take i).map (T.wd t)) rfl HO.out (T.wd t q) 1 _ rfl wr.heap.size rfl rfl (by have := HLN.out; omega) hsz ?_; intro v5 w5 hown5 hb5)
        go_roundg (nk - (i + 1))
        case rel => exact ⟨i + 1, (by show _ = _; omega), by go_num, (by rw [HNX.out]; exact hown5), HBR.out.trans hb5⟩
        case measure => omega
      · have blt : decide ((i : Int) < (nk : Int)) = false := decide_eq_false (by omega)
        have blt2 : decide (i < nk) = false := decide_eq_false hlt
        have HE := Lib.hid (show (K.take i).map (T.wd t) = T.underW t p by rw [List.take_of_length_le (by rw [HNK.out]; omega)]; exact HU.out)
        obtain ⟨A6, c6, rfl, hc6, hs6⟩ := HO.out.seen
        rw [HE.out] at hc6 hs6 ⊢
        go_wp2
        go_ret
        exact ⟨_, rfl, (by have h := HO.out; rw [HE.out] at h; exact h.lower HB2.out.size), HB2.out.trans (HBR.out.mono HB2.out.size)⟩
  · have b1 : decide ((0 : Int) < (m : Int)) = true := decide_eq_true (by omega)
    have b1b : decide (0 < m) = true := decide_eq_true (by omega)
    have HB := Lib.hid hB
    clear hA hB hn hm hR
    go_enter Try.func27, Try.ntmps27
    go_wp2_with fail
    refine (findN12 A B c d n m t p _ HN.out HM.out HA.out HB.out hl hl2 HR.out).mono ?_
    rintro e w1 ⟨⟨i0, hi0, hp0, rfl⟩ | ⟨hno, rfl⟩, hb1⟩
    · have HB1 := Lib.hid hb1
      obtain ⟨K, hK⟩ : ∃ K, T.kidsL t (i0 : Int) = K := ⟨_, rfl⟩
      have HK := Lib.hid hK
      have HU := Lib.hid (show K.map (T.wd t) = T.underW t p by rw [← hK, T.kids_words HR.out ⟨by omega, by omega⟩, T.pathI_nat, hp0])
      have HIN := Lib.hid (show ∀ k ∈ K, k < n by intro k hk; rw [← hK] at hk; have := ((T.mem_kids t _ k).1 hk).1; have := HN.out; omega)
      replace HKL := Lib.hid (show K.length ≤ n by rw [← hK]; exact HKL.out _)
      clear hK hp0 hi0 hb1
      go_wp2_with fail
      refine (kidsN12 A c n t (i0 : Int) _ HN.out (HA.out.below HB1.out) hl).mono ?_
      rintro e w2 ⟨A2, c2, rfl, hc2, hs2, hb2⟩
      rw [HK.out] at hc2 hs2 ⊢
      have HB2 := Lib.hid (bthen HB1.out hb2)
      have HS2 := Lib.hid hs2
      obtain ⟨nk, hnk⟩ : ∃ k, K.length = k := ⟨_, rfl⟩
      rw [hnk]
      have HNK := Lib.hid hnk
      have hnk2 : nk ≤ 1073741824 := by have := HKL.out; have := HNK.out; omega
      clear hc2 hs2 hb2 hnk
      go_wp2
      go_loopg [6, 8] nk (fun g vo vi wr => ∃ i : Nat, Hid (i + g = nk) ∧ vi = .int .i64 (i : Int) ∧ Hid (Own eS wr w2.heap.size vo ((K.take i).map (T.wd t))) ∧ Hid (Below w2.heap.size w2 wr))
      case atStart => exact ⟨0, Nat.zero_add _, rfl, Own.nil _ _, Below.refl _ _⟩
      case round =>
        obtain ⟨i, HG, rfl, HO, HBR⟩ := hrel
        have hgk := HG.out
        by_cases hlt : i < nk
        · have blt : decide ((i : Int) < (nk : Int)) = true := decide_eq_true (by omega)
          have blt2 : decide (i < nk) = true := decide_eq_true hlt
          have hiK : i < K.length := by rw [HNK.out]; exact hlt
          have hki : (i : Int) < (nk : Int) := by omega
          obtain ⟨q, hq⟩ : ∃ q, K[i] = q := ⟨_, rfl⟩
          have hqn : q < n := by rw [← hq]; exact HIN.out _ (List.getElem_mem hiK)
          have hqt : q < t.length := by rw [HN.out]; exact hqn
          have hqi : (q : Int) < (n : Int) := by omega
          obtain ⟨b3, o3, rfl, hw3, hL3⟩ := HS2.out (by omega)
          have c3 := (hL3.below HBR.out hw3).num hiK
          rw [hq] at c3
          obtain ⟨b4, o4, hA4, hw4, hL4⟩ := HA.out.lines (by rw [HN.out]; omega)
          subst hA4
          obtain ⟨_, c4, _⟩ := (hL4.below (HB2.out.trans (HBR.out.mono HB2.out.size)) hw4).line hqt
          have HNX := Lib.hid (show (K.take (i + 1)).map (T.wd t) = (K.take i).map (T.wd t) ++ [T.wd t q] by rw [List.take_succ_eq_append_getElem hiK, List.map_append, hq]; rfl)
          have HLN := Lib.hid (show ((K.take i).map (T.wd t)).length ≤ nk by rw [List.length_map, List.length_take]; omega)
          have hsz := HBR.out.size
          clear hq hqt hL3 hL4
          go_wp2_with (at_builtin; refine wpList_appG eS wr rfl (.tmp 26) (.tmp 35) rfl w2.heap.size u6 ((K.take i).map (T.wd t)) rfl HO.out (T.wd t q) 1 _ rfl wr.heap.size rfl rfl (by have := HLN.out; omega) hsz ?_; intro v5 w5 hown5 hb5)
          go_roundg (nk - (i + 1))
          case rel => exact ⟨i + 1, (by show _ = _; omega), by go_num, (by rw [HNX.out]; exact hown5), HBR.out.trans hb5⟩
          case measure => omega
        · have blt : decide ((i : Int) < (nk : Int)) = false := decide_eq_false (by omega)
          have blt2 : decide (i < nk) = false := decide_eq_false hlt
          have HE := Lib.hid (show (K.take i).map (T.wd t) = T.underW t p by rw [List.take_of_length_le (by rw [HNK.out]; omega)]; exact HU.out)
          obtain ⟨A6, c6, rfl, hc6, hs6⟩ := HO.out.seen
          rw [HE.out] at hc6 hs6 ⊢
          go_wp2
          go_ret
          exact ⟨_, rfl, (by have h := HO.out; rw [HE.out] at h; exact h.lower HB2.out.size), HB2.out.trans (HBR.out.mono HB2.out.size)⟩
    · have HE := Lib.hid (show T.underW t p = [] from T.underW_out HR.out (fun e => h0 (by rw [← HM.out, e]; rfl)) (fun ⟨i, hi, e⟩ => hno i hi e))
      clear hno
      go_wp2
      go_ret
      rw [HE.out]
      exact ⟨_, rfl, Own.nil _ _, hb1⟩
theorem underR12 {N : Nat} (A : Option Addr) (c n : Nat) (t : List T.Ln) (B : Option Addr) (d m : Nat) (p : T.Pth) (w : World) (hn : t.length = n) (hm : p.length = m) (hA : Seen eL w A t) (hB : Seen eS w B p) (hl : n ≤ 1073741824) (hl2 : m ≤ 1073741824) (hR : T.RightN N t) :
    Calls Try.prog 27 #[.slice A n c, .slice B m d] w (MadeS w (T.underW t p)) :=
  (underO12 A c n t B d m p w hn hm hA hB hl hl2 hR).mono fun e w' ⟨v, he, ho, hb⟩ => by
    obtain ⟨A2, c2, rfl, h2, h3⟩ := ho.seen
    exact ⟨A2, c2, he, h2, h3, hb⟩
set_option maxRecDepth 100000 in
set_option maxHeartbeats 8000000 in
theorem fillR12 (A : Option Addr) (c n : Nat) (x : List T.Ln) (hn : x.length = n) (hl : n ≤ 200) (hR : T.RightN 200 x) : ∀ (z : Nat) (P : PtM) (p : T.Pth) (f k : Nat) (w : World), p.length - f ≤ z → f ≤ p.length → p.length ≤ 1000 → Seen eL w A x → PtK w k P p → k ≤ w.heap.size →
    Calls Try.prog 43 #[.slice A n c, .slice P.A P.n P.c, .int .i64 (f : Int)] w (fun e w' => ∃ v, e = .returned v ∧ ManyQ w' k v (T.fillR x (p.take f) (p.drop f)) ∧ Below w.heap.size w w') := by
  intro z
  induction z with
  | zero =>
    intro P p f k w hz hf hpl hA hP hk
    obtain ⟨PA, pn, pc⟩ := P
    have hnp : p.length = pn := hP.pt.len
    have HA := Lib.hid hA
    have HP := Lib.hid hP
    have HNP := Lib.hid hnp
    have HE := Lib.hid (show T.fillR x (p.take f) (p.drop f) = [p] by rw [List.drop_of_length_le (by omega), List.take_of_length_le (by omega)]; rfl)
    have HSN := Lib.hid (show ∀ z, T.StarAt p f z → z = -1 by
      rintro z (⟨h, _⟩ | ⟨i, _, h1, h2, _⟩)
      · exact h
      · omega)
    have hpn : pn ≤ 1000 := by omega
    have hfn : f ≤ pn := by omega
    clear hA hP hz hf hpl hnp
    go_enter Try.func43, Try.ntmps43
    go_wp2_with fail
    refine (starR12 PA pc pn p f _ HNP.out HP.out.pt.seen (by omega) hfn).mono ?_
    rintro e w1 ⟨q, rfl, hs, rfl⟩
    obtain rfl := HSN.out q hs
    clear hs
    go_wp2
    go_ret
    rw [HE.out]
    exact ⟨_, rfl, ManyQ.one HP.out _ rfl hk, (Below.refl _ _).alloc (Nat.le_refl _) _⟩
  | succ z ih =>
    intro P p f k w hz hf hpl hA hP hk
    obtain ⟨PA, pn, pc⟩ := P
    have hnp : p.length = pn := hP.pt.len
    have HA := Lib.hid hA
    have HP := Lib.hid hP
    have HNP := Lib.hid hnp
    have hpn : pn ≤ 1000 := by omega
    have hfn : f ≤ pn := by omega
    have HZ := Lib.hid (show pn - f ≤ z + 1 by omega)
    have HX := Lib.hid hn
    have HR := Lib.hid hR
    clear hA hP hz hf hpl hnp hn hR
    go_enter Try.func43, Try.ntmps43
    go_wp2_with fail
    refine (starR12 PA pc pn p f _ HNP.out HP.out.pt.seen (by omega) hfn).mono ?_
    rintro e w1 ⟨q, rfl, hs, rfl⟩
    rcases hs with ⟨rfl, hno⟩ | ⟨at_, rfl, hfa, hap, hsp, hnot⟩
    · have HE := Lib.hid (T.fill_from (x := x) hno)
      clear hno
      go_wp2
      go_ret
      rw [HE.out]
      exact ⟨_, rfl, ManyQ.one HP.out _ rfl hk, (Below.refl _ _).alloc (Nat.le_refl _) _⟩
    · have HF := Lib.hid (T.fill_all (x := x) hfa hap hsp hnot)
      have HFL := Lib.hid (fun i => T.fillTo_len (x := x) HR.out hfa hap hsp hnot i)
      have hapn : at_ < pn := by rw [← HNP.out]; exact hap
      have HZ2 := Lib.hid (show pn - (at_ + 1) ≤ z by have := HZ.out; omega)
      obtain ⟨b0, o0, e0, _, _⟩ := HP.out.pt.seen (by omega)
      have e0 : PA = some ⟨b0, o0, none⟩ := e0
      subst e0
      obtain ⟨Ls, hLs⟩ : ∃ L, T.underW x (p.take at_) = L := ⟨_, rfl⟩
      have HLS := Lib.hid hLs
      have HLS0 := hLs
      have HTK := Lib.hid (show (p.take at_).length = at_ by rw [List.length_take, HNP.out]; omega)
      have hpc : pn ≤ pc := HP.out.pt.cap
      have hac : (at_ : Int) ≤ (pc : Int) := by omega
      have HFT := Lib.hid (show T.fillTo x p at_ Ls.length = T.fillR x (p.take f) (p.drop f) by rw [HF.out, HLS0])
      have c1 : decide ((at_ : Int) < 0) = false := decide_eq_false (by omega)
      clear hnot hsp hfa hap hLs HLS0
      go_wp2_with fail
      refine (underR12 A c n x (some ⟨b0, o0, none⟩) pc at_ (p.take at_) _ HX.out HTK.out HA.out (HP.out.take at_ (by omega)).pt.seen (by omega) (by omega) HR.out).mono ?_
      rintro e w2 ⟨A2, c2, rfl, hc2, hs2, hb2⟩
      rw [HLS.out] at hc2 hs2 ⊢
      obtain ⟨ln, hln⟩ : ∃ k, Ls.length = k := ⟨_, rfl⟩
      rw [hln] at hc2 ⊢
      have HLN := Lib.hid hln
      have HS2 := Lib.hid hs2
      have HB2 := Lib.hid hb2
      have HLK := Lib.hid (show ln ≤ 200 by rw [← hln, ← HLS.out]; exact Nat.le_trans (T.underW_len HR.out _) (by rw [HX.out]; exact hl))
      clear hln hs2 hb2 hc2
      go_wp2
      go_loopg [8, 10, 11] ln (fun g vo vi vq wr => ∃ i : Nat, Hid (i + g = ln) ∧ vi = .int .i64 (i : Int) ∧ Hid (OwnK wr w2.heap.size k vo (T.fillTo x p at_ i)) ∧ Hid (Below w2.heap.size w2 wr))
      case atStart => exact ⟨0, Nat.zero_add _, rfl, OwnK.nil _ _ _, Below.refl _ _⟩
      case round =>
        obtain ⟨i, HG, rfl, HO, HBR⟩ := hrel
        have hgk := HG.out
        have hlk : ln ≤ 200 := HLK.out
        have HBW := Lib.hid (HB2.out.trans (HBR.out.mono HB2.out.size))
        by_cases hlt : i < ln
        · have blt : decide ((i : Int) < (ln : Int)) = true := decide_eq_true (by omega)
          have blt2 : decide (i < ln) = true := decide_eq_true hlt
          have hiL : i < Ls.length := by rw [HLN.out]; exact hlt
          have hki : (i : Int) < (ln : Int) := by omega
          obtain ⟨b3, o3, rfl, hw3, hL3⟩ := HS2.out (by omega)
          have c3 := (hL3.below HBR.out hw3).str hiL
          obtain ⟨wd, hwd⟩ : ∃ wd, Ls[i] = wd := ⟨_, rfl⟩
          rw [hwd] at c3
          have HNX := Lib.hid (show T.fillTo x p at_ (i + 1) = T.fillTo x p at_ i ++ T.fillR x (p.take at_ ++ [wd]) (p.drop (at_ + 1)) by
            have h := T.fillTo_next (x := x) (p := p) (a := at_) (i := i) (by rw [HLS.out]; exact hiL)
            rw [h]
            congr 2
            simp only [HLS.out, hwd])
          have HPW := Lib.hid (HP.out.below HBW.out.drew)
          have hp0 : 0 < p.length := by rw [HNP.out]; omega
          have HQT := Lib.hid (T.with_take (p := p) (a := at_) (by rw [HNP.out]; omega) wd)
          clear hwd hL3
          go_wp2
          go_still_tail 7, (by kernel_rfl)
          change wpList _ _ _ _ _ wr.drew
          go_wp2_with fail
          refine (withN12 ⟨b0, o0, none⟩ pc pn at_ k p wd _ HPW.out hp0 (by omega) (by omega)).mono ?_
          rintro e w4 ⟨v4, rfl, ho4, hb4⟩
          have HO4 := Lib.hid ho4
          have HB4 := Lib.hid hb4
          obtain ⟨d, rfl⟩ : ∃ d, pn = at_ + 1 + d := ⟨pn - (at_ + 1), by omega⟩
          obtain ⟨dc, rfl⟩ : ∃ d, pc = at_ + 1 + d := ⟨pc - (at_ + 1), by omega⟩
          have hdd : d ≤ dc := by omega
          have HDL := Lib.hid (show (p.drop (at_ + 1)).length = d by rw [List.length_drop, HNP.out]; omega)
          have HQL := Lib.hid (show (p.take at_ ++ [wd] ++ p.drop (at_ + 1)).length = at_ + 1 + d by rw [List.length_append, List.length_append, List.length_singleton, HTK.out, HDL.out])
          have HPH := Lib.hid (show Holds eS w4 b0 (o0 + (at_ + 1)) (p.drop (at_ + 1)) by
            obtain ⟨b9, o9, e9, h9, hH9⟩ := HP.out.pt.seen hp0
            injection e9 with e9
            injection e9 with e1 e2
            subst e1; subst e2
            have hH := hH9.below (HBW.out.drew.trans (HB4.out.mono HBW.out.drew.size)) h9
            intro q hq j u hu
            rw [List.length_drop] at hq
            rw [List.getElem_drop] at hu
            have := hH (at_ + 1 + q) (by omega) j u hu
            rw [show o0 + (at_ + 1) + q * eS.sz + j = o0 + (at_ + 1 + q) * eS.sz + j by rw [show (eS.sz : Nat) = 1 from rfl]; omega]
            exact this)
          obtain ⟨od, hod, hph⟩ : ∃ od, (if dc = 0 then (some ⟨b0, o0, none⟩ : Option Addr) else some ⟨b0, o0 + (at_ + 1), none⟩) = some ⟨b0, od, none⟩ ∧ Holds eS w4 b0 od (p.drop (at_ + 1)) := by
            by_cases h0 : dc = 0
            · refine ⟨o0, if_pos h0, fun q hq => ?_⟩
              rw [HDL.out] at hq
              omega
            · exact ⟨o0 + (at_ + 1), if_neg h0, HPH.out⟩
          replace HPH := Lib.hid hph
          clear hph
          have HAL := Lib.hid (show (p.take at_ ++ [wd]).length ≤ 1001 by rw [List.length_append, List.length_singleton, HTK.out]; omega)
          have hs4 := HB4.out.size
          go_wp2_with (at_builtin; refine wpList_appSrc eS w4 rfl (.tmp 38) (.tmp 42) rfl wr.drew.heap.size v4 (p.take at_ ++ [wd]) rfl HO4.out b0 od (p.drop (at_ + 1)) d dc HDL.out rfl HPH.out (by have := HAL.out; omega) hs4 ?_; intro v5 w5 ho5 hb5; have HO5 := Lib.hid ho5; have HB5 := Lib.hid (HB4.out.trans hb5); clear ho5 hb5)
          clear hod
          obtain ⟨A5, c5, e5, hp5⟩ := own_pt HO5.out
          rw [HQL.out] at e5 hp5
          subst e5
          have HBX := Lib.hid (HBW.out.drew.trans (HB5.out.mono HBW.out.drew.size))
          have hIH := ih ⟨A5, at_ + 1 + d, c5⟩ (p.take at_ ++ [wd] ++ p.drop (at_ + 1)) (at_ + 1) wr.drew.heap.size w5 (by rw [HQL.out]; have := HZ2.out; omega) (by rw [HQL.out]; omega) (by rw [HQL.out]; omega) (HA.out.below HBX.out) hp5 HB5.out.size
          rw [HQT.out.1, HQT.out.2, show ((at_ + 1 : Nat) : Int) = (at_ : Int) + 1 by omega] at hIH
          refine hIH.mono ?_
          rintro e w6 ⟨v6, rfl, hm6, hb6⟩
          have HM6 := Lib.hid hm6
          have HB6 := Lib.hid (HB5.out.trans (hb6.mono HB5.out.size))
          have HL6 := Lib.hid (show (T.fillTo x p at_ i).length + (T.fillR x (p.take at_ ++ [wd]) (p.drop (at_ + 1))).length ≤ 1099511627776 by
            have h1 := HFL.out i
            have h2 := T.fill_most HR.out (p.drop (at_ + 1)) (p.take at_ ++ [wd])
            have h3 := HX.out
            omega)
          have HKW := Lib.hid (show k ≤ wr.heap.size from Nat.le_trans hk HBW.out.size)
          have HWW := Lib.hid (show Below wr.heap.size wr w6 from ((Below.refl wr.heap.size wr).drew).trans HB6.out)
          have HSZ := Lib.hid (show w2.heap.size ≤ w6.heap.size from Nat.le_trans HBR.out.size HWW.out.size)
          clear hIH hm6 hb6 hp5
          go_wp2_with (at_builtin; refine wpList_appManyQ w6 rfl (.tmp 44) (.tmp 49) rfl w2.heap.size k u8 (T.fillTo x p at_ i) rfl wr HO.out HWW.out wr.heap.size (Nat.le_refl _) HKW.out v6 (T.fillR x (p.take at_ ++ [wd]) (p.drop (at_ + 1))) rfl HM6.out HL6.out HSZ.out ?_; intro v7 w7 ho7 hb7; have HO7 := Lib.hid ho7; have HB7 := Lib.hid hb7; clear ho7 hb7)
          go_roundg (ln - (i + 1))
          case rel => exact ⟨i + 1, (by show _ = _; omega), by go_num, (by rw [HNX.out]; exact HO7.out), (HBR.out.trans (HWW.out.mono HBR.out.size)).trans HB7.out⟩
          case measure => omega
        · have blt : decide ((i : Int) < (ln : Int)) = false := decide_eq_false (by omega)
          have blt2 : decide (i < ln) = false := decide_eq_false hlt
          have HE := Lib.hid (show T.fillTo x p at_ i = T.fillR x (p.take f) (p.drop f) by rw [← HFT.out, show i = Ls.length by rw [HLN.out]; omega])
          have HO9 := Lib.hid HO.out.many
          go_wp2
          go_ret
          refine ⟨_, rfl, ?_, HBW.out⟩
          rw [← HE.out]
          exact HO9.out
end Go.Proofs.Ytkifapbiimlafaa
