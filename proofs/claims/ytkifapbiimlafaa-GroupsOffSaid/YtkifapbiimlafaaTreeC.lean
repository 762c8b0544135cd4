/-
  Contracts of layer 3's inner functions under and end, and of the document's Small, Short, Under and End: what they return is what the plain definitions say; below the heap's size at the call the world is as it was. Condition: a place of a line, at most 2^30 lines.
  Contracts of layer 3's inner functions under and end, and of the document's End and Short: what they return is what the plain definitions say; below the heap's size at the call the world is as it was. Condition: a place of a line, at most 2^30 lines.
  Contracts of the document's Ints, Equal and Same (layer 3): equal lists are equal; Equal decides it; below the heap's size at the call the world is as it was. Condition: at most 2^30 elements.
  Contracts of layer 3's fits and Right: Right returns whether lines are a tree, by the plain definition; below the heap's size at the call the world is as it was. Condition: at most 2^30 lines.
  Contract of the document's Right (layer 3): it returns whether lines are a tree, by the plain definition; below the heap's size at the call the world is as it was. Condition: at most 2^30 lines.
  Contracts of layer 3's has, Under and End: what they return is what the plain definitions say; below the heap's size at the call the world is as it was. Condition: at most 2^30 lines.
  Contract of the document's Same (layer 3) for any two lists of lines: it returns whether they are equal; below the heap's size at the call the world is as it was. Condition: at most 2^30 lines.
-/
import Derived.Test.YtkifapbiimlafaaTreeMem
import Derived.Deep.LoopGhost
import Derived.WalkMore
import Derived.RegionTactic
import Derived.BigQuiet
import Derived.Test.YtkifapbiimlafaaPureT
import Derived.Deep.OwnRows
import Derived.IntWalk

namespace Go.Proofs.Ytkifapbiimlafaa
open Go.RowKit

def FewS (w : World) (n m : Nat) (e : Ending) (w' : World) : Prop := ∃ b, e = .returned (.bool b) ∧ (b = true → n ≤ m) ∧ Below w.heap.size w w'

theorem small_any (A : Option Addr) (c : Nat) (t : List T.Ln) (w : World) (hA : Seen eL w A t) :
    Calls Try.prog 32 #[.slice A t.length c] w (FewS w t.length 220) := by
  have HA := Lib.hid hA
  clear hA
  by_cases h220 : t.length ≤ 220
  · have b220 : decide ((220 : Int) < (t.length : Int)) = false := by simp; omega
    go_enter Try.func32, Try.ntmps32
    go_wp2
    go_loopg [3] t.length (fun g i wr => ∃ k : Nat, Hid (k + g = t.length) ∧ k ≤ t.length ∧ i = .int .i64 k ∧ w = wr)
    case atStart => exact ⟨0, Nat.zero_add _, Nat.zero_le _, rfl, rfl⟩
    case round =>
      obtain ⟨k, HG, hk, rfl, rfl⟩ := hrel
      by_cases hlt : k < t.length
      · obtain ⟨b, o, rfl, hbw, hL⟩ := HA.out.lines (by omega)
        obtain ⟨_, c1, _⟩ := hL.line hlt
        by_cases h100 : 100 < (sB (T.wd t k)).size
        · have b100 : decide ((100 : Int) < ((sB (T.wd t k)).size : Int)) = true := by simp; omega
          go_wp2
          go_ret
          exact ⟨false, rfl, (fun h => by cases h), Below.refl _ _⟩
        · have b100 : decide ((100 : Int) < ((sB (T.wd t k)).size : Int)) = false := by simp; omega
          go_wp2
          go_roundg (t.length - (k + 1))
          case rel => exact ⟨k + 1, (by show _ = _; omega), by omega, by go_num, rfl⟩
          case measure => have := HG.out; omega
      · go_wp2
        go_ret
        exact ⟨true, rfl, (fun _ => h220), Below.refl _ _⟩
  · have b220 : decide ((220 : Int) < (t.length : Int)) = true := by simp; omega
    go_enter Try.func32, Try.ntmps32
    go_wp2
    go_ret
    exact ⟨false, rfl, (fun h => by cases h), Below.refl _ _⟩

theorem refUnder_any (A : Option Addr) (c : Nat) (t : List T.Ln) (i : Nat) (w : World) (hA : Seen eL w A t) (hi : i < t.length) (hl : t.length ≤ 1073741824) :
    Calls Try.prog 36 #[.slice A t.length c, .int .i64 i] w (IntS w (T.underL t i)) := by
  obtain ⟨b, o, rfl, hbw, hL⟩ := hA.lines (by omega)
  have HL := Lib.hid hL
  clear hA hL
  go_enter Try.func36, Try.ntmps36
  go_wp2
  go_loopg [5, 6] i (fun g u k wr => ∃ j : Nat, Hid (j + g = i) ∧ j ≤ i ∧ k = .int .i64 j ∧ u = .int .i64 (T.underF t (T.dp t i) j) ∧ Below w.heap.size w wr)
  case atStart => exact ⟨0, Nat.zero_add _, Nat.zero_le _, rfl, rfl, Below.refl _ _⟩
  case round =>
    obtain ⟨j, HG, hj, rfl, rfl, hb⟩ := hrel
    by_cases hlt : j < i
    · obtain ⟨c0, _, _⟩ := (HL.out.below hb hbw).line (show j < t.length by omega)
      obtain ⟨d0, _, _⟩ := (HL.out.below hb hbw).line hi
      by_cases hd : T.dp t j < T.dp t i
      · have bd : decide (T.dp t j < T.dp t i) = true := decide_eq_true hd
        have HN := Lib.hid (show T.underF t (T.dp t i) (j + 1) = (j : Int) by simp only [T.underF]; rw [if_pos hd])
        clear hd
        go_wp2
        go_region
        go_wp2
        go_roundg (i - (j + 1))
        case rel => exact ⟨j + 1, (by show _ = _; omega), by omega, by go_num, by rw [HN.out], hb.drew⟩
        case measure => have := HG.out; omega
      · have bd : decide (T.dp t j < T.dp t i) = false := decide_eq_false hd
        have HN := Lib.hid (show T.underF t (T.dp t i) (j + 1) = T.underF t (T.dp t i) j by conv => lhs; simp only [T.underF]; rw [if_neg hd])
        clear hd
        go_wp2
        go_region
        go_wp2
        go_roundg (i - (j + 1))
        case rel => exact ⟨j + 1, (by show _ = _; omega), by omega, by go_num, by rw [HN.out], hb.drew⟩
        case measure => have := HG.out; omega
    · obtain rfl : j = i := by omega
      go_wp2
      go_ret
      exact ⟨rfl, hb⟩
end Go.Proofs.Ytkifapbiimlafaa

namespace Go.Proofs.Ytkifapbiimlafaa
open Go.RowKit

theorem refEnd_any (A : Option Addr) (c : Nat) (t : List T.Ln) (i : Nat) (w : World) (hA : Seen eL w A t) (hi : i < t.length) (hl : t.length ≤ 1073741824) :
    Calls Try.prog 42 #[.slice A t.length c, .int .i64 i] w (IntS w (T.endL t i : Nat)) := by
  obtain ⟨b, o, rfl, hbw, hL⟩ := hA.lines (by omega)
  have HL := Lib.hid hL
  clear hA hL
  go_enter Try.func42, Try.ntmps42
  go_wp2
  go_loopg [5] (t.length - (i + 1)) (fun g k wr => ∃ j : Nat, Hid (j + g = t.length) ∧ i < j ∧ j ≤ t.length ∧ k = .int .i64 j ∧ Hid (∀ m, i < m → m < j → T.dp t i < T.dp t m) ∧ Below w.heap.size w wr)
  case atStart => exact ⟨i + 1, (by show _ = _; omega), by omega, by omega, by go_num, (fun m h1 h2 => absurd h1 (by omega)), Below.refl _ _⟩
  case round =>
    obtain ⟨j, HG, hij, hj, rfl, HI, hb⟩ := hrel
    by_cases hlt : j < t.length
    · obtain ⟨c0, _, _⟩ := (HL.out.below hb hbw).line hlt
      obtain ⟨d0, _, _⟩ := (HL.out.below hb hbw).line hi
      by_cases hd : T.dp t j ≤ T.dp t i
      · have bd : decide (T.dp t j ≤ T.dp t i) = true := decide_eq_true hd
        have HN := Lib.hid (T.end_unique t i j hij hj HI.out (fun _ => hd))
        clear hd
        go_wp2
        go_region
        go_wp2
        go_ret
        rw [HN.out]
        exact ⟨rfl, hb.drew⟩
      · have bd : decide (T.dp t j ≤ T.dp t i) = false := decide_eq_false hd
        have HN := Lib.hid (show ∀ m, i < m → m < j + 1 → T.dp t i < T.dp t m from fun m h1 h2 => by
          rcases Nat.lt_or_ge m j with h | h
          · exact HI.out m h1 h
          · obtain rfl : m = j := by omega
            omega)
        clear hd
        go_wp2
        go_region
        go_wp2
        go_roundg (t.length - (j + 1))
        case rel => exact ⟨j + 1, (by show _ = _; omega), by omega, by omega, by go_num, HN, hb.drew⟩
        case measure => have := HG.out; omega
    · have HN := Lib.hid (T.end_unique t i j hij hj HI.out (fun h => absurd h hlt))
      obtain rfl : j = t.length := by omega
      go_wp2
      go_ret
      rw [HN.out]
      exact ⟨rfl, hb⟩

theorem under_any (A : Option Addr) (c : Nat) (t : List T.Ln) (i : Nat) (w : World) (hA : Seen eL w A t) (hi : i < t.length) (hl : t.length ≤ 1073741824) :
    Calls Try.prog 46 #[.slice A t.length c, .int .i64 i] w (IntS w (T.underL t i)) := by
  obtain ⟨b, o, rfl, hbw, hL⟩ := hA.lines (by omega)
  have HL := Lib.hid hL
  clear hA hL
  go_enter Try.func46, Try.ntmps46
  go_wp2
  go_loopg [5] i (fun g k wr => ∃ j : Nat, Hid (j = g) ∧ j ≤ i ∧ k = .int .i64 ((j : Int) - 1) ∧ Hid (T.underL t i = T.underF t (T.dp t i) j) ∧ Below w.heap.size w wr)
  case atStart => exact ⟨i, rfl, Nat.le_refl _, by go_num, rfl, Below.refl _ _⟩
  case round =>
    obtain ⟨j, HG, hj, rfl, HI, hb⟩ := hrel
    match j, HG, hj, HI with
    | 0, HG, hj, HI =>
      go_wp2
      go_ret
      rw [HI.out]
      exact ⟨rfl, hb⟩
    | j + 1, HG, hj, HI =>
      have e : (((j + 1 : Nat) : Int) - 1) = (j : Int) := by omega
      rw [e]
      clear e
      obtain ⟨c0, _, _⟩ := (HL.out.below hb hbw).line (show j < t.length by omega)
      obtain ⟨d0, _, _⟩ := (HL.out.below hb hbw).line hi
      by_cases hd : T.dp t j < T.dp t i
      · have bd : decide (T.dp t j < T.dp t i) = true := decide_eq_true hd
        have HN := Lib.hid (show T.underL t i = (j : Int) by rw [HI.out]; simp only [T.underF]; rw [if_pos hd])
        clear hd
        go_wp2
        go_region
        go_wp2
        go_ret
        rw [HN.out]
        exact ⟨rfl, hb.drew⟩
      · have bd : decide (T.dp t j < T.dp t i) = false := decide_eq_false hd
        have HN := Lib.hid (show T.underL t i = T.underF t (T.dp t i) j by rw [HI.out]; conv => lhs; simp only [T.underF]; rw [if_neg hd])
        clear hd
        go_wp2
        go_region
        go_wp2
        go_roundg j
        case rel => exact ⟨j, rfl, by omega, by go_num, HN, hb.drew⟩
        case measure => have := HG.out; omega

theorem end_any (A : Option Addr) (c : Nat) (t : List T.Ln) (i : Nat) (w : World) (hA : Seen eL w A t) (hi : i < t.length) (hl : t.length ≤ 1073741824) :
    Calls Try.prog 61 #[.slice A t.length c, .int .i64 i] w (IntS w (T.endL t i : Nat)) := by
  obtain ⟨b, o, rfl, hbw, hL⟩ := hA.lines (by omega)
  have HL := Lib.hid hL
  clear hA hL
  go_enter Try.func61, Try.ntmps61
  go_wp2
  go_loopg [5] (t.length - (i + 1)) (fun g k wr => ∃ j : Nat, Hid (j + g = t.length) ∧ i < j ∧ j ≤ t.length ∧ k = .int .i64 j ∧ Hid (∀ m, i < m → m < j → T.dp t i < T.dp t m) ∧ Below w.heap.size w wr)
  case atStart => exact ⟨i + 1, (by show _ = _; omega), by omega, by omega, by go_num, (fun m h1 h2 => absurd h1 (by omega)), Below.refl _ _⟩
  case round =>
    obtain ⟨j, HG, hij, hj, rfl, HI, hb⟩ := hrel
    by_cases hlt : j < t.length
    · have hlt2 : decide ((j : Int) < (t.length : Int)) = true := by simp; omega
      obtain ⟨c0, _, _⟩ := (HL.out.below hb hbw).line hlt
      obtain ⟨d0, _, _⟩ := (HL.out.below hb hbw).line hi
      by_cases hd : T.dp t i < T.dp t j
      · have bd : decide (T.dp t i < T.dp t j) = true := decide_eq_true hd
        have HN := Lib.hid (show ∀ m, i < m → m < j + 1 → T.dp t i < T.dp t m from fun m h1 h2 => by
          rcases Nat.lt_or_ge m j with h | h
          · exact HI.out m h1 h
          · obtain rfl : m = j := by omega
            omega)
        clear hd
        go_wp2
        go_region
        go_wp2
        go_roundg (t.length - (j + 1))
        case rel => exact ⟨j + 1, (by show _ = _; omega), by omega, by omega, by go_num, HN, hb.drew⟩
        case measure => have := HG.out; omega
      · have bd : decide (T.dp t i < T.dp t j) = false := decide_eq_false hd
        have HN := Lib.hid (T.end_unique t i j hij hj HI.out (fun _ => by omega))
        clear hd
        go_wp2
        go_region
        go_wp2
        go_ret
        rw [HN.out]
        exact ⟨rfl, hb.drew⟩
    · have hlt2 : decide ((j : Int) < (t.length : Int)) = false := by simp; omega
      have HN := Lib.hid (T.end_unique t i j hij hj HI.out (fun h => absurd h hlt))
      go_wp2
      go_region
      go_wp2
      go_ret
      rw [HN.out]
      exact ⟨rfl, hb.drew⟩

end Go.Proofs.Ytkifapbiimlafaa

namespace Go.Proofs.Ytkifapbiimlafaa
open Go.RowKit

set_option maxRecDepth 100000 in
theorem same_yes (A B : Option Addr) (c d : Nat) (t : List T.Ln) (w : World) (hl : t.length ≤ 1073741824) (hA : Seen eL w A t) (hB : Seen eL w B t) :
    Calls Try.prog 15 #[.slice A t.length c, .slice B t.length d] w (TrueS w) := by
  have HA := Lib.hid hA
  have HB := Lib.hid hB
  clear hA hB
  go_enter Try.func15, Try.ntmps15
  go_wp2
  go_loopg [5] t.length (fun g i wr => ∃ k : Nat, Hid (k + g = t.length) ∧ k ≤ t.length ∧ i = .int .i64 k ∧ Below w.heap.size w wr)
  case atStart => exact ⟨0, Nat.zero_add _, Nat.zero_le _, rfl, Below.refl _ _⟩
  case round =>
    obtain ⟨k, HG, hk, rfl, hb⟩ := hrel
    by_cases hlt : k < t.length
    · obtain ⟨b1, o1, rfl, hw1, hL1⟩ := HA.out.lines (by omega)
      obtain ⟨b2, o2, rfl, hw2, hL2⟩ := HB.out.lines (by omega)
      obtain ⟨c0, c1, c2⟩ := (hL1.below hb hw1).line hlt
      obtain ⟨d0, d1, d2⟩ := (hL2.below hb hw2).line hlt
      go_wp2
      go_region
      go_wp2
      go_roundg (t.length - (k + 1))
      case rel => exact ⟨k + 1, (by show _ = _; omega), by omega, by go_num, hb.drew⟩
      case measure => have := HG.out; omega
    · go_wp2
      go_ret
      exact ⟨rfl, hb⟩

theorem equal_short (A B : Option Addr) (c d n m : Nat) (w : World) (h : n ≠ m) :
    Calls Try.prog 28 #[.slice A n c, .slice B m d] w (BoolS w false) := by
  have b : ((n : Int) != (m : Int)) = true := by simp; omega
  go_enter Try.func28, Try.ntmps28
  go_wp2
  go_ret
  exact ⟨rfl, Below.refl _ _⟩
theorem take_next {l1 l2 : List (List UInt8)} {k : Nat} (h : l1.take k = l2.take k) (h1 : k < l1.length) (h2 : k < l2.length) (e : l1[k] = l2[k]) : l1.take (k + 1) = l2.take (k + 1) := by
  rw [List.take_succ_eq_append_getElem h1, List.take_succ_eq_append_getElem h2, h, e]
theorem equal_long (A B : Option Addr) (c d : Nat) (l1 l2 : List (List UInt8)) (n : Nat) (w : World) (hl : n ≤ 1073741824) (hA : Seen eS w A l1) (hB : Seen eS w B l2) (h1 : l1.length = n) (h2 : l2.length = n) :
    Calls Try.prog 28 #[.slice A n c, .slice B n d] w (BoolS w (decide (l1 = l2))) := by
  have HA := Lib.hid hA
  have HB := Lib.hid hB
  have H1 := Lib.hid h1
  have H2 := Lib.hid h2
  clear hA hB h1 h2
  go_enter Try.func28, Try.ntmps28
  go_wp2
  go_loopg [5] n (fun g i wr => ∃ k : Nat, Hid (k + g = n) ∧ k ≤ n ∧ i = .int .i64 k ∧ Hid (l1.take k = l2.take k) ∧ Below w.heap.size w wr)
  case atStart => exact ⟨0, Nat.zero_add _, Nat.zero_le _, rfl, rfl, Below.refl _ _⟩
  case round =>
    obtain ⟨k, HG, hk, rfl, HI, hb⟩ := hrel
    by_cases hlt : k < n
    · have hk1 : k < l1.length := by have := H1.out; omega
      have hk2 : k < l2.length := by have := H2.out; omega
      obtain ⟨b1, o1, rfl, hw1, hL1⟩ := HA.out (by omega)
      obtain ⟨b2, o2, rfl, hw2, hL2⟩ := HB.out (by omega)
      have c1 := (hL1.below hb hw1).str hk1
      have c2 := (hL2.below hb hw2).str hk2
      by_cases he : l1[k] = l2[k]
      · have HN := Lib.hid (take_next HI.out hk1 hk2 he)
        rw [← he] at c2
        clear he
        go_wp2
        go_region
        go_wp2
        go_roundg (n - (k + 1))
        case rel => exact ⟨k + 1, (by show _ = _; omega), by omega, by go_num, HN, hb.drew⟩
        case measure => have := HG.out; omega
      · have hne := sB_ne he
        have HN := Lib.hid (show decide (l1 = l2) = false from decide_eq_false fun e => he (by subst e; rfl))
        clear he
        go_wp2
        go_region
        go_wp2
        go_ret
        rw [HN.out]
        exact ⟨rfl, hb.drew⟩
    · have HN := Lib.hid (show decide (l1 = l2) = true from decide_eq_true (by
        have := HI.out
        rwa [List.take_of_length_le (by have := H1.out; omega), List.take_of_length_le (by have := H2.out; omega)] at this))
      go_wp2
      go_ret
      rw [HN.out]
      exact ⟨rfl, hb⟩
theorem equal_any (A B : Option Addr) (c d : Nat) (l1 l2 : List (List UInt8)) (w : World) (hl : l1.length ≤ 1073741824) (hA : Seen eS w A l1) (hB : Seen eS w B l2) :
    Calls Try.prog 28 #[.slice A l1.length c, .slice B l2.length d] w (BoolS w (decide (l1 = l2))) := by
  by_cases h : l1.length = l2.length
  · rw [← h]; exact equal_long A B c d l1 l2 l1.length w hl hA hB rfl h.symm
  · have e : decide (l1 = l2) = false := decide_eq_false fun e => h (by rw [e])
    rw [e]; exact equal_short A B c d _ _ w h
theorem equal_yes (A B : Option Addr) (c d : Nat) (l1 l2 : List (List UInt8)) (n m : Nat) (w : World) (e : l1 = l2) (hn : l1.length = n) (hm : l2.length = m) (hl : n ≤ 1073741824) (hA : Seen eS w A l1) (hB : Seen eS w B l2) :
    Calls Try.prog 28 #[.slice A n c, .slice B m d] w (TrueS w) := by
  have := equal_any A B c d l1 l2 w (by omega) hA hB
  rw [decide_eq_true e, hn, hm] at this
  exact this
end Go.Proofs.Ytkifapbiimlafaa

namespace Go.Proofs.Ytkifapbiimlafaa
open Go.RowKit

def fitB (d : Int) (n : Nat) (m : Int) : Prop := (0 ≤ d ∧ d ≤ 15) ∧ n ≤ 40 ∧ 0 ≤ m ∧ m ≤ 3
theorem fits_yes (d : Int) (s : ByteArray) (m : Int) (w : World) (h : fitB d s.size m) :
    Calls Try.prog 44 #[.agg #[.int .i64 d, .string s, .int .i64 m]] w (BoolS w true) := by
  obtain ⟨⟨h1, h2⟩, h3, h4, h5⟩ := h
  have b1 : decide ((0 : Int) ≤ d) = true := decide_eq_true h1
  have b2 : decide (d < (16 : Int)) = true := decide_eq_true (by omega)
  have b3 : decide ((s.size : Int) ≤ (40 : Int)) = true := decide_eq_true (by omega)
  have b4 : decide ((0 : Int) ≤ m) = true := decide_eq_true h4
  have b5 : decide (m ≤ (3 : Int)) = true := decide_eq_true h5
  go_enter Try.func44, Try.ntmps44
  go_wp2
  go_ret
  exact ⟨rfl, (Below.refl _ _).alloc (Nat.le_refl _) _⟩
theorem fits_no (d : Int) (s : ByteArray) (m : Int) (w : World) (h : ¬ fitB d s.size m) :
    Calls Try.prog 44 #[.agg #[.int .i64 d, .string s, .int .i64 m]] w (BoolS w false) := by
  by_cases h1 : 0 ≤ d
  · have b1 : decide ((0 : Int) ≤ d) = true := decide_eq_true h1
    by_cases h2 : d ≤ 15
    · have b2 : decide (d < (16 : Int)) = true := decide_eq_true (by omega)
      by_cases h3 : s.size ≤ 40
      · have b3 : decide ((s.size : Int) ≤ (40 : Int)) = true := decide_eq_true (by omega)
        by_cases h4 : 0 ≤ m
        · have b4 : decide ((0 : Int) ≤ m) = true := decide_eq_true h4
          have b5 : decide (m ≤ (3 : Int)) = false := decide_eq_false fun h5 => h ⟨⟨h1, h2⟩, h3, h4, h5⟩
          clear h
          go_enter Try.func44, Try.ntmps44
          go_wp2
          go_ret
          exact ⟨rfl, (Below.refl _ _).alloc (Nat.le_refl _) _⟩
        · have b4 : decide ((0 : Int) ≤ m) = false := decide_eq_false h4
          clear h
          go_enter Try.func44, Try.ntmps44
          go_wp2
          go_ret
          exact ⟨rfl, (Below.refl _ _).alloc (Nat.le_refl _) _⟩
      · have b3 : decide ((s.size : Int) ≤ (40 : Int)) = false := decide_eq_false (by omega)
        clear h
        go_enter Try.func44, Try.ntmps44
        go_wp2
        go_ret
        exact ⟨rfl, (Below.refl _ _).alloc (Nat.le_refl _) _⟩
    · have b2 : decide (d < (16 : Int)) = false := decide_eq_false (by omega)
      clear h
      go_enter Try.func44, Try.ntmps44
      go_wp2
      go_ret
      exact ⟨rfl, (Below.refl _ _).alloc (Nat.le_refl _) _⟩
  · have b1 : decide ((0 : Int) ≤ d) = false := decide_eq_false h1
    clear h
    go_enter Try.func44, Try.ntmps44
    go_wp2
    go_ret
    exact ⟨rfl, (Below.refl _ _).alloc (Nat.le_refl _) _⟩

/-- What Right leaves. -/
def RightS (w : World) (t : List T.Ln) (e : Ending) (w' : World) : Prop := ∃ b : Bool, e = .returned (.bool b) ∧ (b = true ↔ T.RightT t) ∧ Below w.heap.size w w'
theorem RightS.no {w w' : World} {t : List T.Ln} (h : ¬ T.RightT t) (hb : Below w.heap.size w w') : RightS w t (.returned (.bool false)) w' := ⟨false, rfl, ⟨(fun e => by cases e), fun e => absurd e h⟩, hb⟩
theorem RightS.yes {w w' : World} {t : List T.Ln} (h : T.RightT t) (hb : Below w.heap.size w w') : RightS w t (.returned (.bool true)) w' := ⟨true, rfl, ⟨fun _ => h, fun _ => rfl⟩, hb⟩

theorem row16 (w : World) : (w.alloc (.cells (Array.replicate 16 (.string ⟨#[]⟩)) 60)).rowIs w.heap.size 60 16 (fun _ => .string (sB [])) :=
  World.rowIs_alloc w (Array.replicate 16 (.string ⟨#[]⟩)) 60 _ (fun i hi => by simp at hi; simp [hi, sB])
/-- A comparison of words, as the walk asks it. -/
theorem leq_no {a b : List UInt8} (h : Op.bytesLess b a = true) : Op.bytesLess (sB a).toList (sB b).toList = false ∧ ((sB a).toList == (sB b).toList) = false := by
  rw [sB_toList, sB_toList]
  exact ⟨T.less_asymm h, beq_eq_false_iff_ne.2 fun e => by subst e; rw [T.less_irr] at h; cases h⟩
theorem leq_yes {a b : List UInt8} (h : Op.bytesLess b a = false) : Op.bytesLess (sB a).toList (sB b).toList = true ∨ (Op.bytesLess (sB a).toList (sB b).toList = false ∧ ((sB a).toList == (sB b).toList) = true) := by
  rw [sB_toList, sB_toList]
  rcases T.less_tri a b with h1 | h1 | h1
  · exact .inl h1
  · subst h1; exact .inr ⟨h, by simp⟩
  · rw [h] at h1; cases h1
/-- The newest words behind a store. -/
theorem row_store {w0 w : World} {g e : Nat} {f : Nat → List UInt8} (h : w0.rowIs g 60 16 (fun d => .string (sB (f d)))) (hb : Below w0.heap.size w0 w) (s : List UInt8) :
    (w.setCell ⟨g, e, none⟩ (.string (sB s))).rowIs g 60 16 (fun d => .string (sB (if d = e then s else f d))) := by
  have h1 : w.rowIs g 60 16 (fun d => .string (sB (f d))) := h.of_block (hb.block g h.lt)
  refine (h1.set e (.string (sB s))).congr fun i _ => ?_
  by_cases hi : i = e
  · simp [hi]
  · simp [hi]

theorem to_next {p : Nat → Prop} {k : Nat} (h : ∀ m, m < k → p m) (hk : p k) : ∀ m, m < k + 1 → p m := fun m hm => by
  rcases Nat.lt_or_ge m k with hlt | hge
  · exact h m hlt
  · obtain rfl : m = k := by omega
    exact hk

def RelR (w : World) (t : List T.Ln) (g : Nat) (a i : Value) (wr : World) : Prop :=
  ∃ (k : Nat) (f : Nat → List UInt8), k + g = t.length ∧ i = .int .i64 k ∧ a = .int .i64 (T.aheadL t k) ∧ (-1 ≤ T.aheadL t k ∧ T.aheadL t k ≤ 15) ∧ (∀ m, m < k → T.Fits t m) ∧ T.LastOk t k f ∧ T.RiseTo t k ∧
    wr.rowIs w.heap.size 60 16 (fun d => .string (sB (f d))) ∧ Below w.heap.size w wr

set_option maxRecDepth 100000 in
set_option maxHeartbeats 1000000 in
theorem right_any (A : Option Addr) (c : Nat) (t : List T.Ln) (w : World) (hA : Seen eL w A t) (hl : t.length ≤ 1073741824) :
    Calls Try.prog 24 #[.slice A t.length c] w (RightS w t) := by
  have HA := Lib.hid hA
  clear hA
  by_cases h200 : t.length ≤ 200
  · have b200 : decide ((200 : Int) < (t.length : Int)) = false := by simp; omega
    go_enter Try.func24, Try.ntmps24
    go_wp2
    go_loopg [4, 12] t.length (fun g a i wr => RelR w t g a i wr)
    case atStart => refine ⟨0, fun _ => [], Nat.zero_add _, rfl, rfl, ⟨by unfold T.aheadL; simp, by unfold T.aheadL; simp⟩, fun m h => absurd h (Nat.not_lt_zero _), T.LastOk.start _ _, fun i c h1 h2 => absurd h2 (Nat.not_lt_zero _), ?_, (Below.refl _ _).alloc (Nat.le_refl _) _⟩; exact row16 w
    case round =>
      obtain ⟨k, f, hg, rfl, rfl, ⟨ha1, ha2⟩, hF, hO, hR, hrow, hb⟩ := hrel
      have hgw := hrow.lt
      have HG := Lib.hid hg
      have HF := Lib.hid hF
      have HO := Lib.hid hO
      have HR := Lib.hid hR
      have HW := Lib.hid hrow
      clear hg hF hO hR hrow
      by_cases hlt : k < t.length
      · obtain ⟨b, o, rfl, hbw, hL⟩ := HA.out.lines (by omega)
        obtain ⟨c0, c1, c2⟩ := (hL.below hb hbw).line hlt
        by_cases hfit : fitB (T.dp t k) (sB (T.wd t k)).size (T.at_ t k).mark
        · obtain ⟨e, he⟩ := Int.eq_ofNat_of_zero_le hfit.1.1
          have hfit2 := hfit
          rw [he] at c0 hfit2
          have he15 : e < 16 := by have := hfit2.1.2; omega
          have HD := Lib.hid he
          have HT := Lib.hid hfit2
          have HT1 := Lib.hid hfit
          clear he hfit hfit2
          by_cases hstep : (e : Int) ≤ T.aheadL t k + 1
          · have bstep : decide (T.aheadL t k + 1 < (e : Int)) = false := decide_eq_false (by omega)
            have HFN := Lib.hid (show T.Fits t k from ⟨by have := HT1.out; unfold fitB at this; rw [sB_size] at this; exact this, by rw [HD.out]; exact hstep⟩)
            by_cases hle : (e : Int) ≤ T.aheadL t k
            · have ble : decide ((e : Int) ≤ T.aheadL t k) = true := decide_eq_true hle
              cases hw : Op.bytesLess (f e) (T.wd t k) with
              | true =>
                have HRN := Lib.hid (HR.out.next HO.out HD.out hstep (fun _ => hw))
                obtain ⟨x1, x2⟩ := leq_no hw
                clear hw
                go_wp2_with fail
                refine (fits_yes _ _ _ _ HT.out).mono ?_
                rintro x w1 ⟨rfl, hb1⟩
                have hb2 : Below wr.heap.size wr w1 := ((Below.refl wr.heap.size wr).alloc (Nat.le_refl _) _).trans (hb1.mono (by simp))
                have q0 : w1.cell? ⟨wr.heap.size, 0, none⟩ = some (.int .i64 (e : Int)) := by rw [hb1.cell (p := ⟨wr.heap.size, 0, none⟩) (by simp)]; simp
                have q1 : w1.cell? ⟨wr.heap.size, 1, none⟩ = some (.string (sB (T.wd t k))) := by rw [hb1.cell (p := ⟨wr.heap.size, 1, none⟩) (by simp)]; simp
                have qf : w1.cell? ⟨w.heap.size, e, none⟩ = some (.string (sB (f e))) := by rw [hb2.cell (p := ⟨w.heap.size, e, none⟩) hgw]; exact HW.out.cell he15
                have qz : w1.frozen? ⟨w.heap.size, e, none⟩ = false := by rw [hb2.frozen (p := ⟨w.heap.size, e, none⟩) hgw]; exact HW.out.frozen e
                have qs : (w1.setCell ⟨w.heap.size, e, none⟩ (.string (sB (T.wd t k)))).cell? ⟨wr.heap.size, 0, none⟩ = some (.int .i64 (e : Int)) := by rw [World.cell?_setCell_other _ _ _ _ (by intro h; injection h; omega)]; exact q0
                clear hb1
                go_wp2
                go_region
                go_wp2
                go_roundg (t.length - (k + 1))
                case rel => exact ⟨k + 1, _, by omega, by go_num, by rw [T.ahead_next, HD.out], by rw [T.ahead_next, HD.out]; omega, to_next HF.out HFN.out, HO.out.next HD.out hstep, HRN.out, row_store HW.out hb2 (T.wd t k), ((hb.trans (hb2.mono hb.size)).setCell (Nat.le_refl _) _).drew⟩
                case measure => have := HG.out; omega
              | false =>
                have HN := Lib.hid (show ¬ T.RightT t from fun h => by have := h.last hlt HO.out HD.out hle; rw [hw] at this; cases this)
                rcases leq_yes hw with x1 | ⟨x1, x2⟩
                all_goals
                  clear hw
                  go_wp2_with fail
                  refine (fits_yes _ _ _ _ HT.out).mono ?_
                  rintro x w1 ⟨rfl, hb1⟩
                  have hb2 : Below wr.heap.size wr w1 := ((Below.refl wr.heap.size wr).alloc (Nat.le_refl _) _).trans (hb1.mono (by simp))
                  have q0 : w1.cell? ⟨wr.heap.size, 0, none⟩ = some (.int .i64 (e : Int)) := by rw [hb1.cell (p := ⟨wr.heap.size, 0, none⟩) (by simp)]; simp
                  have q1 : w1.cell? ⟨wr.heap.size, 1, none⟩ = some (.string (sB (T.wd t k))) := by rw [hb1.cell (p := ⟨wr.heap.size, 1, none⟩) (by simp)]; simp
                  have qf : w1.cell? ⟨w.heap.size, e, none⟩ = some (.string (sB (f e))) := by rw [hb2.cell (p := ⟨w.heap.size, e, none⟩) hgw]; exact HW.out.cell he15
                  have qz : w1.frozen? ⟨w.heap.size, e, none⟩ = false := by rw [hb2.frozen (p := ⟨w.heap.size, e, none⟩) hgw]; exact HW.out.frozen e
                  have qs : (w1.setCell ⟨w.heap.size, e, none⟩ (.string (sB (T.wd t k)))).cell? ⟨wr.heap.size, 0, none⟩ = some (.int .i64 (e : Int)) := by rw [World.cell?_setCell_other _ _ _ _ (by intro h; injection h; omega)]; exact q0
                  clear hb1
                  go_wp2
                  go_region
                  go_wp2
                  go_ret
                  exact RightS.no HN.out (hb.trans (hb2.mono hb.size)).drew
            · have ble : decide ((e : Int) ≤ T.aheadL t k) = false := decide_eq_false hle
              have HRN := Lib.hid (HR.out.next HO.out HD.out hstep (fun h => absurd h hle))
              go_wp2_with fail
              refine (fits_yes _ _ _ _ HT.out).mono ?_
              rintro x w1 ⟨rfl, hb1⟩
              have hb2 : Below wr.heap.size wr w1 := ((Below.refl wr.heap.size wr).alloc (Nat.le_refl _) _).trans (hb1.mono (by simp))
              have q0 : w1.cell? ⟨wr.heap.size, 0, none⟩ = some (.int .i64 (e : Int)) := by rw [hb1.cell (p := ⟨wr.heap.size, 0, none⟩) (by simp)]; simp
              have q1 : w1.cell? ⟨wr.heap.size, 1, none⟩ = some (.string (sB (T.wd t k))) := by rw [hb1.cell (p := ⟨wr.heap.size, 1, none⟩) (by simp)]; simp
              have qf : w1.cell? ⟨w.heap.size, e, none⟩ = some (.string (sB (f e))) := by rw [hb2.cell (p := ⟨w.heap.size, e, none⟩) hgw]; exact HW.out.cell he15
              have qz : w1.frozen? ⟨w.heap.size, e, none⟩ = false := by rw [hb2.frozen (p := ⟨w.heap.size, e, none⟩) hgw]; exact HW.out.frozen e
              have qs : (w1.setCell ⟨w.heap.size, e, none⟩ (.string (sB (T.wd t k)))).cell? ⟨wr.heap.size, 0, none⟩ = some (.int .i64 (e : Int)) := by rw [World.cell?_setCell_other _ _ _ _ (by intro h; injection h; omega)]; exact q0
              clear hb1
              go_wp2
              go_region
              go_wp2
              go_roundg (t.length - (k + 1))
              case rel => exact ⟨k + 1, _, by omega, by go_num, by rw [T.ahead_next, HD.out], by rw [T.ahead_next, HD.out]; omega, to_next HF.out HFN.out, HO.out.next HD.out hstep, HRN.out, row_store HW.out hb2 (T.wd t k), ((hb.trans (hb2.mono hb.size)).setCell (Nat.le_refl _) _).drew⟩
              case measure => have := HG.out; omega
          · have bstep : decide (T.aheadL t k + 1 < (e : Int)) = true := decide_eq_true (by omega)
            have HN := Lib.hid (show ¬ T.RightT t from fun h => hstep (by rw [← HD.out]; exact (h.fits hlt).2))
            go_wp2_with fail
            refine (fits_yes _ _ _ _ HT.out).mono ?_
            rintro x w1 ⟨rfl, hb1⟩
            have q0 : w1.cell? ⟨wr.heap.size, 0, none⟩ = some (.int .i64 (e : Int)) := by rw [hb1.cell (p := ⟨wr.heap.size, 0, none⟩) (by simp)]; simp
            go_wp2
            go_ret
            exact RightS.no HN.out (((hb.alloc hb.size _)).trans (hb1.mono (by simp; omega)))
        · have HN := Lib.hid (show ¬ T.RightT t from fun h => hfit (by have := (h.fits hlt).1; unfold fitB; rw [sB_size]; exact this))
          have HT := Lib.hid hfit
          clear hfit
          go_wp2_with fail
          refine (fits_no _ _ _ _ HT.out).mono ?_
          rintro x w1 ⟨rfl, hb1⟩
          go_wp2
          go_ret
          exact RightS.no HN.out (((hb.alloc hb.size _)).trans (hb1.mono (by simp; omega)))
      · have hkl : k = t.length := by have := HG.out; omega
        have HN := Lib.hid (T.right_of h200 (fun m hm => HF.out m (by omega)) (fun i c h1 h2 => HR.out i c h1 (by omega)))
        go_wp2
        go_ret
        exact RightS.yes HN.out hb
  · have b200 : decide ((200 : Int) < (t.length : Int)) = true := by simp; omega
    go_enter Try.func24, Try.ntmps24
    go_wp2
    go_ret
    exact RightS.no (fun h => h200 h.len) (Below.refl _ _)
end Go.Proofs.Ytkifapbiimlafaa

namespace Go.Proofs.Ytkifapbiimlafaa
open Go.RowKit

theorem wrapI (n : Int) (h : -9223372036854775808 ≤ n ∧ n ≤ 9223372036854775807) : IntKind.i64.wrap n = n := IntWalk.i64_in _ (by omega)
def RelF (w : World) (t : List T.Ln) (g : Nat) (i : Value) (wr : World) : Prop := ∃ k : Nat, k + g = t.length ∧ i = .int .i64 k ∧ (∀ m, m < k → T.Fits t m) ∧ Below w.heap.size w wr
def RelP (w : World) (t : List T.Ln) (g : Nat) (i : Value) (wr : World) : Prop := ∃ k : Nat, k + g = t.length ∧ i = .int .i64 k ∧ (∀ m, m < k → ∀ c, m < c → c < t.length → T.Rise t m c) ∧ Below w.heap.size w wr
theorem first_ok (t : List T.Ln) : T.Fits t 0 ↔ (((0 ≤ T.dp t 0 ∧ T.dp t 0 ≤ 15) ∧ (T.wd t 0).length ≤ 40 ∧ 0 ≤ (T.at_ t 0).mark ∧ (T.at_ t 0).mark ≤ 3) ∧ T.dp t 0 = 0) := by
  unfold T.Fits T.aheadL
  rw [if_pos rfl]
  constructor
  · rintro ⟨h, h2⟩; exact ⟨h, by omega⟩
  · rintro ⟨h, h2⟩; exact ⟨h, by omega⟩

set_option maxRecDepth 100000 in
set_option maxHeartbeats 2000000 in
theorem rightR_any (A : Option Addr) (c : Nat) (t : List T.Ln) (w : World) (hA : Seen eL w A t) (hl : t.length ≤ 1073741824) :
    Calls Try.prog 14 #[.slice A t.length c] w (RightS w t) := by
  have HA := Lib.hid hA
  clear hA
  by_cases h200 : t.length ≤ 200
  · have b200 : decide ((200 : Int) < (t.length : Int)) = false := by simp; omega
    go_enter Try.func14, Try.ntmps14
    go_wp2
    go_loopg [3] t.length (fun g i wr => RelF w t g i wr)
    case atStart => exact ⟨0, Nat.zero_add _, rfl, fun m h => absurd h (Nat.not_lt_zero _), Below.refl _ _⟩
    case round =>
      obtain ⟨k, hg, rfl, hF, hb⟩ := hrel
      have HG := Lib.hid hg
      have HF := Lib.hid hF
      clear hg hF
      by_cases hlt : k < t.length
      · obtain ⟨b, o, rfl, hbw, hL⟩ := HA.out.lines (by omega)
        have hL2 := hL.below hb hbw
        obtain ⟨c0, c1, c2⟩ := hL2.line hlt
        have HL := Lib.hid hL2
        have hbr : b < wr.heap.size := Nat.lt_of_lt_of_le hbw hb.size
        clear hL hL2
        have no : ∀ w' : World, (¬ fitB (T.dp t k) (sB (T.wd t k)).size (T.at_ t k).mark) → Below w.heap.size w w' → RightS w t (.returned (.bool false)) w' := fun _ h hb => RightS.no (fun hR => h (by have := (hR.fits hlt).1; unfold fitB; rw [sB_size]; exact this)) hb
        have NO := Lib.hid no
        clear no
        by_cases h1 : T.dp t k < 0
        · have b1 : decide (T.dp t k < (0 : Int)) = true := decide_eq_true h1
          go_wp2
          go_ret
          exact NO.out _ (fun h => by have := h.1.1; omega) (hb.alloc hb.size _)
        · have b1 : decide (T.dp t k < (0 : Int)) = false := decide_eq_false h1
          by_cases h2 : 15 < T.dp t k
          · have b2 : decide ((15 : Int) < T.dp t k) = true := decide_eq_true h2
            go_wp2
            go_ret
            exact NO.out _ (fun h => by have := h.1.2; omega) (hb.alloc hb.size _)
          · have b2 : decide ((15 : Int) < T.dp t k) = false := decide_eq_false h2
            by_cases h3 : 40 < (sB (T.wd t k)).size
            · have b3 : decide ((40 : Int) < ((sB (T.wd t k)).size : Int)) = true := decide_eq_true (by omega)
              go_wp2
              go_ret
              exact NO.out _ (fun h => by have := h.2.1; omega) (hb.alloc hb.size _)
            · have b3 : decide ((40 : Int) < ((sB (T.wd t k)).size : Int)) = false := decide_eq_false (by omega)
              by_cases h4 : (T.at_ t k).mark < 0
              · have b4 : decide ((T.at_ t k).mark < (0 : Int)) = true := decide_eq_true h4
                go_wp2
                go_ret
                exact NO.out _ (fun h => by have := h.2.2.1; omega) (hb.alloc hb.size _)
              · have b4 : decide ((T.at_ t k).mark < (0 : Int)) = false := decide_eq_false h4
                by_cases h5 : 3 < (T.at_ t k).mark
                · have b5 : decide ((3 : Int) < (T.at_ t k).mark) = true := decide_eq_true h5
                  go_wp2
                  go_ret
                  exact NO.out _ (fun h => by have := h.2.2.2; omega) (hb.alloc hb.size _)
                · have b5 : decide ((3 : Int) < (T.at_ t k).mark) = false := decide_eq_false h5
                  have HT := Lib.hid (show (0 ≤ T.dp t k ∧ T.dp t k ≤ 15) ∧ (T.wd t k).length ≤ 40 ∧ 0 ≤ (T.at_ t k).mark ∧ (T.at_ t k).mark ≤ 3 from ⟨⟨by omega, by omega⟩, by rw [sB_size] at h3; omega, by omega, by omega⟩)
                  match k, HG, HF, hlt, c0, c1, c2, b1, b2, b3, b4, b5, h1, h2, HT with
                  | 0, HG, HF, hlt, c0, c1, c2, b1, b2, b3, b4, b5, h1, h2, HT =>
                    simp only [Nat.zero_mul, Nat.add_zero] at c0 c1 c2
                    by_cases h6 : T.dp t 0 = 0
                    · have b6 : (T.dp t 0 != 0) = false := by simp [h6]
                      have HN := Lib.hid ((first_ok t).2 ⟨HT.out, h6⟩)
                      clear h6
                      go_wp2
                      go_region
                      go_wp2
                      go_roundg (t.length - 1)
                      case rel => exact ⟨1, (by omega), by go_num, to_next HF.out HN.out, (hb.alloc hb.size _).drew⟩
                      case measure => have := HG.out; omega
                    · have b6 : (T.dp t 0 != 0) = true := bne_iff_ne.2 h6
                      have HN := Lib.hid (show ¬ T.RightT t from fun h => h6 (h.first hlt))
                      clear h6
                      go_wp2
                      go_region
                      go_wp2
                      go_ret
                      exact RightS.no HN.out (hb.alloc hb.size _).drew
                  | k + 1, HG, HF, hlt, c0, c1, c2, b1, b2, b3, b4, b5, h1, h2, HT =>
                    obtain ⟨d0, _, _⟩ := HL.out.line (show k < t.length by omega)
                    have hd := (HF.out k (by omega)).1.1
                    have hk0 : (((k : Int) + 1) == 0) = false := beq_eq_false_iff_ne.2 (by omega)
                    have hk1 : decide ((0 : Int) < (k : Int) + 1) = true := decide_eq_true (by omega)
                    have e1 : IntKind.i64.wrap ((k : Int) + 1 - 1) = (k : Int) := by rw [wrapI _ (by omega)]; omega
                    have e2 : IntKind.i64.wrap (T.dp t k + 1) = T.dp t k + 1 := wrapI _ (by omega)
                    by_cases h6 : T.dp t (k + 1) ≤ T.dp t k + 1
                    · have b6 : decide (T.dp t k + 1 < T.dp t (k + 1)) = false := decide_eq_false (by omega)
                      have HN := Lib.hid (show T.Fits t (k + 1) from ⟨HT.out, by rw [T.ahead_next]; exact h6⟩)
                      clear h6
                      go_wp2
                      go_region
                      go_wp2
                      go_roundg (t.length - (k + 2))
                      case rel => exact ⟨k + 2, (by omega), by go_num, to_next HF.out HN.out, (hb.alloc hb.size _).drew⟩
                      case measure => have := HG.out; omega
                    · have b6 : decide (T.dp t k + 1 < T.dp t (k + 1)) = true := decide_eq_true (by omega)
                      have HN := Lib.hid (show ¬ T.RightT t from fun h => h6 (h.step k hlt))
                      clear h6
                      go_wp2
                      go_region
                      go_wp2
                      go_ret
                      exact RightS.no HN.out (hb.alloc hb.size _).drew
      · have hkl : k = t.length := by have := HG.out; omega
        subst hkl
        clear HG
        go_wp2
        go_loopg [5, 6] t.length (fun g i _ wr => RelP w t g i wr)
        case atStart => exact ⟨0, Nat.zero_add _, rfl, fun m h => absurd h (Nat.not_lt_zero _), hb⟩
        case round =>
          obtain ⟨i, hg, rfl, hP, hb2⟩ := hrel
          obtain ⟨go, rfl⟩ : ∃ go : Nat, go = gk := ⟨_, rfl⟩
          have HG := Lib.hid hg
          have HP := Lib.hid hP
          clear hg hP
          by_cases hi : i < t.length
          · obtain ⟨b, o, rfl, hbw, hL⟩ := HA.out.lines (by omega)
            have HL := Lib.hid hL
            clear hL
            go_wp2
            go_loopg [6] (t.length - (i + 1)) (fun g k wr => ∃ j : Nat, Hid (j + g = t.length) ∧ i < j ∧ j ≤ t.length ∧ k = .int .i64 j ∧ Hid (T.PairTo t i j) ∧ Below w.heap.size w wr)
            case atStart => exact ⟨i + 1, (by show _ = _; omega), by omega, by omega, by go_num, T.PairTo.start t i, hb2⟩
            case round =>
              obtain ⟨j, HJ, hij, hj, rfl, HI, hb3⟩ := hrel
              by_cases hjl : j < t.length
              · have bjl : decide ((j : Int) < (t.length : Int)) = true := decide_eq_true (by omega)
                obtain ⟨c0, c1, _⟩ := (HL.out.below hb3 hbw).line hjl
                obtain ⟨d0, d1, _⟩ := (HL.out.below hb3 hbw).line hi
                by_cases hge : T.dp t i ≤ T.dp t j
                · have bge : decide (T.dp t i ≤ T.dp t j) = true := decide_eq_true hge
                  by_cases heq : T.dp t j = T.dp t i
                  · have beq : (T.dp t i == T.dp t i) = true := beq_self_eq_true _
                    cases hw : Op.bytesLess (T.wd t i) (T.wd t j) with
                    | true =>
                      have HN := Lib.hid (HI.out.next hge (fun _ => hw))
                      obtain ⟨x1, x2⟩ := leq_no hw
                      rw [heq] at c0 bge
                      clear hw heq hge
                      go_wp2
                      go_region
                      go_wp2
                      go_region
                      go_wp2
                      go_roundg (t.length - (j + 1))
                      case rel => exact ⟨j + 1, (by show _ = _; omega), by omega, by omega, by go_num, HN, hb3.drew.drew⟩
                      case measure => have := HJ.out; omega
                    | false =>
                      have HN := Lib.hid (HI.out.bad hij hjl heq hw)
                      rcases leq_yes hw with x1 | ⟨x1, x2⟩
                      all_goals
                        rw [heq] at c0 bge
                        clear hw heq hge
                        go_wp2
                        go_region
                        go_wp2
                        go_region
                        go_wp2
                        go_ret
                        exact RightS.no HN.out hb3.drew.drew
                  · have beq : (T.dp t j == T.dp t i) = false := beq_eq_false_iff_ne.2 heq
                    have HN := Lib.hid (HI.out.next hge (fun h => absurd h heq))
                    clear heq hge
                    go_wp2
                    go_region
                    go_wp2
                    go_region
                    go_wp2
                    go_roundg (t.length - (j + 1))
                    case rel => exact ⟨j + 1, (by show _ = _; omega), by omega, by omega, by go_num, HN, hb3.drew.drew⟩
                    case measure => have := HJ.out; omega
                · have bge : decide (T.dp t i ≤ T.dp t j) = false := decide_eq_false hge
                  have HN := Lib.hid (HI.out.done hij (fun _ => by omega))
                  clear hge
                  go_wp2
                  go_region
                  go_wp2
                  go_roundg (t.length - (i + 1))
                  case rel => exact ⟨i + 1, by omega, by go_num, to_next HP.out HN.out, hb3.drew⟩
                  case measure => have := HG.out; omega
              · have bjl : decide ((j : Int) < (t.length : Int)) = false := decide_eq_false (by omega)
                have HN := Lib.hid (HI.out.done hij (fun h => absurd h hjl))
                go_wp2
                go_region
                go_wp2
                go_roundg (t.length - (i + 1))
                case rel => exact ⟨i + 1, by omega, by go_num, to_next HP.out HN.out, hb3.drew⟩
                case measure => have := HG.out; omega
          · have HN := Lib.hid (T.right_of h200 HF.out (fun a c h1 h2 => HP.out a (by omega) c h1 h2))
            go_wp2
            go_ret
            exact RightS.yes HN.out hb2
  · have b200 : decide ((200 : Int) < (t.length : Int)) = true := by simp; omega
    go_enter Try.func14, Try.ntmps14
    go_wp2
    go_ret
    exact RightS.no (fun h => h200 h.len) (Below.refl _ _)
end Go.Proofs.Ytkifapbiimlafaa

namespace Go.Proofs.Ytkifapbiimlafaa
open Go.RowKit

theorem right_is (A : Option Addr) (c : Nat) (t : List T.Ln) (b : Bool) (w : World) (hA : Seen eL w A t) (hl : t.length ≤ 1073741824) (h : b = true ↔ T.RightT t) :
    Calls Try.prog 24 #[.slice A t.length c] w (BoolS w b) :=
  (right_any A c t w hA hl).mono fun e w' ⟨b2, he, hb2, hb⟩ => ⟨by rw [he]; congr 2; cases b <;> cases b2 <;> simp_all, hb⟩
theorem rightR_is (A : Option Addr) (c : Nat) (t : List T.Ln) (b : Bool) (w : World) (hA : Seen eL w A t) (hl : t.length ≤ 1073741824) (h : b = true ↔ T.RightT t) :
    Calls Try.prog 14 #[.slice A t.length c] w (BoolS w b) :=
  (rightR_any A c t w hA hl).mono fun e w' ⟨b2, he, hb2, hb⟩ => ⟨by rw [he]; congr 2; cases b <;> cases b2 <;> simp_all, hb⟩
theorem yes_iff {p : Prop} (h : p) : true = true ↔ p := ⟨fun _ => h, fun _ => rfl⟩
theorem no_iff {p : Prop} (h : ¬ p) : false = true ↔ p := ⟨(fun e => by cases e), fun e => absurd e h⟩

theorem has_yes (A : Option Addr) (c : Nat) (t : List T.Ln) (i : Nat) (w : World) (hA : Seen eL w A t) (hl : t.length ≤ 1073741824) (hi : i < t.length) (hR : T.RightT t) :
    Calls Try.prog 45 #[.slice A t.length c, .int .i64 i] w (BoolS w true) := by
  have b1 : decide ((0 : Int) ≤ (i : Int)) = true := decide_eq_true (by omega)
  have b2 : decide ((i : Int) < (t.length : Int)) = true := decide_eq_true (by omega)
  have HR := Lib.hid hR
  have HA := Lib.hid hA
  clear hR hA
  go_enter Try.func45, Try.ntmps45
  go_wp2_with fail
  refine (right_is A c t true _ HA.out hl (yes_iff HR.out)).mono ?_
  rintro e w1 ⟨rfl, hb1⟩
  go_wp2
  go_ret
  exact ⟨rfl, hb1⟩
theorem has_no (A : Option Addr) (c : Nat) (t : List T.Ln) (i : Int) (w : World) (hA : Seen eL w A t) (hl : t.length ≤ 1073741824) (h : i < 0 ∨ (t.length : Int) ≤ i ∨ ¬ T.RightT t) :
    Calls Try.prog 45 #[.slice A t.length c, .int .i64 i] w (BoolS w false) := by
  by_cases h1 : 0 ≤ i
  · have b1 : decide ((0 : Int) ≤ i) = true := decide_eq_true h1
    by_cases h2 : i < (t.length : Int)
    · have b2 : decide (i < (t.length : Int)) = true := decide_eq_true h2
      have HR := Lib.hid (show ¬ T.RightT t by rcases h with h | h | h; · omega
                                               · omega
                                               · exact h)
      have HA := Lib.hid hA
      clear h hA
      go_enter Try.func45, Try.ntmps45
      go_wp2_with fail
      refine (right_is A c t false _ HA.out hl (no_iff HR.out)).mono ?_
      rintro e w1 ⟨rfl, hb1⟩
      go_wp2
      go_ret
      exact ⟨rfl, hb1⟩
    · have b2 : decide (i < (t.length : Int)) = false := decide_eq_false h2
      clear h
      go_enter Try.func45, Try.ntmps45
      go_wp2
      go_ret
      exact ⟨rfl, Below.refl _ _⟩
  · have b1 : decide ((0 : Int) ≤ i) = false := decide_eq_false h1
    clear h
    go_enter Try.func45, Try.ntmps45
    go_wp2
    go_ret
    exact ⟨rfl, Below.refl _ _⟩

theorem End_yes (A : Option Addr) (c : Nat) (t : List T.Ln) (i : Nat) (w : World) (hA : Seen eL w A t) (hl : t.length ≤ 1073741824) (hi : i < t.length) (hR : T.RightT t) :
    Calls Try.prog 49 #[.slice A t.length c, .int .i64 i] w (IntS w (T.endL t i : Nat)) := by
  have HR := Lib.hid hR
  have HA := Lib.hid hA
  clear hR hA
  go_enter Try.func49, Try.ntmps49
  go_wp2_with fail
  refine (has_yes A c t i _ HA.out hl hi HR.out).mono ?_
  rintro e w1 ⟨rfl, hb1⟩
  go_wp2_with fail
  refine (end_any A c t i _ (HA.out.below hb1) hi hl).mono ?_
  rintro e w2 ⟨rfl, hb2⟩
  go_wp2
  go_ret
  exact ⟨rfl, bthen hb1 hb2⟩
theorem End_no (A : Option Addr) (c : Nat) (t : List T.Ln) (i : Int) (w : World) (hA : Seen eL w A t) (hl : t.length ≤ 1073741824) (h : i < 0 ∨ (t.length : Int) ≤ i ∨ ¬ T.RightT t) :
    Calls Try.prog 49 #[.slice A t.length c, .int .i64 i] w (IntS w 0) := by
  have HR := Lib.hid h
  have HA := Lib.hid hA
  clear h hA
  go_enter Try.func49, Try.ntmps49
  go_wp2_with fail
  refine (has_no A c t i _ HA.out hl HR.out).mono ?_
  rintro e w1 ⟨rfl, hb1⟩
  go_wp2
  go_ret
  exact ⟨rfl, hb1⟩
end Go.Proofs.Ytkifapbiimlafaa

namespace Go.Proofs.Ytkifapbiimlafaa
open Go.RowKit

theorem take_nextG {α : Type} {l1 l2 : List α} {k : Nat} (h : l1.take k = l2.take k) (h1 : k < l1.length) (h2 : k < l2.length) (e : l1[k] = l2[k]) : l1.take (k + 1) = l2.take (k + 1) := by
  rw [List.take_succ_eq_append_getElem h1, List.take_succ_eq_append_getElem h2, h, e]
theorem ln_ext {x y : T.Ln} (h1 : x.depth = y.depth) (h2 : x.word = y.word) (h3 : x.mark = y.mark) : x = y := by cases x; cases y; simp_all

set_option maxRecDepth 100000 in
set_option maxHeartbeats 2000000 in
theorem same_long (A B : Option Addr) (c d : Nat) (l1 l2 : List T.Ln) (n : Nat) (w : World) (r : Bool) (hr : r = true ↔ l1 = l2) (hl : n ≤ 1073741824) (hA : Seen eL w A l1) (hB : Seen eL w B l2) (h1 : l1.length = n) (h2 : l2.length = n) :
    Calls Try.prog 15 #[.slice A n c, .slice B n d] w (BoolS w r) := by
  have HA := Lib.hid hA
  have HB := Lib.hid hB
  have H1 := Lib.hid h1
  have H2 := Lib.hid h2
  have HR := Lib.hid hr
  clear hA hB h1 h2 hr
  go_enter Try.func15, Try.ntmps15
  go_wp2
  go_loopg [5] n (fun g i wr => ∃ k : Nat, Hid (k + g = n) ∧ k ≤ n ∧ i = .int .i64 k ∧ Hid (l1.take k = l2.take k) ∧ Below w.heap.size w wr)
  case atStart => exact ⟨0, Nat.zero_add _, Nat.zero_le _, rfl, rfl, Below.refl _ _⟩
  case round =>
    obtain ⟨k, HG, hk, rfl, HI, hb⟩ := hrel
    by_cases hlt : k < n
    · have hk1 : k < l1.length := by have := H1.out; omega
      have hk2 : k < l2.length := by have := H2.out; omega
      obtain ⟨b1, o1, rfl, hw1, hL1⟩ := HA.out.lines (by omega)
      obtain ⟨b2, o2, rfl, hw2, hL2⟩ := HB.out.lines (by omega)
      obtain ⟨c0, c1, c2⟩ := (hL1.below hb hw1).line hk1
      obtain ⟨d0, d1, d2⟩ := (hL2.below hb hw2).line hk2
      have e1 : l1[k] = T.at_ l1 k := at_get l1 k hk1
      have e2 : l2[k] = T.at_ l2 k := at_get l2 k hk2
      have hno : T.at_ l1 k ≠ T.at_ l2 k → r = false := fun h => by
        cases hrr : r with
        | false => rfl
        | true => exact absurd (by have := HR.out.1 hrr; subst this; rfl) h
      have HN := Lib.hid hno
      have HS := Lib.hid (show T.at_ l1 k = T.at_ l2 k → l1.take (k + 1) = l2.take (k + 1) from fun h => take_nextG HI.out hk1 hk2 (by rw [e1, e2, h]))
      clear hno e1 e2
      by_cases q0 : T.dp l1 k = T.dp l2 k
      · by_cases q1 : T.wd l1 k = T.wd l2 k
        · by_cases q2 : (T.at_ l1 k).mark = (T.at_ l2 k).mark
          · have HS2 := Lib.hid (HS.out (ln_ext q0 q1 q2))
            rw [← q0] at d0
            rw [← q1] at d1
            rw [← q2] at d2
            clear q0 q1 q2
            go_wp2
            go_region
            go_wp2
            go_roundg (n - (k + 1))
            case rel => exact ⟨k + 1, (by show _ = _; have := HG.out; omega), by omega, by go_num, HS2, hb.drew⟩
            case measure => have := HG.out; omega
          · have hr2 := HN.out (fun e => q2 (by rw [e]))
            subst hr2
            have b2 : ((T.at_ l1 k).mark == (T.at_ l2 k).mark) = false := beq_eq_false_iff_ne.2 q2
            rw [← q0] at d0
            rw [← q1] at d1
            clear q0 q1 q2
            go_wp2
            go_region
            go_wp2
            go_ret
            exact ⟨rfl, hb.drew⟩
        · have hr2 := HN.out (fun e => q1 (by unfold T.wd; rw [e]))
          subst hr2
          have hne := sB_ne q1
          rw [← q0] at d0
          clear q0 q1
          go_wp2
          go_region
          go_wp2
          go_ret
          exact ⟨rfl, hb.drew⟩
      · have hr2 := HN.out (fun e => q0 (by unfold T.dp; rw [e]))
        subst hr2
        have b2 : (T.dp l1 k == T.dp l2 k) = false := beq_eq_false_iff_ne.2 q0
        clear q0
        go_wp2
        go_region
        go_wp2
        go_ret
        exact ⟨rfl, hb.drew⟩
    · have hr2 : r = true := HR.out.2 (by
        have := HI.out
        rwa [List.take_of_length_le (by have := H1.out; omega), List.take_of_length_le (by have := H2.out; omega)] at this)
      subst hr2
      go_wp2
      go_ret
      exact ⟨rfl, hb⟩
theorem same_short (A B : Option Addr) (c d n m : Nat) (w : World) (h : n ≠ m) :
    Calls Try.prog 15 #[.slice A n c, .slice B m d] w (BoolS w false) := by
  have b : ((n : Int) != (m : Int)) = true := by simp; omega
  go_enter Try.func15, Try.ntmps15
  go_wp2
  go_ret
  exact ⟨rfl, Below.refl _ _⟩
theorem same_any (A B : Option Addr) (c d : Nat) (l1 l2 : List T.Ln) (w : World) (r : Bool) (hr : r = true ↔ l1 = l2) (hl : l1.length ≤ 1073741824) (hA : Seen eL w A l1) (hB : Seen eL w B l2) :
    Calls Try.prog 15 #[.slice A l1.length c, .slice B l2.length d] w (BoolS w r) := by
  by_cases h : l1.length = l2.length
  · have := same_long A B c d l1 l2 l1.length w r hr hl hA hB rfl h.symm
    rw [h] at this ⊢
    exact this
  · have e : r = false := by
      cases hrr : r with
      | false => rfl
      | true => exact absurd (by rw [hr.1 hrr]) h
    subst e
    exact same_short A B c d _ _ w h
end Go.Proofs.Ytkifapbiimlafaa
