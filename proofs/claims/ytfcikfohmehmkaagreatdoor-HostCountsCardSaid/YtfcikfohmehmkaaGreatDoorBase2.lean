/-
  Contracts of layer 3's inner functions under and end, and of the document's Small, Short, Under and End: what they return is what the plain definitions say; below the heap's size at the call the world is as it was. Condition: a place of a line, at most 2^30 lines. Contracts of layer 3's inner functions under and end, and of the document's End and Short: what they return is what the plain definitions say; below the heap's size at the call the world is as it was. Condition: a place of a line, at most 2^30 lines. Contracts of the document's Ints, Equal and Same (layer 3): equal lists are equal; Equal decides it; below the heap's size at the call the world is as it was. Condition: at most 2^30 elements. Contracts of layer 3's fits and Right: Right returns whether lines are a tree, by the plain definition; below the heap's size at the call the world is as it was. Condition: at most 2^30 lines. Contract of the document's Right (layer 3): it returns whether lines are a tree, by the plain definition; below the heap's size at the call the world is as it was. Condition: at most 2^30 lines. Contracts of layer 3's has, Under and End: what they return is what the plain definitions say; below the heap's size at the call the world is as it was. Condition: at most 2^30 lines. Contract of the document's Same (layer 3) for any two lists of lines: it returns whether they are equal; below the heap's size at the call the world is as it was. Condition: at most 2^30 lines.
  Contract of layer 3's Path: the path of a line, or ErrArg; below the heap's size at the call the world is as it was. Condition: at most 2^30 lines. Contracts of layer 3's Kids and Leaves: the places that the plain definitions say, or none; below the heap's size at the call the world is as it was. Condition: at most 2^30 lines. Contract of layer 3's Sub: the part that the plain definition says, or none; below the heap's size at the call the world is as it was. Condition: at most 2^30 lines. Contracts of the document's Path, Find and Kids (layer 3): what the plain definitions say; below the heap's size at the call the world is as it was. Condition: a tree where it says so, at most 2^30 lines. Contract of the document's Sub (layer 3): the part that the plain definition says; below the heap's size at the call the world is as it was. Condition: a tree, a place of a line, at most 2^30 lines. Contracts of layer 3's kid and Find: the line of a path, or none; below the heap's size at the call the world is as it was. Condition: at most 2^30 lines, a path of at most 2^30 words.
  The fixed answer 'awake' of layer 3's statements: it returns true; below the heap's size at the call the world is as it was. No conditions. Small contracts for the walks of layer 3's statements: Right of lines whose number is said otherwise; what is seen of a slice of a slice. No conditions.
-/
import Derived.Test.YtfcikfohmehmkaaGreatDoorBase1
import Derived.Deep.LoopGhost
import Derived.WalkMore
import Derived.RegionTactic
import Derived.BigQuiet
import Derived.Deep.OwnRows
import Derived.IntWalk
import Derived.BigRegion
import Derived.Lib.SmallJoins

namespace Go.Proofs.YtfcikfohmehmkaaGreatDoor
open Go.RowKit

def FewS (w : World) (n m : Nat) (e : Ending) (w' : World) : Prop := ∃ b, e = .returned (.bool b) ∧ (b = true → n ≤ m) ∧ Below w.heap.size w w'

theorem small_any (A : Option Addr) (c : Nat) (t : List T.Ln) (w : World) (hA : Seen eL w A t) :
    Calls Tryz.prog 9 #[.slice A t.length c] w (FewS w t.length 220) := by
  have HA := Lib.hid hA
  clear hA
  by_cases h220 : t.length ≤ 220
  · have b220 : decide ((220 : Int) < (t.length : Int)) = false := by simp; omega
    go_enter Tryz.func9, Tryz.ntmps9
    go_wp2
    go_loopg [3] t.length (fun g i wr => ∃ k : Nat, Hid (k + g = t.length) ∧ k ≤ t.length ∧ i = .int .i64 k ∧ w = wr)
    case atStart => exact ⟨0, Nat.zero_add _, Nat.zero_le _, rfl, rfl⟩
    case round =>
      obtain ⟨k, HG, hk, rfl, rfl⟩ := hrel
      by_cases hlt : k < t.length
      · obtain ⟨b, o, rfl, hbw, hL⟩ := HA.out.lines (by omega)
        obtain ⟨_, c1, _⟩ := hL.line hlt
        by_cases h100 : 100 < (sB (T.wd t k)).size
        · have b100 : decide ((100 : Int) < ((sB (T.wd t k)).size : Int)) = true := by simp; omega
          go_wp2
          go_ret
          exact ⟨false, rfl, (fun h => by cases h), Below.refl _ _⟩
        · have b100 : decide ((100 : Int) < ((sB (T.wd t k)).size : Int)) = false := by simp; omega
          go_wp2
          go_roundg (t.length - (k + 1))
          case rel => exact ⟨k + 1, (by show _ = _; omega), by omega, by go_num, rfl⟩
          case measure => have := HG.out; omega
      · go_wp2
        go_ret
        exact ⟨true, rfl, (fun _ => h220), Below.refl _ _⟩
  · have b220 : decide ((220 : Int) < (t.length : Int)) = true := by simp; omega
    go_enter Tryz.func9, Tryz.ntmps9
    go_wp2
    go_ret
    exact ⟨false, rfl, (fun h => by cases h), Below.refl _ _⟩

theorem refUnder_any (A : Option Addr) (c : Nat) (t : List T.Ln) (i : Nat) (w : World) (hA : Seen eL w A t) (hi : i < t.length) (hl : t.length ≤ 1073741824) :
    Calls Tryz.prog 47 #[.slice A t.length c, .int .i64 i] w (IntS w (T.underL t i)) := by
  obtain ⟨b, o, rfl, hbw, hL⟩ := hA.lines (by omega)
  have HL := Lib.hid hL
  clear hA hL
  go_enter Tryz.func47, Tryz.ntmps47
  go_wp2
  go_loopg [5, 6] i (fun g u k wr => ∃ j : Nat, Hid (j + g = i) ∧ j ≤ i ∧ k = .int .i64 j ∧ u = .int .i64 (T.underF t (T.dp t i) j) ∧ Below w.heap.size w wr)
  case atStart => exact ⟨0, Nat.zero_add _, Nat.zero_le _, rfl, rfl, Below.refl _ _⟩
  case round =>
    obtain ⟨j, HG, hj, rfl, rfl, hb⟩ := hrel
    by_cases hlt : j < i
    · obtain ⟨c0, _, _⟩ := (HL.out.below hb hbw).line (show j < t.length by omega)
      obtain ⟨d0, _, _⟩ := (HL.out.below hb hbw).line hi
      by_cases hd : T.dp t j < T.dp t i
      · have bd : decide (T.dp t j < T.dp t i) = true := decide_eq_true hd
        have HN := Lib.hid (show T.underF t (T.dp t i) (j + 1) = (j : Int) by simp only [T.underF]; rw [if_pos hd])
        clear hd
        go_wp2
        go_region
        go_wp2
        go_roundg (i - (j + 1))
        case rel => exact ⟨j + 1, (by show _ = _; omega), by omega, by go_num, by rw [HN.out], hb.drew⟩
        case measure => have := HG.out; omega
      · have bd : decide (T.dp t j < T.dp t i) = false := decide_eq_false hd
        have HN := Lib.hid (show T.underF t (T.dp t i) (j + 1) = T.underF t (T.dp t i) j by conv => lhs; simp only [T.underF]; rw [if_neg hd])
        clear hd
        go_wp2
        go_region
        go_wp2
        go_roundg (i - (j + 1))
        case rel => exact ⟨j + 1, (by show _ = _; omega), by omega, by go_num, by rw [HN.out], hb.drew⟩
        case measure => have := HG.out; omega
    · obtain rfl : j = i := by omega
      go_wp2
      go_ret
      exact ⟨rfl, hb⟩
end Go.Proofs.YtfcikfohmehmkaaGreatDoor

namespace Go.Proofs.YtfcikfohmehmkaaGreatDoor
open Go.RowKit

theorem refEnd_any (A : Option Addr) (c : Nat) (t : List T.Ln) (i : Nat) (w : World) (hA : Seen eL w A t) (hi : i < t.length) (hl : t.length ≤ 1073741824) :
    Calls Tryz.prog 24 #[.slice A t.length c, .int .i64 i] w (IntS w (T.endL t i : Nat)) := by
  obtain ⟨b, o, rfl, hbw, hL⟩ := hA.lines (by omega)
  have HL := Lib.hid hL
  clear hA hL
  go_enter Tryz.func24, Tryz.ntmps24
  go_wp2
  go_loopg [5] (t.length - (i + 1)) (fun g k wr => ∃ j : Nat, Hid (j + g = t.length) ∧ i < j ∧ j ≤ t.length ∧ k = .int .i64 j ∧ Hid (∀ m, i < m → m < j → T.dp t i < T.dp t m) ∧ Below w.heap.size w wr)
  case atStart => exact ⟨i + 1, (by show _ = _; omega), by omega, by omega, by go_num, (fun m h1 h2 => absurd h1 (by omega)), Below.refl _ _⟩
  case round =>
    obtain ⟨j, HG, hij, hj, rfl, HI, hb⟩ := hrel
    by_cases hlt : j < t.length
    · obtain ⟨c0, _, _⟩ := (HL.out.below hb hbw).line hlt
      obtain ⟨d0, _, _⟩ := (HL.out.below hb hbw).line hi
      by_cases hd : T.dp t j ≤ T.dp t i
      · have bd : decide (T.dp t j ≤ T.dp t i) = true := decide_eq_true hd
        have HN := Lib.hid (T.end_unique t i j hij hj HI.out (fun _ => hd))
        clear hd
        go_wp2
        go_region
        go_wp2
        go_ret
        rw [HN.out]
        exact ⟨rfl, hb.drew⟩
      · have bd : decide (T.dp t j ≤ T.dp t i) = false := decide_eq_false hd
        have HN := Lib.hid (show ∀ m, i < m → m < j + 1 → T.dp t i < T.dp t m from fun m h1 h2 => by
          rcases Nat.lt_or_ge m j with h | h
          · exact HI.out m h1 h
          · obtain rfl : m = j := by omega
            omega)
        clear hd
        go_wp2
        go_region
        go_wp2
        go_roundg (t.length - (j + 1))
        case rel => exact ⟨j + 1, (by show _ = _; omega), by omega, by omega, by go_num, HN, hb.drew⟩
        case measure => have := HG.out; omega
    · have HN := Lib.hid (T.end_unique t i j hij hj HI.out (fun h => absurd h hlt))
      obtain rfl : j = t.length := by omega
      go_wp2
      go_ret
      rw [HN.out]
      exact ⟨rfl, hb⟩

theorem under_any (A : Option Addr) (c : Nat) (t : List T.Ln) (i : Nat) (w : World) (hA : Seen eL w A t) (hi : i < t.length) (hl : t.length ≤ 1073741824) :
    Calls Tryz.prog 84 #[.slice A t.length c, .int .i64 i] w (IntS w (T.underL t i)) := by
  obtain ⟨b, o, rfl, hbw, hL⟩ := hA.lines (by omega)
  have HL := Lib.hid hL
  clear hA hL
  go_enter Tryz.func84, Tryz.ntmps84
  go_wp2
  go_loopg [5] i (fun g k wr => ∃ j : Nat, Hid (j = g) ∧ j ≤ i ∧ k = .int .i64 ((j : Int) - 1) ∧ Hid (T.underL t i = T.underF t (T.dp t i) j) ∧ Below w.heap.size w wr)
  case atStart => exact ⟨i, rfl, Nat.le_refl _, by go_num, rfl, Below.refl _ _⟩
  case round =>
    obtain ⟨j, HG, hj, rfl, HI, hb⟩ := hrel
    match j, HG, hj, HI with
    | 0, HG, hj, HI =>
      go_wp2
      go_ret
      rw [HI.out]
      exact ⟨rfl, hb⟩
    | j + 1, HG, hj, HI =>
      have e : (((j + 1 : Nat) : Int) - 1) = (j : Int) := by omega
      rw [e]
      clear e
      obtain ⟨c0, _, _⟩ := (HL.out.below hb hbw).line (show j < t.length by omega)
      obtain ⟨d0, _, _⟩ := (HL.out.below hb hbw).line hi
      by_cases hd : T.dp t j < T.dp t i
      · have bd : decide (T.dp t j < T.dp t i) = true := decide_eq_true hd
        have HN := Lib.hid (show T.underL t i = (j : Int) by rw [HI.out]; simp only [T.underF]; rw [if_pos hd])
        clear hd
        go_wp2
        go_region
        go_wp2
        go_ret
        rw [HN.out]
        exact ⟨rfl, hb.drew⟩
      · have bd : decide (T.dp t j < T.dp t i) = false := decide_eq_false hd
        have HN := Lib.hid (show T.underL t i = T.underF t (T.dp t i) j by rw [HI.out]; conv => lhs; simp only [T.underF]; rw [if_neg hd])
        clear hd
        go_wp2
        go_region
        go_wp2
        go_roundg j
        case rel => exact ⟨j, rfl, by omega, by go_num, HN, hb.drew⟩
        case measure => have := HG.out; omega

theorem end_any (A : Option Addr) (c : Nat) (t : List T.Ln) (i : Nat) (w : World) (hA : Seen eL w A t) (hi : i < t.length) (hl : t.length ≤ 1073741824) :
    Calls Tryz.prog 87 #[.slice A t.length c, .int .i64 i] w (IntS w (T.endL t i : Nat)) := by
  obtain ⟨b, o, rfl, hbw, hL⟩ := hA.lines (by omega)
  have HL := Lib.hid hL
  clear hA hL
  go_enter Tryz.func87, Tryz.ntmps87
  go_wp2
  go_loopg [5] (t.length - (i + 1)) (fun g k wr => ∃ j : Nat, Hid (j + g = t.length) ∧ i < j ∧ j ≤ t.length ∧ k = .int .i64 j ∧ Hid (∀ m, i < m → m < j → T.dp t i < T.dp t m) ∧ Below w.heap.size w wr)
  case atStart => exact ⟨i + 1, (by show _ = _; omega), by omega, by omega, by go_num, (fun m h1 h2 => absurd h1 (by omega)), Below.refl _ _⟩
  case round =>
    obtain ⟨j, HG, hij, hj, rfl, HI, hb⟩ := hrel
    by_cases hlt : j < t.length
    · have hlt2 : decide ((j : Int) < (t.length : Int)) = true := by simp; omega
      obtain ⟨c0, _, _⟩ := (HL.out.below hb hbw).line hlt
      obtain ⟨d0, _, _⟩ := (HL.out.below hb hbw).line hi
      by_cases hd : T.dp t i < T.dp t j
      · have bd : decide (T.dp t i < T.dp t j) = true := decide_eq_true hd
        have HN := Lib.hid (show ∀ m, i < m → m < j + 1 → T.dp t i < T.dp t m from fun m h1 h2 => by
          rcases Nat.lt_or_ge m j with h | h
          · exact HI.out m h1 h
          · obtain rfl : m = j := by omega
            omega)
        clear hd
        go_wp2
        go_region
        go_wp2
        go_roundg (t.length - (j + 1))
        case rel => exact ⟨j + 1, (by show _ = _; omega), by omega, by omega, by go_num, HN, hb.drew⟩
        case measure => have := HG.out; omega
      · have bd : decide (T.dp t i < T.dp t j) = false := decide_eq_false hd
        have HN := Lib.hid (T.end_unique t i j hij hj HI.out (fun _ => by omega))
        clear hd
        go_wp2
        go_region
        go_wp2
        go_ret
        rw [HN.out]
        exact ⟨rfl, hb.drew⟩
    · have hlt2 : decide ((j : Int) < (t.length : Int)) = false := by simp; omega
      have HN := Lib.hid (T.end_unique t i j hij hj HI.out (fun h => absurd h hlt))
      go_wp2
      go_region
      go_wp2
      go_ret
      rw [HN.out]
      exact ⟨rfl, hb.drew⟩

end Go.Proofs.YtfcikfohmehmkaaGreatDoor

namespace Go.Proofs.YtfcikfohmehmkaaGreatDoor
open Go.RowKit

theorem equal_short (A B : Option Addr) (c d n m : Nat) (w : World) (h : n ≠ m) :
    Calls Tryz.prog 48 #[.slice A n c, .slice B m d] w (BoolS w false) := by
  have b : ((n : Int) != (m : Int)) = true := by simp; omega
  go_enter Tryz.func48, Tryz.ntmps48
  go_wp2
  go_ret
  exact ⟨rfl, Below.refl _ _⟩
theorem take_next {l1 l2 : List (List UInt8)} {k : Nat} (h : l1.take k = l2.take k) (h1 : k < l1.length) (h2 : k < l2.length) (e : l1[k] = l2[k]) : l1.take (k + 1) = l2.take (k + 1) := by
  rw [List.take_succ_eq_append_getElem h1, List.take_succ_eq_append_getElem h2, h, e]
theorem equal_long (A B : Option Addr) (c d : Nat) (l1 l2 : List (List UInt8)) (n : Nat) (w : World) (hl : n ≤ 1073741824) (hA : Seen eS w A l1) (hB : Seen eS w B l2) (h1 : l1.length = n) (h2 : l2.length = n) :
    Calls Tryz.prog 48 #[.slice A n c, .slice B n d] w (BoolS w (decide (l1 = l2))) := by
  have HA := Lib.hid hA
  have HB := Lib.hid hB
  have H1 := Lib.hid h1
  have H2 := Lib.hid h2
  clear hA hB h1 h2
  go_enter Tryz.func48, Tryz.ntmps48
  go_wp2
  go_loopg [5] n (fun g i wr => ∃ k : Nat, Hid (k + g = n) ∧ k ≤ n ∧ i = .int .i64 k ∧ Hid (l1.take k = l2.take k) ∧ Below w.heap.size w wr)
  case atStart => exact ⟨0, Nat.zero_add _, Nat.zero_le _, rfl, rfl, Below.refl _ _⟩
  case round =>
    obtain ⟨k, HG, hk, rfl, HI, hb⟩ := hrel
    by_cases hlt : k < n
    · have hk1 : k < l1.length := by have := H1.out; omega
      have hk2 : k < l2.length := by have := H2.out; omega
      obtain ⟨b1, o1, rfl, hw1, hL1⟩ := HA.out (by omega)
      obtain ⟨b2, o2, rfl, hw2, hL2⟩ := HB.out (by omega)
      have c1 := (hL1.below hb hw1).str hk1
      have c2 := (hL2.below hb hw2).str hk2
      by_cases he : l1[k] = l2[k]
      · have HN := Lib.hid (take_next HI.out hk1 hk2 he)
        rw [← he] at c2
        clear he
        go_wp2
        go_region
        go_wp2
        go_roundg (n - (k + 1))
        case rel => exact ⟨k + 1, (by show _ = _; omega), by omega, by go_num, HN, hb.drew⟩
        case measure => have := HG.out; omega
      · have hne := sB_ne he
        have HN := Lib.hid (show decide (l1 = l2) = false from decide_eq_false fun e => he (by subst e; rfl))
        clear he
        go_wp2
        go_region
        go_wp2
        go_ret
        rw [HN.out]
        exact ⟨rfl, hb.drew⟩
    · have HN := Lib.hid (show decide (l1 = l2) = true from decide_eq_true (by
        have := HI.out
        rwa [List.take_of_length_le (by have := H1.out; omega), List.take_of_length_le (by have := H2.out; omega)] at this))
      go_wp2
      go_ret
      rw [HN.out]
      exact ⟨rfl, hb⟩
theorem equal_any (A B : Option Addr) (c d : Nat) (l1 l2 : List (List UInt8)) (w : World) (hl : l1.length ≤ 1073741824) (hA : Seen eS w A l1) (hB : Seen eS w B l2) :
    Calls Tryz.prog 48 #[.slice A l1.length c, .slice B l2.length d] w (BoolS w (decide (l1 = l2))) := by
  by_cases h : l1.length = l2.length
  · rw [← h]; exact equal_long A B c d l1 l2 l1.length w hl hA hB rfl h.symm
  · have e : decide (l1 = l2) = false := decide_eq_false fun e => h (by rw [e])
    rw [e]; exact equal_short A B c d _ _ w h
end Go.Proofs.YtfcikfohmehmkaaGreatDoor

namespace Go.Proofs.YtfcikfohmehmkaaGreatDoor
open Go.RowKit

def fitB (d : Int) (n : Nat) (m : Int) : Prop := (0 ≤ d ∧ d ≤ 15) ∧ n ≤ 40 ∧ 0 ≤ m ∧ m ≤ 3
theorem fits_yes (d : Int) (s : ByteArray) (m : Int) (w : World) (h : fitB d s.size m) :
    Calls Tryz.prog 82 #[.agg #[.int .i64 d, .string s, .int .i64 m]] w (BoolS w true) := by
  obtain ⟨⟨h1, h2⟩, h3, h4, h5⟩ := h
  have b1 : decide ((0 : Int) ≤ d) = true := decide_eq_true h1
  have b2 : decide (d < (16 : Int)) = true := decide_eq_true (by omega)
  have b3 : decide ((s.size : Int) ≤ (40 : Int)) = true := decide_eq_true (by omega)
  have b4 : decide ((0 : Int) ≤ m) = true := decide_eq_true h4
  have b5 : decide (m ≤ (3 : Int)) = true := decide_eq_true h5
  go_enter Tryz.func82, Tryz.ntmps82
  go_wp2
  go_ret
  exact ⟨rfl, (Below.refl _ _).alloc (Nat.le_refl _) _⟩
theorem fits_no (d : Int) (s : ByteArray) (m : Int) (w : World) (h : ¬ fitB d s.size m) :
    Calls Tryz.prog 82 #[.agg #[.int .i64 d, .string s, .int .i64 m]] w (BoolS w false) := by
  by_cases h1 : 0 ≤ d
  · have b1 : decide ((0 : Int) ≤ d) = true := decide_eq_true h1
    by_cases h2 : d ≤ 15
    · have b2 : decide (d < (16 : Int)) = true := decide_eq_true (by omega)
      by_cases h3 : s.size ≤ 40
      · have b3 : decide ((s.size : Int) ≤ (40 : Int)) = true := decide_eq_true (by omega)
        by_cases h4 : 0 ≤ m
        · have b4 : decide ((0 : Int) ≤ m) = true := decide_eq_true h4
          have b5 : decide (m ≤ (3 : Int)) = false := decide_eq_false fun h5 => h ⟨⟨h1, h2⟩, h3, h4, h5⟩
          clear h
          go_enter Tryz.func82, Tryz.ntmps82
          go_wp2
          go_ret
          exact ⟨rfl, (Below.refl _ _).alloc (Nat.le_refl _) _⟩
        · have b4 : decide ((0 : Int) ≤ m) = false := decide_eq_false h4
          clear h
          go_enter Tryz.func82, Tryz.ntmps82
          go_wp2
          go_ret
          exact ⟨rfl, (Below.refl _ _).alloc (Nat.le_refl _) _⟩
      · have b3 : decide ((s.size : Int) ≤ (40 : Int)) = false := decide_eq_false (by omega)
        clear h
        go_enter Tryz.func82, Tryz.ntmps82
        go_wp2
        go_ret
        exact ⟨rfl, (Below.refl _ _).alloc (Nat.le_refl _) _⟩
    · have b2 : decide (d < (16 : Int)) = false := decide_eq_false (by omega)
      clear h
      go_enter Tryz.func82, Tryz.ntmps82
      go_wp2
      go_ret
      exact ⟨rfl, (Below.refl _ _).alloc (Nat.le_refl _) _⟩
  · have b1 : decide ((0 : Int) ≤ d) = false := decide_eq_false h1
    clear h
    go_enter Tryz.func82, Tryz.ntmps82
    go_wp2
    go_ret
    exact ⟨rfl, (Below.refl _ _).alloc (Nat.le_refl _) _⟩

/-- What Right leaves. -/
def RightS (w : World) (t : List T.Ln) (e : Ending) (w' : World) : Prop := ∃ b : Bool, e = .returned (.bool b) ∧ (b = true ↔ T.RightT t) ∧ Below w.heap.size w w'
theorem RightS.no {w w' : World} {t : List T.Ln} (h : ¬ T.RightT t) (hb : Below w.heap.size w w') : RightS w t (.returned (.bool false)) w' := ⟨false, rfl, ⟨(fun e => by cases e), fun e => absurd e h⟩, hb⟩
theorem RightS.yes {w w' : World} {t : List T.Ln} (h : T.RightT t) (hb : Below w.heap.size w w') : RightS w t (.returned (.bool true)) w' := ⟨true, rfl, ⟨fun _ => h, fun _ => rfl⟩, hb⟩

theorem row16 (w : World) : (w.alloc (.cells (Array.replicate 16 (.string ⟨#[]⟩)) 122)).rowIs w.heap.size 122 16 (fun _ => .string (sB [])) :=
  World.rowIs_alloc w (Array.replicate 16 (.string ⟨#[]⟩)) 122 _ (fun i hi => by simp at hi; simp [hi, sB])
/-- A comparison of words, as the walk asks it. -/
theorem leq_no {a b : List UInt8} (h : Op.bytesLess b a = true) : Op.bytesLess (sB a).toList (sB b).toList = false ∧ ((sB a).toList == (sB b).toList) = false := by
  rw [sB_toList, sB_toList]
  exact ⟨T.less_asymm h, beq_eq_false_iff_ne.2 fun e => by subst e; rw [T.less_irr] at h; cases h⟩
theorem leq_yes {a b : List UInt8} (h : Op.bytesLess b a = false) : Op.bytesLess (sB a).toList (sB b).toList = true ∨ (Op.bytesLess (sB a).toList (sB b).toList = false ∧ ((sB a).toList == (sB b).toList) = true) := by
  rw [sB_toList, sB_toList]
  rcases T.less_tri a b with h1 | h1 | h1
  · exact .inl h1
  · subst h1; exact .inr ⟨h, by simp⟩
  · rw [h] at h1; cases h1
/-- The newest words behind a store. -/
theorem row_store {w0 w : World} {g e : Nat} {f : Nat → List UInt8} (h : w0.rowIs g 122 16 (fun d => .string (sB (f d)))) (hb : Below w0.heap.size w0 w) (s : List UInt8) :
    (w.setCell ⟨g, e, none⟩ (.string (sB s))).rowIs g 122 16 (fun d => .string (sB (if d = e then s else f d))) := by
  have h1 : w.rowIs g 122 16 (fun d => .string (sB (f d))) := h.of_block (hb.block g h.lt)
  refine (h1.set e (.string (sB s))).congr fun i _ => ?_
  by_cases hi : i = e
  · simp [hi]
  · simp [hi]

theorem to_next {p : Nat → Prop} {k : Nat} (h : ∀ m, m < k → p m) (hk : p k) : ∀ m, m < k + 1 → p m := fun m hm => by
  rcases Nat.lt_or_ge m k with hlt | hge
  · exact h m hlt
  · obtain rfl : m = k := by omega
    exact hk

def RelR (w : World) (t : List T.Ln) (g : Nat) (a i : Value) (wr : World) : Prop :=
  ∃ (k : Nat) (f : Nat → List UInt8), k + g = t.length ∧ i = .int .i64 k ∧ a = .int .i64 (T.aheadL t k) ∧ (-1 ≤ T.aheadL t k ∧ T.aheadL t k ≤ 15) ∧ (∀ m, m < k → T.Fits t m) ∧ T.LastOk t k f ∧ T.RiseTo t k ∧
    wr.rowIs w.heap.size 122 16 (fun d => .string (sB (f d))) ∧ Below w.heap.size w wr

set_option maxRecDepth 100000 in
set_option maxHeartbeats 1000000 in
theorem right_any (A : Option Addr) (c : Nat) (t : List T.Ln) (w : World) (hA : Seen eL w A t) (hl : t.length ≤ 1073741824) :
    Calls Tryz.prog 52 #[.slice A t.length c] w (RightS w t) := by
  have HA := Lib.hid hA
  clear hA
  by_cases h200 : t.length ≤ 200
  · have b200 : decide ((200 : Int) < (t.length : Int)) = false := by simp; omega
    go_enter Tryz.func52, Tryz.ntmps52
    go_wp2
    go_loopg [4, 12] t.length (fun g a i wr => RelR w t g a i wr)
    case atStart => refine ⟨0, fun _ => [], Nat.zero_add _, rfl, rfl, ⟨by unfold T.aheadL; simp, by unfold T.aheadL; simp⟩, fun m h => absurd h (Nat.not_lt_zero _), T.LastOk.start _ _, fun i c h1 h2 => absurd h2 (Nat.not_lt_zero _), ?_, (Below.refl _ _).alloc (Nat.le_refl _) _⟩; exact row16 w
    case round =>
      obtain ⟨k, f, hg, rfl, rfl, ⟨ha1, ha2⟩, hF, hO, hR, hrow, hb⟩ := hrel
      have hgw := hrow.lt
      have HG := Lib.hid hg
      have HF := Lib.hid hF
      have HO := Lib.hid hO
      have HR := Lib.hid hR
      have HW := Lib.hid hrow
      clear hg hF hO hR hrow
      by_cases hlt : k < t.length
      · obtain ⟨b, o, rfl, hbw, hL⟩ := HA.out.lines (by omega)
        obtain ⟨c0, c1, c2⟩ := (hL.below hb hbw).line hlt
        by_cases hfit : fitB (T.dp t k) (sB (T.wd t k)).size (T.at_ t k).mark
        · obtain ⟨e, he⟩ := Int.eq_ofNat_of_zero_le hfit.1.1
          have hfit2 := hfit
          rw [he] at c0 hfit2
          have he15 : e < 16 := by have := hfit2.1.2; omega
          have HD := Lib.hid he
          have HT := Lib.hid hfit2
          have HT1 := Lib.hid hfit
          clear he hfit hfit2
          by_cases hstep : (e : Int) ≤ T.aheadL t k + 1
          · have bstep : decide (T.aheadL t k + 1 < (e : Int)) = false := decide_eq_false (by omega)
            have HFN := Lib.hid (show T.Fits t k from ⟨by have := HT1.out; unfold fitB at this; rw [sB_size] at this; exact this, by rw [HD.out]; exact hstep⟩)
            by_cases hle : (e : Int) ≤ T.aheadL t k
            · have ble : decide ((e : Int) ≤ T.aheadL t k) = true := decide_eq_true hle
              cases hw : Op.bytesLess (f e) (T.wd t k) with
              | true =>
                have HRN := Lib.hid (HR.out.next HO.out HD.out hstep (fun _ => hw))
                obtain ⟨x1, x2⟩ := leq_no hw
                clear hw
                go_wp2_with fail
                refine (fits_yes _ _ _ _ HT.out).mono ?_
                rintro x w1 ⟨rfl, hb1⟩
                have hb2 : Below wr.heap.size wr w1 := ((Below.refl wr.heap.size wr).alloc (Nat.le_refl _) _).trans (hb1.mono (by simp))
                have q0 : w1.cell? ⟨wr.heap.size, 0, none⟩ = some (.int .i64 (e : Int)) := by rw [hb1.cell (p := ⟨wr.heap.size, 0, none⟩) (by simp)]; simp
                have q1 : w1.cell? ⟨wr.heap.size, 1, none⟩ = some (.string (sB (T.wd t k))) := by rw [hb1.cell (p := ⟨wr.heap.size, 1, none⟩) (by simp)]; simp
                have qf : w1.cell? ⟨w.heap.size, e, none⟩ = some (.string (sB (f e))) := by rw [hb2.cell (p := ⟨w.heap.size, e, none⟩) hgw]; exact HW.out.cell he15
                have qz : w1.frozen? ⟨w.heap.size, e, none⟩ = false := by rw [hb2.frozen (p := ⟨w.heap.size, e, none⟩) hgw]; exact HW.out.frozen e
                have qs : (w1.setCell ⟨w.heap.size, e, none⟩ (.string (sB (T.wd t k)))).cell? ⟨wr.heap.size, 0, none⟩ = some (.int .i64 (e : Int)) := by rw [World.cell?_setCell_other _ _ _ _ (by intro h; injection h; omega)]; exact q0
                clear hb1
                go_wp2
                go_region
                go_wp2
                go_roundg (t.length - (k + 1))
                case rel => exact ⟨k + 1, _, by omega, by go_num, by rw [T.ahead_next, HD.out], by rw [T.ahead_next, HD.out]; omega, to_next HF.out HFN.out, HO.out.next HD.out hstep, HRN.out, row_store HW.out hb2 (T.wd t k), ((hb.trans (hb2.mono hb.size)).setCell (Nat.le_refl _) _).drew⟩
                case measure => have := HG.out; omega
              | false =>
                have HN := Lib.hid (show ¬ T.RightT t from fun h => by have := h.last hlt HO.out HD.out hle; rw [hw] at this; cases this)
                rcases leq_yes hw with x1 | ⟨x1, x2⟩
                all_goals
                  clear hw
                  go_wp2_with fail
                  refine (fits_yes _ _ _ _ HT.out).mono ?_
                  rintro x w1 ⟨rfl, hb1⟩
                  have hb2 : Below wr.heap.size wr w1 := ((Below.refl wr.heap.size wr).alloc (Nat.le_refl _) _).trans (hb1.mono (by simp))
                  have q0 : w1.cell? ⟨wr.heap.size, 0, none⟩ = some (.int .i64 (e : Int)) := by rw [hb1.cell (p := ⟨wr.heap.size, 0, none⟩) (by simp)]; simp
                  have q1 : w1.cell? ⟨wr.heap.size, 1, none⟩ = some (.string (sB (T.wd t k))) := by rw [hb1.cell (p := ⟨wr.heap.size, 1, none⟩) (by simp)]; simp
                  have qf : w1.cell? ⟨w.heap.size, e, none⟩ = some (.string (sB (f e))) := by rw [hb2.cell (p := ⟨w.heap.size, e, none⟩) hgw]; exact HW.out.cell he15
                  have qz : w1.frozen? ⟨w.heap.size, e, none⟩ = false := by rw [hb2.frozen (p := ⟨w.heap.size, e, none⟩) hgw]; exact HW.out.frozen e
                  have qs : (w1.setCell ⟨w.heap.size, e, none⟩ (.string (sB (T.wd t k)))).cell? ⟨wr.heap.size, 0, none⟩ = some (.int .i64 (e : Int)) := by rw [World.cell?_setCell_other _ _ _ _ (by intro h; injection h; omega)]; exact q0
                  clear hb1
                  go_wp2
                  go_region
                  go_wp2
                  go_ret
                  exact RightS.no HN.out (hb.trans (hb2.mono hb.size)).drew
            · have ble : decide ((e : Int) ≤ T.aheadL t k) = false := decide_eq_false hle
              have HRN := Lib.hid (HR.out.next HO.out HD.out hstep (fun h => absurd h hle))
              go_wp2_with fail
              refine (fits_yes _ _ _ _ HT.out).mono ?_
              rintro x w1 ⟨rfl, hb1⟩
              have hb2 : Below wr.heap.size wr w1 := ((Below.refl wr.heap.size wr).alloc (Nat.le_refl _) _).trans (hb1.mono (by simp))
              have q0 : w1.cell? ⟨wr.heap.size, 0, none⟩ = some (.int .i64 (e : Int)) := by rw [hb1.cell (p := ⟨wr.heap.size, 0, none⟩) (by simp)]; simp
              have q1 : w1.cell? ⟨wr.heap.size, 1, none⟩ = some (.string (sB (T.wd t k))) := by rw [hb1.cell (p := ⟨wr.heap.size, 1, none⟩) (by simp)]; simp
              have qf : w1.cell? ⟨w.heap.size, e, none⟩ = some (.string (sB (f e))) := by rw [hb2.cell (p := ⟨w.heap.size, e, none⟩) hgw]; exact HW.out.cell he15
              have qz : w1.frozen? ⟨w.heap.size, e, none⟩ = false := by rw [hb2.frozen (p := ⟨w.heap.size, e, none⟩) hgw]; exact HW.out.frozen e
              have qs : (w1.setCell ⟨w.heap.size, e, none⟩ (.string (sB (T.wd t k)))).cell? ⟨wr.heap.size, 0, none⟩ = some (.int .i64 (e : Int)) := by rw [World.cell?_setCell_other _ _ _ _ (by intro h; injection h; omega)]; exact q0
              clear hb1
              go_wp2
              go_region
              go_wp2
              go_roundg (t.length - (k + 1))
              case rel => exact ⟨k + 1, _, by omega, by go_num, by rw [T.ahead_next, HD.out], by rw [T.ahead_next, HD.out]; omega, to_next HF.out HFN.out, HO.out.next HD.out hstep, HRN.out, row_store HW.out hb2 (T.wd t k), ((hb.trans (hb2.mono hb.size)).setCell (Nat.le_refl _) _).drew⟩
              case measure => have := HG.out; omega
          · have bstep : decide (T.aheadL t k + 1 < (e : Int)) = true := decide_eq_true (by omega)
            have HN := Lib.hid (show ¬ T.RightT t from fun h => hstep (by rw [← HD.out]; exact (h.fits hlt).2))
            go_wp2_with fail
            refine (fits_yes _ _ _ _ HT.out).mono ?_
            rintro x w1 ⟨rfl, hb1⟩
            have q0 : w1.cell? ⟨wr.heap.size, 0, none⟩ = some (.int .i64 (e : Int)) := by rw [hb1.cell (p := ⟨wr.heap.size, 0, none⟩) (by simp)]; simp
            go_wp2
            go_ret
            exact RightS.no HN.out (((hb.alloc hb.size _)).trans (hb1.mono (by simp; omega)))
        · have HN := Lib.hid (show ¬ T.RightT t from fun h => hfit (by have := (h.fits hlt).1; unfold fitB; rw [sB_size]; exact this))
          have HT := Lib.hid hfit
          clear hfit
          go_wp2_with fail
          refine (fits_no _ _ _ _ HT.out).mono ?_
          rintro x w1 ⟨rfl, hb1⟩
          go_wp2
          go_ret
          exact RightS.no HN.out (((hb.alloc hb.size _)).trans (hb1.mono (by simp; omega)))
      · have hkl : k = t.length := by have := HG.out; omega
        have HN := Lib.hid (T.right_of h200 (fun m hm => HF.out m (by omega)) (fun i c h1 h2 => HR.out i c h1 (by omega)))
        go_wp2
        go_ret
        exact RightS.yes HN.out hb
  · have b200 : decide ((200 : Int) < (t.length : Int)) = true := by simp; omega
    go_enter Tryz.func52, Tryz.ntmps52
    go_wp2
    go_ret
    exact RightS.no (fun h => h200 h.len) (Below.refl _ _)
end Go.Proofs.YtfcikfohmehmkaaGreatDoor

namespace Go.Proofs.YtfcikfohmehmkaaGreatDoor
open Go.RowKit

theorem wrapI (n : Int) (h : -9223372036854775808 ≤ n ∧ n ≤ 9223372036854775807) : IntKind.i64.wrap n = n := IntWalk.i64_in _ (by omega)
def RelF (w : World) (t : List T.Ln) (g : Nat) (i : Value) (wr : World) : Prop := ∃ k : Nat, k + g = t.length ∧ i = .int .i64 k ∧ (∀ m, m < k → T.Fits t m) ∧ Below w.heap.size w wr
def RelP (w : World) (t : List T.Ln) (g : Nat) (i : Value) (wr : World) : Prop := ∃ k : Nat, k + g = t.length ∧ i = .int .i64 k ∧ (∀ m, m < k → ∀ c, m < c → c < t.length → T.Rise t m c) ∧ Below w.heap.size w wr
theorem first_ok (t : List T.Ln) : T.Fits t 0 ↔ (((0 ≤ T.dp t 0 ∧ T.dp t 0 ≤ 15) ∧ (T.wd t 0).length ≤ 40 ∧ 0 ≤ (T.at_ t 0).mark ∧ (T.at_ t 0).mark ≤ 3) ∧ T.dp t 0 = 0) := by
  unfold T.Fits T.aheadL
  rw [if_pos rfl]
  constructor
  · rintro ⟨h, h2⟩; exact ⟨h, by omega⟩
  · rintro ⟨h, h2⟩; exact ⟨h, by omega⟩

set_option maxRecDepth 100000 in
set_option maxHeartbeats 2000000 in
theorem rightR_any (A : Option Addr) (c : Nat) (t : List T.Ln) (w : World) (hA : Seen eL w A t) (hl : t.length ≤ 1073741824) :
    Calls Tryz.prog 12 #[.slice A t.length c] w (RightS w t) := by
  have HA := Lib.hid hA
  clear hA
  by_cases h200 : t.length ≤ 200
  · have b200 : decide ((200 : Int) < (t.length : Int)) = false := by simp; omega
    go_enter Tryz.func12, Tryz.ntmps12
    go_wp2
    go_loopg [3] t.length (fun g i wr => RelF w t g i wr)
    case atStart => exact ⟨0, Nat.zero_add _, rfl, fun m h => absurd h (Nat.not_lt_zero _), Below.refl _ _⟩
    case round =>
      obtain ⟨k, hg, rfl, hF, hb⟩ := hrel
      have HG := Lib.hid hg
      have HF := Lib.hid hF
      clear hg hF
      by_cases hlt : k < t.length
      · obtain ⟨b, o, rfl, hbw, hL⟩ := HA.out.lines (by omega)
        have hL2 := hL.below hb hbw
        obtain ⟨c0, c1, c2⟩ := hL2.line hlt
        have HL := Lib.hid hL2
        have hbr : b < wr.heap.size := Nat.lt_of_lt_of_le hbw hb.size
        clear hL hL2
        have no : ∀ w' : World, (¬ fitB (T.dp t k) (sB (T.wd t k)).size (T.at_ t k).mark) → Below w.heap.size w w' → RightS w t (.returned (.bool false)) w' := fun _ h hb => RightS.no (fun hR => h (by have := (hR.fits hlt).1; unfold fitB; rw [sB_size]; exact this)) hb
        have NO := Lib.hid no
        clear no
        by_cases h1 : T.dp t k < 0
        · have b1 : decide (T.dp t k < (0 : Int)) = true := decide_eq_true h1
          go_wp2
          go_ret
          exact NO.out _ (fun h => by have := h.1.1; omega) (hb.alloc hb.size _)
        · have b1 : decide (T.dp t k < (0 : Int)) = false := decide_eq_false h1
          by_cases h2 : 15 < T.dp t k
          · have b2 : decide ((15 : Int) < T.dp t k) = true := decide_eq_true h2
            go_wp2
            go_ret
            exact NO.out _ (fun h => by have := h.1.2; omega) (hb.alloc hb.size _)
          · have b2 : decide ((15 : Int) < T.dp t k) = false := decide_eq_false h2
            by_cases h3 : 40 < (sB (T.wd t k)).size
            · have b3 : decide ((40 : Int) < ((sB (T.wd t k)).size : Int)) = true := decide_eq_true (by omega)
              go_wp2
              go_ret
              exact NO.out _ (fun h => by have := h.2.1; omega) (hb.alloc hb.size _)
            · have b3 : decide ((40 : Int) < ((sB (T.wd t k)).size : Int)) = false := decide_eq_false (by omega)
              by_cases h4 : (T.at_ t k).mark < 0
              · have b4 : decide ((T.at_ t k).mark < (0 : Int)) = true := decide_eq_true h4
                go_wp2
                go_ret
                exact NO.out _ (fun h => by have := h.2.2.1; omega) (hb.alloc hb.size _)
              · have b4 : decide ((T.at_ t k).mark < (0 : Int)) = false := decide_eq_false h4
                by_cases h5 : 3 < (T.at_ t k).mark
                · have b5 : decide ((3 : Int) < (T.at_ t k).mark) = true := decide_eq_true h5
                  go_wp2
                  go_ret
                  exact NO.out _ (fun h => by have := h.2.2.2; omega) (hb.alloc hb.size _)
                · have b5 : decide ((3 : Int) < (T.at_ t k).mark) = false := decide_eq_false h5
                  have HT := Lib.hid (show (0 ≤ T.dp t k ∧ T.dp t k ≤ 15) ∧ (T.wd t k).length ≤ 40 ∧ 0 ≤ (T.at_ t k).mark ∧ (T.at_ t k).mark ≤ 3 from ⟨⟨by omega, by omega⟩, by rw [sB_size] at h3; omega, by omega, by omega⟩)
                  match k, HG, HF, hlt, c0, c1, c2, b1, b2, b3, b4, b5, h1, h2, HT with
                  | 0, HG, HF, hlt, c0, c1, c2, b1, b2, b3, b4, b5, h1, h2, HT =>
                    simp only [Nat.zero_mul, Nat.add_zero] at c0 c1 c2
                    by_cases h6 : T.dp t 0 = 0
                    · have b6 : (T.dp t 0 != 0) = false := by simp [h6]
                      have HN := Lib.hid ((first_ok t).2 ⟨HT.out, h6⟩)
                      clear h6
                      go_wp2
                      go_region
                      go_wp2
                      go_roundg (t.length - 1)
                      case rel => exact ⟨1, (by omega), by go_num, to_next HF.out HN.out, (hb.alloc hb.size _).drew⟩
                      case measure => have := HG.out; omega
                    · have b6 : (T.dp t 0 != 0) = true := bne_iff_ne.2 h6
                      have HN := Lib.hid (show ¬ T.RightT t from fun h => h6 (h.first hlt))
                      clear h6
                      go_wp2
                      go_region
                      go_wp2
                      go_ret
                      exact RightS.no HN.out (hb.alloc hb.size _).drew
                  | k + 1, HG, HF, hlt, c0, c1, c2, b1, b2, b3, b4, b5, h1, h2, HT =>
                    obtain ⟨d0, _, _⟩ := HL.out.line (show k < t.length by omega)
                    have hd := (HF.out k (by omega)).1.1
                    have hk0 : (((k : Int) + 1) == 0) = false := beq_eq_false_iff_ne.2 (by omega)
                    have hk1 : decide ((0 : Int) < (k : Int) + 1) = true := decide_eq_true (by omega)
                    have e1 : IntKind.i64.wrap ((k : Int) + 1 - 1) = (k : Int) := by rw [wrapI _ (by omega)]; omega
                    have e2 : IntKind.i64.wrap (T.dp t k + 1) = T.dp t k + 1 := wrapI _ (by omega)
                    by_cases h6 : T.dp t (k + 1) ≤ T.dp t k + 1
                    · have b6 : decide (T.dp t k + 1 < T.dp t (k + 1)) = false := decide_eq_false (by omega)
                      have HN := Lib.hid (show T.Fits t (k + 1) from ⟨HT.out, by rw [T.ahead_next]; exact h6⟩)
                      clear h6
                      go_wp2
                      go_region
                      go_wp2
                      go_roundg (t.length - (k + 2))
                      case rel => exact ⟨k + 2, (by omega), by go_num, to_next HF.out HN.out, (hb.alloc hb.size _).drew⟩
                      case measure => have := HG.out; omega
                    · have b6 : decide (T.dp t k + 1 < T.dp t (k + 1)) = true := decide_eq_true (by omega)
                      have HN := Lib.hid (show ¬ T.RightT t from fun h => h6 (h.step k hlt))
                      clear h6
                      go_wp2
                      go_region
                      go_wp2
                      go_ret
                      exact RightS.no HN.out (hb.alloc hb.size _).drew
      · have hkl : k = t.length := by have := HG.out; omega
        subst hkl
        clear HG
        go_wp2
        go_loopg [5, 6] t.length (fun g i _ wr => RelP w t g i wr)
        case atStart => exact ⟨0, Nat.zero_add _, rfl, fun m h => absurd h (Nat.not_lt_zero _), hb⟩
        case round =>
          obtain ⟨i, hg, rfl, hP, hb2⟩ := hrel
          obtain ⟨go, rfl⟩ : ∃ go : Nat, go = gk := ⟨_, rfl⟩
          have HG := Lib.hid hg
          have HP := Lib.hid hP
          clear hg hP
          by_cases hi : i < t.length
          · obtain ⟨b, o, rfl, hbw, hL⟩ := HA.out.lines (by omega)
            have HL := Lib.hid hL
            clear hL
            go_wp2
            go_loopg [6] (t.length - (i + 1)) (fun g k wr => ∃ j : Nat, Hid (j + g = t.length) ∧ i < j ∧ j ≤ t.length ∧ k = .int .i64 j ∧ Hid (T.PairTo t i j) ∧ Below w.heap.size w wr)
            case atStart => exact ⟨i + 1, (by show _ = _; omega), by omega, by omega, by go_num, T.PairTo.start t i, hb2⟩
            case round =>
              obtain ⟨j, HJ, hij, hj, rfl, HI, hb3⟩ := hrel
              by_cases hjl : j < t.length
              · have bjl : decide ((j : Int) < (t.length : Int)) = true := decide_eq_true (by omega)
                obtain ⟨c0, c1, _⟩ := (HL.out.below hb3 hbw).line hjl
                obtain ⟨d0, d1, _⟩ := (HL.out.below hb3 hbw).line hi
                by_cases hge : T.dp t i ≤ T.dp t j
                · have bge : decide (T.dp t i ≤ T.dp t j) = true := decide_eq_true hge
                  by_cases heq : T.dp t j = T.dp t i
                  · have beq : (T.dp t i == T.dp t i) = true := beq_self_eq_true _
                    cases hw : Op.bytesLess (T.wd t i) (T.wd t j) with
                    | true =>
                      have HN := Lib.hid (HI.out.next hge (fun _ => hw))
                      obtain ⟨x1, x2⟩ := leq_no hw
                      rw [heq] at c0 bge
                      clear hw heq hge
                      go_wp2
                      go_region
                      go_wp2
                      go_region
                      go_wp2
                      go_roundg (t.length - (j + 1))
                      case rel => exact ⟨j + 1, (by show _ = _; omega), by omega, by omega, by go_num, HN, hb3.drew.drew⟩
                      case measure => have := HJ.out; omega
                    | false =>
                      have HN := Lib.hid (HI.out.bad hij hjl heq hw)
                      rcases leq_yes hw with x1 | ⟨x1, x2⟩
                      all_goals
                        rw [heq] at c0 bge
                        clear hw heq hge
                        go_wp2
                        go_region
                        go_wp2
                        go_region
                        go_wp2
                        go_ret
                        exact RightS.no HN.out hb3.drew.drew
                  · have beq : (T.dp t j == T.dp t i) = false := beq_eq_false_iff_ne.2 heq
                    have HN := Lib.hid (HI.out.next hge (fun h => absurd h heq))
                    clear heq hge
                    go_wp2
                    go_region
                    go_wp2
                    go_region
                    go_wp2
                    go_roundg (t.length - (j + 1))
                    case rel => exact ⟨j + 1, (by show _ = _; omega), by omega, by omega, by go_num, HN, hb3.drew.drew⟩
                    case measure => have := HJ.out; omega
                · have bge : decide (T.dp t i ≤ T.dp t j) = false := decide_eq_false hge
                  have HN := Lib.hid (HI.out.done hij (fun _ => by omega))
                  clear hge
                  go_wp2
                  go_region
                  go_wp2
                  go_roundg (t.length - (i + 1))
                  case rel => exact ⟨i + 1, by omega, by go_num, to_next HP.out HN.out, hb3.drew⟩
                  case measure => have := HG.out; omega
              · have bjl : decide ((j : Int) < (t.length : Int)) = false := decide_eq_false (by omega)
                have HN := Lib.hid (HI.out.done hij (fun h => absurd h hjl))
                go_wp2
                go_region
                go_wp2
                go_roundg (t.length - (i + 1))
                case rel => exact ⟨i + 1, by omega, by go_num, to_next HP.out HN.out, hb3.drew⟩
                case measure => have := HG.out; omega
          · have HN := Lib.hid (T.right_of h200 HF.out (fun a c h1 h2 => HP.out a (by omega) c h1 h2))
            go_wp2
            go_ret
            exact RightS.yes HN.out hb2
  · have b200 : decide ((200 : Int) < (t.length : Int)) = true := by simp; omega
    go_enter Tryz.func12, Tryz.ntmps12
    go_wp2
    go_ret
    exact RightS.no (fun h => h200 h.len) (Below.refl _ _)
end Go.Proofs.YtfcikfohmehmkaaGreatDoor

namespace Go.Proofs.YtfcikfohmehmkaaGreatDoor
open Go.RowKit

theorem right_is (A : Option Addr) (c : Nat) (t : List T.Ln) (b : Bool) (w : World) (hA : Seen eL w A t) (hl : t.length ≤ 1073741824) (h : b = true ↔ T.RightT t) :
    Calls Tryz.prog 52 #[.slice A t.length c] w (BoolS w b) :=
  (right_any A c t w hA hl).mono fun e w' ⟨b2, he, hb2, hb⟩ => ⟨by rw [he]; congr 2; cases b <;> cases b2 <;> simp_all, hb⟩
theorem rightR_is (A : Option Addr) (c : Nat) (t : List T.Ln) (b : Bool) (w : World) (hA : Seen eL w A t) (hl : t.length ≤ 1073741824) (h : b = true ↔ T.RightT t) :
    Calls Tryz.prog 12 #[.slice A t.length c] w (BoolS w b) :=
  (rightR_any A c t w hA hl).mono fun e w' ⟨b2, he, hb2, hb⟩ => ⟨by rw [he]; congr 2; cases b <;> cases b2 <;> simp_all, hb⟩
theorem yes_iff {p : Prop} (h : p) : true = true ↔ p := ⟨fun _ => h, fun _ => rfl⟩
theorem no_iff {p : Prop} (h : ¬ p) : false = true ↔ p := ⟨(fun e => by cases e), fun e => absurd e h⟩

theorem has_yes (A : Option Addr) (c : Nat) (t : List T.Ln) (i : Nat) (w : World) (hA : Seen eL w A t) (hl : t.length ≤ 1073741824) (hi : i < t.length) (hR : T.RightT t) :
    Calls Tryz.prog 83 #[.slice A t.length c, .int .i64 i] w (BoolS w true) := by
  have b1 : decide ((0 : Int) ≤ (i : Int)) = true := decide_eq_true (by omega)
  have b2 : decide ((i : Int) < (t.length : Int)) = true := decide_eq_true (by omega)
  have HR := Lib.hid hR
  have HA := Lib.hid hA
  clear hR hA
  go_enter Tryz.func83, Tryz.ntmps83
  go_wp2_with fail
  refine (right_is A c t true _ HA.out hl (yes_iff HR.out)).mono ?_
  rintro e w1 ⟨rfl, hb1⟩
  go_wp2
  go_ret
  exact ⟨rfl, hb1⟩
theorem has_no (A : Option Addr) (c : Nat) (t : List T.Ln) (i : Int) (w : World) (hA : Seen eL w A t) (hl : t.length ≤ 1073741824) (h : i < 0 ∨ (t.length : Int) ≤ i ∨ ¬ T.RightT t) :
    Calls Tryz.prog 83 #[.slice A t.length c, .int .i64 i] w (BoolS w false) := by
  by_cases h1 : 0 ≤ i
  · have b1 : decide ((0 : Int) ≤ i) = true := decide_eq_true h1
    by_cases h2 : i < (t.length : Int)
    · have b2 : decide (i < (t.length : Int)) = true := decide_eq_true h2
      have HR := Lib.hid (show ¬ T.RightT t by rcases h with h | h | h <;> first | omega | exact h)
      have HA := Lib.hid hA
      clear h hA
      go_enter Tryz.func83, Tryz.ntmps83
      go_wp2_with fail
      refine (right_is A c t false _ HA.out hl (no_iff HR.out)).mono ?_
      rintro e w1 ⟨rfl, hb1⟩
      go_wp2
      go_ret
      exact ⟨rfl, hb1⟩
    · have b2 : decide (i < (t.length : Int)) = false := decide_eq_false h2
      clear h
      go_enter Tryz.func83, Tryz.ntmps83
      go_wp2
      go_ret
      exact ⟨rfl, Below.refl _ _⟩
  · have b1 : decide ((0 : Int) ≤ i) = false := decide_eq_false h1
    clear h
    go_enter Tryz.func83, Tryz.ntmps83
    go_wp2
    go_ret
    exact ⟨rfl, Below.refl _ _⟩

theorem End_yes (A : Option Addr) (c : Nat) (t : List T.Ln) (i : Nat) (w : World) (hA : Seen eL w A t) (hl : t.length ≤ 1073741824) (hi : i < t.length) (hR : T.RightT t) :
    Calls Tryz.prog 55 #[.slice A t.length c, .int .i64 i] w (IntS w (T.endL t i : Nat)) := by
  have HR := Lib.hid hR
  have HA := Lib.hid hA
  clear hR hA
  go_enter Tryz.func55, Tryz.ntmps55
  go_wp2_with fail
  refine (has_yes A c t i _ HA.out hl hi HR.out).mono ?_
  rintro e w1 ⟨rfl, hb1⟩
  go_wp2_with fail
  refine (end_any A c t i _ (HA.out.below hb1) hi hl).mono ?_
  rintro e w2 ⟨rfl, hb2⟩
  go_wp2
  go_ret
  exact ⟨rfl, bthen hb1 hb2⟩
end Go.Proofs.YtfcikfohmehmkaaGreatDoor

namespace Go.Proofs.YtfcikfohmehmkaaGreatDoor
open Go.RowKit

theorem ln_ext {x y : T.Ln} (h1 : x.depth = y.depth) (h2 : x.word = y.word) (h3 : x.mark = y.mark) : x = y := by cases x; cases y; simp_all

end Go.Proofs.YtfcikfohmehmkaaGreatDoor

namespace Go.Proofs.YtfcikfohmehmkaaGreatDoor
open Go.RowKit

/-- A path comes back, in memory of the call's own. -/
def FreshP (w : World) (l : List (List UInt8)) (e : Ending) (w' : World) : Prop := ∃ A cap, e = .returned (.slice A l.length cap) ∧ l.length ≤ cap ∧ Seen eS w' A l ∧ (∀ a, A = some a → w.heap.size ≤ a.block) ∧ Below w.heap.size w w'
def FreshE (w : World) (l : List (List UInt8)) (er : Int) (e : Ending) (w' : World) : Prop := ∃ A cap, e = .returned (.tuple #[.slice A l.length cap, .int .i64 er]) ∧ l.length ≤ cap ∧ Seen eS w' A l ∧ (∀ a, A = some a → w.heap.size ≤ a.block) ∧ Below w.heap.size w w'
/-- What Path leaves. -/
def PathS (w : World) (l : List (List UInt8)) (er : Int) (e : Ending) (w' : World) : Prop := ∃ A cap, e = .returned (.tuple #[.slice A l.length cap, .int .i64 er]) ∧ l.length ≤ cap ∧ Seen eS w' A l ∧ Below w.heap.size w w'
theorem Path_no (A : Option Addr) (c : Nat) (t : List T.Ln) (i : Int) (w : World) (hA : Seen eL w A t) (hl : t.length ≤ 1073741824) (h : i < 0 ∨ (t.length : Int) ≤ i ∨ ¬ T.RightT t) :
    Calls Tryz.prog 53 #[.slice A t.length c, .int .i64 i] w (PathS w [] 1) := by
  have HR := Lib.hid h
  have HA := Lib.hid hA
  clear h hA
  go_enter Tryz.func53, Tryz.ntmps53
  go_wp2_with fail
  refine (has_no A c t i _ HA.out hl HR.out).mono ?_
  rintro e w1 ⟨rfl, hb1⟩
  go_wp2
  go_ret2
  exact ⟨none, 0, rfl, Nat.le_refl _, Seen.nil, hb1⟩

theorem str_info : (Tryz.prog.info? 9).map (fun i => (i.zero, i.size, i.bytes)) = some (some (.string ⟨#[]⟩), 1, 16) := by kernel_rfl
/-- A row of strings is seen. -/
theorem row_seen {w : World} {g : Nat} {l : List (List UInt8)} {F : Nat → List UInt8} (h : w.rowIs g 9 l.length (fun d => .string (sB (F d)))) (hF : ∀ d, d < l.length → F d = l.getD d []) : Seen eS w (some ⟨g, 0, none⟩) l := by
  intro _
  refine ⟨g, 0, rfl, h.lt, fun i hi j u hu => ?_⟩
  match j, hu with
  | 0, hu =>
    simp only [eS, List.getElem?_cons_zero, Option.some.injEq] at hu ⊢
    rw [← hu, Nat.zero_add, Nat.mul_one, Nat.add_zero, h.cell hi, hF i hi]
    unfold List.getD
    rw [List.getElem?_eq_getElem hi]; rfl
  | j + 1, hu => simp [eS] at hu
theorem row_path {w : World} {g n d : Nat} {F : Nat → List UInt8} (h : w.rowIs g 9 n (fun d => .string (sB (F d)))) (s : List UInt8) :
    (w.setCell ⟨g, d, none⟩ (.string (sB s))).rowIs g 9 n (fun x => .string (sB (if x = d then s else F x))) := by
  refine (h.set d (.string (sB s))).congr fun i _ => ?_
  by_cases hi : i = d
  · simp [hi]
  · simp [hi]

def RelPa (w : World) (t : List T.Ln) (p : List (List UInt8)) (g n : Nat) (x : Value) (wr : World) : Prop :=
  ∃ (j : Int) (F : Nat → List UInt8), x = .int .i64 j ∧ j < n ∧ T.Laid t p j F ∧ wr.rowIs g 9 p.length (fun d => .string (sB (F d))) ∧ w.heap.size ≤ g ∧ Below w.heap.size w wr

set_option maxRecDepth 100000 in
set_option maxHeartbeats 1000000 in
theorem Path_new (A : Option Addr) (c : Nat) (t : List T.Ln) (i : Nat) (w : World) (hA : Seen eL w A t) (hl : t.length ≤ 1073741824) (hi : i < t.length) (hR : T.RightT t) :
    Calls Tryz.prog 53 #[.slice A t.length c, .int .i64 i] w (FreshE w (T.pathL t i) 0) := by
  obtain ⟨p, hp⟩ : ∃ p, T.pathL t i = p := ⟨_, rfl⟩
  have hlen := hR.path_len i i (Nat.le_refl _) hi
  have hdp := hR.deep i hi
  rw [hp] at hlen
  obtain ⟨b, o, rfl, hbw, hL⟩ := hA.lines (by omega)
  obtain ⟨e, he⟩ := Int.eq_ofNat_of_zero_le hdp.1
  have hpl : p.length = e + 1 := by omega
  have he15 : e ≤ 15 := by omega
  have HPL := Lib.hid hpl
  have HP := Lib.hid hp
  have HR := Lib.hid hR
  have HA := Lib.hid hA
  have HL := Lib.hid hL
  have HE := Lib.hid he
  have hmk := run_make_row' (P := Tryz.prog) 42 9 (.string ⟨#[]⟩) 16 Tryz.underlying42 str_info rfl .i64 .i64 (e + 1) (by omega) (by omega)
  have ec : ((e + 1 : Nat) : Int) = (e : Int) + 1 := by omega
  rw [ec] at hmk
  clear ec hp hR hA hL he hdp hlen hpl
  rw [HP.out]
  go_enter Tryz.func53, Tryz.ntmps53
  go_wp2_with fail
  refine (has_yes _ c t i _ HA.out hl hi HR.out).mono ?_
  rintro x w1 ⟨rfl, hb1⟩
  have hbw1 : b < w1.heap.size := Nat.lt_of_lt_of_le hbw hb1.size
  obtain ⟨c0, _, _⟩ := (HL.out.below hb1 hbw).line hi
  rw [HE.out] at c0
  go_wp2
  go_loopg [1] (i + 1) (fun g x wr => RelPa w t p w1.heap.size g x wr)
  case atStart => exact ⟨i, fun _ => [], rfl, by omega, by rw [← HP.out]; exact T.Laid.start t i hi _, by rw [HPL.out]; exact World.rowIs_made w1 (.string ⟨#[]⟩) (e + 1) 9, hb1.size, hb1.alloc hb1.size _⟩
  case round =>
    obtain ⟨j, F, rfl, hjg, hLd, hrow, hgw, hb⟩ := hrel
    have hgr := hrow.lt
    by_cases hj : 0 ≤ j
    · obtain ⟨k, rfl⟩ := Int.eq_ofNat_of_zero_le hj
      have hkl : k < t.length := by have := hLd.2.1; omega
      have hdk := HR.out.deep k hkl
      obtain ⟨d, hd⟩ := Int.eq_ofNat_of_zero_le hdk.1
      obtain ⟨hdl, hLn⟩ := HR.out.laid hLd hd
      have hde : d < e + 1 := by have := HPL.out; omega
      obtain ⟨q0, q1, _⟩ := (HL.out.below hb hbw).line hkl
      rw [hd] at q0
      have qc : wr.cell? ⟨w1.heap.size, d, none⟩ = some (.string (sB (F d))) := hrow.cell hdl
      have qf : wr.frozen? ⟨w1.heap.size, d, none⟩ = false := hrow.frozen d
      have HLn := Lib.hid hLn
      have HW := Lib.hid (row_path (d := d) hrow (T.wd t k))
      clear hLd hrow hd hdk hLn
      go_wp2
      go_region
      go_wp2_with fail
      refine (under_any _ c t k _ (HA.out.below (((hb.setCell hgw _)).drew)) hkl hl).mono ?_
      rintro x w2 ⟨rfl, hb2⟩
      go_wp2
      have hun := T.under_lt t k
      go_roundg k
      case rel => exact ⟨T.underL t k, _, rfl, by omega, HLn.out, HW.out.of_block (hb2.block _ (by simp; omega)), hgw, (hb.setCell hgw _).drew.trans (hb2.mono (by simp; omega))⟩
      case measure => omega
    · have hj1 : j = -1 := by have := hLd.1; omega
      subst hj1
      have HN := Lib.hid hLd.done
      have HW := Lib.hid hrow
      clear hLd hrow
      go_wp2
      go_ret2
      refine ⟨_, e + 1, ?_, by rw [HPL.out]; exact Nat.le_refl _, row_seen HW.out HN.out, fun a ha => by injection ha with ha; rw [← ha]; exact hgw, hb⟩
      rw [HPL.out]; rfl
end Go.Proofs.YtfcikfohmehmkaaGreatDoor

namespace Go.Proofs.YtfcikfohmehmkaaGreatDoor
open Go.RowKit

def RelK (w : World) (t : List T.Ln) (i : Int) (g : Nat) (v x : Value) (wr : World) : Prop :=
  ∃ k : Nat, k + g = t.length ∧ i < k ∧ x = .int .i64 k ∧ T.DeepTo t i k ∧ Own eI wr w.heap.size v (T.kidsTo t i k) ∧ Below w.heap.size w wr

set_option maxRecDepth 100000 in
set_option maxHeartbeats 1000000 in
theorem kids_yes (A : Option Addr) (c : Nat) (t : List T.Ln) (i : Int) (w : World) (hA : Seen eL w A t) (hl : t.length ≤ 1073741824) (hi : -1 ≤ i) (hil : i < t.length) (hR : T.RightT t) :
    Calls Tryz.prog 76 #[.slice A t.length c, .int .i64 i] w (SawG eI w (T.kidsL t i)) := by
  have b1 : decide (i < (-1 : Int)) = false := decide_eq_false (by omega)
  have b2 : decide ((t.length : Int) ≤ i) = false := decide_eq_false (by omega)
  have HA := Lib.hid hA
  have HR := Lib.hid hR
  clear hA hR
  by_cases h0 : 0 ≤ i
  · have b3 : decide ((0 : Int) ≤ i) = true := decide_eq_true h0
    obtain ⟨n, rfl⟩ := Int.eq_ofNat_of_zero_le h0
    have b4 : decide (t.length ≤ n) = false := decide_eq_false (by omega)
    obtain ⟨b, o, rfl, hbw, hL⟩ := HA.out.lines (by omega)
    have HL := Lib.hid hL
    have hdn := HR.out.deep n (by omega)
    have HD := Lib.hid (show T.kidD t n = T.dp t n + 1 by unfold T.kidD; rw [if_neg (by omega), Int.toNat_natCast])
    clear hL
    go_enter Tryz.func76, Tryz.ntmps76
    go_wp2_with fail
    refine (right_is _ c t true _ HA.out hl (yes_iff HR.out)).mono ?_
    rintro e w1 ⟨rfl, hb1⟩
    obtain ⟨d0, _, _⟩ := (HL.out.below hb1 hbw).line (show n < t.length by omega)
    go_wp2
    go_loopg [6, 7] (t.length - (n + 1)) (fun g v x wr => RelK w t n g v x wr)
    case atStart => exact ⟨n + 1, by omega, by omega, by go_num, (fun m h1 h2 => by omega), by rw [T.kids_start t n (n + 1) (by omega)]; exact Own.nil _ _, hb1⟩
    case round =>
      obtain ⟨k, hg, hik, rfl, hdt, hown, hb⟩ := hrel
      have HG := Lib.hid hg
      have HT := Lib.hid hdt
      have hfl := T.filter_len k (fun m => T.underL t m == n)
      have HO := Lib.hid hown
      clear hg hdt hown
      have hsz := hb.size
      by_cases hlt : k < t.length
      · have blt : decide ((k : Int) < (t.length : Int)) = true := decide_eq_true (by omega)
        obtain ⟨c0, _, _⟩ := (HL.out.below hb hbw).line hlt
        by_cases hge : T.dp t n + 1 ≤ T.dp t k
        · have bge : decide (T.dp t n + 1 ≤ T.dp t k) = true := decide_eq_true hge
          have HTN := Lib.hid (HT.out.next (by rw [HD.out]; exact hge))
          have hiff := HR.out.kid_iff hi hik hlt HT.out
          rw [HD.out] at hiff
          by_cases heq : T.dp t k = T.dp t n + 1
          · have HN := Lib.hid (show T.kidsTo t n (k + 1) = T.kidsTo t n k ++ [k] by rw [T.kids_next, if_pos (hiff.2 heq)])
            rw [heq] at c0 bge
            clear hge hiff heq
            have hown2 := HO.out
            go_wp2_with (at_builtin; refine wpList_appG eI _ rfl (.tmp 53) (.tmp 55) rfl w.heap.size u6 (T.kidsTo t n k) rfl hown2 k 1 _ rfl wr.heap.size rfl rfl (by unfold T.kidsTo; omega) hsz ?_; intro v2 w2 hown3 hb2)
            go_roundg (t.length - (k + 1))
            case rel => exact ⟨k + 1, by omega, by omega, by go_num, HTN.out, by rw [HN.out]; exact hown3, hb.trans hb2⟩
            case measure => have := HG.out; omega
          · have beq : (T.dp t k == T.dp t n + 1) = false := beq_eq_false_iff_ne.2 heq
            have HN := Lib.hid (show T.kidsTo t n (k + 1) = T.kidsTo t n k by rw [T.kids_next, if_neg (fun h => heq (hiff.1 h)), List.append_nil])
            clear hge hiff heq
            go_wp2
            go_roundg (t.length - (k + 1))
            case rel => exact ⟨k + 1, by omega, by omega, by go_num, HTN.out, by rw [HN.out]; exact HO.out, hb⟩
            case measure => have := HG.out; omega
        · have bge : decide (T.dp t n + 1 ≤ T.dp t k) = false := decide_eq_false hge
          have HN := Lib.hid (HR.out.kids_done hi hik (by omega) (fun _ => by rw [HD.out]; omega))
          clear hge
          go_wp2
          go_ret
          obtain ⟨A2, cap, rfl, hcap, hseen⟩ := HO.out.seen
          rw [HN.out] at hcap hseen ⊢
          exact ⟨A2, cap, rfl, hcap, hseen, hb⟩
      · have blt : decide ((k : Int) < (t.length : Int)) = false := decide_eq_false (by omega)
        have HN := Lib.hid (HR.out.kids_done hi hik (by have := HG.out; omega) (fun h => absurd h hlt))
        go_wp2
        go_ret
        obtain ⟨A2, cap, rfl, hcap, hseen⟩ := HO.out.seen
        rw [HN.out] at hcap hseen ⊢
        exact ⟨A2, cap, rfl, hcap, hseen, hb⟩
  · have b3 : decide ((0 : Int) ≤ i) = false := decide_eq_false h0
    obtain rfl : i = -1 := by omega
    have HD := Lib.hid (show T.kidD t (-1) = 0 by unfold T.kidD; rw [if_pos (by omega)])
    go_enter Tryz.func76, Tryz.ntmps76
    go_wp2_with fail
    refine (right_is _ c t true _ HA.out hl (yes_iff HR.out)).mono ?_
    rintro e w1 ⟨rfl, hb1⟩
    go_wp2
    go_loopg [6, 7] t.length (fun g v x wr => RelK w t (-1) g v x wr)
    case atStart => exact ⟨0, by omega, by omega, rfl, (fun m h1 h2 => by omega), by rw [T.kids_start t (-1) 0 (by omega)]; exact Own.nil _ _, hb1⟩
    case round =>
      obtain ⟨k, hg, hik, rfl, hdt, hown, hb⟩ := hrel
      have HG := Lib.hid hg
      have HT := Lib.hid hdt
      have hfl := T.filter_len k (fun m => T.underL t m == -1)
      have HO := Lib.hid hown
      clear hg hdt hown
      have hsz := hb.size
      by_cases hlt : k < t.length
      · have blt : decide ((k : Int) < (t.length : Int)) = true := decide_eq_true (by omega)
        obtain ⟨b, o, rfl, hbw, hL⟩ := HA.out.lines (by omega)
        obtain ⟨c0, _, _⟩ := (hL.below hb hbw).line hlt
        clear hL
        by_cases hge : 0 ≤ T.dp t k
        · have bge : decide (0 ≤ T.dp t k) = true := decide_eq_true hge
          have HTN := Lib.hid (HT.out.next (by rw [HD.out]; exact hge))
          have hiff := HR.out.kid_iff hi hik hlt HT.out
          rw [HD.out] at hiff
          by_cases heq : T.dp t k = 0
          · have HN := Lib.hid (show T.kidsTo t (-1) (k + 1) = T.kidsTo t (-1) k ++ [k] by rw [T.kids_next, if_pos (hiff.2 heq)])
            rw [heq] at c0 bge
            clear hge hiff heq
            have hown2 := HO.out
            go_wp2_with (at_builtin; refine wpList_appG eI _ rfl (.tmp 53) (.tmp 55) rfl w.heap.size u6 (T.kidsTo t (-1) k) rfl hown2 k 1 _ rfl wr.heap.size rfl rfl (by unfold T.kidsTo; omega) hsz ?_; intro v2 w2 hown3 hb2)
            go_roundg (t.length - (k + 1))
            case rel => exact ⟨k + 1, by omega, by omega, by go_num, HTN.out, by rw [HN.out]; exact hown3, hb.trans hb2⟩
            case measure => have := HG.out; omega
          · have beq : (T.dp t k == 0) = false := beq_eq_false_iff_ne.2 heq
            have HN := Lib.hid (show T.kidsTo t (-1) (k + 1) = T.kidsTo t (-1) k by rw [T.kids_next, if_neg (fun h => heq (hiff.1 h)), List.append_nil])
            clear hge hiff heq
            go_wp2
            go_roundg (t.length - (k + 1))
            case rel => exact ⟨k + 1, by omega, by omega, by go_num, HTN.out, by rw [HN.out]; exact HO.out, hb⟩
            case measure => have := HG.out; omega
        · have bge : decide (0 ≤ T.dp t k) = false := decide_eq_false hge
          have HN := Lib.hid (HR.out.kids_done hi hik (by omega) (fun _ => by rw [HD.out]; omega))
          clear hge
          go_wp2
          go_ret
          obtain ⟨A2, cap, rfl, hcap, hseen⟩ := HO.out.seen
          rw [HN.out] at hcap hseen ⊢
          exact ⟨A2, cap, rfl, hcap, hseen, hb⟩
      · have blt : decide ((k : Int) < (t.length : Int)) = false := decide_eq_false (by omega)
        have HN := Lib.hid (HR.out.kids_done hi hik (by have := HG.out; omega) (fun h => absurd h hlt))
        go_wp2
        go_ret
        obtain ⟨A2, cap, rfl, hcap, hseen⟩ := HO.out.seen
        rw [HN.out] at hcap hseen ⊢
        exact ⟨A2, cap, rfl, hcap, hseen, hb⟩

end Go.Proofs.YtfcikfohmehmkaaGreatDoor

namespace Go.Proofs.YtfcikfohmehmkaaGreatDoor
open Go.RowKit

end Go.Proofs.YtfcikfohmehmkaaGreatDoor

namespace Go.Proofs.YtfcikfohmehmkaaGreatDoor
open Go.RowKit

def RelKr (w : World) (t : List T.Ln) (i : Int) (g : Nat) (v x : Value) (wr : World) : Prop :=
  ∃ k : Nat, k + g = t.length ∧ x = .int .i64 k ∧ Own eI wr w.heap.size v (T.kidsTo t i k) ∧ Below w.heap.size w wr
set_option maxRecDepth 100000 in
set_option maxHeartbeats 1000000 in
theorem refKids_any (A : Option Addr) (c : Nat) (t : List T.Ln) (i : Int) (w : World) (hA : Seen eL w A t) (hl : t.length ≤ 1073741824) :
    Calls Tryz.prog 42 #[.slice A t.length c, .int .i64 i] w (SawG eI w (T.kidsL t i)) := by
  have HA := Lib.hid hA
  clear hA
  go_enter Tryz.func42, Tryz.ntmps42
  go_wp2
  go_loopg [5, 6] t.length (fun g v x wr => RelKr w t i g v x wr)
  case atStart => exact ⟨0, Nat.zero_add _, rfl, Own.nil _ _, Below.refl _ _⟩
  case round =>
    obtain ⟨k, hg, rfl, hown, hb⟩ := hrel
    have HG := Lib.hid hg
    have HO := Lib.hid hown
    have hfl := T.filter_len k (fun m => T.underL t m == i)
    have hsz := hb.size
    clear hg hown
    by_cases hlt : k < t.length
    · obtain ⟨u, hu⟩ : ∃ u, T.underL t k = u := ⟨_, rfl⟩
      by_cases hui : u = i
      · have HN := Lib.hid (show T.kidsTo t i (k + 1) = T.kidsTo t i k ++ [k] by rw [T.kids_next, if_pos (by rw [hu, hui])])
        have HU := Lib.hid hu
        subst hui
        clear hu
        go_wp2_with fail
        refine (refUnder_any _ c t k _ (HA.out.below hb) hlt hl).mono ?_
        rintro x w2 ⟨rfl, hb2⟩
        rw [HU.out]
        have hown2 := HO.out.keep hb2
        have hs2 := hb2.size
        go_wp2_with (at_builtin; refine wpList_appG eI _ rfl (.tmp 18) (.tmp 20) rfl w.heap.size u5 (T.kidsTo t u k) rfl hown2 k 1 _ rfl w2.heap.size rfl rfl (by unfold T.kidsTo; omega) (by omega) ?_; intro v2 w3 hown3 hb3)
        go_roundg (t.length - (k + 1))
        case rel => exact ⟨k + 1, by omega, by go_num, by rw [HN.out]; exact hown3, (hb.trans (hb2.mono hsz)).trans hb3⟩
        case measure => have := HG.out; omega
      · have HN := Lib.hid (show T.kidsTo t i (k + 1) = T.kidsTo t i k by rw [T.kids_next, if_neg (by rw [hu]; exact hui), List.append_nil])
        have HU := Lib.hid hu
        have bu : (u == i) = false := beq_eq_false_iff_ne.2 hui
        clear hu hui
        go_wp2_with fail
        refine (refUnder_any _ c t k _ (HA.out.below hb) hlt hl).mono ?_
        rintro x w2 ⟨rfl, hb2⟩
        rw [HU.out]
        go_wp2
        go_roundg (t.length - (k + 1))
        case rel => exact ⟨k + 1, by omega, by go_num, by rw [HN.out]; exact HO.out.keep hb2, hb.trans (hb2.mono hsz)⟩
        case measure => have := HG.out; omega
    · obtain rfl : k = t.length := by have := HG.out; omega
      go_wp2
      go_ret
      obtain ⟨A2, cap, rfl, hcap, hseen⟩ := HO.out.seen
      exact ⟨A2, cap, rfl, hcap, hseen, hb⟩

def RelPr (w : World) (t : List T.Ln) (p : List (List UInt8)) (n : Nat) (x v : Value) (wr : World) : Prop :=
  ∃ (j : Int) (acc : List (List UInt8)), x = .int .i64 j ∧ -1 ≤ j ∧ j < n ∧ j < t.length ∧ p = T.pathI t j ++ acc ∧ Own eS wr w.heap.size v acc ∧ Below w.heap.size w wr
theorem Own.base {α : Type} {E : Elem α} {w : World} {b1 b2 : Nat} {v : Value} {l : List α} (h : Own E w b1 v l) (hb : b2 ≤ b1) : Own E w b2 v l := by
  refine ⟨h.1, ?_⟩
  rcases h.2 with hn | ⟨g, cap, cur, rfl, hbg, rest⟩
  · exact .inl hn
  · exact .inr ⟨g, cap, cur, rfl, Nat.le_trans hb hbg, rest⟩
/-- What is owned: nothing, or cells. -/
theorem Own.src {α : Type} {E : Elem α} {w : World} {base : Nat} {v : Value} {l : List α} (h : Own E w base v l) : (v = .slice none 0 0 ∧ l = []) ∨ ∃ g cap, v = .slice (some ⟨g, 0, none⟩) l.length cap ∧ g < w.heap.size ∧ Holds E w g 0 l := by
  obtain ⟨A, cap, rfl, _, hs⟩ := h.seen
  rcases h.2 with ⟨e, hn⟩ | ⟨g, cap2, cur, e, hbg, hgg, _⟩
  · exact .inl ⟨e, List.eq_nil_of_length_eq_zero hn⟩
  · injection e with e1 e2 e3
    subst e1
    by_cases hl : 0 < l.length
    · obtain ⟨b, o, e, hb, hh⟩ := hs hl
      injection e with e
      injection e with e1 e2
      subst e1; subst e2
      exact .inr ⟨g, cap, rfl, hb, hh⟩
    · exact .inr ⟨g, cap, rfl, (Array.getElem?_eq_some_iff.1 hgg).1, fun i hi => absurd hi (by omega)⟩

set_option maxRecDepth 100000 in
set_option maxHeartbeats 1000000 in
theorem refPath_new {N : Nat} (A : Option Addr) (c : Nat) (t : List T.Ln) (i : Nat) (w : World) (hA : Seen eL w A t) (hl : t.length ≤ 1073741824) (hi : i < t.length) (hR : T.RightN N t) :
    Calls Tryz.prog 22 #[.slice A t.length c, .int .i64 i] w (FreshP w (T.pathL t i)) := by
  obtain ⟨p, hp⟩ : ∃ p, T.pathL t i = p := ⟨_, rfl⟩
  have hlen := hR.path_len i i (Nat.le_refl _) hi
  have hdp := hR.deep i hi
  rw [hp] at hlen
  have hpl : p.length ≤ 16 := by omega
  obtain ⟨b, o, rfl, hbw, hL⟩ := hA.lines (by omega)
  have HP := Lib.hid hp
  have HR := Lib.hid hR
  have HA := Lib.hid hA
  have HL := Lib.hid hL
  clear hp hR hA hL hdp hlen
  rw [HP.out]
  go_enter Tryz.func22, Tryz.ntmps22
  go_wp2
  go_loopg [1, 5] (i + 1) (fun g x v wr => RelPr w t p g x v wr)
  case atStart => exact ⟨i, [], rfl, by omega, by omega, by omega, by rw [T.pathI_nat, HP.out, List.append_nil], Own.nil _ _, Below.refl _ _⟩
  case round =>
    obtain ⟨j, acc, rfl, hj1, hj2, hj3, hpe, hown, hb⟩ := hrel
    have hal : acc.length ≤ 16 := by rw [hpe, List.length_append] at hpl; omega
    have HE := Lib.hid hpe
    have hsz := hb.size
    clear hpe
    by_cases hj : 0 ≤ j
    · obtain ⟨k, rfl⟩ := Int.eq_ofNat_of_zero_le hj
      have hkl : k < t.length := by omega
      obtain ⟨_, q1, _⟩ := (HL.out.below hb hbw).line hkl
      have hun := T.under_lt t k
      have HN := Lib.hid (show p = T.pathI t (T.underL t k) ++ ([T.wd t k] ++ acc) by rw [← List.append_assoc, ← T.path_under, ← T.pathI_nat]; exact HE.out)
      have hnil := Own.nil (E := eS) wr wr.heap.size
      rcases hown.src with ⟨rfl, rfl⟩ | ⟨g, cap, rfl, hgl, hgh⟩
      · clear hown
        go_wp2_with (at_builtin; first | (refine wpList_appG eS _ rfl (.tmp 9) (.tmp 15) rfl wr.heap.size (.slice none 0 0) [] rfl hnil (T.wd t k) 1 _ rfl wr.heap.size rfl rfl (by simp) (Nat.le_refl _) ?_; intro v2 w2 hown2 hb2) | (refine wpList_appNone eS _ rfl (.tmp 17) (.tmp 18) rfl wr.heap.size v2 ([] ++ [T.wd t k]) rfl hown2 rfl ?_))
        refine (refUnder_any _ c t k _ (HA.out.below (bthen hb hb2)) hkl hl).mono ?_
        rintro x w3 ⟨rfl, hb3⟩
        go_wp2
        go_roundg k
        case rel => exact ⟨T.underL t k, _, rfl, hun.1, by omega, by omega, HN.out, (hown2.keep hb3).base hsz, bthen (bthen hb hb2) hb3⟩
        case measure => omega
      · have HO := Lib.hid hown
        clear hown
        go_wp2_with (at_builtin; first | (refine wpList_appG eS _ rfl (.tmp 9) (.tmp 15) rfl wr.heap.size (.slice none 0 0) [] rfl hnil (T.wd t k) 1 _ rfl wr.heap.size rfl rfl (by simp) (Nat.le_refl _) ?_; intro v2 w2 hown2 hb2) | (refine wpList_appSrc eS _ rfl (.tmp 17) (.tmp 18) rfl wr.heap.size v2 ([] ++ [T.wd t k]) rfl hown2 g 0 acc acc.length cap rfl rfl (hgh.below hb2 hgl) (by simp; omega) hb2.size ?_; intro v3 w3 hown3 hb3))
        refine (refUnder_any _ c t k _ (HA.out.below (bthen hb (hb2.trans hb3))) hkl hl).mono ?_
        rintro x w4 ⟨rfl, hb4⟩
        go_wp2
        go_roundg k
        case rel => exact ⟨T.underL t k, _, rfl, hun.1, by omega, by omega, HN.out, (hown3.keep hb4).base hsz, bthen (bthen hb (hb2.trans hb3)) hb4⟩
        case measure => omega
    · obtain rfl : j = -1 := by omega
      go_wp2
      go_ret
      obtain ⟨A2, cap, rfl, hcap, hseen⟩ := hown.seen
      have e := HE.out
      rw [T.pathI_none, List.nil_append] at e
      subst e
      refine ⟨A2, cap, rfl, hcap, hseen, fun a ha => ?_, hb⟩
      rcases hown.2 with ⟨e2, _⟩ | ⟨g, cap2, cur, e2, hbg, _⟩
      · injection e2 with e2; rw [e2] at ha; cases ha
      · injection e2 with e2; rw [e2] at ha; injection ha with ha; rw [← ha]; exact hbg
theorem refPath_any {N : Nat} (A : Option Addr) (c : Nat) (t : List T.Ln) (i : Nat) (w : World) (hA : Seen eL w A t) (hl : t.length ≤ 1073741824) (hi : i < t.length) (hR : T.RightN N t) :
    Calls Tryz.prog 22 #[.slice A t.length c, .int .i64 i] w (SawG eS w (T.pathL t i)) :=
  (refPath_new A c t i w hA hl hi hR).mono fun _ _ ⟨B, cap, h1, h2, h3, _, h5⟩ => ⟨B, cap, h1, h2, h3, h5⟩

theorem refFind_any {N : Nat} (A B : Option Addr) (c cd : Nat) (t : List T.Ln) (p : List (List UInt8)) (w : World) (hA : Seen eL w A t) (hB : Seen eS w B p) (hl : t.length ≤ 1073741824) (hp : p.length ≤ 1073741824) (hR : T.RightN N t) :
    Calls Tryz.prog 23 #[.slice A t.length c, .slice B p.length cd] w
      (fun e w' => ((∃ i : Nat, i < t.length ∧ T.pathL t i = p ∧ e = .returned (.int .i64 (i : Int))) ∨ ((∀ i, i < t.length → T.pathL t i ≠ p) ∧ e = .returned (.int .i64 (-1)))) ∧ Below w.heap.size w w') := by
  have HA := Lib.hid hA
  have HB := Lib.hid hB
  have HR := Lib.hid hR
  clear hA hB hR
  go_enter Tryz.func23, Tryz.ntmps23
  go_wp2
  go_loopg [5] t.length (fun g x wr => ∃ k : Nat, Hid (k + g = t.length) ∧ k ≤ t.length ∧ x = .int .i64 k ∧ Hid (∀ i, i < k → T.pathL t i ≠ p) ∧ Below w.heap.size w wr)
  case atStart => exact ⟨0, Nat.zero_add _, Nat.zero_le _, rfl, (fun i h => absurd h (Nat.not_lt_zero _)), Below.refl _ _⟩
  case round =>
    obtain ⟨k, HG, hk, rfl, HI, hb⟩ := hrel
    by_cases hlt : k < t.length
    · obtain ⟨b, o, rfl, hbw, hL⟩ := HA.out.lines (by omega)
      obtain ⟨c0, _, _⟩ := (hL.below hb hbw).line hlt
      have hpl := HR.out.path_len k k (Nat.le_refl _) hlt
      have hdk := HR.out.deep k hlt
      by_cases hd : T.dp t k = (p.length : Int) - 1
      · by_cases he : T.pathL t k = p
        · have HE := Lib.hid he
          have HD := Lib.hid (show (T.pathL t k).length ≤ 1073741824 by omega)
          rw [hd] at c0
          clear hd he hL hpl hdk
          go_wp2_with fail
          refine (refPath_any _ c t k _ (HA.out.below hb) hl hlt HR.out).mono ?_
          rintro x w2 ⟨A2, cap2, rfl, _, hs2, hb2⟩
          have HS := Lib.hid hs2
          clear hs2
          go_wp2_with fail
          refine (equal_any _ _ _ _ _ _ _ HD.out HS.out (HB.out.below (bthen hb hb2))).mono ?_
          rintro x w3 ⟨hx, hb3⟩
          rw [decide_eq_true HE.out] at hx
          subst hx
          go_wp2
          go_ret
          exact ⟨.inl ⟨k, hlt, HE.out, rfl⟩, bthen (bthen hb hb2) hb3⟩
        · have HE := Lib.hid he
          have HD := Lib.hid (show (T.pathL t k).length ≤ 1073741824 by omega)
          have HN := Lib.hid (to_next HI.out he)
          rw [hd] at c0
          clear hd he hL hpl hdk
          go_wp2_with fail
          refine (refPath_any _ c t k _ (HA.out.below hb) hl hlt HR.out).mono ?_
          rintro x w2 ⟨A2, cap2, rfl, _, hs2, hb2⟩
          have HS := Lib.hid hs2
          clear hs2
          go_wp2_with fail
          refine (equal_any _ _ _ _ _ _ _ HD.out HS.out (HB.out.below (bthen hb hb2))).mono ?_
          rintro x w3 ⟨hx, hb3⟩
          rw [decide_eq_false HE.out] at hx
          subst hx
          go_wp2
          go_roundg (t.length - (k + 1))
          case rel => exact ⟨k + 1, (by show _ = _; omega), by omega, by go_num, HN, bthen (bthen hb hb2) hb3⟩
          case measure => have := HG.out; omega
      · have bd : (T.dp t k == (p.length : Int) - 1) = false := beq_eq_false_iff_ne.2 hd
        have HN := Lib.hid (to_next HI.out (show T.pathL t k ≠ p from fun h => hd (by rw [h] at hpl; omega)))
        clear hd hL hpl hdk
        go_wp2
        go_roundg (t.length - (k + 1))
        case rel => exact ⟨k + 1, (by show _ = _; omega), by omega, by go_num, HN, hb⟩
        case measure => have := HG.out; omega
    · go_wp2
      go_ret
      exact ⟨.inr ⟨fun i hi => HI.out i (by omega), rfl⟩, hb⟩
end Go.Proofs.YtfcikfohmehmkaaGreatDoor

namespace Go.Proofs.YtfcikfohmehmkaaGreatDoor
open Go.RowKit

end Go.Proofs.YtfcikfohmehmkaaGreatDoor

namespace Go.Proofs.YtfcikfohmehmkaaGreatDoor.T
theorem RightT.no_more {t : List Ln} (h : RightT t) {i : Int} {k : Nat} (hik : i < k) (hs : k < t.length → dp t k < kidD t i) : ∀ m, k ≤ m → m < t.length → underL t m ≠ i := by
  intro m hm1 hm2 e
  obtain ⟨j, rfl⟩ : ∃ j, m = k + j := ⟨m - k, by omega⟩
  have hs := hs (by omega)
  rcases h.under (k + j) (by omega) with ⟨a1, a2⟩ | ⟨u, u1, u2, u3, u4⟩
  · unfold kidD at hs
    rw [if_pos (by omega)] at hs
    have := (h.deep k (by omega)).1; omega
  · unfold kidD at hs
    rw [if_neg (by omega)] at hs
    have hu : i.toNat = u := by omega
    rw [hu] at hs
    rcases Nat.eq_zero_or_pos j with rfl | hp
    · rw [Nat.add_zero] at u3; omega
    · have := u4 k (by omega) (by omega); omega
end Go.Proofs.YtfcikfohmehmkaaGreatDoor.T
namespace Go.Proofs.YtfcikfohmehmkaaGreatDoor
open Go.RowKit

def KidS (w : World) (t : List T.Ln) (i : Int) (s : List UInt8) (e : Ending) (w' : World) : Prop :=
  ((∃ k : Nat, k < t.length ∧ T.underL t k = i ∧ T.wd t k = s ∧ e = .returned (.tuple #[.int .i64 (k : Int), .bool true])) ∨ ((∀ k, k < t.length → T.underL t k = i → T.wd t k ≠ s) ∧ e = .returned (.tuple #[.int .i64 0, .bool false]))) ∧ Below w.heap.size w w'
def RelKd (w : World) (t : List T.Ln) (i : Int) (s : List UInt8) (g : Nat) (x : Value) (wr : World) : Prop :=
  ∃ k : Nat, k + g = t.length ∧ i < k ∧ x = .int .i64 k ∧ T.DeepTo t i k ∧ (∀ m, m < k → T.underL t m = i → T.wd t m ≠ s) ∧ w = wr

set_option maxRecDepth 100000 in
set_option maxHeartbeats 1000000 in
theorem kid_any (A : Option Addr) (c : Nat) (t : List T.Ln) (i d : Int) (s : List UInt8) (w : World) (hA : Seen eL w A t) (hl : t.length ≤ 1073741824) (hi : -1 ≤ i) (hil : i < t.length) (hR : T.RightT t) (hd : T.kidD t i = d) :
    Calls Tryz.prog 114 #[.slice A t.length c, .int .i64 i, .int .i64 d, .string (sB s)] w (KidS w t i s) := by
  have HA := Lib.hid hA
  have HR := Lib.hid hR
  have HD := Lib.hid hd
  clear hA hR hd
  go_enter Tryz.func114, Tryz.ntmps114
  go_wp2
  go_loopg [10] (t.length - (i + 1).toNat) (fun g x wr => RelKd w t i s g x wr)
  case atStart => exact ⟨(i + 1).toNat, by omega, by omega, by congr 1; omega, (fun m h1 h2 => by omega), (fun m h1 h2 => by have := T.under_lt t m; omega), rfl⟩
  case round =>
    obtain ⟨k, hg, hik, rfl, hdt, hno, rfl⟩ := hrel
    have HG := Lib.hid hg
    have HT := Lib.hid hdt
    have HX := Lib.hid hno
    clear hg hdt hno
    by_cases hlt : k < t.length
    · have blt : decide ((k : Int) < (t.length : Int)) = true := decide_eq_true (by omega)
      obtain ⟨b, o, rfl, hbw, hL⟩ := HA.out.lines (by omega)
      obtain ⟨c0, c1, _⟩ := hL.line hlt
      clear hL
      have hdk := HR.out.deep k hlt
      by_cases hge : d ≤ T.dp t k
      · have bge : decide (d ≤ T.dp t k) = true := decide_eq_true hge
        have HTN := Lib.hid (HT.out.next (by rw [HD.out]; exact hge))
        have hiff := HR.out.kid_iff hi hik hlt HT.out
        rw [HD.out] at hiff
        by_cases heq : T.dp t k = d
        · by_cases hw : T.wd t k = s
          · have HN := Lib.hid (show T.underL t k = i ∧ T.wd t k = s from ⟨hiff.2 heq, hw⟩)
            rw [heq] at c0 bge
            rw [hw] at c1
            clear hge hiff heq hw
            go_wp2
            go_ret2
            exact ⟨.inl ⟨k, hlt, HN.out.1, HN.out.2, rfl⟩, Below.refl _ _⟩
          · have bw := sB_ne hw
            have HN := Lib.hid (to_next HX.out (fun _ => hw))
            rw [heq] at c0 bge
            clear hge hiff heq hw
            go_wp2
            go_roundg (t.length - (k + 1))
            case rel => exact ⟨k + 1, by omega, by omega, by go_num, HTN.out, HN.out, rfl⟩
            case measure => have := HG.out; omega
        · have beq : (T.dp t k == d) = false := beq_eq_false_iff_ne.2 heq
          have HN := Lib.hid (to_next HX.out (fun h => absurd (hiff.1 h) heq))
          clear hge hiff heq
          go_wp2
          go_roundg (t.length - (k + 1))
          case rel => exact ⟨k + 1, by omega, by omega, by go_num, HTN.out, HN.out, rfl⟩
          case measure => have := HG.out; omega
      · have bge : decide (d ≤ T.dp t k) = false := decide_eq_false hge
        have HN := Lib.hid (HR.out.no_more hik (fun _ => by rw [HD.out]; omega))
        clear hge
        go_wp2
        go_ret2
        refine ⟨.inr ⟨fun m h1 h2 => ?_, rfl⟩, Below.refl _ _⟩
        rcases Nat.lt_or_ge m k with h | h
        · exact HX.out m h h2
        · exact absurd h2 (HN.out m h h1)
    · have blt : decide ((k : Int) < (t.length : Int)) = false := decide_eq_false (by omega)
      go_wp2
      go_ret2
      exact ⟨.inr ⟨fun m h1 h2 => HX.out m (by omega) h2, rfl⟩, Below.refl _ _⟩

def FindS (w : World) (t : List T.Ln) (p : List (List UInt8)) (e : Ending) (w' : World) : Prop :=
  ((∃ i : Nat, i < t.length ∧ T.pathL t i = p ∧ e = .returned (.tuple #[.int .i64 (i : Int), .bool true])) ∨ ((∀ i, i < t.length → T.pathL t i ≠ p) ∧ e = .returned (.tuple #[.int .i64 0, .bool false]))) ∧ Below w.heap.size w w'
theorem find_empty (A B : Option Addr) (c d : Nat) (t : List T.Ln) (w : World) :
    Calls Tryz.prog 75 #[.slice A t.length c, .slice B 0 d] w (FindS w t []) := by
  go_enter Tryz.func75, Tryz.ntmps75
  go_wp2
  go_ret2
  exact ⟨.inr ⟨fun i _ => T.path_ne, rfl⟩, Below.refl _ _⟩
def RelFd (w : World) (t : List T.Ln) (p : List (List UInt8)) (g : Nat) (a x : Value) (wr : World) : Prop :=
  ∃ (d : Nat) (at' : Int), d + g = p.length ∧ x = .int .i64 d ∧ a = .int .i64 at' ∧ -1 ≤ at' ∧ at' < t.length ∧ T.pathI t at' = p.take d ∧ Below w.heap.size w wr

set_option maxRecDepth 100000 in
set_option maxHeartbeats 1000000 in
theorem find_any (A B : Option Addr) (c cd : Nat) (t : List T.Ln) (p : List (List UInt8)) (w : World) (hA : Seen eL w A t) (hB : Seen eS w B p) (hl : t.length ≤ 1073741824) (hp : p.length ≤ 1073741824) (hR : T.RightT t) :
    Calls Tryz.prog 75 #[.slice A t.length c, .slice B p.length cd] w (FindS w t p) := by
  by_cases h0 : p.length = 0
  · obtain rfl := List.eq_nil_of_length_eq_zero h0
    exact find_empty A B c cd t w
  have b0 : ((p.length : Int) == 0) = false := beq_eq_false_iff_ne.2 (by omega)
  obtain ⟨b, o, rfl, hbw, hL⟩ := hB (by omega)
  have HL := Lib.hid hL
  have HA := Lib.hid hA
  have HR := Lib.hid hR
  have HZ := Lib.hid h0
  clear hA hB hL hR h0
  go_enter Tryz.func75, Tryz.ntmps75
  go_wp2_with fail
  refine (right_is A c t true _ HA.out hl (yes_iff HR.out)).mono ?_
  rintro e w1 ⟨rfl, hb1⟩
  go_wp2
  go_loopg [6, 21] p.length (fun g a x wr => RelFd w t p g a x wr)
  case atStart => exact ⟨0, -1, Nat.zero_add _, rfl, rfl, by omega, by omega, by rw [T.pathI_none]; rfl, hb1⟩
  case round =>
    obtain ⟨d, at', hg, rfl, rfl, ha1, ha2, hpa, hb⟩ := hrel
    have HG := Lib.hid hg
    have HP := Lib.hid hpa
    clear hg hpa
    by_cases hlt : d < p.length
    · have c1 := (HL.out.below hb hbw).str hlt
      have HK := Lib.hid (HR.out.kidD_path (d := d) ⟨ha1, ha2⟩ (by rw [HP.out, List.length_take]; omega))
      go_wp2_with fail
      refine (kid_any A c t at' d p[d] _ (HA.out.below hb) hl ha1 ha2 HR.out HK.out).mono ?_
      rintro e w2 ⟨he, hb2⟩
      have HE := Lib.hid he
      clear he
      rcases HE.out with ⟨k, hk, hku, hkw, rfl⟩ | ⟨hno, rfl⟩
      · have HN := Lib.hid (T.find_next hlt HP.out hku hkw)
        clear HE hku hkw
        go_wp2
        go_roundg (p.length - (d + 1))
        case rel => exact ⟨d + 1, k, by omega, by go_num, rfl, by omega, by omega, HN.out, bthen hb hb2⟩
        case measure => have := HG.out; omega
      · have HN := Lib.hid (HR.out.find_none hlt HP.out ⟨ha1, ha2⟩ hno)
        clear HE hno
        go_wp2
        go_ret2
        exact ⟨.inr ⟨HN.out, rfl⟩, bthen hb hb2⟩
    · have hdl : d = p.length := by have := HG.out; omega
      have HN := Lib.hid (show T.pathI t at' = p by rw [HP.out, hdl, List.take_length])
      by_cases hn : at' < 0
      · exact absurd HN.out (by intro h; unfold T.pathI at h; rw [if_pos hn] at h; subst h; exact HZ.out rfl)
      · obtain ⟨k, rfl⟩ := Int.eq_ofNat_of_zero_le (show 0 ≤ at' by omega)
        go_wp2
        go_ret2
        exact ⟨.inl ⟨k, by omega, by rw [← T.pathI_nat]; exact HN.out, rfl⟩, hb⟩
end Go.Proofs.YtfcikfohmehmkaaGreatDoor

namespace Go.Proofs.YtfcikfohmehmkaaGreatDoor
open Go.RowKit

theorem lit_seen {α : Type} (E : Elem α) (w : World) (l : List α) (cs : Array Value) (h : cs.toList = cellsG E l) (hl : l.length ≤ 1000) : Seen E (w.alloc (.cells cs E.T)) (some ⟨w.heap.size, 0, none⟩) l := by
  have h1 : cs.size = l.length * E.sz := by rw [← cellsG_len, ← h, Array.length_toList]
  have := World.ownsRow_lit (base := 0) (e := E.T) (size := E.sz) w cs l.length (Nat.zero_le _) (by unfold maxLen; omega) h1
  rw [h] at this
  obtain ⟨A, cap, e, _, hs⟩ := Own.seen (E := E) this
  injection e with e1 e2 e3
  subst e1
  exact hs
theorem up (w : World) (o : Obj) : Below w.heap.size w (w.alloc o) := (Below.refl _ _).alloc (Nat.le_refl _) o

theorem kids_is (A : Option Addr) (c : Nat) (t : List T.Ln) (i : Int) (l : List Nat) (w : World) (hA : Seen eL w A t) (hl : t.length ≤ 1073741824) (hi : -1 ≤ i) (hil : i < t.length) (hR : T.RightT t) (h : T.kidsL t i = l) :
    Calls Tryz.prog 76 #[.slice A t.length c, .int .i64 i] w (SawG eI w l) := by rw [← h]; exact kids_yes A c t i w hA hl hi hil hR
theorem End_is (A : Option Addr) (c : Nat) (t : List T.Ln) (i e : Nat) (w : World) (hA : Seen eL w A t) (hl : t.length ≤ 1073741824) (hi : i < t.length) (hR : T.RightT t) (h : T.endL t i = e) :
    Calls Tryz.prog 55 #[.slice A t.length c, .int .i64 i] w (IntS w (e : Nat)) := by rw [← h]; exact End_yes A c t i w hA hl hi hR
end Go.Proofs.YtfcikfohmehmkaaGreatDoor

namespace Go.Proofs.YtfcikfohmehmkaaGreatDoor
open Go.RowKit

theorem Holds.seen {α : Type} {E : Elem α} {w : World} {b o : Nat} {l : List α} (h : Holds E w b o l) (hb : b < w.heap.size) : Seen E w (some ⟨b, o, none⟩) l := fun _ => ⟨b, o, rfl, hb, h⟩
theorem Holds.belowN {α : Type} {E : Elem α} {w w1 : World} {n b o : Nat} {l : List α} (h : Holds E w b o l) (hb : Below n w w1) (hlt : b < n) : Holds E w1 b o l := by
  intro i hi j u hu
  rw [← h i hi j u hu]
  exact hb.cell (p := ⟨b, o + i * E.sz + j, none⟩) hlt
/-- Small, as the laws ask it. -/
theorem small_is (A : Option Addr) (c : Nat) (t : List T.Ln) (w : World) (hA : Seen eL w A t) : Calls Tryz.prog 9 #[.slice A t.length c] w (fun e w' => ∃ b : Bool, e = .returned (.bool b) ∧ (b = true → t.length ≤ 220) ∧ Below w.heap.size w w') := small_any A c t w hA
end Go.Proofs.YtfcikfohmehmkaaGreatDoor
