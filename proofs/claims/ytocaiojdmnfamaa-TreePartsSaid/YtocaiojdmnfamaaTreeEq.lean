/-
  Contracts of the document's Ints, Equal and Same (layer 3): equal lists are equal; Equal decides it; below the heap's size at the call the world is as it was. Condition: at most 2^30 elements.
-/
import Derived.Test.YtocaiojdmnfamaaTreeLeaf2
namespace Go.Proofs.Ytocaiojdmnfamaa
open Go.RowKit

theorem ints_yes (A B : Option Addr) (c d : Nat) (l : List Nat) (w : World) (hl : l.length ≤ 1073741824) (hA : Seen eI w A l) (hB : Seen eI w B l) :
    Calls Try.prog 18 #[.slice A l.length c, .slice B l.length d] w (TrueS w) := by
  have HA := Lib.hid hA
  have HB := Lib.hid hB
  clear hA hB
  go_enter Try.func18, Try.ntmps18
  go_wp2
  go_loopg [5] l.length (fun g i wr => ∃ k : Nat, Hid (k + g = l.length) ∧ k ≤ l.length ∧ i = .int .i64 k ∧ Below w.heap.size w wr)
  case atStart => exact ⟨0, Nat.zero_add _, Nat.zero_le _, rfl, Below.refl _ _⟩
  case round =>
    obtain ⟨k, HG, hk, rfl, hb⟩ := hrel
    by_cases hlt : k < l.length
    · obtain ⟨b1, o1, rfl, hw1, hL1⟩ := HA.out (by omega)
      obtain ⟨b2, o2, rfl, hw2, hL2⟩ := HB.out (by omega)
      have c1 := (hL1.below hb hw1).num hlt
      have c2 := (hL2.below hb hw2).num hlt
      go_wp2
      go_region
      go_wp2
      go_roundg (l.length - (k + 1))
      case rel => exact ⟨k + 1, (by show _ = _; omega), by omega, by go_num, hb.drew⟩
      case measure => have := HG.out; omega
    · go_wp2
      go_ret
      exact ⟨rfl, hb⟩

set_option maxRecDepth 100000 in
theorem same_yes (A B : Option Addr) (c d : Nat) (t : List T.Ln) (w : World) (hl : t.length ≤ 1073741824) (hA : Seen eL w A t) (hB : Seen eL w B t) :
    Calls Try.prog 24 #[.slice A t.length c, .slice B t.length d] w (TrueS w) := by
  have HA := Lib.hid hA
  have HB := Lib.hid hB
  clear hA hB
  go_enter Try.func24, Try.ntmps24
  go_wp2
  go_loopg [5] t.length (fun g i wr => ∃ k : Nat, Hid (k + g = t.length) ∧ k ≤ t.length ∧ i = .int .i64 k ∧ Below w.heap.size w wr)
  case atStart => exact ⟨0, Nat.zero_add _, Nat.zero_le _, rfl, Below.refl _ _⟩
  case round =>
    obtain ⟨k, HG, hk, rfl, hb⟩ := hrel
    by_cases hlt : k < t.length
    · obtain ⟨b1, o1, rfl, hw1, hL1⟩ := HA.out.lines (by omega)
      obtain ⟨b2, o2, rfl, hw2, hL2⟩ := HB.out.lines (by omega)
      obtain ⟨c0, c1, c2⟩ := (hL1.below hb hw1).line hlt
      obtain ⟨d0, d1, d2⟩ := (hL2.below hb hw2).line hlt
      go_wp2
      go_region
      go_wp2
      go_roundg (t.length - (k + 1))
      case rel => exact ⟨k + 1, (by show _ = _; omega), by omega, by go_num, hb.drew⟩
      case measure => have := HG.out; omega
    · go_wp2
      go_ret
      exact ⟨rfl, hb⟩

theorem equal_short (A B : Option Addr) (c d n m : Nat) (w : World) (h : n ≠ m) :
    Calls Try.prog 22 #[.slice A n c, .slice B m d] w (BoolS w false) := by
  have b : ((n : Int) != (m : Int)) = true := by simp; omega
  go_enter Try.func22, Try.ntmps22
  go_wp2
  go_ret
  exact ⟨rfl, Below.refl _ _⟩
theorem take_next {l1 l2 : List (List UInt8)} {k : Nat} (h : l1.take k = l2.take k) (h1 : k < l1.length) (h2 : k < l2.length) (e : l1[k] = l2[k]) : l1.take (k + 1) = l2.take (k + 1) := by
  rw [List.take_succ_eq_append_getElem h1, List.take_succ_eq_append_getElem h2, h, e]
theorem equal_long (A B : Option Addr) (c d : Nat) (l1 l2 : List (List UInt8)) (n : Nat) (w : World) (hl : n ≤ 1073741824) (hA : Seen eS w A l1) (hB : Seen eS w B l2) (h1 : l1.length = n) (h2 : l2.length = n) :
    Calls Try.prog 22 #[.slice A n c, .slice B n d] w (BoolS w (decide (l1 = l2))) := by
  have HA := Lib.hid hA
  have HB := Lib.hid hB
  have H1 := Lib.hid h1
  have H2 := Lib.hid h2
  clear hA hB h1 h2
  go_enter Try.func22, Try.ntmps22
  go_wp2
  go_loopg [5] n (fun g i wr => ∃ k : Nat, Hid (k + g = n) ∧ k ≤ n ∧ i = .int .i64 k ∧ Hid (l1.take k = l2.take k) ∧ Below w.heap.size w wr)
  case atStart => exact ⟨0, Nat.zero_add _, Nat.zero_le _, rfl, rfl, Below.refl _ _⟩
  case round =>
    obtain ⟨k, HG, hk, rfl, HI, hb⟩ := hrel
    by_cases hlt : k < n
    · have hk1 : k < l1.length := by have := H1.out; omega
      have hk2 : k < l2.length := by have := H2.out; omega
      obtain ⟨b1, o1, rfl, hw1, hL1⟩ := HA.out (by omega)
      obtain ⟨b2, o2, rfl, hw2, hL2⟩ := HB.out (by omega)
      have c1 := (hL1.below hb hw1).str hk1
      have c2 := (hL2.below hb hw2).str hk2
      by_cases he : l1[k] = l2[k]
      · have HN := Lib.hid (take_next HI.out hk1 hk2 he)
        rw [← he] at c2
        clear he
        go_wp2
        go_region
        go_wp2
        go_roundg (n - (k + 1))
        case rel => exact ⟨k + 1, (by show _ = _; omega), by omega, by go_num, HN, hb.drew⟩
        case measure => have := HG.out; omega
      · have hne := sB_ne he
        have HN := Lib.hid (show decide (l1 = l2) = false from decide_eq_false fun e => he (by subst e; rfl))
        clear he
        go_wp2
        go_region
        go_wp2
        go_ret
        rw [HN.out]
        exact ⟨rfl, hb.drew⟩
    · have HN := Lib.hid (show decide (l1 = l2) = true from decide_eq_true (by
        have := HI.out
        rwa [List.take_of_length_le (by have := H1.out; omega), List.take_of_length_le (by have := H2.out; omega)] at this))
      go_wp2
      go_ret
      rw [HN.out]
      exact ⟨rfl, hb⟩
theorem equal_any (A B : Option Addr) (c d : Nat) (l1 l2 : List (List UInt8)) (w : World) (hl : l1.length ≤ 1073741824) (hA : Seen eS w A l1) (hB : Seen eS w B l2) :
    Calls Try.prog 22 #[.slice A l1.length c, .slice B l2.length d] w (BoolS w (decide (l1 = l2))) := by
  by_cases h : l1.length = l2.length
  · rw [← h]; exact equal_long A B c d l1 l2 l1.length w hl hA hB rfl h.symm
  · have e : decide (l1 = l2) = false := decide_eq_false fun e => h (by rw [e])
    rw [e]; exact equal_short A B c d _ _ w h
theorem equal_yes (A B : Option Addr) (c d : Nat) (l1 l2 : List (List UInt8)) (n m : Nat) (w : World) (e : l1 = l2) (hn : l1.length = n) (hm : l2.length = m) (hl : n ≤ 1073741824) (hA : Seen eS w A l1) (hB : Seen eS w B l2) :
    Calls Try.prog 22 #[.slice A n c, .slice B m d] w (TrueS w) := by
  have := equal_any A B c d l1 l2 w (by omega) hA hB
  rw [decide_eq_true e, hn, hm] at this
  exact this
end Go.Proofs.Ytocaiojdmnfamaa
