/-
  Contracts of the document's Ints, Equal and Same (layer 3): equal lists are equal; Equal decides it; below the heap's size at the call the world is as it was. Condition: at most 2^30 elements.
-/
import Derived.Test.YtokhflpeeibeeaaTreeLeaf2
namespace Go.Proofs.Ytokhflpeeibeeaa
open Go.RowKit

set_option maxRecDepth 100000 in
theorem same_yes (A B : Option Addr) (c d : Nat) (t : List T.Ln) (w : World) (hl : t.length ≤ 1073741824) (hA : Seen eL w A t) (hB : Seen eL w B t) :
    Calls Try.prog 17 #[.slice A t.length c, .slice B t.length d] w (TrueS w) := by
  have HA := Lib.hid hA
  have HB := Lib.hid hB
  clear hA hB
  go_enter Try.func17, Try.ntmps17
  go_wp2
  go_loopg [5] t.length (fun g i wr => ∃ k : Nat, Hid (k + g = t.length) ∧ k ≤ t.length ∧ i = .int .i64 k ∧ Below w.heap.size w wr)
  case atStart => exact ⟨0, Nat.zero_add _, Nat.zero_le _, rfl, Below.refl _ _⟩
  case round =>
    obtain ⟨k, HG, hk, rfl, hb⟩ := hrel
    by_cases hlt : k < t.length
    · obtain ⟨b1, o1, rfl, hw1, hL1⟩ := HA.out.lines (by omega)
      obtain ⟨b2, o2, rfl, hw2, hL2⟩ := HB.out.lines (by omega)
      obtain ⟨c0, c1, c2⟩ := (hL1.below hb hw1).line hlt
      obtain ⟨d0, d1, d2⟩ := (hL2.below hb hw2).line hlt
      go_wp2
      go_region
      go_wp2
      go_roundg (t.length - (k + 1))
      case rel => exact ⟨k + 1, (by show _ = _; omega), by omega, by go_num, hb.drew⟩
      case measure => have := HG.out; omega
    · go_wp2
      go_ret
      exact ⟨rfl, hb⟩

theorem take_next {l1 l2 : List (List UInt8)} {k : Nat} (h : l1.take k = l2.take k) (h1 : k < l1.length) (h2 : k < l2.length) (e : l1[k] = l2[k]) : l1.take (k + 1) = l2.take (k + 1) := by
  rw [List.take_succ_eq_append_getElem h1, List.take_succ_eq_append_getElem h2, h, e]
end Go.Proofs.Ytokhflpeeibeeaa
