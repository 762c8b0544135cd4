/-
  Contracts of layer 3's inner functions under and end, and of the document's End and Short: what they return is what the plain definitions say; below the heap's size at the call the world is as it was. Condition: a place of a line, at most 2^30 lines.
-/
import Derived.Test.YtokhflpeeibeeaaTreeLeaf
import Derived.BigQuiet
namespace Go.Proofs.Ytokhflpeeibeeaa
open Go.RowKit

theorem refEnd_any (A : Option Addr) (c : Nat) (t : List T.Ln) (i : Nat) (w : World) (hA : Seen eL w A t) (hi : i < t.length) (hl : t.length ≤ 1073741824) :
    Calls Try.prog 27 #[.slice A t.length c, .int .i64 i] w (IntS w (T.endL t i : Nat)) := by
  obtain ⟨b, o, rfl, hbw, hL⟩ := hA.lines (by omega)
  have HL := Lib.hid hL
  clear hA hL
  go_enter Try.func27, Try.ntmps27
  go_wp2
  go_loopg [5] (t.length - (i + 1)) (fun g k wr => ∃ j : Nat, Hid (j + g = t.length) ∧ i < j ∧ j ≤ t.length ∧ k = .int .i64 j ∧ Hid (∀ m, i < m → m < j → T.dp t i < T.dp t m) ∧ Below w.heap.size w wr)
  case atStart => exact ⟨i + 1, (by show _ = _; omega), by omega, by omega, by go_num, (fun m h1 h2 => absurd h1 (by omega)), Below.refl _ _⟩
  case round =>
    obtain ⟨j, HG, hij, hj, rfl, HI, hb⟩ := hrel
    by_cases hlt : j < t.length
    · obtain ⟨c0, _, _⟩ := (HL.out.below hb hbw).line hlt
      obtain ⟨d0, _, _⟩ := (HL.out.below hb hbw).line hi
      by_cases hd : T.dp t j ≤ T.dp t i
      · have bd : decide (T.dp t j ≤ T.dp t i) = true := decide_eq_true hd
        have HN := Lib.hid (T.end_unique t i j hij hj HI.out (fun _ => hd))
        clear hd
        go_wp2
        go_region
        go_wp2
        go_ret
        rw [HN.out]
        exact ⟨rfl, hb.drew⟩
      · have bd : decide (T.dp t j ≤ T.dp t i) = false := decide_eq_false hd
        have HN := Lib.hid (show ∀ m, i < m → m < j + 1 → T.dp t i < T.dp t m from fun m h1 h2 => by
          rcases Nat.lt_or_ge m j with h | h
          · exact HI.out m h1 h
          · obtain rfl : m = j := by omega
            omega)
        clear hd
        go_wp2
        go_region
        go_wp2
        go_roundg (t.length - (j + 1))
        case rel => exact ⟨j + 1, (by show _ = _; omega), by omega, by omega, by go_num, HN, hb.drew⟩
        case measure => have := HG.out; omega
    · have HN := Lib.hid (T.end_unique t i j hij hj HI.out (fun h => absurd h hlt))
      obtain rfl : j = t.length := by omega
      go_wp2
      go_ret
      rw [HN.out]
      exact ⟨rfl, hb⟩

theorem end_any (A : Option Addr) (c : Nat) (t : List T.Ln) (i : Nat) (w : World) (hA : Seen eL w A t) (hi : i < t.length) (hl : t.length ≤ 1073741824) :
    Calls Try.prog 28 #[.slice A t.length c, .int .i64 i] w (IntS w (T.endL t i : Nat)) := by
  obtain ⟨b, o, rfl, hbw, hL⟩ := hA.lines (by omega)
  have HL := Lib.hid hL
  clear hA hL
  go_enter Try.func28, Try.ntmps28
  go_wp2
  go_loopg [5] (t.length - (i + 1)) (fun g k wr => ∃ j : Nat, Hid (j + g = t.length) ∧ i < j ∧ j ≤ t.length ∧ k = .int .i64 j ∧ Hid (∀ m, i < m → m < j → T.dp t i < T.dp t m) ∧ Below w.heap.size w wr)
  case atStart => exact ⟨i + 1, (by show _ = _; omega), by omega, by omega, by go_num, (fun m h1 h2 => absurd h1 (by omega)), Below.refl _ _⟩
  case round =>
    obtain ⟨j, HG, hij, hj, rfl, HI, hb⟩ := hrel
    by_cases hlt : j < t.length
    · have hlt2 : decide ((j : Int) < (t.length : Int)) = true := by simp; omega
      obtain ⟨c0, _, _⟩ := (HL.out.below hb hbw).line hlt
      obtain ⟨d0, _, _⟩ := (HL.out.below hb hbw).line hi
      by_cases hd : T.dp t i < T.dp t j
      · have bd : decide (T.dp t i < T.dp t j) = true := decide_eq_true hd
        have HN := Lib.hid (show ∀ m, i < m → m < j + 1 → T.dp t i < T.dp t m from fun m h1 h2 => by
          rcases Nat.lt_or_ge m j with h | h
          · exact HI.out m h1 h
          · obtain rfl : m = j := by omega
            omega)
        clear hd
        go_wp2
        go_region
        go_wp2
        go_roundg (t.length - (j + 1))
        case rel => exact ⟨j + 1, (by show _ = _; omega), by omega, by omega, by go_num, HN, hb.drew⟩
        case measure => have := HG.out; omega
      · have bd : decide (T.dp t i < T.dp t j) = false := decide_eq_false hd
        have HN := Lib.hid (T.end_unique t i j hij hj HI.out (fun _ => by omega))
        clear hd
        go_wp2
        go_region
        go_wp2
        go_ret
        rw [HN.out]
        exact ⟨rfl, hb.drew⟩
    · have hlt2 : decide ((j : Int) < (t.length : Int)) = false := by simp; omega
      have HN := Lib.hid (T.end_unique t i j hij hj HI.out (fun h => absurd h hlt))
      go_wp2
      go_region
      go_wp2
      go_ret
      rw [HN.out]
      exact ⟨rfl, hb.drew⟩

end Go.Proofs.Ytokhflpeeibeeaa
