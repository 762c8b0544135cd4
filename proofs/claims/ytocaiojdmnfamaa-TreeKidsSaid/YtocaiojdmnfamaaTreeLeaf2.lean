/-
  Contracts of layer 3's inner functions under and end, and of the document's End and Short: what they return is what the plain definitions say; below the heap's size at the call the world is as it was. Condition: a place of a line, at most 2^30 lines.
-/
import Derived.Test.YtocaiojdmnfamaaTreeLeaf
import Derived.BigQuiet
namespace Go.Proofs.Ytocaiojdmnfamaa
open Go.RowKit

theorem refEnd_any (A : Option Addr) (c : Nat) (t : List T.Ln) (i : Nat) (w : World) (hA : Seen eL w A t) (hi : i < t.length) (hl : t.length ≤ 1073741824) :
    Calls Try.prog 21 #[.slice A t.length c, .int .i64 i] w (IntS w (T.endL t i : Nat)) := by
  obtain ⟨b, o, rfl, hbw, hL⟩ := hA.lines (by omega)
  have HL := Lib.hid hL
  clear hA hL
  go_enter Try.func21, Try.ntmps21
  go_wp2
  go_loopg [5] (t.length - (i + 1)) (fun g k wr => ∃ j : Nat, Hid (j + g = t.length) ∧ i < j ∧ j ≤ t.length ∧ k = .int .i64 j ∧ Hid (∀ m, i < m → m < j → T.dp t i < T.dp t m) ∧ Below w.heap.size w wr)
  case atStart => exact ⟨i + 1, (by show _ = _; omega), by omega, by omega, by go_num, (fun m h1 h2 => absurd h1 (by omega)), Below.refl _ _⟩
  case round =>
    obtain ⟨j, HG, hij, hj, rfl, HI, hb⟩ := hrel
    by_cases hlt : j < t.length
    · obtain ⟨c0, _, _⟩ := (HL.out.below hb hbw).line hlt
      obtain ⟨d0, _, _⟩ := (HL.out.below hb hbw).line hi
      by_cases hd : T.dp t j ≤ T.dp t i
      · have bd : decide (T.dp t j ≤ T.dp t i) = true := decide_eq_true hd
        have HN := Lib.hid (T.end_unique t i j hij hj HI.out (fun _ => hd))
        clear hd
        go_wp2
        go_region
        go_wp2
        go_ret
        rw [HN.out]
        exact ⟨rfl, hb.drew⟩
      · have bd : decide (T.dp t j ≤ T.dp t i) = false := decide_eq_false hd
        have HN := Lib.hid (show ∀ m, i < m → m < j + 1 → T.dp t i < T.dp t m from fun m h1 h2 => by
          rcases Nat.lt_or_ge m j with h | h
          · exact HI.out m h1 h
          · obtain rfl : m = j := by omega
            omega)
        clear hd
        go_wp2
        go_region
        go_wp2
        go_roundg (t.length - (j + 1))
        case rel => exact ⟨j + 1, (by show _ = _; omega), by omega, by omega, by go_num, HN, hb.drew⟩
        case measure => have := HG.out; omega
    · have HN := Lib.hid (T.end_unique t i j hij hj HI.out (fun h => absurd h hlt))
      obtain rfl : j = t.length := by omega
      go_wp2
      go_ret
      rw [HN.out]
      exact ⟨rfl, hb⟩

theorem under_any (A : Option Addr) (c : Nat) (t : List T.Ln) (i : Nat) (w : World) (hA : Seen eL w A t) (hi : i < t.length) (hl : t.length ≤ 1073741824) :
    Calls Try.prog 32 #[.slice A t.length c, .int .i64 i] w (IntS w (T.underL t i)) := by
  obtain ⟨b, o, rfl, hbw, hL⟩ := hA.lines (by omega)
  have HL := Lib.hid hL
  clear hA hL
  go_enter Try.func32, Try.ntmps32
  go_wp2
  go_loopg [5] i (fun g k wr => ∃ j : Nat, Hid (j = g) ∧ j ≤ i ∧ k = .int .i64 ((j : Int) - 1) ∧ Hid (T.underL t i = T.underF t (T.dp t i) j) ∧ Below w.heap.size w wr)
  case atStart => exact ⟨i, rfl, Nat.le_refl _, by go_num, rfl, Below.refl _ _⟩
  case round =>
    obtain ⟨j, HG, hj, rfl, HI, hb⟩ := hrel
    match j, HG, hj, HI with
    | 0, HG, hj, HI =>
      go_wp2
      go_ret
      rw [HI.out]
      exact ⟨rfl, hb⟩
    | j + 1, HG, hj, HI =>
      have e : (((j + 1 : Nat) : Int) - 1) = (j : Int) := by omega
      rw [e]
      clear e
      obtain ⟨c0, _, _⟩ := (HL.out.below hb hbw).line (show j < t.length by omega)
      obtain ⟨d0, _, _⟩ := (HL.out.below hb hbw).line hi
      by_cases hd : T.dp t j < T.dp t i
      · have bd : decide (T.dp t j < T.dp t i) = true := decide_eq_true hd
        have HN := Lib.hid (show T.underL t i = (j : Int) by rw [HI.out]; simp only [T.underF]; rw [if_pos hd])
        clear hd
        go_wp2
        go_region
        go_wp2
        go_ret
        rw [HN.out]
        exact ⟨rfl, hb.drew⟩
      · have bd : decide (T.dp t j < T.dp t i) = false := decide_eq_false hd
        have HN := Lib.hid (show T.underL t i = T.underF t (T.dp t i) j by rw [HI.out]; conv => lhs; simp only [T.underF]; rw [if_neg hd])
        clear hd
        go_wp2
        go_region
        go_wp2
        go_roundg j
        case rel => exact ⟨j, rfl, by omega, by go_num, HN, hb.drew⟩
        case measure => have := HG.out; omega

theorem end_any (A : Option Addr) (c : Nat) (t : List T.Ln) (i : Nat) (w : World) (hA : Seen eL w A t) (hi : i < t.length) (hl : t.length ≤ 1073741824) :
    Calls Try.prog 33 #[.slice A t.length c, .int .i64 i] w (IntS w (T.endL t i : Nat)) := by
  obtain ⟨b, o, rfl, hbw, hL⟩ := hA.lines (by omega)
  have HL := Lib.hid hL
  clear hA hL
  go_enter Try.func33, Try.ntmps33
  go_wp2
  go_loopg [5] (t.length - (i + 1)) (fun g k wr => ∃ j : Nat, Hid (j + g = t.length) ∧ i < j ∧ j ≤ t.length ∧ k = .int .i64 j ∧ Hid (∀ m, i < m → m < j → T.dp t i < T.dp t m) ∧ Below w.heap.size w wr)
  case atStart => exact ⟨i + 1, (by show _ = _; omega), by omega, by omega, by go_num, (fun m h1 h2 => absurd h1 (by omega)), Below.refl _ _⟩
  case round =>
    obtain ⟨j, HG, hij, hj, rfl, HI, hb⟩ := hrel
    by_cases hlt : j < t.length
    · have hlt2 : decide ((j : Int) < (t.length : Int)) = true := by simp; omega
      obtain ⟨c0, _, _⟩ := (HL.out.below hb hbw).line hlt
      obtain ⟨d0, _, _⟩ := (HL.out.below hb hbw).line hi
      by_cases hd : T.dp t i < T.dp t j
      · have bd : decide (T.dp t i < T.dp t j) = true := decide_eq_true hd
        have HN := Lib.hid (show ∀ m, i < m → m < j + 1 → T.dp t i < T.dp t m from fun m h1 h2 => by
          rcases Nat.lt_or_ge m j with h | h
          · exact HI.out m h1 h
          · obtain rfl : m = j := by omega
            omega)
        clear hd
        go_wp2
        go_region
        go_wp2
        go_roundg (t.length - (j + 1))
        case rel => exact ⟨j + 1, (by show _ = _; omega), by omega, by omega, by go_num, HN, hb.drew⟩
        case measure => have := HG.out; omega
      · have bd : decide (T.dp t i < T.dp t j) = false := decide_eq_false hd
        have HN := Lib.hid (T.end_unique t i j hij hj HI.out (fun _ => by omega))
        clear hd
        go_wp2
        go_region
        go_wp2
        go_ret
        rw [HN.out]
        exact ⟨rfl, hb.drew⟩
    · have hlt2 : decide ((j : Int) < (t.length : Int)) = false := by simp; omega
      have HN := Lib.hid (T.end_unique t i j hij hj HI.out (fun h => absurd h hlt))
      go_wp2
      go_region
      go_wp2
      go_ret
      rw [HN.out]
      exact ⟨rfl, hb.drew⟩

theorem short_any (A : Option Addr) (c : Nat) (l : List (List UInt8)) (w : World) (hA : Seen eS w A l) :
    Calls Try.prog 26 #[.slice A l.length c] w (FewS w l.length 40) := by
  have HA := Lib.hid hA
  clear hA
  by_cases h40 : l.length ≤ 40
  · have b40 : decide ((40 : Int) < (l.length : Int)) = false := by simp; omega
    go_enter Try.func26, Try.ntmps26
    go_wp2
    go_loopg [3] l.length (fun g i wr => ∃ k : Nat, Hid (k + g = l.length) ∧ k ≤ l.length ∧ i = .int .i64 k ∧ w = wr)
    case atStart => exact ⟨0, Nat.zero_add _, Nat.zero_le _, rfl, rfl⟩
    case round =>
      obtain ⟨k, HG, hk, rfl, rfl⟩ := hrel
      by_cases hlt : k < l.length
      · obtain ⟨b, o, rfl, hbw, hL⟩ := HA.out (by omega)
        have c1 := hL.str hlt
        by_cases h100 : 100 < (sB l[k]).size
        · have b100 : decide ((100 : Int) < ((sB l[k]).size : Int)) = true := by simp; omega
          go_wp2
          go_ret
          exact ⟨false, rfl, (fun h => by cases h), Below.refl _ _⟩
        · have b100 : decide ((100 : Int) < ((sB l[k]).size : Int)) = false := by simp; omega
          go_wp2
          go_roundg (l.length - (k + 1))
          case rel => exact ⟨k + 1, (by show _ = _; omega), by omega, by go_num, rfl⟩
          case measure => have := HG.out; omega
      · go_wp2
        go_ret
        exact ⟨true, rfl, (fun _ => h40), Below.refl _ _⟩
  · have b40 : decide ((40 : Int) < (l.length : Int)) = true := by simp; omega
    go_enter Try.func26, Try.ntmps26
    go_wp2
    go_ret
    exact ⟨false, rfl, (fun h => by cases h), Below.refl _ _⟩
end Go.Proofs.Ytocaiojdmnfamaa
