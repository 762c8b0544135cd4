/-
  Contracts of layer 3's inner functions under and end, and of the document's Small, Short, Under and End: what they return is what the plain definitions say; below the heap's size at the call the world is as it was. Condition: a place of a line, at most 2^30 lines.
-/
import Derived.Test.YtocaiojdmnfamaaTreeMem
import Derived.Deep.LoopGhost
import Derived.WalkMore
import Derived.RegionTactic
namespace Go.Proofs.Ytocaiojdmnfamaa
open Go.RowKit

def FewS (w : World) (n m : Nat) (e : Ending) (w' : World) : Prop := ∃ b, e = .returned (.bool b) ∧ (b = true → n ≤ m) ∧ Below w.heap.size w w'

theorem small_any (A : Option Addr) (c : Nat) (t : List T.Ln) (w : World) (hA : Seen eL w A t) :
    Calls Try.prog 9 #[.slice A t.length c] w (FewS w t.length 220) := by
  have HA := Lib.hid hA
  clear hA
  by_cases h220 : t.length ≤ 220
  · have b220 : decide ((220 : Int) < (t.length : Int)) = false := by simp; omega
    go_enter Try.func9, Try.ntmps9
    go_wp2
    go_loopg [3] t.length (fun g i wr => ∃ k : Nat, Hid (k + g = t.length) ∧ k ≤ t.length ∧ i = .int .i64 k ∧ w = wr)
    case atStart => exact ⟨0, Nat.zero_add _, Nat.zero_le _, rfl, rfl⟩
    case round =>
      obtain ⟨k, HG, hk, rfl, rfl⟩ := hrel
      by_cases hlt : k < t.length
      · obtain ⟨b, o, rfl, hbw, hL⟩ := HA.out.lines (by omega)
        obtain ⟨_, c1, _⟩ := hL.line hlt
        by_cases h100 : 100 < (sB (T.wd t k)).size
        · have b100 : decide ((100 : Int) < ((sB (T.wd t k)).size : Int)) = true := by simp; omega
          go_wp2
          go_ret
          exact ⟨false, rfl, (fun h => by cases h), Below.refl _ _⟩
        · have b100 : decide ((100 : Int) < ((sB (T.wd t k)).size : Int)) = false := by simp; omega
          go_wp2
          go_roundg (t.length - (k + 1))
          case rel => exact ⟨k + 1, (by show _ = _; omega), by omega, by go_num, rfl⟩
          case measure => have := HG.out; omega
      · go_wp2
        go_ret
        exact ⟨true, rfl, (fun _ => h220), Below.refl _ _⟩
  · have b220 : decide ((220 : Int) < (t.length : Int)) = true := by simp; omega
    go_enter Try.func9, Try.ntmps9
    go_wp2
    go_ret
    exact ⟨false, rfl, (fun h => by cases h), Below.refl _ _⟩

theorem refUnder_any (A : Option Addr) (c : Nat) (t : List T.Ln) (i : Nat) (w : World) (hA : Seen eL w A t) (hi : i < t.length) (hl : t.length ≤ 1073741824) :
    Calls Try.prog 20 #[.slice A t.length c, .int .i64 i] w (IntS w (T.underL t i)) := by
  obtain ⟨b, o, rfl, hbw, hL⟩ := hA.lines (by omega)
  have HL := Lib.hid hL
  clear hA hL
  go_enter Try.func20, Try.ntmps20
  go_wp2
  go_loopg [5, 6] i (fun g u k wr => ∃ j : Nat, Hid (j + g = i) ∧ j ≤ i ∧ k = .int .i64 j ∧ u = .int .i64 (T.underF t (T.dp t i) j) ∧ Below w.heap.size w wr)
  case atStart => exact ⟨0, Nat.zero_add _, Nat.zero_le _, rfl, rfl, Below.refl _ _⟩
  case round =>
    obtain ⟨j, HG, hj, rfl, rfl, hb⟩ := hrel
    by_cases hlt : j < i
    · obtain ⟨c0, _, _⟩ := (HL.out.below hb hbw).line (show j < t.length by omega)
      obtain ⟨d0, _, _⟩ := (HL.out.below hb hbw).line hi
      by_cases hd : T.dp t j < T.dp t i
      · have bd : decide (T.dp t j < T.dp t i) = true := decide_eq_true hd
        have HN := Lib.hid (show T.underF t (T.dp t i) (j + 1) = (j : Int) by simp only [T.underF]; rw [if_pos hd])
        clear hd
        go_wp2
        go_region
        go_wp2
        go_roundg (i - (j + 1))
        case rel => exact ⟨j + 1, (by show _ = _; omega), by omega, by go_num, by rw [HN.out], hb.drew⟩
        case measure => have := HG.out; omega
      · have bd : decide (T.dp t j < T.dp t i) = false := decide_eq_false hd
        have HN := Lib.hid (show T.underF t (T.dp t i) (j + 1) = T.underF t (T.dp t i) j by conv => lhs; simp only [T.underF]; rw [if_neg hd])
        clear hd
        go_wp2
        go_region
        go_wp2
        go_roundg (i - (j + 1))
        case rel => exact ⟨j + 1, (by show _ = _; omega), by omega, by go_num, by rw [HN.out], hb.drew⟩
        case measure => have := HG.out; omega
    · obtain rfl : j = i := by omega
      go_wp2
      go_ret
      exact ⟨rfl, hb⟩
end Go.Proofs.Ytocaiojdmnfamaa
