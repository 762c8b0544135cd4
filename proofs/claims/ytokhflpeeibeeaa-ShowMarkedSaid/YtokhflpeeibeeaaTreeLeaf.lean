/-
  Contracts of layer 3's inner functions under and end, and of the document's Small, Short, Under and End: what they return is what the plain definitions say; below the heap's size at the call the world is as it was. Condition: a place of a line, at most 2^30 lines.
-/
import Derived.Test.YtokhflpeeibeeaaTreeMem
import Derived.Deep.LoopGhost
import Derived.WalkMore
import Derived.RegionTactic
namespace Go.Proofs.Ytokhflpeeibeeaa
open Go.RowKit

def FewS (w : World) (n m : Nat) (e : Ending) (w' : World) : Prop := ∃ b, e = .returned (.bool b) ∧ (b = true → n ≤ m) ∧ Below w.heap.size w w'

theorem small_any (A : Option Addr) (c : Nat) (t : List T.Ln) (w : World) (hA : Seen eL w A t) :
    Calls Try.prog 9 #[.slice A t.length c] w (FewS w t.length 220) := by
  have HA := Lib.hid hA
  clear hA
  by_cases h220 : t.length ≤ 220
  · have b220 : decide ((220 : Int) < (t.length : Int)) = false := by simp; omega
    go_enter Try.func9, Try.ntmps9
    go_wp2
    go_loopg [3] t.length (fun g i wr => ∃ k : Nat, Hid (k + g = t.length) ∧ k ≤ t.length ∧ i = .int .i64 k ∧ w = wr)
    case atStart => exact ⟨0, Nat.zero_add _, Nat.zero_le _, rfl, rfl⟩
    case round =>
      obtain ⟨k, HG, hk, rfl, rfl⟩ := hrel
      by_cases hlt : k < t.length
      · obtain ⟨b, o, rfl, hbw, hL⟩ := HA.out.lines (by omega)
        obtain ⟨_, c1, _⟩ := hL.line hlt
        by_cases h100 : 100 < (sB (T.wd t k)).size
        · have b100 : decide ((100 : Int) < ((sB (T.wd t k)).size : Int)) = true := by simp; omega
          go_wp2
          go_ret
          exact ⟨false, rfl, (fun h => by cases h), Below.refl _ _⟩
        · have b100 : decide ((100 : Int) < ((sB (T.wd t k)).size : Int)) = false := by simp; omega
          go_wp2
          go_roundg (t.length - (k + 1))
          case rel => exact ⟨k + 1, (by show _ = _; omega), by omega, by go_num, rfl⟩
          case measure => have := HG.out; omega
      · go_wp2
        go_ret
        exact ⟨true, rfl, (fun _ => h220), Below.refl _ _⟩
  · have b220 : decide ((220 : Int) < (t.length : Int)) = true := by simp; omega
    go_enter Try.func9, Try.ntmps9
    go_wp2
    go_ret
    exact ⟨false, rfl, (fun h => by cases h), Below.refl _ _⟩

end Go.Proofs.Ytokhflpeeibeeaa
