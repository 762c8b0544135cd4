/-
  Contract of the statements' same (layer 2): two lists that read as the same tokens are the same; below the heap's size at the call the world is as it was. Condition: at most 2^20 tokens.
-/
import Derived.Test.YtccbdogfapiidaaLexRefs
import Derived.RegionTactic
namespace Go.Proofs.Ytccbdogfapiidaa
open Go.RowKit

set_option maxRecDepth 100000 in
set_option maxHeartbeats 1000000 in
theorem same_yes (A B : Option Addr) (c d : Nat) (l : List W.Tok) (w : World) (hl : l.length ≤ 1048576) (hA : ViewT w A l) (hB : ViewT w B l) :
    Calls Try.prog 13 #[.slice A l.length c, .slice B l.length d] w (TrueS w) := by
  have HA := Lib.hid hA
  have HB := Lib.hid hB
  clear hA hB
  go_enter Try.func13, Try.ntmps13
  go_wp2
  go_loopg [13] l.length (fun g i wr => ∃ k : Nat, Hid (k + g = l.length) ∧ k ≤ l.length ∧ i = .int .i64 k ∧ Below w.heap.size w wr)
  case atStart => exact ⟨0, Nat.zero_add _, Nat.zero_le _, rfl, Below.refl _ _⟩
  case round =>
    obtain ⟨k, HG, hk, rfl, hb⟩ := hrel
    by_cases hlt : k < l.length
    · obtain ⟨g1, rfl, hg1⟩ := HA.out (by omega)
      obtain ⟨g2, rfl, hg2⟩ := HB.out (by omega)
      obtain ⟨kd, pos, wd, bt, ht⟩ : ∃ kd pos wd bt, l[k] = ⟨kd, pos, wd, bt⟩ := ⟨_, _, _, _, rfl⟩
      obtain ⟨c0, c1, c2, c3⟩ := HoldsT.cells (hg1.below hb) hlt ht
      obtain ⟨d0, d1, d2, d3⟩ := HoldsT.cells (hg2.below hb) hlt ht
      clear ht
      go_wp2
      go_region
      go_wp2
      go_roundg (l.length - (k + 1))
      case rel => exact ⟨k + 1, (by show _ = _; omega), by omega, by go_num, hb.drew⟩
      case measure => have := HG.out; omega
    · go_wp2
      go_ret
      exact ⟨rfl, hb⟩
end Go.Proofs.Ytccbdogfapiidaa
