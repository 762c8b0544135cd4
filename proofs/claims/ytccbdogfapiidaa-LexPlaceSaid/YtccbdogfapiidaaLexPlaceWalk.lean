/-
  The walk of layer 2's statement LexPlace: it returns true whatever the string and the place are. No conditions.
-/
import Derived.Test.YtccbdogfapiidaaLexAwake
namespace Go.Proofs.Ytccbdogfapiidaa
open Go.RowKit

set_option maxHeartbeats 1000000 in
theorem lexPlace_walk (s : ByteArray) (hs : s.size ≤ maxLen) (a : Int) (_wa : (Lit.int .i64 a).wf = true) (w : World) :
    Calls Try.prog 4 #[.string s, .int .i64 a] w (TrueS w) := by
  unfold maxLen at hs
  by_cases h600 : s.size ≤ 600
  · obtain ⟨m, hm, hc⟩ := cut_cases s a
    have HC := Lib.hid hc
    clear hc
    go_enter Try.func4, Try.ntmps4
    go_wp2_with fail
    refine (place_is s a m _ (by omega) hm HC.out).mono ?_
    rintro e w' ⟨rfl, rfl⟩
    go_wp2_with fail
    refine (placeR_is s a m _ (by omega) hm HC.out).mono ?_
    rintro e w' ⟨rfl, rfl⟩
    go_wp2_with fail
    refine (awake_any _).mono ?_
    rintro e w4 ⟨rfl, hb4⟩
    go_wp2
    go_ret
    exact ⟨rfl, hb4⟩
  · go_enter Try.func4, Try.ntmps4
    go_wp2_with fail
    refine (awake_any _).mono ?_
    rintro e w1 ⟨rfl, hb1⟩
    go_wp2
    go_ret
    exact ⟨rfl, hb1⟩
end Go.Proofs.Ytccbdogfapiidaa
