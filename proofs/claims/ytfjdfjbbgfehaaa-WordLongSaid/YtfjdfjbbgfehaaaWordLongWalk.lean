/-
  The walk of layer 1's statement WordLong: it returns true whatever the string is. No conditions.
-/
import Derived.Test.YtfjdfjbbgfehaaaWordAwake
namespace Go.Proofs.Ytfjdfjbbgfehaaa
open Go.RowKit

set_option maxHeartbeats 800000 in
theorem wordLong_walk (s : ByteArray) (hs : s.size ≤ maxLen) (w : World) :
    Calls Try.prog 7 #[.string s] w (TrueS w) := by
  unfold maxLen at hs
  by_cases h40 : s.size ≤ 40
  · have HQ := quote_any s w
    rw [if_pos h40, if_pos h40] at HQ
    have hl := W.quote_len s.data.toList
    rw [← Lib.size_eq] at hl
    obtain ⟨q, hq⟩ : ∃ q, W.quoteL s.data.toList = q := ⟨_, rfl⟩
    rw [hq] at HQ hl
    have hz := sz q
    obtain ⟨n, hn⟩ : ∃ n, q.length = n := ⟨_, rfl⟩
    rw [hn] at hz hl
    clear hq hn
    have l1 : s.size ≤ n := hl.1
    have l2 : n ≤ 4 * s.size + 2 := hl.2
    have H := Lib.hid HQ
    clear HQ hl
    go_enter Try.func7, Try.ntmps7
    go_wp2_with fail
    refine H.out.mono ?_
    rintro e w1 ⟨rfl, hb1⟩
    go_wp2_with fail
    refine (awake_any _).mono ?_
    rintro e w2 ⟨rfl, hb2⟩
    go_wp2
    go_ret
    exact ⟨rfl, hb1.trans (hb2.mono hb1.size)⟩
  · go_enter Try.func7, Try.ntmps7
    go_wp2_with fail
    refine (awake_any _).mono ?_
    rintro e w1 ⟨rfl, hb1⟩
    go_wp2
    go_ret
    exact ⟨rfl, hb1⟩
end Go.Proofs.Ytfjdfjbbgfehaaa
