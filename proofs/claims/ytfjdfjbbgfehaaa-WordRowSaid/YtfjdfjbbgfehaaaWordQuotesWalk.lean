/-
  The walk of layer 1's statement WordQuotes: it returns true whatever the string is. No conditions.
-/
import Derived.Test.YtfjdfjbbgfehaaaWordApartWalk
import Derived.Test.YtfjdfjbbgfehaaaWordRefQ
namespace Go.Proofs.Ytfjdfjbbgfehaaa
open Go.RowKit

theorem quote_long (s : ByteArray) (w : World) (h40 : ¬ s.size ≤ 40) : Calls Try.prog 10 #[.string s] w (WroteS w.heap.size w [] 5) := by
  have h := quote_any s w
  rw [if_neg h40, if_neg h40] at h
  exact h
theorem plain_is (s : ByteArray) (w : World) (b : Bool) (hs : s.size ≤ 1099511627776) (h : W.plainL s.data.toList = b) : Calls Try.prog 11 #[.string s] w fun e w' => e = .returned (.bool b) ∧ w = w' := by
  rw [← h]; exact plain_any s w hs
theorem bare_is (s : ByteArray) (w : World) (b : Bool) (hs : s.size ≤ 1099511627776) (h : W.bareL s.data.toList = b) : Calls Try.prog 12 #[.string s] w fun e w' => e = .returned (.bool b) ∧ w = w' := by
  rw [← h]; exact BareR_any s w hs
theorem scan_is (s : ByteArray) (a : Int) (n : Nat) (w : World) (hs : s.size ≤ 1099511627776) (h : W.scanL s.data.toList a = some n) : Calls Try.prog 14 #[.string s, .int .i64 a] w fun e w' => e = .returned (.tuple #[.int .i64 n, .bool true]) ∧ w = w' := by
  have := scan_any s a w hs
  rw [h] at this
  exact this
theorem quoteR_is (s : ByteArray) (q : List UInt8) (w : World) (hs : s.size ≤ 1073741824) (h : W.quoteL s.data.toList = q) : Calls Try.prog 15 #[.string s] w (WroteQ w.heap.size w q) := by
  rw [← h]; exact quoteR_any s w hs

set_option maxHeartbeats 1000000 in
theorem wordQuotes_walk (s : ByteArray) (hs : s.size ≤ maxLen) (w : World) :
    Calls Try.prog 3 #[.string s] w (TrueS w) := by
  unfold maxLen at hs
  by_cases h100 : s.size ≤ 100
  · by_cases h40 : s.size ≤ 40
    · obtain ⟨q, hq⟩ : ∃ q, W.quoteL s.data.toList = q := ⟨_, rfl⟩
      obtain ⟨b, hb⟩ : ∃ b, W.bareL s.data.toList = b := ⟨_, rfl⟩
      have hp : W.plainL s.data.toList = b := by
        unfold W.plainL
        have : decide (s.data.toList.length ≤ 40) = true := by rw [← Lib.size_eq]; exact decide_eq_true h40
        rw [this, Bool.true_and, hb]
      have hl := W.quote_len s.data.toList
      rw [hq, ← Lib.size_eq] at hl
      have hl2 := hl.2
      have hu : W.unqL q = (s.data.toList, 0) := by rw [← hq]; exact W.unq_quote _ (by rw [← Lib.size_eq]; exact h40)
      have hsc : W.scanL q 0 = some q.length := by rw [← hq]; exact W.scanL_quote _
      have hz : (⟨q.toArray⟩ : ByteArray).size = q.length := sz q
      have HQ := Lib.hid hq
      have HP := Lib.hid hp
      have HB := Lib.hid hb
      have HU := Lib.hid hu
      have HS := Lib.hid hsc
      have HZ := Lib.hid hz
      have hz2 : (⟨q.toArray⟩ : ByteArray).size ≤ 1099511627776 := by rw [hz]; omega
      clear hq hp hb hu hsc hz hl
      go_enter Try.func3, Try.ntmps3
      go_wp2_with fail
      refine (quote_is s q _ h40 HQ.out).mono ?_
      rintro e w1 ⟨rfl, hb1⟩
      go_wp2_with fail
      refine (plain_is s _ b (by omega) HP.out).mono ?_
      rintro e w' ⟨rfl, rfl⟩
      go_wp2_with fail
      refine (bare_is s _ b (by omega) HB.out).mono ?_
      rintro e w' ⟨rfl, rfl⟩
      go_wp2_with fail
      refine (unq_is ⟨q.toArray⟩ s.data.toList 0 _ hz2 HU.out).mono ?_
      rintro e w2 ⟨rfl, hb2⟩
      rw [Lib.mk_data]
      go_wp2_with fail
      refine (scan_is ⟨q.toArray⟩ 0 q.length _ hz2 HS.out).mono ?_
      rintro e w' ⟨rfl, rfl⟩
      go_wp2_with fail
      refine (quoteR_is s q _ (by omega) HQ.out).mono ?_
      rintro e w3 ⟨rfl, hb3⟩
      have hz := HZ.out
      go_wp2_with fail
      refine (awake_any _).mono ?_
      rintro e w4 ⟨rfl, hb4⟩
      go_wp2
      go_ret
      exact ⟨rfl, bthen (bthen (bthen hb1 hb2) hb3) hb4⟩
    · have hp : W.plainL s.data.toList = false := (W.plain_c s (by omega)).symm
      have HP := Lib.hid hp
      clear hp
      go_enter Try.func3, Try.ntmps3
      go_wp2_with fail
      refine (quote_long s _ h40).mono ?_
      rintro e w1 ⟨rfl, hb1⟩
      go_wp2_with fail
      refine (plain_is s _ false (by omega) HP.out).mono ?_
      rintro e w' ⟨rfl, rfl⟩
      go_wp2_with fail
      refine (awake_any _).mono ?_
      rintro e w4 ⟨rfl, hb4⟩
      go_wp2
      go_ret
      exact ⟨rfl, bthen hb1 hb4⟩
  · go_enter Try.func3, Try.ntmps3
    go_wp2_with fail
    refine (awake_any _).mono ?_
    rintro e w1 ⟨rfl, hb1⟩
    go_wp2
    go_ret
    exact ⟨rfl, hb1⟩
end Go.Proofs.Ytfjdfjbbgfehaaa
