/-
  The walk of layer 1's statement WordApart: it returns true whatever the strings are. No conditions.
-/
import Derived.Test.YtfjdfjbbgfehaaaWordAwake
import Derived.Test.YtfjdfjbbgfehaaaWordPure4
namespace Go.Proofs.Ytfjdfjbbgfehaaa
open Go.RowKit

theorem quote_is (s : ByteArray) (q : List UInt8) (w : World) (h40 : s.size ≤ 40) (hq : W.quoteL s.data.toList = q) : Calls Try.prog 10 #[.string s] w (WroteS w.heap.size w q 0) := by
  have h := quote_any s w
  rw [if_pos h40, if_pos h40, hq] at h
  exact h
theorem unq_is (s : ByteArray) (x : List UInt8) (k : Int) (w : World) (hs : s.size ≤ 1099511627776) (hq : W.unqL s.data.toList = (x, k)) : Calls Try.prog 13 #[.string s] w (WroteS w.heap.size w x k) := by
  have h := unquote_any s w hs
  rw [hq] at h
  exact h

set_option maxHeartbeats 800000 in
theorem wordApart_walk (a : ByteArray) (ha : a.size ≤ maxLen) (b : ByteArray) (hb : b.size ≤ maxLen) (t : ByteArray) (ht : t.size ≤ maxLen) (w : World) :
    Calls Try.prog 5 #[.string a, .string b, .string t] w (TrueS w) := by
  unfold maxLen at ha hb ht
  by_cases h1 : a.size ≤ 40
  · by_cases h2 : b.size ≤ 40
    · by_cases h3 : t.size ≤ 300
      · obtain ⟨qa, hqa⟩ : ∃ q, W.quoteL a.data.toList = q := ⟨_, rfl⟩
        obtain ⟨qb, hqb⟩ : ∃ q, W.quoteL b.data.toList = q := ⟨_, rfl⟩
        have HA := Lib.hid hqa
        have HB := Lib.hid hqb
        have heq : (qa == qb) = (a.toList == b.toList) := by
          rw [Lib.toList_data, Lib.toList_data, Bool.eq_iff_iff, beq_iff_eq, beq_iff_eq]
          constructor
          · intro h; exact W.quote_inj (by rw [hqa, hqb, h])
          · intro h; rw [← hqa, ← hqb, h]
        have HE := Lib.hid heq
        clear hqa hqb heq
        go_enter Try.func5, Try.ntmps5
        go_wp2_with fail
        refine (quote_is a qa _ h1 HA.out).mono ?_
        rintro e w1 ⟨rfl, hb1⟩
        go_wp2_with fail
        refine (quote_is b qb _ h2 HB.out).mono ?_
        rintro e w2 ⟨rfl, hb2⟩
        have heq := HE.out
        go_wp2_with fail
        clear heq
        obtain ⟨x, k, hx⟩ : ∃ x k, W.unqL t.data.toList = (x, k) := ⟨_, _, rfl⟩
        have HX := Lib.hid hx
        by_cases hk : k = 0
        · obtain rfl := hk
          have hl := W.unq_len hx
          obtain ⟨qx, hqx⟩ : ∃ q, W.quoteL x = q := ⟨_, rfl⟩
          rw [hqx] at hl
          have hl1 := hl.1
          have hl2 : qx.length ≤ t.size + 2 := by rw [Lib.size_eq]; exact hl.2
          have HQ := Lib.hid hqx
          have hu : W.unqL qx = (x, 0) := by rw [← hqx]; exact W.unq_quote x hl1
          have HU := Lib.hid hu
          have hz : (⟨qx.toArray⟩ : ByteArray).size = qx.length := by show qx.toArray.size = _; simp
          have hz2 : (⟨x.toArray⟩ : ByteArray).size ≤ 40 := by show x.toArray.size ≤ _; simpa using hl1
          have HZ := Lib.hid hz
          clear hz hu hqx hx hl
          refine (unq_is t x 0 _ (by omega) HX.out).mono ?_
          rintro e w3 ⟨rfl, hb3⟩
          go_wp2_with fail
          refine (quote_is ⟨x.toArray⟩ qx _ hz2 HQ.out).mono ?_
          rintro e w4 ⟨rfl, hb4⟩
          go_wp2_with fail
          refine (unq_is ⟨qx.toArray⟩ x 0 _ (by rw [HZ.out]; omega) HU.out).mono ?_
          rintro e w5 ⟨rfl, hb5⟩
          have hz := HZ.out
          go_wp2_with fail
          refine (awake_any _).mono ?_
          rintro e w6 ⟨rfl, hb6⟩
          go_wp2
          go_ret
          exact ⟨rfl, bthen (bthen (bthen (bthen (bthen hb1 hb2) hb3) hb4) hb5) hb6⟩
        · have hx0 : x = [] := by have := W.unq_err (t := t.data.toList) (by rw [hx]; exact hk); rw [hx] at this; exact this
          obtain rfl := hx0
          have hkb : (k != 0) = true := by simpa using hk
          clear hx hk
          refine (unq_is t [] k _ (by omega) HX.out).mono ?_
          rintro e w3 ⟨rfl, hb3⟩
          go_wp2_with fail
          refine (awake_any _).mono ?_
          rintro e w6 ⟨rfl, hb6⟩
          go_wp2
          go_ret
          exact ⟨rfl, bthen (bthen (bthen hb1 hb2) hb3) hb6⟩
      · go_enter Try.func5, Try.ntmps5
        go_wp2_with fail
        refine (awake_any _).mono ?_
        rintro e w1 ⟨rfl, hb1⟩
        go_wp2
        go_ret
        exact ⟨rfl, hb1⟩
    · go_enter Try.func5, Try.ntmps5
      go_wp2_with fail
      refine (awake_any _).mono ?_
      rintro e w1 ⟨rfl, hb1⟩
      go_wp2
      go_ret
      exact ⟨rfl, hb1⟩
  · go_enter Try.func5, Try.ntmps5
    go_wp2_with fail
    refine (awake_any _).mono ?_
    rintro e w1 ⟨rfl, hb1⟩
    go_wp2
    go_ret
    exact ⟨rfl, hb1⟩
end Go.Proofs.Ytfjdfjbbgfehaaa
