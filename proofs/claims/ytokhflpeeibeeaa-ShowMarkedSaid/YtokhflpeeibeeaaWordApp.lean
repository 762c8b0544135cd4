/-
  Contracts of layer 1's appendQuoted and Quote: what is written is what the plain definitions say; below the heap's size at the call the world is as it was. Condition: strings of at most 2^40 bytes.
-/
import Derived.Test.YtokhflpeeibeeaaWordOne
import Derived.Test.YtokhflpeeibeeaaOwnB
namespace Go.Proofs.Ytokhflpeeibeeaa
open Go.RowKit

theorem plain_any (s : ByteArray) (w : World) (hs : s.size ≤ 1099511627776) :
    Calls Try.prog 37 #[.string s] w fun e w' => e = .returned (.bool (W.plainL s.data.toList)) ∧ w = w' := by
  go_enter Try.func37, Try.ntmps37
  go_wp2_with (first | (go_at_call 41; refine (allPlain_any _ _ hs).mono ?_; rintro e w' ⟨rfl, rfl⟩) | (go_at_call 42; refine (reserved_any _ _).mono ?_; rintro e w' ⟨rfl, rfl⟩))
  · go_ret
    exact ⟨ret_bool (W.plain_a s (by omega) ‹_›), rfl⟩
  · go_ret
    exact ⟨ret_bool (W.plain_b s ‹_›), rfl⟩
  · go_ret
    exact ⟨ret_bool (W.plain_c s (by omega)), rfl⟩
theorem and15 (c : UInt8) : bits BinOp.and IntKind.u8 (c.toNat : Int) 15 = (c.toNat : Int) % 16 := by
  have := W.byte_all (fun c => decide (bits BinOp.and IntKind.u8 (c.toNat : Int) 15 = (c.toNat : Int) % 16)) (by decide +kernel) c
  exact of_decide_eq_true this

set_option maxHeartbeats 400000 in
theorem appendQuoted_any (v : Value) (l : List UInt8) (c : UInt8) (w : World) (base : Nat) (hb : base ≤ w.heap.size) (hl : l.length ≤ 1099511627776) (hown : OwnB w base v l) :
    Calls Try.prog 38 #[v, .int .u8 c.toNat] w (GrewB base w (l ++ W.encB c)) := by
  by_cases hq : c.toNat = 34 ∨ c.toNat = 92
  · have HE : Hid (W.encB c = [92, c]) := W.enc_esc hq
    by_cases h34 : c.toNat = 34
    · have b34 : ((c.toNat : Int) == 34) = true := by simp; omega
      clear hq h34
      go_enter Try.func38, Try.ntmps38
      go_wp2_with (at_builtin; refine wpList_appB w rfl (.tmp 11) (.tmp 13) rfl base v l rfl hown [92, c] 2 2 _ rfl rfl rfl (by omega) hb ?_; intro v1 w1 hown1 hb1)
      go_ret
      exact ⟨v1, rfl, by rw [HE.out]; exact hown1, hb1⟩
    · have b34 : ((c.toNat : Int) == 34) = false := by simp; omega
      have b92 : ((c.toNat : Int) == 92) = true := by simp; omega
      clear hq h34
      go_enter Try.func38, Try.ntmps38
      go_wp2_with (at_builtin; refine wpList_appB w rfl (.tmp 11) (.tmp 13) rfl base v l rfl hown [92, c] 2 2 _ rfl rfl rfl (by omega) hb ?_; intro v1 w1 hown1 hb1)
      go_ret
      exact ⟨v1, rfl, by rw [HE.out]; exact hown1, hb1⟩
  have b34 : ((c.toNat : Int) == 34) = false := by simp; omega
  have b92 : ((c.toNat : Int) == 92) = false := by simp; omega
  cases hsh : W.shownB c with
  | true =>
    have HE : Hid (W.encB c = [c]) := W.enc_self hq hsh
    go_enter Try.func38, Try.ntmps38
    go_wp2_with (first | (go_at_call 43; refine (shown_any _ _).mono ?_; rintro e w' ⟨rfl, rfl⟩) | (at_builtin; refine wpList_appB w rfl (.tmp 17) (.tmp 19) rfl base v l rfl hown [c] 1 1 _ rfl rfl rfl (by omega) hb ?_; intro v1 w1 hown1 hb1))
    go_ret
    exact ⟨v1, rfl, by rw [HE.out]; exact hown1, hb1⟩
  | false =>
    have HE : Hid (W.encB c = [92, 120, W.hexD (c.toNat / 16), W.hexD (c.toNat % 16)]) := W.enc_hex hq hsh
    have hand := and15 c
    have d0 : (0 : Int) ≤ (c.toNat : Int) / 16 := by omega
    have d1 : (c.toNat : Int) / 16 < 16 := by have := c.toNat_lt; omega
    have m0 : (0 : Int) ≤ (c.toNat : Int) % 16 := by omega
    have m1 : (c.toNat : Int) % 16 < 16 := by omega
    go_enter Try.func38, Try.ntmps38
    go_wp2_with (go_at_call 43; refine (shown_any _ _).mono ?_; rintro e w' ⟨rfl, rfl⟩)
    go_region_law (refine step_appB w rfl (.tmp 21) (.tmp 28) rfl base v l rfl hown [92, 120, _, _] 4 4 _ rfl rfl rfl (by omega) hb ?_; intro v1 w1 hown1 hb1)
    all_goals
      go_wp2
      go_ret
      refine ⟨v1, rfl, ?_, hb1⟩
      rw [HE.out, ← W.hex_list c (by omega) (by omega)]
      exact hown1

set_option maxHeartbeats 800000 in
theorem quote_any (s : ByteArray) (w : World) :
    Calls Try.prog 32 #[.string s] w (WroteS w.heap.size w (if s.size ≤ 40 then W.quoteL s.data.toList else []) (if s.size ≤ 40 then 0 else 5)) := by
  by_cases h40 : s.size ≤ 40
  · rw [if_pos h40, if_pos h40]
    cases hp : W.plainL s.data.toList with
    | true =>
      have HQ : Hid (W.quoteL s.data.toList = s.data.toList) := W.quote_plain hp
      go_enter Try.func32, Try.ntmps32
      go_wp2_with (go_at_call 37; refine (plain_any _ _ (by omega)).mono ?_; rintro e w' ⟨rfl, rfl⟩)
      go_ret2
      exact ⟨by rw [HQ.out, Lib.mk_data]; rfl, Below.refl _ _⟩
    | false =>
      have HQ : Hid (W.quoteL s.data.toList = W.quotedL s.data.toList) := W.quote_quoted s h40 hp
      go_enter Try.func32, Try.ntmps32
      go_wp2_with (go_at_call 37; refine (plain_any _ _ (by omega)).mono ?_; rintro e w' ⟨rfl, rfl⟩)
      go_loopw [4, 5] (fun b i wr => ∃ k : Nat, k ≤ s.size ∧ i = .int .i64 k ∧ OwnB wr w.heap.size b (34 :: W.encL (s.data.toList.take k)) ∧ Below w.heap.size w wr) (fun _ i _ => s.size - (intOf i).toNat)
      case atStart => exact ⟨0, Nat.zero_le _, rfl, own_lit w _ (Nat.le_refl _) [34] _ rfl 1 rfl (by omega), (Below.refl _ _).alloc (Nat.le_refl _) _⟩
      case round =>
        obtain ⟨k, hk, rfl, hown, hb⟩ := hrel
        have hsz := hb.size
        have hen := W.encL_len (s.data.toList.take k)
        have htl : (s.data.toList.take k).length ≤ k := List.length_take_le _ _
        by_cases hlt : k < s.size
        · go_wp2_with (go_at_call 38; refine (appendQuoted_any _ (34 :: W.encL (s.data.toList.take k)) _ _ w.heap.size hsz (by simp only [List.length_cons]; omega) hown).mono ?_; rintro e w1 ⟨v1, rfl, hown1, hb1⟩)
          go_roundw
          case rel => exact ⟨k + 1, by omega, by go_num, by rw [W.take_snoc s k hlt, W.encL_snoc]; exact hown1, hb.trans hb1⟩
          case measure => simp [intOf]; omega
        · go_wp2_with (at_builtin; refine wpList_appB _ rfl (.tmp 24) (.tmp 25) rfl w.heap.size _ (34 :: W.encL (s.data.toList.take k)) rfl hown [34] 1 1 _ rfl rfl rfl (by simp only [List.length_cons]; omega) hsz ?_; intro v1 w1 hown1 hb1; have hcv := conv_own hown1)
          go_ret2
          refine ⟨?_, hb.trans hb1⟩
          rw [HQ.out, List.take_of_length_le (by rw [← Lib.size_eq]; omega)]
          rfl
  · rw [if_neg h40, if_neg h40]
    go_enter Try.func32, Try.ntmps32
    go_wp2
    go_ret2
    exact ⟨rfl, Below.refl _ _⟩
end Go.Proofs.Ytokhflpeeibeeaa
