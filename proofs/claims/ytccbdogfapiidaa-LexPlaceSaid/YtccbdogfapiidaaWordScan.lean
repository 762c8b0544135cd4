/-
  Contracts of layer 1's Scan, and of quotedEnd, one and coded beneath Unquote: they return what the plain definitions say, and leave the world as it was. Condition: strings of at most 2^40 bytes.
-/
import Derived.Test.YtccbdogfapiidaaWordLeaf
import Derived.Test.YtccbdogfapiidaaWordPure2
namespace Go.Proofs.Ytccbdogfapiidaa
open Go.RowKit

theorem ret_int_bool {a b : Int} {c d : Bool} (h : a = b) (h2 : c = d) : Ending.returned (.tuple #[.int .i64 a, .bool c]) = .returned (.tuple #[.int .i64 b, .bool d]) := by rw [h, h2]
theorem ret_byte_int {a b c d : Int} (h : a = b) (h2 : c = d) : Ending.returned (.tuple #[.int .u8 a, .int .i64 c]) = .returned (.tuple #[.int .u8 b, .int .i64 d]) := by rw [h, h2]

set_option maxHeartbeats 400000 in
theorem quotedEnd_any (s : ByteArray) (a : Nat) (w : World) (hs : s.size ≤ 1099511627776) (ha : a < s.size) :
    Calls Try.prog 41 #[.string s, .int .i64 a] w fun e w' => e = .returned (.tuple #[.int .i64 (W.optN (W.qFrom s.data.toList (a + 1))), .bool (W.qFrom s.data.toList (a + 1)).isSome]) ∧ w = w' := by
  go_enter Try.func41, Try.ntmps41
  go_wp2
  go_loop [6] (fun i => ∃ k : Nat, k ≤ s.size + 1 ∧ i = .int .i64 k ∧ Hid (W.qFrom s.data.toList (a + 1) = W.qFrom s.data.toList k)) (fun i => s.size + 1 - (intOf i).toNat)
  case atStart => exact ⟨a + 1, by omega, by go_num, rfl⟩
  case round =>
    obtain ⟨k, hk, rfl, H⟩ := hrel
    by_cases hlt : k < s.size
    · go_wp2
      · have h1 : ((s[k].toNat : Int) == 34) = true := by assumption
        go_ret2
        exact ⟨ret_int_bool (by rw [H.out, W.qFrom_hit s k hlt (by simp at h1; omega)]; simp [W.optN]) (by rw [H.out, W.qFrom_hit s k hlt (by simp at h1; omega)]; rfl), rfl⟩
      · have h1 : ((s[k].toNat : Int) == 34) = false := by assumption
        have h2 : ((s[k].toNat : Int) == 92) = true := by assumption
        go_round
        case rel => exact ⟨k + 2, by omega, by go_num, by rw [H.out]; exact W.qFrom_back s k hlt (by simp at h2; omega)⟩
        case measure => simp [intOf]; omega
      · have h1 : ((s[k].toNat : Int) == 34) = false := by assumption
        have h2 : ((s[k].toNat : Int) == 92) = false := by assumption
        go_round
        case rel => exact ⟨k + 1, by omega, by go_num, by rw [H.out]; exact W.qFrom_plain s k hlt (by simp at h1; omega) (by simp at h2; omega)⟩
        case measure => simp [intOf]; omega
    · go_wp2
      go_ret2
      exact ⟨ret_int_bool (by rw [H.out, W.qFrom_over s k (by omega)]; rfl) (by rw [H.out, W.qFrom_over s k (by omega)]; rfl), rfl⟩

set_option maxHeartbeats 400000 in
theorem scan_any (s : ByteArray) (a : Int) (w : World) (hs : s.size ≤ 1099511627776) :
    Calls Try.prog 32 #[.string s, .int .i64 a] w fun e w' => e = .returned (.tuple #[.int .i64 (W.optN (W.scanL s.data.toList a)), .bool (W.scanL s.data.toList a).isSome]) ∧ w = w' := by
  by_cases h0 : a < 0
  · go_enter Try.func32, Try.ntmps32
    go_wp2
    go_ret2
    exact ⟨ret_int_bool (by rw [W.scan_neg _ _ h0]; rfl) (by rw [W.scan_neg _ _ h0]; rfl), rfl⟩
  · obtain ⟨k, rfl⟩ := Int.eq_ofNat_of_zero_le (show 0 ≤ a by omega)
    by_cases hlt : k < s.size
    · by_cases hc : s[k].toNat = 34
      · have hb : ((s[k].toNat : Int) == 34) = true := by simp; omega
        have HC := Lib.hid hc
        clear hc
        go_enter Try.func32, Try.ntmps32
        go_wp2_with (go_at_call 41; refine (quotedEnd_any _ _ _ hs hlt).mono ?_; rintro e w' ⟨rfl, rfl⟩)
        go_ret2
        exact ⟨ret_int_bool (by rw [W.scan_quote s k hlt HC.out]) (by rw [W.scan_quote s k hlt HC.out]), rfl⟩
      · have hb : ((s[k].toNat : Int) == 34) = false := by simp; omega
        go_enter Try.func32, Try.ntmps32
        go_wp2
        go_loop [6] (fun i => ∃ j : Nat, k ≤ j ∧ j ≤ s.size ∧ i = .int .i64 j ∧ Hid (W.plainRun (s.data.toList.drop k) = j - k + W.plainRun (s.data.toList.drop j))) (fun i => s.size - (intOf i).toNat)
        case atStart => exact ⟨k, by omega, by omega, rfl, by simp [Hid]⟩
        case round =>
          obtain ⟨j, hj, hjs, rfl, H⟩ := hrel
          have hsc := Lib.hid (W.scan_plain s k hlt hc)
          by_cases hjl : j < s.size
          · cases hp : W.plainB s[j]
            · have hz := Lib.hid (W.plainRun_stop s j hjl hp)
              by_cases hjk : j = k
              · obtain rfl := hjk
                go_wp2_with (go_at_call 42; refine (plainByte_any _ _).mono ?_; rintro e w' ⟨rfl, rfl⟩)
                go_ret2
                exact ⟨ret_int_bool (by rw [hsc.out, H.out, hz.out]; simp [W.optN]) (by rw [hsc.out, H.out, hz.out]; simp), rfl⟩
              · have hjk2 : ((j : Int) == (k : Int)) = false := by simp; omega
                go_wp2_with (go_at_call 42; refine (plainByte_any _ _).mono ?_; rintro e w' ⟨rfl, rfl⟩)
                go_ret2
                have hne : ¬ (j - k + 0 = 0) := by omega
                exact ⟨ret_int_bool (by rw [hsc.out, H.out, hz.out, if_neg hne]; simp [W.optN]; omega) (by rw [hsc.out, H.out, hz.out, if_neg hne]; rfl), rfl⟩
            · have hz := Lib.hid (W.plainRun_at s j hjl hp)
              go_wp2_with (go_at_call 42; refine (plainByte_any _ _).mono ?_; rintro e w' ⟨rfl, rfl⟩)
              go_round
              case rel => exact ⟨j + 1, by omega, by omega, by go_num, by rw [H.out, hz.out]; show _ = _; omega⟩
              case measure => simp [intOf]; omega
          · have hz := Lib.hid (W.plainRun_over s j (by omega))
            have hjk2 : ((j : Int) == (k : Int)) = false := by simp; omega
            go_wp2
            go_ret2
            have hne : ¬ (j - k + 0 = 0) := by omega
            exact ⟨ret_int_bool (by rw [hsc.out, H.out, hz.out, if_neg hne]; simp [W.optN]; omega) (by rw [hsc.out, H.out, hz.out, if_neg hne]; rfl), rfl⟩
    · go_enter Try.func32, Try.ntmps32
      go_wp2
      go_ret2
      exact ⟨ret_int_bool (by rw [W.scan_over s k (by omega)]; rfl) (by rw [W.scan_over s k (by omega)]; rfl), rfl⟩
end Go.Proofs.Ytccbdogfapiidaa
