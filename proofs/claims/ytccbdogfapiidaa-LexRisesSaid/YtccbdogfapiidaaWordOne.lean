/-
  Contracts of one and coded (layer 1, beneath Unquote): they return what the plain definitions say, and leave the world as it was. Condition: strings of at most 2^40 bytes.
-/
import Derived.Test.YtccbdogfapiidaaWordScan
namespace Go.Proofs.Ytccbdogfapiidaa
open Go.RowKit

theorem hexIdx_any (c : UInt8) (w : World) :
    Calls Try.prog 45 #[.string ⟨#[48, 49, 50, 51, 52, 53, 54, 55, 56, 57, 97, 98, 99, 100, 101, 102]⟩, .int .u8 c.toNat] w fun e w' => e = .returned (.int .i64 (W.hexV c)) ∧ w = w' := index_any _ c w

set_option maxHeartbeats 400000 in
theorem coded_any (s : ByteArray) (a : Int) (w : World) (hs : s.size ≤ 1099511627776) (ha : 0 ≤ a) (ha2 : a ≤ s.size + 2) :
    Calls Try.prog 57 #[.string s, .int .i64 a] w fun e w' => e = .returned (.tuple #[.int .u8 (W.oneC ((W.codedD (s.data.toList.drop a.toNat)).map (·, 4))).toNat, .int .i64 (W.oneN ((W.codedD (s.data.toList.drop a.toNat)).map (·, 4)))]) ∧ w = w' := by
  obtain ⟨k, rfl⟩ := Int.eq_ofNat_of_zero_le ha
  rw [Int.toNat_natCast]
  by_cases hlt : k + 1 < s.size
  · have g1 : (k : Int) + 1 < s.size := by omega
    have g2 : k < s.size := by omega
    have hx := W.hexV_lt s[k]
    have hy := W.hexV_lt s[k + 1]
    have HD := Lib.hid (W.coded_at s k hlt)
    go_enter Try.func57, Try.ntmps57
    go_wp2_with (go_at_call 45; refine (hexIdx_any _ _).mono ?_; rintro e w' ⟨rfl, rfl⟩)
    · go_ret2
      have hd : W.codedD (s.data.toList.drop k) = none := by rw [HD.out, if_pos (by omega)]
      exact ⟨by rw [hd]; rfl, rfl⟩
    · go_ret2
      have hd : W.codedD (s.data.toList.drop k) = some (W.hexV s[k] * 16 + W.hexV s[k + 1]).toNat.toUInt8 := by rw [HD.out, if_neg (by omega)]
      rw [hd]
      refine ⟨ret_byte_int (Eq.symm ?_) rfl, rfl⟩
      simp only [Option.map, W.oneC]
      rw [W.code_val _ _ (by omega) (by omega)]
    · go_ret2
      have hd : W.codedD (s.data.toList.drop k) = none := by rw [HD.out, if_pos (by omega)]
      exact ⟨by rw [hd]; rfl, rfl⟩
  · have HD := Lib.hid (W.coded_short s k (by omega))
    go_enter Try.func57, Try.ntmps57
    go_wp2
    go_ret2
    exact ⟨by rw [HD.out]; rfl, rfl⟩

set_option maxHeartbeats 800000 in
theorem one_any (s : ByteArray) (k : Nat) (w : World) (hs : s.size ≤ 1099511627776) (hk : k < s.size) :
    Calls Try.prog 53 #[.string s, .int .i64 k] w fun e w' => e = .returned (.tuple #[.int .u8 (W.oneC (W.oneD (s.data.toList.drop k))).toNat, .int .i64 (W.oneN (W.oneD (s.data.toList.drop k)))]) ∧ w = w' := by
  by_cases h34 : s[k].toNat = 34
  · have HD := Lib.hid (W.one_bad s k hk (.inl h34))
    have b34 : ((s[k].toNat : Int) == 34) = true := by simp; omega
    clear h34
    go_enter Try.func53, Try.ntmps53
    go_wp2
    go_ret2
    exact ⟨by rw [HD.out]; rfl, rfl⟩
  have b34 : ((s[k].toNat : Int) == 34) = false := by simp; omega
  cases hsh : W.shownB s[k] with
  | false =>
    have HD := Lib.hid (W.one_bad s k hk (.inr hsh))
    go_enter Try.func53, Try.ntmps53
    go_wp2_with (go_at_call 56; refine (shown_any _ _).mono ?_; rintro e w' ⟨rfl, rfl⟩)
    go_ret2
    exact ⟨by rw [HD.out]; rfl, rfl⟩
  | true =>
    by_cases h92 : s[k].toNat ≠ 92
    · have HD := Lib.hid (W.one_self s k hk (by simp [h34, hsh]) h92)
      have b92 : ((s[k].toNat : Int) != 92) = true := by simp; omega
      go_enter Try.func53, Try.ntmps53
      go_wp2_with (go_at_call 56; refine (shown_any _ _).mono ?_; rintro e w' ⟨rfl, rfl⟩)
      go_ret2
      exact ⟨by rw [HD.out]; rfl, rfl⟩
    have b92 : ((s[k].toNat : Int) != 92) = false := by simp; omega
    have h92' : s[k].toNat = 92 := by omega
    by_cases hk2 : k + 1 < s.size
    · have g1 : (k : Int) + 1 < s.size := by omega
      by_cases e34 : s[k + 1].toNat = 34 ∨ s[k + 1].toNat = 92
      · have HD := Lib.hid (W.one_esc s k hk hk2 h92' e34)
        clear h92' h92
        by_cases e1 : s[k + 1].toNat = 34
        · have c34 : ((s[k + 1].toNat : Int) == 34) = true := by simp; omega
          clear e34 e1
          go_enter Try.func53, Try.ntmps53
          go_wp2_with (go_at_call 56; refine (shown_any _ _).mono ?_; rintro e w' ⟨rfl, rfl⟩)
          go_ret2
          exact ⟨by rw [HD.out]; rfl, rfl⟩
        · have c34 : ((s[k + 1].toNat : Int) == 34) = false := by simp; omega
          have c92 : ((s[k + 1].toNat : Int) == 92) = true := by simp; omega
          clear e34 e1
          go_enter Try.func53, Try.ntmps53
          go_wp2_with (go_at_call 56; refine (shown_any _ _).mono ?_; rintro e w' ⟨rfl, rfl⟩)
          go_ret2
          exact ⟨by rw [HD.out]; rfl, rfl⟩
      · have c34 : ((s[k + 1].toNat : Int) == 34) = false := by simp; omega
        have c92 : ((s[k + 1].toNat : Int) == 92) = false := by simp; omega
        by_cases e120 : s[k + 1].toNat = 120
        · have HD := Lib.hid (W.one_hex s k hk hk2 h92' e120)
          have c120 : ((s[k + 1].toNat : Int) == 120) = true := by simp; omega
          clear h92' h92 e120 e34
          go_enter Try.func53, Try.ntmps53
          go_wp2_with (first | (go_at_call 56; refine (shown_any _ _).mono ?_; rintro e w' ⟨rfl, rfl⟩) | (go_at_call 57; refine (coded_any _ _ _ hs (by omega) (by omega)).mono ?_; rintro e w' ⟨rfl, rfl⟩))
          go_ret2
          exact ⟨by rw [HD.out]; rfl, rfl⟩
        · have HD := Lib.hid (W.one_not s k hk hk2 h92' (by omega) (by omega) e120)
          have c120 : ((s[k + 1].toNat : Int) == 120) = false := by simp; omega
          clear h92' h92 e120 e34
          go_enter Try.func53, Try.ntmps53
          go_wp2_with (go_at_call 56; refine (shown_any _ _).mono ?_; rintro e w' ⟨rfl, rfl⟩)
          go_ret2
          exact ⟨by rw [HD.out]; rfl, rfl⟩
    · have HD := Lib.hid (W.one_end s k hk (by omega) h92')
      clear h92' h92
      go_enter Try.func53, Try.ntmps53
      go_wp2_with (go_at_call 56; refine (shown_any _ _).mono ?_; rintro e w' ⟨rfl, rfl⟩)
      go_ret2
      exact ⟨by rw [HD.out]; rfl, rfl⟩
end Go.Proofs.Ytccbdogfapiidaa
