/-
  Contracts of the document's answers for layer 1 (ferryslipref01): bare, Bare, digit, value, Scan return what the plain definitions say, and leave the world as it was. Condition: strings of at most 2^40 bytes.
-/
import Derived.Test.YtokhflpeeibeeaaWordScan
import Derived.Test.YtokhflpeeibeeaaOwnB
import Derived.Test.YtokhflpeeibeeaaWordPure4
namespace Go.Proofs.Ytokhflpeeibeeaa
open Go.RowKit

theorem ret_u8 {a b : Int} (h : a = b) : Ending.returned (.int .u8 a) = .returned (.int .u8 b) := by rw [h]
theorem ret_i64 {a b : Int} (h : a = b) : Ending.returned (.int .i64 a) = .returned (.int .i64 b) := by rw [h]

theorem bareR_any (c : UInt8) (w : World) :
    Calls Try.prog 39 #[.int .u8 c.toNat] w fun e w' => e = .returned (.bool (W.plainB c)) ∧ w = w' := by
  go_enter Try.func39, Try.ntmps39
  go_wp2
  all_goals go_ret
  all_goals refine ⟨ret_bool (Eq.symm ?_), rfl⟩
  all_goals first
    | exact W.plainB_of (by omega)
    | (unfold W.plainB; simp; omega)
    | (unfold W.plainB; rw [Bool.eq_iff_iff]; simp; omega)

theorem digitR_any (n : Int) (w : World) (h0 : 0 ≤ n) (h1 : n < 16) :
    Calls Try.prog 35 #[.int .i64 n] w fun e w' => e = .returned (.int .u8 (W.hexD n.toNat).toNat) ∧ w = w' := by
  obtain ⟨k, rfl⟩ := Int.eq_ofNat_of_zero_le h0
  go_enter Try.func35, Try.ntmps35
  go_wp2
  all_goals go_ret
  all_goals
    refine ⟨ret_u8 ?_, rfl⟩
    rw [Int.toNat_natCast, W.hexD_eq k (by omega)]
    first | rw [if_pos (by omega)] | rw [if_neg (by omega)]

set_option maxHeartbeats 1000000 in
theorem BareR_any (s : ByteArray) (w : World) (hs : s.size ≤ 1099511627776) :
    Calls Try.prog 34 #[.string s] w fun e w' => e = .returned (.bool (W.bareL s.data.toList)) ∧ w = w' := by
  by_cases h0 : s.data.toList = []
  · have hE : s.toList.isEmpty = true := by rw [Lib.toList_data, h0]; rfl
    have HB := Lib.hid (W.bare_empty s h0)
    clear h0
    go_enter Try.func34, Try.ntmps34
    go_wp2
    go_ret
    exact ⟨ret_bool HB.out.symm, rfl⟩
  have hE : s.toList.isEmpty = false := by rw [Lib.toList_data]; cases hd : s.data.toList; exact absurd hd h0; rfl
  have hpos : 0 < s.size := by rw [Lib.size_eq]; exact List.length_pos_iff.2 h0
  clear h0
  by_cases h1 : s.toList = [105, 110, 97, 99, 116, 105, 118, 101, 58]
  · have hI : (s.toList == [105, 110, 97, 99, 116, 105, 118, 101, 58]) = true := by rw [h1]; rfl
    have HB := Lib.hid (W.bare_res s (W.reserved_a s h1))
    clear h1
    go_enter Try.func34, Try.ntmps34
    go_wp2
    go_ret
    exact ⟨ret_bool HB.out.symm, rfl⟩
  have hI : (s.toList == [105, 110, 97, 99, 116, 105, 118, 101, 58]) = false := beq_eq_false_iff_ne.2 h1
  by_cases h2 : s.toList = [112, 114, 111, 116, 101, 99, 116, 58]
  · have hP : (s.toList == [112, 114, 111, 116, 101, 99, 116, 58]) = true := by rw [h2]; rfl
    have HB := Lib.hid (W.bare_res s (W.reserved_b s h2))
    clear h1 h2
    go_enter Try.func34, Try.ntmps34
    go_wp2
    go_ret
    exact ⟨ret_bool HB.out.symm, rfl⟩
  have hP : (s.toList == [112, 114, 111, 116, 101, 99, 116, 58]) = false := beq_eq_false_iff_ne.2 h2
  have HR := Lib.hid (W.reserved_c s h1 h2)
  clear h1 h2
  by_cases hl : 1 < s.size
  · have HA := Lib.hid (W.pre_at s hl)
    have g1 : (1 : Int) < s.size := by omega
    by_cases h3 : s[0].toNat = 47 ∧ s[1].toNat = 42
    · have b0 : ((s[0].toNat : Int) == 47) = true := by simp; omega
      have b1 : ((s[1].toNat : Int) == 42) = true := by simp; omega
      have HB := Lib.hid (W.bare_res s (by rw [HR.out, HA.out]; simp [h3.1, h3.2]))
      clear h3
      go_enter Try.func34, Try.ntmps34
      go_wp2
      go_ret
      exact ⟨ret_bool HB.out.symm, rfl⟩
    · have HN : Hid (W.reservedL s.data.toList = false) := by
        rw [HR.out, HA.out]
        have : (decide (s[0].toNat = 47) && decide (s[1].toNat = 42)) = false := by
          rw [Bool.and_eq_false_iff]
          by_cases h : s[0].toNat = 47
          · exact .inr (decide_eq_false (fun h' => h3 ⟨h, h'⟩))
          · exact .inl (decide_eq_false h)
        exact this
      by_cases h4 : s[0].toNat = 47
      · have b0 : ((s[0].toNat : Int) == 47) = true := by simp; omega
        have b1 : ((s[1].toNat : Int) == 42) = false := by simp; omega
        clear h3 h4
        go_enter Try.func34, Try.ntmps34
        go_wp2
        go_loop [3] (fun i => ∃ k : Nat, k ≤ s.size ∧ i = .int .i64 k ∧ Hid ((s.data.toList.take k).all W.plainB = true)) (fun i => s.size - (intOf i).toNat)
        case atStart => exact ⟨0, Nat.zero_le _, rfl, by simp [Hid]⟩
        case round =>
          obtain ⟨k, hk, rfl, H⟩ := hrel
          by_cases hlt : k < s.size
          · cases hp : W.plainB s[k]
            · go_wp2_with (go_at_call 39; refine (bareR_any _ _).mono ?_; rintro e w' ⟨rfl, rfl⟩)
              go_ret
              exact ⟨ret_bool (W.bare_miss s k hlt hp).symm, rfl⟩
            · go_wp2_with (go_at_call 39; refine (bareR_any _ _).mono ?_; rintro e w' ⟨rfl, rfl⟩)
              go_round
              case rel => exact ⟨k + 1, by omega, by go_num, W.all_snoc s k hlt H.out hp⟩
              case measure => simp [intOf]; omega
          · go_wp2
            go_ret
            exact ⟨ret_bool (W.bare_all s k (by omega) hpos H.out HN.out).symm, rfl⟩
      · have b0 : ((s[0].toNat : Int) == 47) = false := by simp; omega
        clear h3 h4
        go_enter Try.func34, Try.ntmps34
        go_wp2
        go_loop [3] (fun i => ∃ k : Nat, k ≤ s.size ∧ i = .int .i64 k ∧ Hid ((s.data.toList.take k).all W.plainB = true)) (fun i => s.size - (intOf i).toNat)
        case atStart => exact ⟨0, Nat.zero_le _, rfl, by simp [Hid]⟩
        case round =>
          obtain ⟨k, hk, rfl, H⟩ := hrel
          by_cases hlt : k < s.size
          · cases hp : W.plainB s[k]
            · go_wp2_with (go_at_call 39; refine (bareR_any _ _).mono ?_; rintro e w' ⟨rfl, rfl⟩)
              go_ret
              exact ⟨ret_bool (W.bare_miss s k hlt hp).symm, rfl⟩
            · go_wp2_with (go_at_call 39; refine (bareR_any _ _).mono ?_; rintro e w' ⟨rfl, rfl⟩)
              go_round
              case rel => exact ⟨k + 1, by omega, by go_num, W.all_snoc s k hlt H.out hp⟩
              case measure => simp [intOf]; omega
          · go_wp2
            go_ret
            exact ⟨ret_bool (W.bare_all s k (by omega) hpos H.out HN.out).symm, rfl⟩
  · have HN : Hid (W.reservedL s.data.toList = false) := by rw [HR.out, W.pre_short s (by omega)]; exact rfl
    go_enter Try.func34, Try.ntmps34
    go_wp2
    go_loop [3] (fun i => ∃ k : Nat, k ≤ s.size ∧ i = .int .i64 k ∧ Hid ((s.data.toList.take k).all W.plainB = true)) (fun i => s.size - (intOf i).toNat)
    case atStart => exact ⟨0, Nat.zero_le _, rfl, by simp [Hid]⟩
    case round =>
      obtain ⟨k, hk, rfl, H⟩ := hrel
      by_cases hlt : k < s.size
      · cases hp : W.plainB s[k]
        · go_wp2_with (go_at_call 39; refine (bareR_any _ _).mono ?_; rintro e w' ⟨rfl, rfl⟩)
          go_ret
          exact ⟨ret_bool (W.bare_miss s k hlt hp).symm, rfl⟩
        · go_wp2_with (go_at_call 39; refine (bareR_any _ _).mono ?_; rintro e w' ⟨rfl, rfl⟩)
          go_round
          case rel => exact ⟨k + 1, by omega, by go_num, W.all_snoc s k hlt H.out hp⟩
          case measure => simp [intOf]; omega
      · go_wp2
        go_ret
        exact ⟨ret_bool (W.bare_all s k (by omega) hpos H.out HN.out).symm, rfl⟩
end Go.Proofs.Ytokhflpeeibeeaa
