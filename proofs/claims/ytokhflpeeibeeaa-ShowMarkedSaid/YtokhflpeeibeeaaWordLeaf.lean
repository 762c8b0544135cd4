/-
  Contracts of the smallest functions under layer 1 (word): shown, plainByte, strings.IndexByte, strings.HasPrefix, reserved, allPlain return what the plain definitions say, and leave the world as it was. Condition: strings of at most 2^40 bytes.
-/
import Derived.Test.YtokhflpeeibeeaaRows
import Derived.Test.YtokhflpeeibeeaaWordPure
import Derived.WalkKit
import Derived.WalkSpells
import Derived.WalkLawsBesides
import Derived.Lib.Bytealg
import Derived.Lib.Hide
namespace Go.Proofs.Ytokhflpeeibeeaa
open Go.RowKit

theorem ret_bool {a b : Bool} (h : a = b) : Ending.returned (.bool a) = .returned (.bool b) := by rw [h]

theorem shown_any (c : UInt8) (w : World) :
    Calls Try.prog 43 #[.int .u8 c.toNat] w fun e w' => e = .returned (.bool (W.shownB c)) ∧ w = w' := by
  go_enter Try.func43, Try.ntmps43
  go_wp2
  · go_ret
    exact ⟨ret_bool (W.shown_yes ‹_›).symm, rfl⟩
  · go_ret
    exact ⟨ret_bool (W.shown_no ‹_›).symm, rfl⟩

set_option maxRecDepth 100000 in
theorem sliteIndex_any (s : ByteArray) (c : UInt8) (w : World) :
    Calls Try.prog 48 #[.string s, .int .u8 c.toNat] w fun e w' => e = .returned (.int .i64 (Lib.indexByte s.data.toList c)) ∧ w = w' := by
  go_enter Try.func48, Try.ntmps48
  go_wp2
  rw [run_callFunc_extern Try.func49 (by kernel_rfl) (by kernel_rfl) (by kernel_rfl) (e := Extern.BytealgIndexByte.indexByte) (by kernel_rfl), Lib.run_indexByteString]
  simp only [Result.andThen]
  rw [Oper.upon_value]
  go_wp2
  go_ret
  exact ⟨by simp, rfl⟩

theorem index_any (s : ByteArray) (c : UInt8) (w : World) :
    Calls Try.prog 46 #[.string s, .int .u8 c.toNat] w fun e w' => e = .returned (.int .i64 (Lib.indexByte s.data.toList c)) ∧ w = w' := by
  go_enter Try.func46, Try.ntmps46
  go_wp2_with (go_at_call 48; refine (sliteIndex_any _ _ _).mono ?_; rintro e w' ⟨rfl, rfl⟩)
  go_ret
  exact ⟨rfl, rfl⟩

theorem plainByte_any (c : UInt8) (w : World) :
    Calls Try.prog 44 #[.int .u8 c.toNat] w fun e w' => e = .returned (.bool (W.plainB c)) ∧ w = w' := by
  go_enter Try.func44, Try.ntmps44
  go_wp2_with (go_at_call 46; refine (index_any _ _ _).mono ?_; rintro e w' ⟨rfl, rfl⟩)
  all_goals
    go_ret
    refine ⟨ret_bool (Eq.symm ?_), rfl⟩
    first
      | exact W.plainB_of (by omega)
      | exact W.plainB_idx c (by omega) (by omega) (by omega)

theorem litePrefix_any (s p : ByteArray) (w : World) :
    Calls Try.prog 47 #[.string s, .string p] w fun e w' => e = .returned (.bool (Lib.hasPrefix s.data.toList p.data.toList)) ∧ w = w' := by
  go_enter Try.func47, Try.ntmps47
  go_wp2
  · go_ret
    exact ⟨ret_bool (W.prefix_yes s p ‹_›), rfl⟩
  · go_ret
    exact ⟨ret_bool (W.prefix_no s p ‹_›), rfl⟩
theorem prefix_any (s p : ByteArray) (w : World) :
    Calls Try.prog 45 #[.string s, .string p] w fun e w' => e = .returned (.bool (Lib.hasPrefix s.data.toList p.data.toList)) ∧ w = w' := by
  go_enter Try.func45, Try.ntmps45
  go_wp2_with (go_at_call 47; refine (litePrefix_any _ _ _).mono ?_; rintro e w' ⟨rfl, rfl⟩)
  go_ret
  exact ⟨rfl, rfl⟩
theorem reserved_any (s : ByteArray) (w : World) :
    Calls Try.prog 42 #[.string s] w fun e w' => e = .returned (.bool (W.reservedL s.data.toList)) ∧ w = w' := by
  go_enter Try.func42, Try.ntmps42
  go_wp2_with (go_at_call 45; refine (prefix_any _ _ _).mono ?_; rintro e w' ⟨rfl, rfl⟩)
  · go_ret
    exact ⟨ret_bool (W.reserved_a s ‹_›).symm, rfl⟩
  · go_ret
    exact ⟨ret_bool (W.reserved_b s ‹_›).symm, rfl⟩
  · go_ret
    refine ⟨ret_bool ?_, rfl⟩
    rw [W.reserved_c s ‹_› ‹_›]
    simp [*]

theorem allPlain_any (s : ByteArray) (w : World) (hs : s.size ≤ 1099511627776) :
    Calls Try.prog 41 #[.string s] w fun e w' => e = .returned (.bool (W.allPlainL s.data.toList)) ∧ w = w' := by
  go_enter Try.func41, Try.ntmps41
  go_wp2
  go_loop [3] (fun i => ∃ k : Nat, k ≤ s.size ∧ i = .int .i64 k ∧ Hid ((s.data.toList.take k).all W.plainB = true)) (fun i => s.size - (intOf i).toNat)
  case atStart => exact ⟨0, Nat.zero_le _, rfl, by simp [Hid]⟩
  case round =>
    obtain ⟨k, hk, rfl, H⟩ := hrel
    by_cases hlt : k < s.size
    · cases hp : W.plainB s[k]
      · go_wp2_with (go_at_call 44; refine (plainByte_any _ _).mono ?_; rintro e w' ⟨rfl, rfl⟩)
        go_ret
        exact ⟨ret_bool (W.allPlain_miss s k hlt hp).symm, rfl⟩
      · go_wp2_with (go_at_call 44; refine (plainByte_any _ _).mono ?_; rintro e w' ⟨rfl, rfl⟩)
        go_round
        case rel => exact ⟨k + 1, by omega, by go_num, W.all_snoc s k hlt H.out hp⟩
        case measure => simp [intOf]; omega
    · go_wp2
      go_ret
      exact ⟨ret_bool (by rw [W.allPlain_all s k (by omega) H.out]), rfl⟩

end Go.Proofs.Ytokhflpeeibeeaa
