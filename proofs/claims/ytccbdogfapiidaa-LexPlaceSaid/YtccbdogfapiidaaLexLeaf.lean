/-
  Contracts of lex's blank, sign and markBit (layer 2): they return what the plain definitions say, and leave the world as it was. No conditions.
-/
import Derived.Test.YtccbdogfapiidaaWordIs
import Derived.Test.YtccbdogfapiidaaLexPure
namespace Go.Proofs.Ytccbdogfapiidaa
open Go.RowKit

theorem retI {a b : Int} (h : a = b) : Ending.returned (.int .i64 a) = .returned (.int .i64 b) := by rw [h]
theorem blank_any (c : UInt8) (w : World) :
    Calls Try.prog 19 #[.int .u8 c.toNat] w fun e w' => e = .returned (.bool (W.blankB c)) ∧ w = w' := by
  go_enter Try.func19, Try.ntmps19
  go_wp2
  all_goals go_ret
  all_goals refine ⟨ret_bool (Eq.symm ?_), rfl⟩
  all_goals (unfold W.blankB; rw [Bool.eq_iff_iff]; simp; omega)

theorem sign_any (c : UInt8) (w : World) :
    Calls Try.prog 31 #[.int .u8 c.toNat] w fun e w' => e = .returned (.int .i64 (W.signK c)) ∧ w = w' := by
  go_enter Try.func31, Try.ntmps31
  go_wp2
  all_goals go_ret
  all_goals refine ⟨retI (Eq.symm ?_), rfl⟩
  all_goals simp_all [W.signK]
  all_goals omega

theorem mark_a (s : ByteArray) (h : (s.toList == [105, 110, 97, 99, 116, 105, 118, 101, 58]) = true) : W.markK s.data.toList = 1 := by
  rw [Lib.toList_data] at h; simp only [W.markK, W.inactiveL, h, if_true]
theorem mark_b (s : ByteArray) (h1 : (s.toList == [105, 110, 97, 99, 116, 105, 118, 101, 58]) = false) (h : (s.toList == [112, 114, 111, 116, 101, 99, 116, 58]) = true) : W.markK s.data.toList = 2 := by
  rw [Lib.toList_data] at h h1; unfold W.markK W.inactiveL W.protectL; rw [if_neg (by rw [h1]; simp), if_pos h]
theorem mark_c (s : ByteArray) (h1 : (s.toList == [105, 110, 97, 99, 116, 105, 118, 101, 58]) = false) (h : (s.toList == [112, 114, 111, 116, 101, 99, 116, 58]) = false) : W.markK s.data.toList = 0 := by
  rw [Lib.toList_data] at h h1; unfold W.markK W.inactiveL W.protectL; rw [if_neg (by rw [h1]; simp), if_neg (by rw [h]; simp)]
theorem markBit_any (s : ByteArray) (w : World) :
    Calls Try.prog 33 #[.string s] w fun e w' => e = .returned (.int .i64 (W.markK s.data.toList)) ∧ w = w' := by
  go_enter Try.func33, Try.ntmps33
  go_wp2
  all_goals go_ret
  all_goals refine ⟨retI (Eq.symm ?_), rfl⟩
  all_goals first
    | exact mark_a s (by assumption)
    | exact mark_b s (by assumption) (by assumption)
    | exact mark_c s (by assumption) (by assumption)
theorem mark_is (s : ByteArray) (m : Int) (w : World) (h : W.markK s.data.toList = m) : Calls Try.prog 33 #[.string s] w fun e w' => e = .returned (.int .i64 m) ∧ w = w' := by
  rw [← h]; exact markBit_any s w
end Go.Proofs.Ytccbdogfapiidaa
