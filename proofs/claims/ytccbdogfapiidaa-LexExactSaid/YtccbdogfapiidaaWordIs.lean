/-
  Contracts of layer 1's Scan and Unquote, with what they answer as a variable. Condition: strings of at most 2^40 bytes.
-/
import Derived.Test.YtccbdogfapiidaaWordUnq
namespace Go.Proofs.Ytccbdogfapiidaa
open Go.RowKit

theorem unq_is (s : ByteArray) (x : List UInt8) (k : Int) (w : World) (hs : s.size ≤ 1099511627776) (hq : W.unqL s.data.toList = (x, k)) : Calls Try.prog 34 #[.string s] w (WroteS w.heap.size w x k) := by
  have h := unquote_any s w hs
  rw [hq] at h
  exact h
theorem scan_is (s : ByteArray) (a : Int) (n : Nat) (w : World) (hs : s.size ≤ 1099511627776) (h : W.scanL s.data.toList a = some n) : Calls Try.prog 32 #[.string s, .int .i64 a] w fun e w' => e = .returned (.tuple #[.int .i64 n, .bool true]) ∧ w = w' := by
  have := scan_any s a w hs
  rw [h] at this
  exact this
theorem scan2_is (s : ByteArray) (a : Int) (o : Option Nat) (w : World) (hs : s.size ≤ 1099511627776) (h : W.scanL s.data.toList a = o) : Calls Try.prog 32 #[.string s, .int .i64 a] w fun e w' => e = .returned (.tuple #[.int .i64 (W.optN o), .bool o.isSome]) ∧ w = w' := by
  rw [← h]; exact scan_any s a w hs
end Go.Proofs.Ytccbdogfapiidaa
