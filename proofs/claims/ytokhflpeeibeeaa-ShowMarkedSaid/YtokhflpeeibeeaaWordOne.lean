/-
  Contracts of one and coded (layer 1, beneath Unquote): they return what the plain definitions say, and leave the world as it was. Condition: strings of at most 2^40 bytes.
-/
import Derived.Test.YtokhflpeeibeeaaWordScan
namespace Go.Proofs.Ytokhflpeeibeeaa
open Go.RowKit

theorem hexIdx_any (c : UInt8) (w : World) :
    Calls Try.prog 46 #[.string ⟨#[48, 49, 50, 51, 52, 53, 54, 55, 56, 57, 97, 98, 99, 100, 101, 102]⟩, .int .u8 c.toNat] w fun e w' => e = .returned (.int .i64 (W.hexV c)) ∧ w = w' := index_any _ c w

end Go.Proofs.Ytokhflpeeibeeaa
