/-
  What the library proves once of (*strings.Builder).WriteByte and strconv.Itoa, at this program's numbers. Condition: at most 2^47 bytes; for Itoa of 100 and more: that the library's table uint64pow10 holds its numbers.
-/
import Derived.Test.YtfajfjocpgbmeaaBuild
import Derived.Shelf.Strconv.Itoa3
import Derived.Lib.AppendIntMem
namespace Go.Proofs.Ytfajfjocpgbmeaa
open Go.Shelf Go.RowKit

/-- The library's table of the powers of ten holds its numbers. -/
def TabOk (w : World) : Prop := Lib.TabIs Try.prog w "internal/strconv.uint64pow10" .u64 Lib.pow10Tab
theorem TabOk.below {w w1 : World} (h : TabOk w) (hb : Below w.heap.size w w1) : TabOk w1 := Lib.tabBelow_of_tabIs h w1 hb
end Go.Proofs.Ytfajfjocpgbmeaa
