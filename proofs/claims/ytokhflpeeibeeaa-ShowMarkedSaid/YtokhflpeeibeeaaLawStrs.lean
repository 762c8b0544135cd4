/-
  A []string that came in, opened: the strings that it holds, kept over whatever leaves old memory as it was. No conditions.
-/
import Derived.Test.YtokhflpeeibeeaaLawFrame
import Derived.SliceStrings
namespace Go.Proofs.Ytokhflpeeibeeaa
open Go.ChangeShapes Go.WideShapes Go.ChangeAt Go.RowKit

/-- The slice '.slice A n c' holds the strings xs. -/
def HoldsS (w : World) (A : Option Addr) (n : Nat) (xs : List ByteArray) : Prop :=
  xs.length = n ∧ ∀ i, i < n → ∃ ad : Addr, A = some ad ∧ w.cell? (ad.add i) = some (.string (xs.getD i ByteArray.empty))
theorem HoldsS.below {w w' : World} {A : Option Addr} {n : Nat} {xs : List ByteArray} (h : HoldsS w A n xs) (hb : Below w.heap.size w w') : HoldsS w' A n xs :=
  ⟨h.1, fun i hi => by
    obtain ⟨ad, e, hc⟩ := h.2 i hi
    exact ⟨ad, e, (hb.cell (World.block_lt_of_cell? w _ hc)).trans hc⟩⟩

theorem Try.cellsStr : Try.prog.cellsOf 9 = 1 := by kernel_rfl
end Go.Proofs.Ytokhflpeeibeeaa
