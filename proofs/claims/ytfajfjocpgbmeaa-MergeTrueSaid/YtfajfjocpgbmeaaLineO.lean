/-
  A line in a block of its own, as the program lays it.
-/
import Derived.Test.YtfajfjocpgbmeaaTreeMem
import Derived.WalkMore
namespace Go.Proofs.Ytfajfjocpgbmeaa
open Go.RowKit

def lnO (x : T.Ln) : Obj := .cells #[.int .i64 x.depth, .string (sB x.word), .int .i64 x.mark] 35
/-- The block lb holds a line. -/
def LineAt (w : World) (lb : Nat) (x : T.Ln) : Prop := w.heap[lb]? = some (lnO x)
theorem LineAt.below {w w1 : World} {lb : Nat} {x : T.Ln} (h : LineAt w lb x) (hb : Below w.heap.size w w1) : LineAt w1 lb x :=
  (hb.block lb (Array.getElem?_eq_some_iff.1 h).1).trans h
theorem LineAt.laid (w : World) (x : T.Ln) : LineAt (w.alloc (lnO x)) w.heap.size x := by show (w.heap.push _)[w.heap.size]? = _; simp
theorem LineAt.cells {w : World} {lb : Nat} {x : T.Ln} (h : LineAt w lb x) : w.cell? ⟨lb, 0, none⟩ = some (.int .i64 x.depth) ∧ w.cell? ⟨lb, 1, none⟩ = some (.string (sB x.word)) ∧ w.cell? ⟨lb, 2, none⟩ = some (.int .i64 x.mark) := by
  unfold LineAt lnO at h
  refine ⟨?_, ?_, ?_⟩ <;> rw [Lib.cell_of_heap h] <;> rfl
end Go.Proofs.Ytfajfjocpgbmeaa
