/-
  What the library proves once of (*strings.Builder).WriteString and String, at this program's numbers; a builder is kept by whatever leaves old memory as it was; a builder at its start. Condition: at most 2^47 bytes.
-/
import Derived.Shelf.Strings.BuilderK
import Derived.Test.YtgefbdckngejdaaDoorTreeMem
namespace Go.Proofs.YtgefbdckngejdaaDoor
open Go.Shelf Go.RowKit

/-- What a write to the builder at b leaves as it was. -/
def KeepB (base b : Nat) (w w1 : World) : Prop := Below base w w1 ∧ Lib.OthersKept 5 (some b) w w1
theorem KeepB.refl (base b : Nat) (w : World) : KeepB base b w w := ⟨Below.refl _ _, Lib.OthersKept.refl _ _ _⟩
theorem KeepB.trans {base b : Nat} {w w1 w2 : World} (h : KeepB base b w w1) (k : KeepB base b w1 w2) : KeepB base b w w2 := ⟨h.1.trans k.1, h.2.trans k.2⟩
theorem KeepB.of {base b : Nat} {w w1 : World} (h : Below w.heap.size w w1) (hb : base ≤ w.heap.size) : KeepB base b w w1 :=
  ⟨h.mono hb, fun k o hk _ _ => by rw [h.block k (Array.getElem?_eq_some_iff.1 hk).1]; exact hk⟩
theorem byteCells_app (a b : List UInt8) : Lib.byteCells (a ++ b) = Lib.byteCells a ++ Lib.byteCells b := by simp [Lib.byteCells]
theorem strCells_mk (s : ByteArray) : Lib.strCells s = Lib.byteCells s.data.toList := by simp [Lib.strCells, Lib.byteCells]
end Go.Proofs.YtgefbdckngejdaaDoor
