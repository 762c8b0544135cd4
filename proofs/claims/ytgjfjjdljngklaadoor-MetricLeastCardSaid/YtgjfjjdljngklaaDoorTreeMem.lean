/-
  Lines, integers and strings in memory: the cells of each; a []api.Line and a []string that came in, opened. No conditions.
-/
import Derived.Test.YtgjfjjdljngklaaDoorRowG
import Derived.Test.YtgjfjjdljngklaaDoorPureT
import Derived.Test.YtgjfjjdljngklaaDoorLawFrame
import Derived.Deep.Slices
namespace Go.Proofs.YtgjfjjdljngklaaDoor
open Go.ChangeShapes Go.WideShapes Go.ChangeAt Go.RowKit

/-- A word as the program has it. -/
def sB (l : List UInt8) : ByteArray := ⟨l.toArray⟩
theorem sB_size (l : List UInt8) : (sB l).size = l.length := by simp [sB, ByteArray.size]
theorem sB_data (l : List UInt8) : (sB l).data.toList = l := by simp [sB]
theorem sB_of (s : ByteArray) : sB s.data.toList = s := by simp [sB]
theorem sB_toList (l : List UInt8) : (sB l).toList = l := by rw [ByteArray.toList_eq, sB_data]
theorem sB_eq {a b : List UInt8} (h : a = b) : ((sB a).toList == (sB b).toList) = true := by rw [h]; simp
theorem sB_ne {a b : List UInt8} (h : a ≠ b) : ((sB a).toList == (sB b).toList) = false := by rw [sB_toList, sB_toList]; exact beq_eq_false_iff_ne.2 h
theorem sB_inj {a b : List UInt8} (h : sB a = sB b) : a = b := by rw [← sB_data a, h, sB_data]

def lnC (x : T.Ln) : List Value := [.int .i64 x.depth, .string (sB x.word), .int .i64 x.mark]
def lnV (x : T.Ln) : Value := .agg #[.int .i64 x.depth, .string (sB x.word), .int .i64 x.mark]
def zeroLn : Value := .agg #[.int .i64 0, .string ⟨#[]⟩, .int .i64 0]
theorem at_get (t : List T.Ln) (i : Nat) (h : i < t.length) : t[i] = T.at_ t i := by
  unfold T.at_ List.getD; rw [List.getElem?_eq_getElem h]; rfl
theorem Tryd.cellsInt : Tryd.prog.cellsOf 3 = 1 := by kernel_rfl
end Go.Proofs.YtgjfjjdljngklaaDoor
