/-
  Contract of layer 3's Path: the path of a line, or ErrArg; below the heap's size at the call the world is as it was. Condition: at most 2^30 lines.
-/
import Derived.Test.YtokhflpeeibeeaaTreeHas
import Derived.Test.YtokhflpeeibeeaaTreePure6
namespace Go.Proofs.Ytokhflpeeibeeaa
open Go.RowKit

theorem str_info : (Try.prog.info? 9).map (fun i => (i.zero, i.size, i.bytes)) = some (some (.string ⟨#[]⟩), 1, 16) := by kernel_rfl
theorem row_path {w : World} {g n d : Nat} {F : Nat → List UInt8} (h : w.rowIs g 9 n (fun d => .string (sB (F d)))) (s : List UInt8) :
    (w.setCell ⟨g, d, none⟩ (.string (sB s))).rowIs g 9 n (fun x => .string (sB (if x = d then s else F x))) := by
  refine (h.set d (.string (sB s))).congr fun i _ => ?_
  by_cases hi : i = d
  · simp [hi]
  · simp [hi]

def RelPa (w : World) (t : List T.Ln) (p : List (List UInt8)) (g n : Nat) (x : Value) (wr : World) : Prop :=
  ∃ (j : Int) (F : Nat → List UInt8), x = .int .i64 j ∧ j < n ∧ T.Laid t p j F ∧ wr.rowIs g 9 p.length (fun d => .string (sB (F d))) ∧ w.heap.size ≤ g ∧ Below w.heap.size w wr

end Go.Proofs.Ytokhflpeeibeeaa
