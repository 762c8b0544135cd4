/-
  A []string that came in, opened: the strings that it holds, kept over whatever leaves old memory as it was. No conditions.
-/
import Derived.Test.YtgjnafnmdieniaaDoorLawFrame
import Derived.SliceStrings
namespace Go.Proofs.YtgjnafnmdieniaaDoor
open Go.ChangeShapes Go.WideShapes Go.ChangeAt Go.RowKit

/-- The slice '.slice A n c' holds the strings xs. -/
def HoldsS (w : World) (A : Option Addr) (n : Nat) (xs : List ByteArray) : Prop :=
  xs.length = n ∧ ∀ i, i < n → ∃ ad : Addr, A = some ad ∧ w.cell? (ad.add i) = some (.string (xs.getD i ByteArray.empty))
theorem HoldsS.below {w w' : World} {A : Option Addr} {n : Nat} {xs : List ByteArray} (h : HoldsS w A n xs) (hb : Below w.heap.size w w') : HoldsS w' A n xs :=
  ⟨h.1, fun i hi => by
    obtain ⟨ad, e, hc⟩ := h.2 i hi
    exact ⟨ad, e, (hb.cell (World.block_lt_of_cell? w _ hc)).trans hc⟩⟩

theorem Tryd.cellsStr : Tryd.prog.cellsOf 9 = 1 := by kernel_rfl
set_option maxRecDepth 100000 in
theorem open_strs {H : Type} {enc : TypeId × Value → H} {W : World} {base : Nat} {v : Value} {d : DataW H} {p : List MemPlace} (hok : Value.okWide Tryd.prog W .any base 39 v)
    (h : DataW.Trod enc Tryd.prog W 0 (fun _ => true) true 39 v d p) : ∃ A n c xs, v = .slice A n c ∧ HoldsS W A n xs ∧ n ≤ maxLen ∧ ∀ x ∈ xs, x.size ≤ maxLen := by
  obtain ⟨A, n, c, rfl⟩ := okWide_slice Tryd.underlying39 hok
  obtain ⟨fuel, hf⟩ := h
  rcases open_strings Tryd.underlying39 Tryd.underlying9 Tryd.cellsStr hf with ⟨hcs, _⟩ | ⟨a, len, cap, ss, hcs, _, hl, hm, hz, _, hcell, hws⟩
  · have hc2 : ([Value.slice A n c] : List Value) = [.slice none 0 0] := hcs
    injection hc2 with hc2
    injection hc2 with e1 e2 e3
    subst e1; subst e2; subst e3
    exact ⟨none, 0, 0, [], rfl, ⟨rfl, fun i hi => by omega⟩, by unfold maxLen; omega, by simp⟩
  · have hc2 : ([Value.slice A n c] : List Value) = [.slice (some a) len cap] := hcs
    injection hc2 with hc2
    injection hc2 with e1 e2 e3
    subst e1; subst e2; subst e3
    simp at hz
    refine ⟨some a, n, c, ss.take n, rfl, ⟨by rw [List.length_take]; omega, fun i hi => ⟨a, rfl, ?_⟩⟩, by omega, fun x hx => hws x (List.mem_of_mem_take hx)⟩
    have e : (ss.take n).getD i ByteArray.empty = ss.getD i ByteArray.empty := by simp [List.getD, hi]
    rw [e]
    exact hcell i (by omega)
end Go.Proofs.YtgjnafnmdieniaaDoor
