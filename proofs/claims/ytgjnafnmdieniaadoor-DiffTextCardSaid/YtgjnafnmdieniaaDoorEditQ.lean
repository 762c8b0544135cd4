/-
  Acts that come in (layer 7's statements): a struct of four fields, and a slice of such. No conditions.
-/
import Derived.Test.YtgjnafnmdieniaaDoorLawFrame
import Derived.Test.YtgjnafnmdieniaaDoorLawStrs
import Derived.Test.YtgjnafnmdieniaaDoorTreeE
import Derived.Lib.SmallJoins
namespace Go.Proofs.YtgjnafnmdieniaaDoor
open Go.ChangeShapes Go.WideShapes Go.ChangeAt Go.RowKit
set_option linter.unusedVariables false

theorem Tryd.cellsStrsQ : Tryd.prog.cellsOf 39 = 1 := by kernel_rfl
set_option maxRecDepth 100000 in
theorem open_path1 {H : Type} {enc : TypeId × Value → H} {W : World} {v : Value} {fuel : Nat} {x : DataW H × List MemPlace}
    (hf : DataW.trod enc Tryd.prog W 0 (fun _ => true) true fuel 39 [v] = some x) : ∃ (A : Option Addr) (n c : Nat) (l : T.Pth), v = .slice A n c ∧ l.length = n ∧ n ≤ c ∧ Seen eS W A l ∧ n ≤ maxLen := by
  rcases open_strings Tryd.underlying39 Tryd.underlying9 Tryd.cellsStr hf with ⟨hcs, _⟩ | ⟨a, len, cap, ss, hcs, _, hl, hm, hz, _, hcell, hws⟩
  · injection hcs with hcs
    exact ⟨none, 0, 0, [], hcs, rfl, Nat.le_refl _, Seen.nil, by unfold maxLen; omega⟩
  · injection hcs with hcs
    simp at hz
    have hH : HoldsS W (some a) len (ss.take len) := ⟨by rw [List.length_take]; omega, fun i hi => ⟨a, rfl, by
      have e : (ss.take len).getD i ByteArray.empty = ss.getD i ByteArray.empty := by simp [List.getD, hi]
      rw [e]
      exact hcell i (by omega)⟩⟩
    obtain ⟨l, hll, hs⟩ := seen_strs hH
    exact ⟨some a, len, cap, l, hcs, hll, hl, hs, by omega⟩
/-- An act. -/
structure ActM where
  kind : Int
  bit : Int
  path : T.Pth
  wd : List UInt8
/-- An act's four cells. -/
def ActC (W : World) (b o : Nat) (x : ActM) : Prop := ∃ B c, W.cell? ⟨b, o, none⟩ = some (.int .i64 x.kind) ∧ W.cell? ⟨b, o + 1, none⟩ = some (.slice B x.path.length c) ∧ W.cell? ⟨b, o + 2, none⟩ = some (.int .i64 x.bit) ∧ W.cell? ⟨b, o + 3, none⟩ = some (.string (sB x.wd)) ∧ x.path.length ≤ c ∧ x.path.length ≤ maxLen ∧ Seen eS W B x.path
/-- A slice of this address reads as these acts. -/
def SeenA (W : World) (A : Option Addr) (L : List ActM) : Prop := 0 < L.length → ∃ b o, A = some ⟨b, o, none⟩ ∧ b < W.heap.size ∧ ∀ i (h : i < L.length), ActC W b (o + i * 4) L[i]
end Go.Proofs.YtgjnafnmdieniaaDoor
