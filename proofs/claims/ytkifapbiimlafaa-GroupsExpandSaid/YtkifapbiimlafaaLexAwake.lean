/-
  The fixed answer 'awake' of layer 2's statements: it returns true; below the heap's size at the call the world is as it was. No conditions.
-/
import Derived.Test.YtkifapbiimlafaaLexC
import Derived.Test.YtkifapbiimlafaaRowG
namespace Go.Proofs.Ytkifapbiimlafaa
open Go.RowKit

def awText : ByteArray := ⟨#[112, 114, 111, 116, 101, 99, 116, 58, 32, 97, 32, 123, 32, 34, 98, 32, 99, 34, 59, 32, 125, 32, 35, 32, 120]⟩
def awToks : List W.Tok := [⟨5, 0, [], 2⟩, ⟨1, 9, [97], 0⟩, ⟨2, 11, [], 0⟩, ⟨1, 13, [98, 32, 99], 0⟩, ⟨4, 18, [], 0⟩, ⟨3, 20, [], 0⟩]
theorem aw_lex1 : W.lexL 0 awText.data.toList = .ok awToks := by kernel_rfl
theorem aw_lex2 : W.lexL 0 (⟨#[97, 32, 44]⟩ : ByteArray).data.toList = .bad 2 2 := by kernel_rfl

/-- What All leaves, seen by the caller. -/
def SawT (w : World) (r : W.Res) (e : Ending) (w' : World) : Prop :=
  ∃ v, e = .returned (.tuple #[v, .int .i64 (r.place : Int), .int .i64 r.err]) ∧ SeenT w' v r.toks ∧ Below w.heap.size w w'
end Go.Proofs.Ytkifapbiimlafaa
