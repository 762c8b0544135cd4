/-
  The fixed answer 'awake' of layer 2's statements: it returns true; below the heap's size at the call the world is as it was. No conditions.
-/
import Derived.Test.YtdohnbdhloknnaaLexC
import Derived.Test.YtdohnbdhloknnaaRowG
namespace Go.Proofs.Ytdohnbdhloknnaa
open Go.RowKit

def awText : ByteArray := ⟨#[112, 114, 111, 116, 101, 99, 116, 58, 32, 97, 32, 123, 32, 34, 98, 32, 99, 34, 59, 32, 125, 32, 35, 32, 120]⟩
def awToks : List W.Tok := [⟨5, 0, [], 2⟩, ⟨1, 9, [97], 0⟩, ⟨2, 11, [], 0⟩, ⟨1, 13, [98, 32, 99], 0⟩, ⟨4, 18, [], 0⟩, ⟨3, 20, [], 0⟩]
theorem aw_lex1 : W.lexL 0 awText.data.toList = .ok awToks := by kernel_rfl
theorem aw_lex2 : W.lexL 0 (⟨#[97, 32, 44]⟩ : ByteArray).data.toList = .bad 2 2 := by kernel_rfl

/-- What All leaves, seen by the caller. -/
def SawT (w : World) (r : W.Res) (e : Ending) (w' : World) : Prop :=
  ∃ v, e = .returned (.tuple #[v, .int .i64 (r.place : Int), .int .i64 r.err]) ∧ SeenT w' v r.toks ∧ Below w.heap.size w w'
theorem all_saw (s : ByteArray) (r : W.Res) (w : World) (hs : s.size ≤ 1073741824) (h : W.lexL 0 s.data.toList = r) :
    Calls Try.prog 35 #[.string s] w (SawT w r) := by
  rw [← h]
  exact (all_any s w hs).mono fun e w' ⟨v, he, ho, hb⟩ => ⟨v, he, ho.seen, hb⟩
/-- The tokens of a text that has some. -/
theorem all_some (s : ByteArray) (l : List W.Tok) (w : World) (hs : s.size ≤ 1073741824) (h : W.lexL 0 s.data.toList = .ok l) (hl : 0 < l.length) :
    Calls Try.prog 35 #[.string s] w fun e w' => ∃ g cap, e = .returned (.tuple #[.slice (some ⟨g, 0, none⟩) l.length cap, .int .i64 0, .int .i64 0]) ∧ HoldsT w' g l ∧ Below w.heap.size w w' :=
  (all_saw s _ w hs h).mono fun e w' ⟨v, he, ho, hb⟩ => by
    obtain ⟨A, cap, rfl, hh⟩ := ho
    obtain ⟨g, rfl, hg⟩ := hh hl
    exact ⟨g, cap, he, hg, hb⟩
/-- The error of a text that has one. -/
theorem all_err (s : ByteArray) (p : Nat) (er : Int) (w : World) (hs : s.size ≤ 1073741824) (h : W.lexL 0 s.data.toList = .bad p er) :
    Calls Try.prog 35 #[.string s] w fun e w' => ∃ A cap, e = .returned (.tuple #[.slice A 0 cap, .int .i64 p, .int .i64 er]) ∧ Below w.heap.size w w' :=
  (all_saw s _ w hs h).mono fun e w' ⟨v, he, ho, hb⟩ => by
    obtain ⟨A, cap, rfl, hh⟩ := ho
    exact ⟨A, cap, he, hb⟩
end Go.Proofs.Ytdohnbdhloknnaa
