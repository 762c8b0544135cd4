/-
  Contracts of layer 4's depthAt, indent, writeClose and writeLine: what each writes behind what the builder holds. Condition: lines as a tree has them; a builder of at most 2^40 bytes.
  Contract of layer 4's writeLine: a line's row is written behind what the builder holds. Condition: a line as a tree has it; a builder of at most 2^40 bytes.
  Contracts of layer 4's depthAt and Text: a tree's text is what the plain definition says, and of what is no tree there is none; below the heap's size at the call the world is as it was. Condition: at most 2^30 lines.
-/
import Derived.Test.YtdohnbdhloknnaaBuild
import Derived.Test.YtdohnbdhloknnaaPureS
import Derived.Test.YtdohnbdhloknnaaWordC
import Derived.Deep.LoopGhost
import Derived.WalkMore
import Derived.Test.YtdohnbdhloknnaaTreeE

namespace Go.Proofs.Ytdohnbdhloknnaa
open Go.RowKit

/-- A write of a call: behind it the builder holds l. -/
def WroteB (base b : Nat) (w : World) (l : List UInt8) (e : Ending) (w1 : World) : Prop := e = .returned (.tuple #[]) ∧ HasB w1 base b l ∧ KeepB base b w w1
theorem HasB.eq {w : World} {base b : Nat} {l l2 : List UInt8} (h : HasB w base b l) (e : l = l2) : HasB w base b l2 := e ▸ h

def lnO (x : T.Ln) : Obj := .cells #[.int .i64 x.depth, .string (sB x.word), .int .i64 x.mark] 43
/-- The block lb holds a line. -/
def LineAt (w : World) (lb : Nat) (x : T.Ln) : Prop := w.heap[lb]? = some (lnO x)
theorem LineAt.keep {w w1 : World} {base b lb : Nat} {x : T.Ln} (h : LineAt w lb x) (hk : KeepB base b w w1) (hne : lb ≠ b) : LineAt w1 lb x :=
  hk.2 lb _ h (fun e => hne (Option.some.inj e)) (fun c fz e => by simp [lnO] at e)
theorem LineAt.below {w w1 : World} {lb : Nat} {x : T.Ln} (h : LineAt w lb x) (hb : Below w.heap.size w w1) : LineAt w1 lb x :=
  (hb.block lb (Array.getElem?_eq_some_iff.1 h).1).trans h
theorem LineAt.new (w : World) (x : T.Ln) : LineAt (w.alloc (lnO x)) w.heap.size x := by show (w.heap.push _)[w.heap.size]? = _; simp
theorem LineAt.cells {w : World} {lb : Nat} {x : T.Ln} (h : LineAt w lb x) : w.cell? ⟨lb, 0, none⟩ = some (.int .i64 x.depth) ∧ w.cell? ⟨lb, 1, none⟩ = some (.string (sB x.word)) ∧ w.cell? ⟨lb, 2, none⟩ = some (.int .i64 x.mark) := by
  unfold LineAt lnO at h
  refine ⟨?_, ?_, ?_⟩ <;> rw [Lib.cell_of_heap h] <;> rfl

end Go.Proofs.Ytdohnbdhloknnaa

namespace Go.Proofs.Ytdohnbdhloknnaa
open Go.RowKit

theorem quote_is (x : List UInt8) (w : World) (h : x.length ≤ 40) : Calls Try.prog 50 #[.string (sB x)] w (WroteS w.heap.size w (W.quoteL x) 0) := by
  have := quote_any (sB x) w
  rw [sB_size, if_pos h, if_pos h, sB_data] at this
  exact this
/-- What a line's row is, but for the ends of parts. -/
def lineRow (x : T.Ln) (o : Bool) : List UInt8 := S.blanksL x.depth.toNat ++ S.markT x.mark ++ W.quoteL x.word ++ (if o = true then [32, 123, 10] else [59, 10])

end Go.Proofs.Ytdohnbdhloknnaa

namespace Go.Proofs.Ytdohnbdhloknnaa
open Go.RowKit
open S (RightT.text_len)

theorem RightT.nextD_le {t : List T.Ln} (h : T.RightT t) (k : Nat) : S.nextD t k ≤ 15 := by
  unfold S.nextD
  by_cases h1 : k + 1 < t.length
  · rw [if_pos h1]; have := h.deep (k + 1) h1; omega
  · rw [if_neg h1]; omega
theorem RightT.open_next {t : List T.Ln} (h : T.RightT t) (k : Nat) (hk : k < t.length) : decide (T.dp t k < (S.nextD t k : Int)) = S.openB t k := by
  have hd := (h.deep k hk).1
  unfold S.nextD S.openB
  by_cases h1 : k + 1 < t.length
  · rw [if_pos h1]
    have := (h.deep (k + 1) h1).1
    rw [Bool.eq_iff_iff, decide_eq_true_iff, decide_eq_true_iff]
    exact ⟨fun x => ⟨h1, by omega⟩, fun x => by have := x.2; omega⟩
  · rw [if_neg h1]
    rw [Bool.eq_iff_iff, decide_eq_true_iff, decide_eq_true_iff]
    exact ⟨fun x => by omega, fun x => absurd x.1 h1⟩
theorem HasB.new (w : World) : HasB (w.alloc (.cells #[.pointer none, .slice none 0 0] 61)) w.heap.size w.heap.size [] := by
  refine .inl ⟨Nat.le_refl _, .slice none 0 0, ?_, ⟨rfl, .inl ⟨rfl, rfl⟩⟩, by simp [Value.ownBlock]⟩
  show (w.heap.push _)[w.heap.size]? = _
  simp
end Go.Proofs.Ytdohnbdhloknnaa
