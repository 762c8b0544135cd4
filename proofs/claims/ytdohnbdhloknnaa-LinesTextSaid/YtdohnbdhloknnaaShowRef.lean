/-
  Contracts of the document's blanks and Text (layer 4): the text of a tree is what the plain definition says; below the heap's size at the call the world is as it was. Condition: a tree.
-/
import Derived.Test.YtdohnbdhloknnaaShowC
import Derived.Test.YtdohnbdhloknnaaWordR
namespace Go.Proofs.Ytdohnbdhloknnaa
open Go.RowKit
open S (RightT.text_len)

theorem byt_app (a b : List UInt8) : (⟨a.toArray⟩ : ByteArray) ++ (⟨b.toArray⟩ : ByteArray) = ⟨(a ++ b).toArray⟩ := by
  apply ByteArray.ext; simp [ByteArray.data_append]
theorem byt_size (a : List UInt8) : (⟨a.toArray⟩ : ByteArray).size = a.length := by show a.toArray.size = _; simp
theorem blanks_snoc (k : Nat) : S.blanksL (k + 1) = S.blanksL k ++ [32, 32] := by
  unfold S.blanksL
  rw [show 2 * (k + 1) = 2 * k + 2 by omega, ← List.replicate_append_replicate]; rfl

theorem refQuote_is (x l : List UInt8) (w : World) (hx : x.length ≤ 40) (h : W.quoteL x = l) : Calls Try.prog 51 #[.string (sB x)] w (WroteQ w.heap.size w l) := by
  have := quoteR_any (sB x) w (by rw [sB_size]; omega)
  rw [sB_data, h] at this
  exact this
theorem refEnd_is (A : Option Addr) (c : Nat) (t : List T.Ln) (i e : Nat) (w : World) (hA : Seen eL w A t) (hl : t.length ≤ 1073741824) (hi : i < t.length) (h : T.endL t i = e) :
    Calls Try.prog 32 #[.slice A t.length c, .int .i64 i] w (IntS w (e : Nat)) := by rw [← h]; exact refEnd_any A c t i w hA hi hl
/-- What a line's row is, as the document's answer makes it. -/
def lineR (B q : List UInt8) (m : Int) (o : Bool) : List UInt8 := B ++ S.markT m ++ q ++ (if o = true then [32, 123, 10] else [59, 10])

end Go.Proofs.Ytdohnbdhloknnaa
