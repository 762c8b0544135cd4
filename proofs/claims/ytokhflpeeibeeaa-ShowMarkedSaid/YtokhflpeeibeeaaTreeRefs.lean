/-
  Contracts of the document's Path, Find and Kids (layer 3): what the plain definitions say; below the heap's size at the call the world is as it was. Condition: a tree where it says so, at most 2^30 lines.
-/
import Derived.Test.YtokhflpeeibeeaaTreeSubC
namespace Go.Proofs.Ytokhflpeeibeeaa
open Go.RowKit

def RelKr (w : World) (t : List T.Ln) (i : Int) (g : Nat) (v x : Value) (wr : World) : Prop :=
  ∃ k : Nat, k + g = t.length ∧ x = .int .i64 k ∧ Own eI wr w.heap.size v (T.kidsTo t i k) ∧ Below w.heap.size w wr
theorem Own.base {α : Type} {E : Elem α} {w : World} {b1 b2 : Nat} {v : Value} {l : List α} (h : Own E w b1 v l) (hb : b2 ≤ b1) : Own E w b2 v l := by
  refine ⟨h.1, ?_⟩
  rcases h.2 with hn | ⟨g, cap, cur, rfl, hbg, rest⟩
  · exact .inl hn
  · exact .inr ⟨g, cap, cur, rfl, Nat.le_trans hb hbg, rest⟩
/-- What is owned: nothing, or cells. -/
theorem Own.src {α : Type} {E : Elem α} {w : World} {base : Nat} {v : Value} {l : List α} (h : Own E w base v l) : (v = .slice none 0 0 ∧ l = []) ∨ ∃ g cap, v = .slice (some ⟨g, 0, none⟩) l.length cap ∧ g < w.heap.size ∧ Holds E w g 0 l := by
  obtain ⟨A, cap, rfl, _, hs⟩ := h.seen
  rcases h.2 with ⟨e, hn⟩ | ⟨g, cap2, cur, e, hbg, hgg, _⟩
  · exact .inl ⟨e, List.eq_nil_of_length_eq_zero hn⟩
  · injection e with e1 e2 e3
    subst e1
    by_cases hl : 0 < l.length
    · obtain ⟨b, o, e, hb, hh⟩ := hs hl
      injection e with e
      injection e with e1 e2
      subst e1; subst e2
      exact .inr ⟨g, cap, rfl, hb, hh⟩
    · exact .inr ⟨g, cap, rfl, (Array.getElem?_eq_some_iff.1 hgg).1, fun i hi => absurd hi (by omega)⟩

end Go.Proofs.Ytokhflpeeibeeaa
