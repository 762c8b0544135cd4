/-
  Contracts of refs and of the document's Same (layer 8's statements). Condition: at most 2^30 changes.
-/
import Derived.Test.YtfajfjocpgbmeaaDiffC
import Derived.Deep.RegionHeld3
namespace Go.Proofs.Ytfajfjocpgbmeaa
open Go.RowKit
set_option linter.unusedVariables false

def ShortS (w : World) (l : T.Pth) (e : Ending) (w' : World) : Prop := ∃ b, e = .returned (.bool b) ∧ (b = true → l.length ≤ 40) ∧ ((l.length ≤ 40 ∧ ∀ x ∈ l, x.length ≤ 100) → b = true) ∧ w = w'
/-- What lies in elder memory lies outside a slice of the call's own. -/
theorem Free.elder {E : Elem ChM} {w w0 : World} {base : Nat} {v : Value} {L : List T.Chg} {m : ChM} {x : T.Chg} (h : OwnC E w base v L) (hx : Seen eS w0 m.A x.path) (hb : w0.heap.size ≤ base) : Free v m x := by
  intro hp a ha e
  obtain ⟨M, _, h2, _⟩ := h
  obtain ⟨b, o, e2, hb2, _⟩ := hx hp
  rw [e2] at ha
  injection ha with ha
  have h3 := (h2.lt _ e).1
  rw [← ha] at h3
  have h4 : base ≤ b := h3
  omega
def GoodR (L : List T.Chg) : Prop := L.length ≤ 420 ∧ ∀ x ∈ L, x.path.length ≤ 40 ∧ ∀ y ∈ x.path, y.length ≤ 100
end Go.Proofs.Ytfajfjocpgbmeaa
