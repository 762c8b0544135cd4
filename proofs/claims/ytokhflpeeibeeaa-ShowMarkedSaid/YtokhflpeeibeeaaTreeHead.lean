/-
  Small contracts for the walks of layer 3's statements: Right of lines whose number is said otherwise; what is seen of a slice of a slice. No conditions.
-/
import Derived.Test.YtokhflpeeibeeaaTreeAwake
namespace Go.Proofs.Ytokhflpeeibeeaa
open Go.RowKit

theorem right_n (A : Option Addr) (c : Nat) (t : List T.Ln) (n : Nat) (w : World) (hA : Seen eL w A t) (hn : t.length = n) (hl : n ≤ 1073741824) (hR : T.RightT t) :
    Calls Try.prog 19 #[.slice A n c] w (BoolS w true) := by
  subst hn; exact right_is A c t true w hA hl (yes_iff hR)
theorem Holds.seen {α : Type} {E : Elem α} {w : World} {b o : Nat} {l : List α} (h : Holds E w b o l) (hb : b < w.heap.size) : Seen E w (some ⟨b, o, none⟩) l := fun _ => ⟨b, o, rfl, hb, h⟩
theorem Holds.belowN {α : Type} {E : Elem α} {w w1 : World} {n b o : Nat} {l : List α} (h : Holds E w b o l) (hb : Below n w w1) (hlt : b < n) : Holds E w1 b o l := by
  intro i hi j u hu
  rw [← h i hi j u hu]
  exact hb.cell (p := ⟨b, o + i * E.sz + j, none⟩) hlt
/-- Small, as the laws ask it. -/
theorem small_is (A : Option Addr) (c : Nat) (t : List T.Ln) (w : World) (hA : Seen eL w A t) : Calls Try.prog 9 #[.slice A t.length c] w (fun e w' => ∃ b : Bool, e = .returned (.bool b) ∧ (b = true → t.length ≤ 220) ∧ Below w.heap.size w w') := small_any A c t w hA
end Go.Proofs.Ytokhflpeeibeeaa
