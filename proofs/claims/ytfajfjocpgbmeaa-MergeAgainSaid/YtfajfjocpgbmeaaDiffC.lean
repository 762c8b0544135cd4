/-
  Contract of the document's Text (layer 8): the rows of changes. Condition: at most 2^10 changes, paths of at most 40 words.
-/
import Derived.Test.YtfajfjocpgbmeaaDiffA
import Derived.Test.YtfajfjocpgbmeaaWordR
namespace Go.Proofs.Ytfajfjocpgbmeaa
open Go.RowKit
set_option linter.unusedVariables false

theorem digit_cast (n : Nat) : (UInt8.ofNat (48 + n % 10)).toNat = 48 + n % 10 := by
  rw [UInt8.toNat_ofNat']
  omega
theorem digit_small {n : Nat} (h : n < 10) : n % 10 = n := Nat.mod_eq_of_lt h
theorem sB_app (a b : List UInt8) : sB a ++ sB b = sB (a ++ b) := ByteArray.ext (by simp [ByteArray.data_append, sB])
-- THE TEXT
theorem flat_le {α β : Type} (f : α → List β) (K : Nat) : ∀ l : List α, (∀ c ∈ l, (f c).length ≤ K) → (l.flatMap f).length ≤ K * l.length
  | [], _ => by simp
  | c :: l, h => by
    have := flat_le f K l fun x hx => h x (List.mem_cons_of_mem _ hx)
    have := h c (List.mem_cons_self ..)
    rw [List.flatMap_cons, List.length_append, List.length_cons, Nat.mul_add]
    omega
/-- Changes that Text is asked of. -/
def FewC (L : List T.Chg) : Prop := L.length ≤ 1024 ∧ ∀ x ∈ L, x.path.length ≤ 40 ∧ 0 ≤ x.mark ∧ x.mark ≤ 1000000000
theorem rowD_len {x : T.Chg} (hp : x.path.length ≤ 40) (h0 : 0 ≤ x.mark) (h1 : x.mark ≤ 1000000000) : (T.rowD x).length ≤ 6600 := by
  have h2 := T.wordsD_len x.path
  have h3 := T.decL_len 9 x.mark.toNat (by omega)
  unfold T.rowD
  by_cases h : T.toldD x = true
  · rw [if_pos h]
    simp only [List.length_append, List.length_cons, List.length_nil]
    omega
  · rw [if_neg h]
    simp only [List.length_append, List.length_cons, List.length_nil]
    omega
theorem textD_len {L : List T.Chg} (h : FewC L) : (T.textD L).length ≤ 7000000 := by
  have := flat_le T.rowD 6600 L fun c hc => rowD_len (h.2 c hc).1 (h.2 c hc).2.1 (h.2 c hc).2.2
  have := h.1
  unfold T.textD
  omega
theorem FewC.take {L : List T.Chg} (h : FewC L) (k : Nat) : FewC (L.take k) := ⟨by have := h.1; rw [List.length_take]; omega, fun x hx => h.2 x (List.mem_of_mem_take hx)⟩
theorem toldD_val (kd mk : Int) (P : T.Pth) : T.toldD ⟨kd, P, mk⟩ = (decide (kd < 1) || decide (2 < kd) || (kd == 2 && mk != 0)) := rfl
/-- What a row of the text leaves. -/
def RowS (w : World) (k : Nat) (l : List UInt8) (wr : World) : Prop := Below w.heap.size w wr
end Go.Proofs.Ytfajfjocpgbmeaa
