/-
  Contracts of layer 3's inner functions under and end, and of the document's Small, Short, Under and End: what they return is what the plain definitions say; below the heap's size at the call the world is as it was. Condition: a place of a line, at most 2^30 lines.
  Contracts of layer 3's inner functions under and end, and of the document's End and Short: what they return is what the plain definitions say; below the heap's size at the call the world is as it was. Condition: a place of a line, at most 2^30 lines.
  Contracts of the document's Ints, Equal and Same (layer 3): equal lists are equal; Equal decides it; below the heap's size at the call the world is as it was. Condition: at most 2^30 elements.
  Contracts of layer 3's fits and Right: Right returns whether lines are a tree, by the plain definition; below the heap's size at the call the world is as it was. Condition: at most 2^30 lines.
  Contract of the document's Right (layer 3): it returns whether lines are a tree, by the plain definition; below the heap's size at the call the world is as it was. Condition: at most 2^30 lines.
  Contracts of layer 3's has, Under and End: what they return is what the plain definitions say; below the heap's size at the call the world is as it was. Condition: at most 2^30 lines.
  Contract of the document's Same (layer 3) for any two lists of lines: it returns whether they are equal; below the heap's size at the call the world is as it was. Condition: at most 2^30 lines.
-/
import Derived.Test.YtgefbdckngejdaaDoorTreeMem
import Derived.Deep.LoopGhost
import Derived.WalkMore
import Derived.RegionTactic
import Derived.BigQuiet
import Derived.Test.YtgefbdckngejdaaDoorPureT
import Derived.Deep.OwnRows
import Derived.IntWalk

namespace Go.Proofs.YtgefbdckngejdaaDoor
open Go.RowKit

def FewS (w : World) (n m : Nat) (e : Ending) (w' : World) : Prop := ∃ b, e = .returned (.bool b) ∧ (b = true → n ≤ m) ∧ Below w.heap.size w w'

end Go.Proofs.YtgefbdckngejdaaDoor

namespace Go.Proofs.YtgefbdckngejdaaDoor
open Go.RowKit

end Go.Proofs.YtgefbdckngejdaaDoor

namespace Go.Proofs.YtgefbdckngejdaaDoor
open Go.RowKit

theorem take_next {l1 l2 : List (List UInt8)} {k : Nat} (h : l1.take k = l2.take k) (h1 : k < l1.length) (h2 : k < l2.length) (e : l1[k] = l2[k]) : l1.take (k + 1) = l2.take (k + 1) := by
  rw [List.take_succ_eq_append_getElem h1, List.take_succ_eq_append_getElem h2, h, e]
end Go.Proofs.YtgefbdckngejdaaDoor

namespace Go.Proofs.YtgefbdckngejdaaDoor
open Go.RowKit

def fitB (d : Int) (n : Nat) (m : Int) : Prop := (0 ≤ d ∧ d ≤ 15) ∧ n ≤ 40 ∧ 0 ≤ m ∧ m ≤ 3
/-- What Right leaves. -/
def RightS (w : World) (t : List T.Ln) (e : Ending) (w' : World) : Prop := ∃ b : Bool, e = .returned (.bool b) ∧ (b = true ↔ T.RightT t) ∧ Below w.heap.size w w'
theorem RightS.no {w w' : World} {t : List T.Ln} (h : ¬ T.RightT t) (hb : Below w.heap.size w w') : RightS w t (.returned (.bool false)) w' := ⟨false, rfl, ⟨(fun e => by cases e), fun e => absurd e h⟩, hb⟩
theorem RightS.yes {w w' : World} {t : List T.Ln} (h : T.RightT t) (hb : Below w.heap.size w w') : RightS w t (.returned (.bool true)) w' := ⟨true, rfl, ⟨fun _ => h, fun _ => rfl⟩, hb⟩

/-- A comparison of words, as the walk asks it. -/
theorem leq_no {a b : List UInt8} (h : Op.bytesLess b a = true) : Op.bytesLess (sB a).toList (sB b).toList = false ∧ ((sB a).toList == (sB b).toList) = false := by
  rw [sB_toList, sB_toList]
  exact ⟨T.less_asymm h, beq_eq_false_iff_ne.2 fun e => by subst e; rw [T.less_irr] at h; cases h⟩
theorem leq_yes {a b : List UInt8} (h : Op.bytesLess b a = false) : Op.bytesLess (sB a).toList (sB b).toList = true ∨ (Op.bytesLess (sB a).toList (sB b).toList = false ∧ ((sB a).toList == (sB b).toList) = true) := by
  rw [sB_toList, sB_toList]
  rcases T.less_tri a b with h1 | h1 | h1
  · exact .inl h1
  · subst h1; exact .inr ⟨h, by simp⟩
  · rw [h] at h1; cases h1
theorem to_next {p : Nat → Prop} {k : Nat} (h : ∀ m, m < k → p m) (hk : p k) : ∀ m, m < k + 1 → p m := fun m hm => by
  rcases Nat.lt_or_ge m k with hlt | hge
  · exact h m hlt
  · obtain rfl : m = k := by omega
    exact hk

end Go.Proofs.YtgefbdckngejdaaDoor

namespace Go.Proofs.YtgefbdckngejdaaDoor
open Go.RowKit

theorem wrapI (n : Int) (h : -9223372036854775808 ≤ n ∧ n ≤ 9223372036854775807) : IntKind.i64.wrap n = n := IntWalk.i64_in _ (by omega)
def RelF (w : World) (t : List T.Ln) (g : Nat) (i : Value) (wr : World) : Prop := ∃ k : Nat, k + g = t.length ∧ i = .int .i64 k ∧ (∀ m, m < k → T.Fits t m) ∧ Below w.heap.size w wr
def RelP (w : World) (t : List T.Ln) (g : Nat) (i : Value) (wr : World) : Prop := ∃ k : Nat, k + g = t.length ∧ i = .int .i64 k ∧ (∀ m, m < k → ∀ c, m < c → c < t.length → T.Rise t m c) ∧ Below w.heap.size w wr
theorem first_ok (t : List T.Ln) : T.Fits t 0 ↔ (((0 ≤ T.dp t 0 ∧ T.dp t 0 ≤ 15) ∧ (T.wd t 0).length ≤ 40 ∧ 0 ≤ (T.at_ t 0).mark ∧ (T.at_ t 0).mark ≤ 3) ∧ T.dp t 0 = 0) := by
  unfold T.Fits T.aheadL
  rw [if_pos rfl]
  constructor
  · rintro ⟨h, h2⟩; exact ⟨h, by omega⟩
  · rintro ⟨h, h2⟩; exact ⟨h, by omega⟩

end Go.Proofs.YtgefbdckngejdaaDoor

namespace Go.Proofs.YtgefbdckngejdaaDoor
open Go.RowKit

theorem yes_iff {p : Prop} (h : p) : true = true ↔ p := ⟨fun _ => h, fun _ => rfl⟩
theorem no_iff {p : Prop} (h : ¬ p) : false = true ↔ p := ⟨(fun e => by cases e), fun e => absurd e h⟩

end Go.Proofs.YtgefbdckngejdaaDoor

namespace Go.Proofs.YtgefbdckngejdaaDoor
open Go.RowKit

theorem take_nextG {α : Type} {l1 l2 : List α} {k : Nat} (h : l1.take k = l2.take k) (h1 : k < l1.length) (h2 : k < l2.length) (e : l1[k] = l2[k]) : l1.take (k + 1) = l2.take (k + 1) := by
  rw [List.take_succ_eq_append_getElem h1, List.take_succ_eq_append_getElem h2, h, e]
theorem ln_ext {x y : T.Ln} (h1 : x.depth = y.depth) (h2 : x.word = y.word) (h3 : x.mark = y.mark) : x = y := by cases x; cases y; simp_all

end Go.Proofs.YtgefbdckngejdaaDoor
