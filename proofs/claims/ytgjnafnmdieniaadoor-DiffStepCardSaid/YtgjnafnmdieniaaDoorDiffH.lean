/-
  append of a slice of changes wherever it lies, to one of the call's own (layer 8's statement DiffBack). Condition: at most 1024 changes each.
-/
import Derived.Test.YtgjnafnmdieniaaDoorDiffG
import Derived.Test.YtgjnafnmdieniaaDoorLinesC
namespace Go.Proofs.YtgjnafnmdieniaaDoor
open Go.ChangeShapes Go.WideShapes Go.ChangeAt Go.RowKit
set_option linter.unusedVariables false

theorem wpList_appAny {α : Type} (E : Elem α) {ops : Array Oper} {rest : List Oper} {o : Oper} {a : Act} {Q : Exit → Act → World → Prop} (w : World) (hgd : o.guard = none) (s x : Operand)
    (ho : o.op = .call { callee := .builtin .append, args := #[s, x], argTypes := #[E.st, E.st] })
    (base : Nat) (v : Value) (l : List α) (hs : a.eval s = v) (hown : Own E w base v l) (A : Option Addr) (l2 : List α) (m cap : Nat) (hm : l2.length = m)
    (hx : a.eval x = .slice A m cap) (hN : m ≤ cap) (hN2 : NilOk A cap) (hc : Seen E w A l2) (hlen : l.length + m ≤ 1099511627776) (hb : base ≤ w.heap.size)
    (h : ∀ v' w', Own E w' base v' (l ++ l2) → Below base w w' → wpList Tryd.prog ops Q rest (a.put o.dst v') w') : wpList Tryd.prog ops Q (o :: rest) a w := by
  cases A with
  | some ad => exact wpList_appSeen E w hgd s x ho base v l hs hown ad l2 m cap hm hx hc hlen hb h
  | none =>
    obtain rfl := hN2 rfl
    obtain rfl : m = 0 := by omega
    obtain rfl := List.eq_nil_of_length_eq_zero hm
    refine wpList_plain hgd fun _ hK => wp_appNone E w s x ho base v l hs hown hx (hK _ _ ?_)
    exact h v w (by rw [List.append_nil]; exact hown) (Below.refl _ _)
theorem own_empty (w : World) : Own eD (w.alloc (.cells #[] 41)) w.heap.size (.slice (some ⟨w.heap.size, 0, none⟩) 0 0) [] :=
  World.ownsRow_lit (base := w.heap.size) (e := 41) (size := 3) w #[] 0 (Nat.le_refl _) (by unfold maxLen; omega) rfl
/-- Two slices of changes, one behind the other, read as both. -/
theorem seenC_app {w0 w2 : World} {v : Value} {M1 M2 : List ChM} {L1 L2 : List T.Chg} {k : Nat} (h1 : M1.length = L1.length) (h2 : M2.length = L2.length) (e1 : ∀ i (h1 : i < M1.length) (h2 : i < L1.length), ChS w0 M1[i] L1[i]) (e2 : ∀ i (h1 : i < M2.length) (h2 : i < L2.length), ChS w0 M2[i] L2[i])
    (ho : Own eD w2 w0.heap.size v ([] ++ M1 ++ M2)) (hb : Below w0.heap.size w0 w2) (hk : (L1 ++ L2).length = k) (hk1 : k ≤ 1024) : ∃ A cap, v = .slice A k cap ∧ CArg w2 A cap k (L1 ++ L2) := by
  rw [List.nil_append] at ho
  obtain ⟨A, cap, rfl, hc, hs⟩ := ho.seen
  have hl : (M1 ++ M2).length = (L1 ++ L2).length := by rw [List.length_append, List.length_append, h1, h2]
  rw [hl, hk] at hc
  refine ⟨A, cap, by rw [hl, hk], hk, hk1, hc, M1 ++ M2, hl, hs, fun i h3 h4 => ?_⟩
  by_cases hi : i < M1.length
  · rw [List.getElem_append_left hi, List.getElem_append_left (by omega)]
    exact (e1 i hi (by omega)).below hb
  · rw [List.getElem_append_right (by omega), List.getElem_append_right (by omega)]
    rw [List.length_append] at h3 h4
    have := (e2 (i - M1.length) (by omega) (by omega)).below hb
    simp only [h1] at this ⊢
    exact this
end Go.Proofs.YtgjnafnmdieniaaDoor
