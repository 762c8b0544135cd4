/-
  Contracts of the leaves of layer 6 (lines): append of a slice wherever it lies, slices.Clone of lines, ContainsFunc of words, wrong, known, behind. Condition: at most 2^30 lines and words.
  What a slice that came in says of its capacity; a nil slice has none. No conditions.
  Contracts of layer 6's known, behind and Add (lines): a path that is added to a tree. Condition: at most 2^30 lines and words.
  Contract of layer 6's Add (lines): the tree with a path, or the error; a slice of the call's own. Condition: at most 2^30 lines and words.
  Contract of layer 6's Add (lines), further cases. Condition: at most 2^30 lines and words.
  Contract of layer 6's Add (lines), further cases. Condition: at most 2^30 lines and words.
  Contract of layer 6's Add (lines), all cases: the tree with a path, or the error's number. Condition: at most 2^30 lines and words.
-/
import Derived.Test.YtgefbdckngejdaaDoorTreeE
import Derived.Test.YtgefbdckngejdaaDoorParseC
import Derived.Test.YtgefbdckngejdaaDoorParsePut
import Derived.Test.YtgefbdckngejdaaDoorPureL

namespace Go.Proofs.YtgefbdckngejdaaDoor
open Go.ChangeShapes Go.WideShapes Go.ChangeAt Go.RowKit

/-- append of what is seen elsewhere, wherever it lies. -/
theorem wp_appSeen {α : Type} (E : Elem α) {o : Oper} {a : Act} {K : Act → World → Prop} {Q : Exit → Act → World → Prop} (w : World) (s x : Operand)
    (ho : o.op = .call { callee := .builtin .append, args := #[s, x], argTypes := #[E.st, E.st] })
    (base : Nat) (v : Value) (l : List α) (hs : a.eval s = v) (hown : Own E w base v l) (ad : Addr) (l2 : List α) (m cap : Nat) (hm : l2.length = m)
    (hx : a.eval x = .slice (some ad) m cap) (hc : Seen E w (some ad) l2) (hlen : l.length + m ≤ 1099511627776) (hb : base ≤ w.heap.size)
    (h : ∀ v' w', Own E w' base v' (l ++ l2) → Below base w w' → K (a.put o.dst v') w') : o.wp Tryd.prog a w K Q := by
  by_cases hl : 0 < l2.length
  · obtain ⟨b, q, e, _, hh⟩ := hc hl
    injection e with e
    subst e
    exact wp_appSrc E w s x ho base v l hs hown b q l2 m cap hm hx hh hlen hb h
  · obtain rfl : l2 = [] := List.eq_nil_of_length_eq_zero (by omega)
    subst hm
    obtain ⟨i0, hi0, hz0, hz1, hz2⟩ := info_parts E.hin
    have hby := E.hby
    have hmul : l.length * E.by_ ≤ 1099511627776 * 64 := Nat.mul_le_mul (by omega) hby
    refine wp_append_own w s x E.st ho base E.T i0 _ E.sz E.by_ E.hst hi0 hz0 hz1 hz2 E.hzs E.hsz v l.length (cellsG E l) hs hown ad 0 cap [] hx (by simp) (fun j u hu => by simp at hu) (fun u hu => by cases hu) (by unfold maxLen; simp at hlen; omega) (by simp at hmul ⊢; omega) hb ?_
    intro v' w' h1 h2 _
    refine h v' w' ?_ ?_
    · unfold Own; rw [List.append_nil]; rw [List.append_nil] at h1; exact h1
    · exact Below.grown (Below.refl _ _) h2 hb (fun k hk => (World.ownsRow.lt hown k hk).1)
theorem wpList_appSeen {α : Type} (E : Elem α) {ops : Array Oper} {rest : List Oper} {o : Oper} {a : Act} {Q : Exit → Act → World → Prop} (w : World) (hgd : o.guard = none) (s x : Operand)
    (ho : o.op = .call { callee := .builtin .append, args := #[s, x], argTypes := #[E.st, E.st] })
    (base : Nat) (v : Value) (l : List α) (hs : a.eval s = v) (hown : Own E w base v l) (ad : Addr) (l2 : List α) (m cap : Nat) (hm : l2.length = m)
    (hx : a.eval x = .slice (some ad) m cap) (hc : Seen E w (some ad) l2) (hlen : l.length + m ≤ 1099511627776) (hb : base ≤ w.heap.size)
    (h : ∀ v' w', Own E w' base v' (l ++ l2) → Below base w w' → wpList Tryd.prog ops Q rest (a.put o.dst v') w') : wpList Tryd.prog ops Q (o :: rest) a w :=
  wpList_plain hgd fun _ hK => wp_appSeen E w s x ho base v l hs hown ad l2 m cap hm hx hc hlen hb fun v' w' h1 h2 => hK _ _ (h v' w' h1 h2)

/-- A call leaves a slice of its own. -/
def OwnS {α : Type} (E : Elem α) (w : World) (l : List α) (e : Ending) (w' : World) : Prop := ∃ v, e = .returned v ∧ Own E w' w.heap.size v l ∧ Below w.heap.size w w'
/-- A nil slice has no room. -/
def NilOk (A : Option Addr) (c : Nat) : Prop := A = none → c = 0
/-- Is any word too long? -/
def longB (p : T.Pth) : Bool := p.any fun x => decide (40 < x.length)
theorem longB_yes {p : T.Pth} {k : Nat} (h : k < p.length) (e : decide (40 < p[k].length) = true) : longB p = true := by
  unfold longB; rw [List.any_eq_true]; exact ⟨p[k], List.getElem_mem h, e⟩
theorem longB_no {p : T.Pth} (h : ∀ j (hj : j < p.length), decide (40 < p[j].length) = false) : longB p = false := by
  unfold longB; rw [List.any_eq_false]
  intro x hx
  obtain ⟨i, hi, rfl⟩ := List.getElem_of_mem hx
  rw [h i hi]; decide
theorem longB_all {p : T.Pth} (h : longB p = false) : ∀ x ∈ p, x.length ≤ 40 := by
  intro x hx
  unfold longB at h
  rw [List.any_eq_false] at h
  have := h x hx
  simp only [decide_eq_true_eq] at this
  omega
end Go.Proofs.YtgefbdckngejdaaDoor

namespace Go.Proofs.YtgefbdckngejdaaDoor
open Go.ChangeShapes Go.WideShapes Go.ChangeAt Go.RowKit
theorem slice_ok {P : Program} {w : World} {r : Reach} {base : Nat} {t e : TypeId} {A : Option Addr} {n c : Nat} (ht : P.underlying t = some (.slice e)) (h : Value.okWide P w r base t (.slice A n c)) : (A = none → n = 0 ∧ c = 0) ∧ n ≤ c := by
  simp only [Value.okWide, ht, Cell.okWide] at h
  cases A with
  | some a => simp only [Cell.ok, ht] at h; exact ⟨(fun e => by cases e), h.1⟩
  | none =>
    cases n with
    | zero =>
      cases c with
      | zero => exact ⟨fun _ => ⟨rfl, rfl⟩, Nat.le_refl _⟩
      | succ c => simp [Cell.ok, ht] at h
    | succ n => simp [Cell.ok, ht] at h
end Go.Proofs.YtgefbdckngejdaaDoor

namespace Go.Proofs.YtgefbdckngejdaaDoor
open Go.RowKit

def KnownS (w : World) (t : List T.Ln) (p : T.Pth) (e : Ending) (w' : World) : Prop := ∃ n : Nat, T.knownN t p p.length = n ∧ e = .returned (.tuple #[.int .i64 (T.findI t (p.take n)), .int .i64 (n : Int)]) ∧ Below w.heap.size w w'
end Go.Proofs.YtgefbdckngejdaaDoor

namespace Go.Proofs.YtgefbdckngejdaaDoor
open Go.RowKit
set_option linter.unusedVariables false

section
variable (b o d : Nat) (t : List T.Ln) (p : T.Pth) (w : World)
end
end Go.Proofs.YtgefbdckngejdaaDoor

namespace Go.Proofs.YtgefbdckngejdaaDoor
open Go.RowKit
set_option linter.unusedVariables false

section
variable (b o d : Nat) (t : List T.Ln) (p : T.Pth) (w : World)
end
end Go.Proofs.YtgefbdckngejdaaDoor

namespace Go.Proofs.YtgefbdckngejdaaDoor
open Go.RowKit
set_option linter.unusedVariables false

section
variable (b o d : Nat) (p : T.Pth) (w : World)
end
end Go.Proofs.YtgefbdckngejdaaDoor

namespace Go.Proofs.YtgefbdckngejdaaDoor
open Go.RowKit

/-- What Add makes of lines and a path. -/
def AddIs (t : List T.Ln) (p : T.Pth) (u : List T.Ln) (er : Int) : Prop :=
  (u = t ∧ er = 1 ∧ (p = [] ∨ longB p = true ∨ ¬ T.RightT t)) ∨
  ((0 < p.length ∧ longB p = false ∧ T.RightT t) ∧ ((u = t ∧ er = 6 ∧ 16 < p.length) ∨ (p.length ≤ 16 ∧ ((200 < (T.addL t p).length ∧ u = t ∧ er = 5) ∨ ((T.addL t p).length ≤ 200 ∧ u = T.addL t p ∧ er = 0)))))
theorem add_is (t : List T.Ln) (p : T.Pth) : ∃ u er, AddIs t p u er := by
  by_cases h : p = [] ∨ longB p = true ∨ ¬ T.RightT t
  · exact ⟨t, 1, .inl ⟨rfl, rfl, h⟩⟩
  · have h1 : 0 < p.length ∧ longB p = false ∧ T.RightT t := by
      refine ⟨List.length_pos_iff.2 fun e => h (.inl e), ?_, Classical.byContradiction fun e => h (.inr (.inr e))⟩
      cases e : longB p with
      | false => rfl
      | true => exact absurd (.inr (.inl e)) h
    by_cases h2 : 16 < p.length
    · exact ⟨t, 6, .inr ⟨h1, .inl ⟨rfl, rfl, h2⟩⟩⟩
    · by_cases h3 : (T.addL t p).length ≤ 200
      · exact ⟨_, 0, .inr ⟨h1, .inr ⟨by omega, .inr ⟨h3, rfl, rfl⟩⟩⟩⟩
      · exact ⟨t, 5, .inr ⟨h1, .inr ⟨by omega, .inl ⟨by omega, rfl, rfl⟩⟩⟩⟩
theorem AddIs.zero {t u : List T.Ln} {p : T.Pth} (h : AddIs t p u 0) : 0 < p.length ∧ (∀ w ∈ p, w.length ≤ 40) ∧ T.RightT t ∧ p.length ≤ 16 ∧ (T.addL t p).length ≤ 200 ∧ u = T.addL t p ∧ T.RightT u := by
  rcases h with ⟨_, e, _⟩ | ⟨⟨h1, h2, h3⟩, ⟨_, e, _⟩ | ⟨h4, ⟨_, _, e⟩ | ⟨h5, rfl, _⟩⟩⟩
  · cases e
  · cases e
  · cases e
  · exact ⟨h1, longB_all h2, h3, h4, h5, rfl, T.add_right h3 h4 (longB_all h2) h5⟩
theorem AddIs.err {t u : List T.Ln} {p : T.Pth} {er : Int} (h : AddIs t p u er) (h0 : er ≠ 0) : u = t := by
  rcases h with ⟨e, _⟩ | ⟨_, ⟨e, _⟩ | ⟨_, ⟨_, e, _⟩ | ⟨_, _, e⟩⟩⟩
  · exact e
  · exact e
  · exact e
  · exact absurd e h0
theorem longB_of {p : T.Pth} (h : ∀ w ∈ p, w.length ≤ 40) : longB p = false := longB_no fun j hj => decide_eq_false (by have := h _ (List.getElem_mem hj); omega)
theorem AddIs.ok {t : List T.Ln} {p : T.Pth} (h1 : 0 < p.length) (h2 : ∀ w ∈ p, w.length ≤ 40) (h3 : T.RightT t) (h4 : p.length ≤ 16) (h5 : (T.addL t p).length ≤ 200) : AddIs t p (T.addL t p) 0 :=
  .inr ⟨⟨h1, longB_of h2, h3⟩, .inr ⟨h4, .inr ⟨h5, rfl, rfl⟩⟩⟩
end Go.Proofs.YtgefbdckngejdaaDoor
