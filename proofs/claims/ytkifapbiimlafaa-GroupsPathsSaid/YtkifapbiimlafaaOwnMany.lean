/-
  Several slices of the call's own, each in blocks of its own: append of one to one of them leaves the others as they were. Condition: at most 2^40 elements.
-/
import Derived.Test.YtkifapbiimlafaaTreeMem
import Derived.Maps.AppendAt
namespace Go.Proofs.Ytkifapbiimlafaa
open Go.RowKit

/-- Two slice values lie in blocks of their own. -/
def Apart (u v : Value) : Prop := ∀ k, u.ownBlock = some k → v.ownBlock ≠ some k
theorem Apart.symm {u v : Value} (h : Apart u v) : Apart v u := fun k hk e => h k e hk
theorem Apart.nil (v : Value) : Apart (.slice none 0 0) v := fun k hk => by simp [Value.ownBlock] at hk
section
variable {α : Type} {E : Elem α}
theorem Own.lt {w : World} {base : Nat} {v : Value} {l : List α} (h : Own E w base v l) : ∀ k, v.ownBlock = some k → base ≤ k ∧ k < w.heap.size := World.ownsRow.lt h
theorem Own.other {w w' : World} {base : Nat} {u v : Value} {l : List α} (h : Own E w base u l) (hg : w.grownBy w' v.ownBlock) (ha : Apart u v) : Own E w' base u l := by
  refine World.ownsRow.kept h hg ?_
  cases hu : u.ownBlock with
  | none => exact .inl rfl
  | some k => exact .inr (fun e => ha k hu e.symm)
theorem Own.stored {w : World} {base b j : Nat} {u : Value} {l : List α} (h : Own E w base u l) (x : Value) (hb : ∀ k, u.ownBlock = some k → k ≠ b) : Own E (w.setCell ⟨b, j, none⟩ x) base u l := by
  refine World.ownsRow.kept h (row := some b) ⟨rfl, rfl, rfl, by simp [World.setCell], fun k _ hk => Below.heap_setCell _ _ _ _ (fun e => hk (by simp [e]))⟩ ?_
  cases hu : u.ownBlock with
  | none => exact .inl rfl
  | some k => exact .inr (fun e => hb k hu (Option.some.inj e))
/-- What an append to v, in the world w, has made. -/
structure Grew (E : Elem α) (w w' : World) (base : Nat) (v v' : Value) (l : List α) : Prop where
  own : Own E w' base v' l
  grown : w.grownBy w' v.ownBlock
  at_ : v'.ownBlock = v.ownBlock ∨ ∃ g, v'.ownBlock = some g ∧ w.heap.size ≤ g
theorem Grew.apart {w w' : World} {base b2 : Nat} {u v v' : Value} {l l2 : List α} (h : Grew E w w' base v v' l) (hu : Own E w b2 u l2) (ha : Apart u v) : Apart u v' := by
  intro k hk e
  have h2 := hu.lt k hk
  rcases h.at_ with h3 | ⟨g, h3, h4⟩
  · rw [h3] at e; exact ha k hk e
  · rw [h3] at e; injection e with e; omega
theorem Grew.below {w w' : World} {base : Nat} {v v' : Value} {l l2 : List α} (h : Grew E w w' base v v' l) (hv : Own E w base v l2) (hb : base ≤ w.heap.size) : Below base w w' :=
  Below.grown (Below.refl _ _) h.grown hb (fun k hk => (hv.lt k hk).1)
theorem Grew.block {w w' : World} {base b : Nat} {v v' : Value} {l : List α} {o : Obj} (h : Grew E w w' base v v' l) (ho : w.heap[b]? = some o) (hne : v.ownBlock ≠ some b) : w'.heap[b]? = some o := by
  rw [h.grown.block b (Array.getElem?_eq_some_iff.1 ho).1 (fun e => hne e.symm)]; exact ho

theorem wpList_app3 (E : Elem α) {ops : Array Oper} {rest : List Oper} {o : Oper} {a : Act} {Q : Exit → Act → World → Prop} (w : World) (hgd : o.guard = none) (s x : Operand)
    (ho : o.op = .call { callee := .builtin .append, args := #[s, x], argTypes := #[E.st, E.st] })
    (base : Nat) (v : Value) (l : List α) (hs : a.eval s = v) (hown : Own E w base v l) (t : α) (cap : Nat) (cs : Array Value) (hcs : cs.toList = E.C t)
    (g : Nat) (hg : w.heap.size = g) (hx : a.eval x = .slice (some ⟨g, 0, none⟩) 1 cap) (hlen : l.length + 1 ≤ 1099511627776) (hb : base ≤ w.heap.size)
    (h : ∀ v' w', Grew E w w' base v v' (l ++ [t]) → wpList Try.prog ops Q rest (a.put o.dst v') w') : wpList Try.prog ops Q (o :: rest) a (w.alloc (.cells cs E.T)) := by
  subst hg
  obtain ⟨i0, hi0, hz0, hz1, hz2⟩ := info_parts E.hin
  have hby := E.hby
  have hmul : (l.length + 1) * E.by_ ≤ 1099511627776 * 64 := Nat.mul_le_mul hlen hby
  refine Go.wpList_append_own_at (w := w.alloc (.cells cs E.T)) hgd s x E.st ho base E.T i0 _ E.sz E.by_ E.hst hi0 hz0 hz1 hz2 E.hzs E.hsz v l.length (cellsG E l) hs (World.ownsRow.alloc hown _) ⟨w.heap.size, 0, none⟩ 1 cap (cellsG E [t]) hx
    (by rw [cellsG_len]; rfl) (fun j u hu => new_cellsG E.T w cs (E.C t) hcs j u (by rw [← cellsG_one]; exact hu)) (cellsG_onec E _) (by unfold maxLen; omega) (by omega) (by simp; omega) ?_
  intro v' w' h1 h2 _ h3
  refine h v' w' ⟨?_, ⟨h2.os, h2.tape, h2.output, Nat.le_trans (by simp) h2.size, fun k hk hne => ?_⟩, ?_⟩
  · unfold Own; rw [cellsG_append, List.length_append]; exact h1
  · rw [h2.block k (by simp; omega) hne]; exact heap_alloc_old w _ hk
  · rcases h3 with h3 | h3
    · exact .inl h3
    · exact .inr ⟨_, h3, by simp⟩
end
end Go.Proofs.Ytkifapbiimlafaa
