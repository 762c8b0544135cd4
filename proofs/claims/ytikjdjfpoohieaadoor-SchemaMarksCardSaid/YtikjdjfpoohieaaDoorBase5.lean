/-
  Contracts of the leaves of layer 5: cmp.Compare and slices.Compare of words, slices.Equal and slices.Clone of paths. Condition: paths of at most 2^30 words. What a reader of layer 5 holds in memory: its block, the statements that it has found, the paths of each; slices.Clone of a path. Condition: paths of at most 2^30 words. Contracts of layer 5's begins, goesOn and has: what each says of a reader; below the heap's size at the call the world is as it was. No conditions but tokens as layer 2 has them. Contracts of layer 5's name and take: a step of the reader is what the plain definition says, and what it leaves as it was. No conditions but tokens as layer 2 has them.
  Contracts of the leaves of layer 6 (lines): append of a slice wherever it lies, slices.Clone of lines, ContainsFunc of words, wrong, known, behind. Condition: at most 2^30 lines and words. What a slice that came in says of its capacity; a nil slice has none. No conditions. Contracts of layer 6's known, behind and Add (lines): a path that is added to a tree. Condition: at most 2^30 lines and words. Contract of layer 6's Add (lines): the tree with a path, or the error; a slice of the call's own. Condition: at most 2^30 lines and words. Contract of layer 6's Add (lines), further cases. Condition: at most 2^30 lines and words. Contract of layer 6's Add (lines), further cases. Condition: at most 2^30 lines and words. Contract of layer 6's Add (lines), all cases: the tree with a path, or the error's number. Condition: at most 2^30 lines and words.
  A [][]string that came in, opened: the paths that it holds, kept over whatever leaves old memory as it was. No conditions.
  Paths in memory: what a slice of them holds, one of the call's own, and what append does to it. Condition: at most 2^40 elements.
  Faults in memory (a path and a number): what a slice of them holds, one of the call's own, and what append does to it. Condition: at most 2^40 elements.
  Layer 13: what schema does, as one premise (SchemaOk). Condition: at most 200 lines; words of at most 100 bytes; paths of at most 40 words; the code's table of statements holds what it was laid with (RowsOk).
  slices.Delete and clear at lines of the call's own; elements stored over others. Condition: at most 2^30 lines.
  The document's side of layer 10 (ferryslipref10): Num, parts, IP, Power, Right, Prefix, value, MAC, Digits, IPText, hex, MACText, In. Condition: texts of at most 2^30 bytes.
  The document's side of layer 13 (ferryslipref13): Name. Condition: texts of at most 2^30 bytes.
  The document's side of layer 10 (ferryslipref10), further: IP, Power, Right, value, Digits, IPText, hex, MACText. Condition: texts of at most 2^30 bytes.
  The document's side of layer 10 (ferryslipref10), last: MACText, Prefix, In, MAC. Condition: texts of at most 2^30 bytes.
-/
import Derived.Test.YtikjdjfpoohieaaDoorBase4
import Derived.Deep.LoopGhost
import Derived.WalkMore
import Derived.RegionTactic
import Derived.Lib.SmallJoins
import Derived.StillTailTactics
import Derived.ArgAppend
import Derived.Lib.AppendZeros
import Derived.Lib.AppendZerosOnto
import Derived.Deep.QuietTactic
import Derived.BigQuiet
import Derived.Deep.RegionHeld3

namespace Go.Proofs.YtikjdjfpoohieaaDoor
open Go.RowKit

end Go.Proofs.YtikjdjfpoohieaaDoor

namespace Go.Proofs.YtikjdjfpoohieaaDoor
open Go.RowKit

theorem Own.empty {α : Type} (E : Elem α) (w : World) : Own E (w.alloc (.cells #[] E.T)) w.heap.size (.slice (some ⟨w.heap.size, 0, none⟩) 0 0) [] :=
  ⟨by simp [cellsG], .inr ⟨w.heap.size, 0, #[], rfl, Nat.le_refl _, heap_alloc_new w _, Nat.le_refl _, by decide, by simp, by simp [cellsG]⟩⟩
/-- A statement, in its two cells: a path in a block of its own, and marks. -/
structure Stm where
  b : Nat
  n : Nat
  cap : Nat
  mark : Int
section
variable {w w1 : World} {g : Nat} {vf vp : Value} {nm : Bool} {mk : Int}
end

/-- What a statement's cells say of a path and its marks. -/
structure StmAt (w : World) (g : Nat) (vf : Value) (s : Stm) (x : T.Pth × Int) : Prop where
  above : g < s.b
  lt : s.b < w.heap.size
  apart : vf.ownBlock ≠ some s.b
  len : x.1.length = s.n
  cap : s.n ≤ s.cap
  mark : s.mark = x.2
  deep : x.1.length ≤ 16
  holds : Holds eS w s.b 0 x.1
def PathV (w : World) (g : Nat) (vf vp : Value) (p : T.Pth) : Prop :=
  (vp = .slice none 0 0 ∧ p = []) ∨ ∃ b cap, vp = .slice (some ⟨b, 0, none⟩) p.length cap ∧ p.length ≤ cap ∧ g < b ∧ b < w.heap.size ∧ vf.ownBlock ≠ some b ∧ Holds eS w b 0 p
/-- What a step of the reader leaves as it was. -/
def KeepR (g : Nat) (vf : Value) (w w1 : World) : Prop := Below g w w1 ∧ ∀ (k : Nat) (o : Obj), w.heap[k]? = some o → k ≠ g → vf.ownBlock ≠ some k → w1.heap[k]? = some o

section
variable {w w1 : World} {g : Nat} {vf vp : Value}
theorem StmAt.below {s : Stm} {x : T.Pth × Int} (h : StmAt w g vf s x) (hb : Below w.heap.size w w1) : StmAt w1 g vf s x :=
  ⟨h.above, Nat.lt_of_lt_of_le h.lt hb.size, h.apart, h.len, h.cap, h.mark, h.deep, h.holds.below hb h.lt⟩
theorem PathV.below {p : T.Pth} (h : PathV w g vf vp p) (hb : Below w.heap.size w w1) : PathV w1 g vf vp p := by
  rcases h with h | ⟨b, cap, h1, h2, h3, h4, h5, h6⟩
  · exact .inl h
  · exact .inr ⟨b, cap, h1, h2, h3, Nat.lt_of_lt_of_le h4 hb.size, h5, h6.below hb h4⟩
theorem KeepR.refl (g : Nat) (vf : Value) (w : World) : KeepR g vf w w := ⟨Below.refl _ _, fun _ _ h _ _ => h⟩
theorem KeepR.of (h : Below w.heap.size w w1) (hg : g ≤ w.heap.size) : KeepR g vf w w1 := ⟨h.mono hg, fun k o hk _ _ => by rw [h.block k (Array.getElem?_eq_some_iff.1 hk).1]; exact hk⟩
theorem KeepR.set (h : KeepR g vf w w1) (j : Nat) (v : Value) : KeepR g vf w (w1.setCell ⟨g, j, none⟩ v) :=
  ⟨h.1.setCell (Nat.le_refl _) _, fun k o hk hne hv => by rw [Below.heap_setCell _ _ _ _ (fun e => hne e)]; exact h.2 k o hk hne hv⟩
end
end Go.Proofs.YtikjdjfpoohieaaDoor

namespace Go.Proofs.YtikjdjfpoohieaaDoor
open Go.RowKit

def RelIx (F : List (T.Pth × Int)) (p : T.Pth) (k : Nat) : Prop := ∀ j (h : j < F.length), j < k → F[j].1 ≠ p
theorem RelIx.next {F : List (T.Pth × Int)} {p : T.Pth} {k : Nat} (h : RelIx F p k) (hk : k < F.length) (e : F[k].1 ≠ p) : RelIx F p (k + 1) := by
  intro j hj hjk
  rcases Nat.lt_or_ge j k with hlt | hge
  · exact h j hj hlt
  · obtain rfl : j = k := by omega
    exact e

end Go.Proofs.YtikjdjfpoohieaaDoor

namespace Go.Proofs.YtikjdjfpoohieaaDoor
open Go.RowKit

theorem Own.block {α : Type} {E : Elem α} {w : World} {base : Nat} {A : Option Addr} {n cap : Nat} {l : List α} (h : Own E w base (.slice A n cap) l) (hl : 0 < l.length) : ∃ b, A = some ⟨b, 0, none⟩ ∧ base ≤ b ∧ b < w.heap.size ∧ Holds E w b 0 l := by
  obtain ⟨A2, cap2, e, _, hs⟩ := h.seen
  injection e with e1 e2 e3
  subst e1
  obtain ⟨b, o, e4, hb, hh⟩ := hs hl
  rcases h.2 with ⟨e5, _⟩ | ⟨g, c, cur, e5, hbg, _⟩
  · injection e5 with e5; rw [e5] at e4; cases e4
  · injection e5 with e5
    rw [e5] at e4
    injection e4 with e4
    injection e4 with e6 e7
    subst e6; subst e7
    exact ⟨g, e5, hbg, hb, hh⟩
theorem holds_of_block {α : Type} {E : Elem α} {w w1 : World} {b o : Nat} {l : List α} (h : Holds E w b o l) (e : w1.heap[b]? = w.heap[b]?) : Holds E w1 b o l := by
  intro i hi j u hu
  rw [← h i hi j u hu]
  unfold World.cell?
  simp only [e]
theorem PathV.set {w : World} {g : Nat} {vf vp : Value} {p : T.Pth} (h : PathV w g vf vp p) (j : Nat) (v : Value) : PathV (w.setCell ⟨g, j, none⟩ v) g vf vp p := by
  rcases h with h | ⟨b, cap, h1, h2, h3, h4, h5, h6⟩
  · exact .inl h
  · exact .inr ⟨b, cap, h1, h2, h3, by simpa [World.setCell] using h4, h5, holds_of_block h6 (Below.heap_setCell _ _ _ _ (fun e => by simp only at e; omega))⟩
theorem KeepR.then {w w1 w2 : World} {g : Nat} {vf : Value} (h : KeepR g vf w w1) (hb : Below w1.heap.size w1 w2) (hg : g ≤ w1.heap.size) : KeepR g vf w w2 :=
  ⟨h.1.trans (hb.mono hg), fun k o hk hne hv => by
    have := h.2 k o hk hne hv
    rw [hb.block k (Array.getElem?_eq_some_iff.1 this).1]; exact this⟩

theorem KeepR.from {w w1 w2 : World} {g : Nat} {vf : Value} (h : KeepR g vf w1 w2) (hb : Below w.heap.size w w1) (hg : g ≤ w.heap.size) : KeepR g vf w w2 :=
  ⟨(hb.mono hg).trans h.1, fun k o hk hne hv => h.2 k o (by rw [hb.block k (Array.getElem?_eq_some_iff.1 hk).1]; exact hk) hne hv⟩

theorem KeepR.drew {w w1 : World} {g : Nat} {vf : Value} (h : KeepR g vf w w1) : KeepR g vf w w1.drew := ⟨h.1.drew, h.2⟩
theorem PathV.drop {w : World} {g : Nat} {vf vp : Value} {p : T.Pth} (h : PathV w g vf vp p) (hp : p ≠ []) : ∃ b cap n, p.length = n + 1 ∧ vp = .slice (some ⟨b, 0, none⟩) (n + 1) cap ∧ n + 1 ≤ cap ∧ PathV w g vf (.slice (some ⟨b, 0, none⟩) n cap) p.dropLast := by
  rcases h with ⟨_, e⟩ | ⟨b, cap, h1, h2, h3, h4, h5, h6⟩
  · exact absurd e hp
  · obtain ⟨n, hn⟩ : ∃ n, p.length = n + 1 := ⟨p.length - 1, by have := List.length_pos_iff.2 hp; omega⟩
    have hd : p.dropLast.length = n := by rw [List.length_dropLast]; omega
    refine ⟨b, cap, n, hn, by rw [h1, hn], by omega, .inr ⟨b, cap, by rw [hd], by omega, h3, h4, h5, ?_⟩⟩
    rw [List.dropLast_eq_take]
    exact h6.take _

end Go.Proofs.YtikjdjfpoohieaaDoor

namespace Go.Proofs.YtikjdjfpoohieaaDoor
open Go.ChangeShapes Go.WideShapes Go.ChangeAt Go.RowKit

/-- append of what is seen elsewhere, wherever it lies. -/
theorem wp_appSeen {α : Type} (E : Elem α) {o : Oper} {a : Act} {K : Act → World → Prop} {Q : Exit → Act → World → Prop} (w : World) (s x : Operand)
    (ho : o.op = .call { callee := .builtin .append, args := #[s, x], argTypes := #[E.st, E.st] })
    (base : Nat) (v : Value) (l : List α) (hs : a.eval s = v) (hown : Own E w base v l) (ad : Addr) (l2 : List α) (m cap : Nat) (hm : l2.length = m)
    (hx : a.eval x = .slice (some ad) m cap) (hc : Seen E w (some ad) l2) (hlen : l.length + m ≤ 1099511627776) (hb : base ≤ w.heap.size)
    (h : ∀ v' w', Own E w' base v' (l ++ l2) → Below base w w' → K (a.put o.dst v') w') : o.wp Tryd.prog a w K Q := by
  by_cases hl : 0 < l2.length
  · obtain ⟨b, q, e, _, hh⟩ := hc hl
    injection e with e
    subst e
    exact wp_appSrc E w s x ho base v l hs hown b q l2 m cap hm hx hh hlen hb h
  · obtain rfl : l2 = [] := List.eq_nil_of_length_eq_zero (by omega)
    subst hm
    obtain ⟨i0, hi0, hz0, hz1, hz2⟩ := info_parts E.hin
    have hby := E.hby
    have hmul : l.length * E.by_ ≤ 1099511627776 * 64 := Nat.mul_le_mul (by omega) hby
    refine wp_append_own w s x E.st ho base E.T i0 _ E.sz E.by_ E.hst hi0 hz0 hz1 hz2 E.hzs E.hsz v l.length (cellsG E l) hs hown ad 0 cap [] hx (by simp) (fun j u hu => by simp at hu) (fun u hu => by cases hu) (by unfold maxLen; simp at hlen; omega) (by simp at hmul ⊢; omega) hb ?_
    intro v' w' h1 h2 _
    refine h v' w' ?_ ?_
    · unfold Own; rw [List.append_nil]; rw [List.append_nil] at h1; exact h1
    · exact Below.grown (Below.refl _ _) h2 hb (fun k hk => (World.ownsRow.lt hown k hk).1)
theorem wpList_appSeen {α : Type} (E : Elem α) {ops : Array Oper} {rest : List Oper} {o : Oper} {a : Act} {Q : Exit → Act → World → Prop} (w : World) (hgd : o.guard = none) (s x : Operand)
    (ho : o.op = .call { callee := .builtin .append, args := #[s, x], argTypes := #[E.st, E.st] })
    (base : Nat) (v : Value) (l : List α) (hs : a.eval s = v) (hown : Own E w base v l) (ad : Addr) (l2 : List α) (m cap : Nat) (hm : l2.length = m)
    (hx : a.eval x = .slice (some ad) m cap) (hc : Seen E w (some ad) l2) (hlen : l.length + m ≤ 1099511627776) (hb : base ≤ w.heap.size)
    (h : ∀ v' w', Own E w' base v' (l ++ l2) → Below base w w' → wpList Tryd.prog ops Q rest (a.put o.dst v') w') : wpList Tryd.prog ops Q (o :: rest) a w :=
  wpList_plain hgd fun _ hK => wp_appSeen E w s x ho base v l hs hown ad l2 m cap hm hx hc hlen hb fun v' w' h1 h2 => hK _ _ (h v' w' h1 h2)

/-- A call leaves a slice of its own. -/
def OwnS {α : Type} (E : Elem α) (w : World) (l : List α) (e : Ending) (w' : World) : Prop := ∃ v, e = .returned v ∧ Own E w' w.heap.size v l ∧ Below w.heap.size w w'
/-- A nil slice has no room. -/
def NilOk (A : Option Addr) (c : Nat) : Prop := A = none → c = 0
/-- Is any word too long? -/
def longB (p : T.Pth) : Bool := p.any fun x => decide (40 < x.length)
theorem longB_no {p : T.Pth} (h : ∀ j (hj : j < p.length), decide (40 < p[j].length) = false) : longB p = false := by
  unfold longB; rw [List.any_eq_false]
  intro x hx
  obtain ⟨i, hi, rfl⟩ := List.getElem_of_mem hx
  rw [h i hi]; decide
theorem longB_all {p : T.Pth} (h : longB p = false) : ∀ x ∈ p, x.length ≤ 40 := by
  intro x hx
  unfold longB at h
  rw [List.any_eq_false] at h
  have := h x hx
  simp only [decide_eq_true_eq] at this
  omega
end Go.Proofs.YtikjdjfpoohieaaDoor

namespace Go.Proofs.YtikjdjfpoohieaaDoor
open Go.ChangeShapes Go.WideShapes Go.ChangeAt Go.RowKit
theorem slice_ok {P : Program} {w : World} {r : Reach} {base : Nat} {t e : TypeId} {A : Option Addr} {n c : Nat} (ht : P.underlying t = some (.slice e)) (h : Value.okWide P w r base t (.slice A n c)) : (A = none → n = 0 ∧ c = 0) ∧ n ≤ c := by
  simp only [Value.okWide, ht, Cell.okWide] at h
  cases A with
  | some a => simp only [Cell.ok, ht] at h; exact ⟨(fun e => by cases e), h.1⟩
  | none =>
    cases n with
    | zero =>
      cases c with
      | zero => exact ⟨fun _ => ⟨rfl, rfl⟩, Nat.le_refl _⟩
      | succ c => simp [Cell.ok, ht] at h
    | succ n => simp [Cell.ok, ht] at h
end Go.Proofs.YtikjdjfpoohieaaDoor

namespace Go.Proofs.YtikjdjfpoohieaaDoor
open Go.RowKit

end Go.Proofs.YtikjdjfpoohieaaDoor

namespace Go.Proofs.YtikjdjfpoohieaaDoor
open Go.RowKit
set_option linter.unusedVariables false

section
variable (b o d : Nat) (t : List T.Ln) (p : T.Pth) (w : World)
end
end Go.Proofs.YtikjdjfpoohieaaDoor

namespace Go.Proofs.YtikjdjfpoohieaaDoor
open Go.RowKit
set_option linter.unusedVariables false

section
variable (b o d : Nat) (t : List T.Ln) (p : T.Pth) (w : World)
end
end Go.Proofs.YtikjdjfpoohieaaDoor

namespace Go.Proofs.YtikjdjfpoohieaaDoor
open Go.RowKit
set_option linter.unusedVariables false

section
variable (b o d : Nat) (p : T.Pth) (w : World)
end
end Go.Proofs.YtikjdjfpoohieaaDoor

namespace Go.Proofs.YtikjdjfpoohieaaDoor
open Go.RowKit

/-- What Add makes of lines and a path. -/
def AddIs (t : List T.Ln) (p : T.Pth) (u : List T.Ln) (er : Int) : Prop :=
  (u = t ∧ er = 1 ∧ (p = [] ∨ longB p = true ∨ ¬ T.RightT t)) ∨
  ((0 < p.length ∧ longB p = false ∧ T.RightT t) ∧ ((u = t ∧ er = 6 ∧ 16 < p.length) ∨ (p.length ≤ 16 ∧ ((200 < (T.addL t p).length ∧ u = t ∧ er = 5) ∨ ((T.addL t p).length ≤ 200 ∧ u = T.addL t p ∧ er = 0)))))
theorem add_is (t : List T.Ln) (p : T.Pth) : ∃ u er, AddIs t p u er := by
  by_cases h : p = [] ∨ longB p = true ∨ ¬ T.RightT t
  · exact ⟨t, 1, .inl ⟨rfl, rfl, h⟩⟩
  · have h1 : 0 < p.length ∧ longB p = false ∧ T.RightT t := by
      refine ⟨List.length_pos_iff.2 fun e => h (.inl e), ?_, Classical.byContradiction fun e => h (.inr (.inr e))⟩
      cases e : longB p with
      | false => rfl
      | true => exact absurd (.inr (.inl e)) h
    by_cases h2 : 16 < p.length
    · exact ⟨t, 6, .inr ⟨h1, .inl ⟨rfl, rfl, h2⟩⟩⟩
    · by_cases h3 : (T.addL t p).length ≤ 200
      · exact ⟨_, 0, .inr ⟨h1, .inr ⟨by omega, .inr ⟨h3, rfl, rfl⟩⟩⟩⟩
      · exact ⟨t, 5, .inr ⟨h1, .inr ⟨by omega, .inl ⟨by omega, rfl, rfl⟩⟩⟩⟩
theorem AddIs.zero {t u : List T.Ln} {p : T.Pth} (h : AddIs t p u 0) : 0 < p.length ∧ (∀ w ∈ p, w.length ≤ 40) ∧ T.RightT t ∧ p.length ≤ 16 ∧ (T.addL t p).length ≤ 200 ∧ u = T.addL t p ∧ T.RightT u := by
  rcases h with ⟨_, e, _⟩ | ⟨⟨h1, h2, h3⟩, ⟨_, e, _⟩ | ⟨h4, ⟨_, _, e⟩ | ⟨h5, rfl, _⟩⟩⟩
  · cases e
  · cases e
  · cases e
  · exact ⟨h1, longB_all h2, h3, h4, h5, rfl, T.add_right h3 h4 (longB_all h2) h5⟩
theorem longB_of {p : T.Pth} (h : ∀ w ∈ p, w.length ≤ 40) : longB p = false := longB_no fun j hj => decide_eq_false (by have := h _ (List.getElem_mem hj); omega)
theorem AddIs.ok {t : List T.Ln} {p : T.Pth} (h1 : 0 < p.length) (h2 : ∀ w ∈ p, w.length ≤ 40) (h3 : T.RightT t) (h4 : p.length ≤ 16) (h5 : (T.addL t p).length ≤ 200) : AddIs t p (T.addL t p) 0 :=
  .inr ⟨⟨h1, longB_of h2, h3⟩, .inr ⟨h4, .inr ⟨h5, rfl, rfl⟩⟩⟩
end Go.Proofs.YtikjdjfpoohieaaDoor

namespace Go.Proofs.YtikjdjfpoohieaaDoor
open Go.ChangeShapes Go.WideShapes Go.ChangeAt Go.RowKit

/-- A slice of this address, and of as many elements as L has, holds these paths. -/
def SeenP (w : World) (A : Option Addr) (L : List T.Pth) : Prop := 0 < L.length → ∃ b o, A = some ⟨b, o, none⟩ ∧ b < w.heap.size ∧ ∀ i (h : i < L.length), ∃ B c, w.cell? ⟨b, o + i, none⟩ = some (.slice B L[i].length c) ∧ L[i].length ≤ c ∧ Seen eS w B L[i]
theorem SeenP.below {w w1 : World} {A : Option Addr} {L : List T.Pth} (h : SeenP w A L) (hb : Below w.heap.size w w1) : SeenP w1 A L := fun hl => by
  obtain ⟨b, o, e, hlt, hh⟩ := h hl
  refine ⟨b, o, e, Nat.lt_of_lt_of_le hlt hb.size, fun i hi => ?_⟩
  obtain ⟨B, c, h1, h2, h3⟩ := hh i hi
  exact ⟨B, c, (hb.cell (p := ⟨b, o + i, none⟩) hlt).trans h1, h2, h3.below hb⟩
end Go.Proofs.YtikjdjfpoohieaaDoor

namespace Go.Proofs.YtikjdjfpoohieaaDoor
open Go.RowKit
set_option linter.unusedVariables false

/-- A path, as its cell has it. -/
structure PtM where
  A : Option Addr
  n : Nat
  c : Nat
/-- A path's cell says it. -/
structure PtS (w : World) (m : PtM) (x : T.Pth) : Prop where
  len : x.length = m.n
  cap : m.n ≤ m.c
  seen : Seen eS w m.A x
theorem PtS.below {w w1 : World} {m : PtM} {x : T.Pth} (h : PtS w m x) (hb : Below w.heap.size w w1) : PtS w1 m x := ⟨h.len, h.cap, h.seen.below hb⟩
/-- A slice of this address reads as these paths. -/
def SeenQ (E : Elem PtM) (w : World) (A : Option Addr) (L : List T.Pth) : Prop := ∃ M : List PtM, M.length = L.length ∧ Seen E w A M ∧ ∀ i (h1 : i < M.length) (h2 : i < L.length), PtS w M[i] L[i]
theorem SeenQ.below {E : Elem PtM} {w w1 : World} {A : Option Addr} {L : List T.Pth} (h : SeenQ E w A L) (hb : Below w.heap.size w w1) : SeenQ E w1 A L := by
  obtain ⟨M, h1, h2, h3⟩ := h
  exact ⟨M, h1, h2.below hb, fun i h4 h5 => (h3 i h4 h5).below hb⟩
theorem SeenQ.nil {E : Elem PtM} {w : World} {A : Option Addr} : SeenQ E w A [] := ⟨[], rfl, Seen.nil, fun i h => absurd h (Nat.not_lt_zero i)⟩
/-- A path lies outside a slice's own row. -/
def FreeQ (v : Value) (m : PtM) (x : T.Pth) : Prop := 0 < x.length → ∀ a, m.A = some a → v.ownBlock ≠ some a.block
/-- A slice value owns these paths; their words lie elsewhere. -/
def OwnQ (E : Elem PtM) (w : World) (base : Nat) (v : Value) (L : List T.Pth) : Prop := ∃ M : List PtM, M.length = L.length ∧ Own E w base v M ∧ ∀ i (h1 : i < M.length) (h2 : i < L.length), PtS w M[i] L[i] ∧ FreeQ v M[i] L[i]
theorem OwnQ.nil (E : Elem PtM) (w : World) (base : Nat) : OwnQ E w base (.slice none 0 0) [] := ⟨[], rfl, Own.nil _ _, fun i h => absurd h (Nat.not_lt_zero i)⟩
theorem OwnQ.keep {E : Elem PtM} {w w1 : World} {base : Nat} {v : Value} {L : List T.Pth} (h : OwnQ E w base v L) (hb : Below w.heap.size w w1) : OwnQ E w1 base v L := by
  obtain ⟨M, h1, h2, h3⟩ := h
  exact ⟨M, h1, h2.keep hb, fun i h4 h5 => ⟨(h3 i h4 h5).1.below hb, (h3 i h4 h5).2⟩⟩
theorem OwnQ.base {E : Elem PtM} {w : World} {b1 b2 : Nat} {v : Value} {L : List T.Pth} (h : OwnQ E w b1 v L) (hb : b2 ≤ b1) : OwnQ E w b2 v L := by
  obtain ⟨M, h1, h2, h3⟩ := h
  exact ⟨M, h1, h2.base hb, h3⟩
theorem OwnQ.seen {E : Elem PtM} {w : World} {base : Nat} {v : Value} {L : List T.Pth} (h : OwnQ E w base v L) : ∃ A cap, v = .slice A L.length cap ∧ L.length ≤ cap ∧ SeenQ E w A L := by
  obtain ⟨M, h1, h2, h3⟩ := h
  obtain ⟨A, cap, e, h4, h5⟩ := h2.seen
  rw [h1] at e h4
  exact ⟨A, cap, e, h4, M, h1, h5, fun i h6 h7 => (h3 i h6 h7).1⟩
/-- One more. -/
theorem OwnQ.snoc {E : Elem PtM} {w w' : World} {base : Nat} {v v' : Value} {M : List PtM} {L : List T.Pth} {m : PtM} {x : T.Pth} (hl : M.length = L.length) (he : ∀ i (h1 : i < M.length) (h2 : i < L.length), PtS w M[i] L[i] ∧ FreeQ v M[i] L[i])
    (hx : PtS w m x) (hf : FreeQ v m x) (hg : Grew E w w' base v v' (M ++ [m])) : OwnQ E w' base v' (L ++ [x]) := by
  have step : ∀ (m : PtM) (x : T.Pth), PtS w m x → FreeQ v m x → PtS w' m x ∧ FreeQ v' m x := by
    intro m x hx hf
    refine ⟨⟨hx.len, hx.cap, fun hp => ?_⟩, fun hp a ha e => ?_⟩
    · obtain ⟨b, o, e, hb, hH⟩ := hx.seen hp
      have hne := hf hp _ e
      exact ⟨b, o, e, Nat.lt_of_lt_of_le hb hg.grown.size, holds_of_block hH (hg.grown.block b hb (fun e => hne e.symm))⟩
    · obtain ⟨b, o, e2, hb, _⟩ := hx.seen hp
      have hne := hf hp a ha
      have eb : a.block = b := by rw [e2] at ha; injection ha with ha; rw [← ha]
      rcases hg.at_ with h | ⟨g, h, h4⟩
      · rw [h] at e; exact hne e
      · rw [h] at e; injection e with e; omega
  refine ⟨M ++ [m], by rw [List.length_append, List.length_append, hl]; rfl, hg.own, fun i h1 h2 => ?_⟩
  rw [List.length_append, List.length_singleton] at h1
  by_cases hi : i < M.length
  · rw [List.getElem_append_left hi, List.getElem_append_left (by omega)]
    exact step _ _ (he i hi (by omega)).1 (he i hi (by omega)).2
  · obtain rfl : i = M.length := by omega
    have e1 : (M ++ [m])[M.length]'(by simp) = m := by simp
    have e2 : (L ++ [x])[M.length]'(by rw [List.length_append, hl]; simp) = x := by simp [hl]
    rw [e1, e2]
    exact step _ _ hx hf
theorem cells_from {α : Type} {E : Elem α} {w : World} {b q : Nat} {l2 : List α} (hc : Holds E w b q l2) : ∀ j u, (cellsG E l2)[j]? = some u → w.cell? ((⟨b, q, none⟩ : Addr).add j) = some u := by
  intro j u hu
  have hj : j < l2.length * E.sz := by rw [← cellsG_len]; exact (List.getElem?_eq_some_iff.1 hu).1
  have hsz := E.hsz
  have hi : j / E.sz < l2.length := Nat.div_lt_of_lt_mul (by rw [Nat.mul_comm]; exact hj)
  have hr : j % E.sz < E.sz := Nat.mod_lt _ hsz
  have e : j / E.sz * E.sz + j % E.sz = j := by rw [Nat.mul_comm]; exact Nat.div_add_mod j E.sz
  rw [← e, cellsG_at E l2 _ _ hi hr] at hu
  have := hc _ hi _ u hu
  rw [show q + j / E.sz * E.sz + j % E.sz = q + j by omega] at this
  rw [add_off]; exact this
/-- append of many, wherever they lie, saying what it leaves. -/
theorem wpList_appSrc3 {α : Type} (E : Elem α) {ops : Array Oper} {rest : List Oper} {o : Oper} {a : Act} {Q : Exit → Act → World → Prop} (w : World) (hgd : o.guard = none) (s x : Operand)
    (ho : o.op = .call { callee := .builtin .append, args := #[s, x], argTypes := #[E.st, E.st] })
    (base : Nat) (v : Value) (l : List α) (hs : a.eval s = v) (hown : Own E w base v l) (b q : Nat) (l2 : List α) (m cap : Nat) (hm : l2.length = m)
    (hx : a.eval x = .slice (some ⟨b, q, none⟩) m cap) (hc : Holds E w b q l2) (hlen : l.length + m ≤ 1099511627776) (hb : base ≤ w.heap.size)
    (h : ∀ v' w', Grew E w w' base v v' (l ++ l2) → wpList Tryd.prog ops Q rest (a.put o.dst v') w') : wpList Tryd.prog ops Q (o :: rest) a w := by
  obtain ⟨i0, hi0, hz0, hz1, hz2⟩ := info_parts E.hin
  subst hm
  have hby := E.hby
  have hmul : (l.length + l2.length) * E.by_ ≤ 1099511627776 * 64 := Nat.mul_le_mul hlen hby
  refine Go.wpList_append_own_at (w := w) hgd s x E.st ho base E.T i0 _ E.sz E.by_ E.hst hi0 hz0 hz1 hz2 E.hzs E.hsz v l.length (cellsG E l) hs hown ⟨b, q, none⟩ l2.length cap (cellsG E l2) hx
    (cellsG_len E l2) (fun j u hu => cells_from hc j u hu) (cellsG_onec E _) (by unfold maxLen; omega) (by omega) hb ?_
  intro v' w' h1 h2 _ h3
  refine h v' w' ⟨?_, ⟨h2.os, h2.tape, h2.output, h2.size, fun k hk hne => h2.block k hk hne⟩, ?_⟩
  · unfold Own; rw [cellsG_append, List.length_append]; exact h1
  · rcases h3 with h3 | h3
    · exact .inl h3
    · exact .inr ⟨_, h3, Nat.le_refl _⟩
/-- A path's value, at an address from block k on. -/
structure PtK (w : World) (k : Nat) (m : PtM) (x : T.Pth) : Prop where
  pt : PtS w m x
  from_ : ∀ a, m.A = some a → k ≤ a.block
theorem PtK.below {w w1 : World} {k : Nat} {m : PtM} {x : T.Pth} (h : PtK w k m x) (hb : Below w.heap.size w w1) : PtK w1 k m x := ⟨h.pt.below hb, h.from_⟩
theorem PtK.less {w : World} {k j : Nat} {m : PtM} {x : T.Pth} (h : PtK w k m x) (hj : j ≤ k) : PtK w j m x := ⟨h.pt, fun a ha => Nat.le_trans hj (h.from_ a ha)⟩
/-- A path's memory, cut. -/
theorem PtK.cut {w : World} {k b o n c : Nat} {x : T.Pth} (h : PtK w k ⟨some ⟨b, o, none⟩, n, c⟩ x) (i : Nat) (hi : i ≤ n) : PtK w k ⟨some ⟨b, o + i, none⟩, n - i, c - i⟩ (x.drop i) := by
  refine ⟨⟨by rw [List.length_drop, h.pt.len], by have := h.pt.cap; simp only at this ⊢; omega, fun hp => ?_⟩, fun a ha => ?_⟩
  · rw [List.length_drop] at hp
    obtain ⟨b2, o2, e, hb, hH⟩ := h.pt.seen (by omega)
    injection e with e
    injection e with e1 e2
    subst e1; subst e2
    refine ⟨b, o + i, rfl, hb, fun d hd j u hu => ?_⟩
    rw [List.length_drop] at hd
    rw [List.getElem_drop] at hu
    have := hH (i + d) (by omega) j u hu
    rw [show o + i + d * eS.sz + j = o + (i + d) * eS.sz + j by rw [show (eS.sz : Nat) = 1 from rfl]; omega]
    exact this
  · injection ha with ha
    have := h.from_ ⟨b, o, none⟩ rfl
    rw [← ha]
    exact this
theorem PtK.take {w : World} {k n c : Nat} {A : Option Addr} {x : T.Pth} (h : PtK w k ⟨A, n, c⟩ x) (i : Nat) (hi : i ≤ n) : PtK w k ⟨A, i, c⟩ (x.take i) := by
  refine ⟨⟨by rw [List.length_take, h.pt.len]; exact Nat.min_eq_left hi, by have := h.pt.cap; simp only at this ⊢; omega, fun hp => ?_⟩, fun a ha => h.from_ a ha⟩
  rw [List.length_take] at hp
  obtain ⟨b2, o2, e, hb, hH⟩ := h.pt.seen (by omega)
  refine ⟨b2, o2, e, hb, fun d hd j u hu => ?_⟩
  rw [List.length_take] at hd
  rw [List.getElem_take] at hu
  exact hH d (by omega) j u hu
/-- A path with one word more: new memory, of the call's own. -/
theorem with_own (v : Value) (p : T.Pth) (wd : List UInt8) (w : World) (h : VecAt eS w v p) (hp : p.length ≤ 1073741824) :
    Calls Tryd.prog 41 #[v, .string (sB wd)] w (fun e w' => ∃ v2, e = .returned v2 ∧ Own eS w' w.heap.size v2 (p ++ [wd]) ∧ Below w.heap.size w w') := by
  rcases h with ⟨rfl, rfl⟩ | ⟨b, o, c, rfl, hc, hb, hH⟩
  · go_enter Tryd.func41, Tryd.ntmps41
    go_wp2_with (first | (at_builtin; refine wpList_appNone eS w rfl (.tmp 6) (.tmp 7) rfl w.heap.size (.slice none 0 0) [] rfl (Own.nil _ _) rfl ?_) | (at_builtin; refine wpList_appG eS w rfl (.tmp 9) (.tmp 11) rfl w.heap.size (.slice none 0 0) [] rfl (Own.nil _ _) wd 1 #[.string (sB wd)] rfl w.heap.size rfl rfl (by simp) (Nat.le_refl _) ?_; intro v2 w2 hown2 hb2))
    go_ret
    exact ⟨v2, rfl, hown2, hb2⟩
  · go_enter Tryd.func41, Tryd.ntmps41
    go_wp2_with (first | (at_builtin; refine wpList_appSrc eS w rfl (.tmp 6) (.tmp 7) rfl w.heap.size (.slice none 0 0) [] rfl (Own.nil _ _) b o p p.length c rfl rfl hH (by simp; omega) (Nat.le_refl _) ?_; intro v1 w1 hown1 hb1; have hs1 := hb1.size) | (at_builtin; refine wpList_appG eS w1 rfl (.tmp 9) (.tmp 11) rfl w.heap.size v1 ([] ++ p) rfl hown1 wd 1 #[.string (sB wd)] rfl w1.heap.size rfl rfl (by simp; omega) hs1 ?_; intro v2 w2 hown2 hb2))
    go_ret
    exact ⟨v2, rfl, by rw [List.nil_append] at hown2; exact hown2, hb1.trans hb2⟩
theorem own_pt {w : World} {k : Nat} {v : Value} {x : T.Pth} (h : Own eS w k v x) : ∃ A c, v = .slice A x.length c ∧ PtK w k ⟨A, x.length, c⟩ x := by
  obtain ⟨A, c, rfl, hc, hs⟩ := h.seen
  refine ⟨A, c, rfl, ⟨rfl, hc, hs⟩, fun a ha => ?_⟩
  have ha : A = some a := ha
  subst ha
  rcases h.2 with ⟨e, _⟩ | ⟨g, cap, cur, e, hb, _⟩
  · injection e with e; cases e
  · injection e with e _ _
    injection e with e
    rw [e]
    exact hb
/-- What an append to v, in the world w, leaves. -/
def G12 (w w' : World) (v v' : Value) : Prop := w.heap.size ≤ w'.heap.size ∧ (∀ b, b < w.heap.size → v.ownBlock ≠ some b → w'.heap[b]? = w.heap[b]?) ∧ ∀ b, v'.ownBlock = some b → v.ownBlock = some b ∨ w.heap.size ≤ b
/-- append of many, saying what it leaves. -/
theorem wpList_appM {α : Type} (E : Elem α) {ops : Array Oper} {rest : List Oper} {o : Oper} {a : Act} {Q : Exit → Act → World → Prop} (w : World) (hgd : o.guard = none) (s x : Operand)
    (ho : o.op = .call { callee := .builtin .append, args := #[s, x], argTypes := #[E.st, E.st] })
    (base : Nat) (v : Value) (l : List α) (hs : a.eval s = v) (hown : Own E w base v l) (v2 : Value) (l2 : List α) (hx : a.eval x = v2) (h2 : VecAt E w v2 l2) (hlen : l.length + l2.length ≤ 1099511627776) (hb : base ≤ w.heap.size)
    (h : ∀ v' w', Own E w' base v' (l ++ l2) → Below base w w' → G12 w w' v v' → wpList Tryd.prog ops Q rest (a.put o.dst v') w') : wpList Tryd.prog ops Q (o :: rest) a w := by
  rcases h2 with ⟨rfl, rfl⟩ | ⟨b, q, c, rfl, hc, hbw, hH⟩
  · refine wpList_appNone E w hgd s x ho base v l hs hown hx ?_
    exact h v w (by rw [List.append_nil]; exact hown) (Below.refl _ _) ⟨Nat.le_refl _, fun _ _ _ => rfl, fun b e => .inl e⟩
  · refine wpList_appSrc3 E w hgd s x ho base v l hs hown b q l2 l2.length c rfl hx hH hlen hb fun v' w' hG => h v' w' hG.own (hG.below hown hb) ⟨hG.grown.size, fun b hb hne => hG.grown.block b hb (fun e => hne e.symm), fun b e => ?_⟩
    rcases hG.at_ with h | ⟨g, h, h4⟩
    · left; rw [← h]; exact e
    · right; rw [h] at e; injection e with e; omega
end Go.Proofs.YtikjdjfpoohieaaDoor

namespace Go.Proofs.YtikjdjfpoohieaaDoor
open Go.RowKit
set_option linter.unusedVariables false

/-- A fault, as its cells have it. -/
abbrev FlM := PtM × Int
abbrev Fl := T.Pth × Int
def flC (x : FlM) : List Value := [.slice x.1.A x.1.n x.1.c, .int .i64 x.2]
theorem flC_one (x : FlM) (u : Value) (hu : u ∈ flC x) : u.oneCell' = true := by
  simp [flC] at hu
  rcases hu with rfl | rfl <;> rfl
/-- The document's. -/
def eFd : Elem FlM where
  st := 30
  T := 60
  sz := 2
  zero := .agg #[.slice none 0 0, .int .i64 0]
  by_ := 32
  C := flC
  hst := Tryd.underlying30
  hin := by kernel_rfl
  hzs := rfl
  hsz := by decide
  hby := by decide
  len := fun _ => rfl
  one := flC_one
/-- The code's. -/
def eFc : Elem FlM where
  st := 25
  T := 44
  sz := 2
  zero := .agg #[.slice none 0 0, .int .i64 0]
  by_ := 32
  C := flC
  hst := Tryd.underlying25
  hin := by kernel_rfl
  hzs := rfl
  hsz := by decide
  hby := by decide
  len := fun _ => rfl
  one := flC_one
structure FlK (w : World) (k : Nat) (m : FlM) (x : Fl) : Prop where
  pt : PtK w k m.1 x.1
  num : m.2 = x.2
theorem FlK.below {w w1 : World} {k : Nat} {m : FlM} {x : Fl} (h : FlK w k m x) (hb : Below w.heap.size w w1) : FlK w1 k m x := ⟨h.pt.below hb, h.num⟩
theorem FlK.less {w : World} {k j : Nat} {m : FlM} {x : Fl} (h : FlK w k m x) (hj : j ≤ k) : FlK w j m x := ⟨h.pt.less hj, h.num⟩
/-- A slice value that reads as these faults, each path at an address from block k on. -/
def ManyF (E : Elem FlM) (w : World) (k : Nat) (v : Value) (L : List Fl) : Prop := ∃ M : List FlM, M.length = L.length ∧ VecAt E w v M ∧ ∀ i (h1 : i < M.length) (h2 : i < L.length), FlK w k M[i] L[i]
theorem ManyF.below {E : Elem FlM} {w w1 : World} {k : Nat} {v : Value} {L : List Fl} (h : ManyF E w k v L) (hb : Below w.heap.size w w1) : ManyF E w1 k v L := by
  obtain ⟨M, h1, h2, h3⟩ := h
  exact ⟨M, h1, h2.below hb, fun i h4 h5 => (h3 i h4 h5).below hb⟩
theorem ManyF.less {E : Elem FlM} {w : World} {k j : Nat} {v : Value} {L : List Fl} (h : ManyF E w k v L) (hj : j ≤ k) : ManyF E w j v L := by
  obtain ⟨M, h1, h2, h3⟩ := h
  exact ⟨M, h1, h2, fun i h4 h5 => (h3 i h4 h5).less hj⟩
theorem ManyF.nil (E : Elem FlM) (w : World) (k : Nat) : ManyF E w k (.slice none 0 0) [] := ⟨[], rfl, VecAt.nil _ _, fun i h => absurd h (Nat.not_lt_zero i)⟩
/-- A slice value owns these faults; their paths lie elsewhere, from block k on. -/
def OwnF (E : Elem FlM) (w : World) (base k : Nat) (v : Value) (L : List Fl) : Prop := ∃ M : List FlM, M.length = L.length ∧ Own E w base v M ∧ ∀ i (h1 : i < M.length) (h2 : i < L.length), FlK w k M[i] L[i] ∧ FreeQ v M[i].1 L[i].1
theorem OwnF.nil (E : Elem FlM) (w : World) (base k : Nat) : OwnF E w base k (.slice none 0 0) [] := ⟨[], rfl, Own.nil _ _, fun i h => absurd h (Nat.not_lt_zero i)⟩
theorem OwnF.keep {E : Elem FlM} {w w1 : World} {base k : Nat} {v : Value} {L : List Fl} (h : OwnF E w base k v L) (hb : Below w.heap.size w w1) : OwnF E w1 base k v L := by
  obtain ⟨M, h1, h2, h3⟩ := h
  exact ⟨M, h1, h2.keep hb, fun i h4 h5 => ⟨(h3 i h4 h5).1.below hb, (h3 i h4 h5).2⟩⟩
theorem OwnF.flMany {E : Elem FlM} {w : World} {base k : Nat} {v : Value} {L : List Fl} (h : OwnF E w base k v L) : ManyF E w k v L := by
  obtain ⟨M, h1, h2, h3⟩ := h
  exact ⟨M, h1, VecAt.own h2, fun i h4 h5 => (h3 i h4 h5).1⟩
theorem OwnF.flBlock {E : Elem FlM} {w : World} {base k : Nat} {v : Value} {L : List Fl} (h : OwnF E w base k v L) : ∀ b, v.ownBlock = some b → base ≤ b ∧ b < w.heap.size := by
  obtain ⟨M, _, h2, _⟩ := h
  exact h2.lt
theorem OwnF.flFreeB {E : Elem FlM} {w w1 : World} {base k : Nat} {v : Value} {L : List Fl} {m : PtM} {x : T.Pth} (h : OwnF E w base k v L) (hm : PtS w1 m x) (hj : w1.heap.size ≤ base) : FreeQ v m x := by
  intro hp a ha e
  obtain ⟨b, o, e2, hb, _⟩ := hm.seen hp
  have h6 := (h.flBlock _ e).1
  rw [e2] at ha
  injection ha with ha
  rw [← ha] at h6
  have h6 : base ≤ b := h6
  omega
theorem OwnF.snoc {E : Elem FlM} {w w' : World} {base k : Nat} {v v' : Value} {M : List FlM} {L : List Fl} {m : FlM} {x : Fl} (hl : M.length = L.length) (he : ∀ i (h1 : i < M.length) (h2 : i < L.length), FlK w k M[i] L[i] ∧ FreeQ v M[i].1 L[i].1)
    (hx : FlK w k m x) (hf : FreeQ v m.1 x.1) (hg : Grew E w w' base v v' (M ++ [m])) : OwnF E w' base k v' (L ++ [x]) := by
  have step : ∀ (m : FlM) (x : Fl), FlK w k m x → FreeQ v m.1 x.1 → FlK w' k m x ∧ FreeQ v' m.1 x.1 := by
    intro m x hx hf
    refine ⟨⟨⟨⟨hx.pt.pt.len, hx.pt.pt.cap, fun hp => ?_⟩, hx.pt.from_⟩, hx.num⟩, fun hp a ha e => ?_⟩
    · obtain ⟨b, o, e, hb, hH⟩ := hx.pt.pt.seen hp
      have hne := hf hp _ e
      exact ⟨b, o, e, Nat.lt_of_lt_of_le hb hg.grown.size, holds_of_block hH (hg.grown.block b hb (fun e => hne e.symm))⟩
    · obtain ⟨b, o, e2, hb, _⟩ := hx.pt.pt.seen hp
      have hne := hf hp a ha
      have eb : a.block = b := by rw [e2] at ha; injection ha with ha; rw [← ha]
      rcases hg.at_ with h | ⟨g, h, h4⟩
      · rw [h] at e; exact hne e
      · rw [h] at e; injection e with e; omega
  refine ⟨M ++ [m], by rw [List.length_append, List.length_append, hl]; rfl, hg.own, fun i h1 h2 => ?_⟩
  rw [List.length_append, List.length_singleton] at h1
  by_cases hi : i < M.length
  · rw [List.getElem_append_left hi, List.getElem_append_left (by omega)]
    exact step _ _ (he i hi (by omega)).1 (he i hi (by omega)).2
  · obtain rfl : i = M.length := by omega
    have e1 : (M ++ [m])[M.length]'(by simp) = m := by simp
    have e2 : (L ++ [x])[M.length]'(by rw [List.length_append, hl]; simp) = x := by simp [hl]
    rw [e1, e2]
    exact step _ _ hx hf
/-- append of one fault. -/
theorem wpList_appF (E : Elem FlM) {ops : Array Oper} {rest : List Oper} {o : Oper} {a : Act} {Q : Exit → Act → World → Prop} (w : World) (hgd : o.guard = none) (s x : Operand)
    (ho : o.op = .call { callee := .builtin .append, args := #[s, x], argTypes := #[E.st, E.st] })
    (base k : Nat) (v : Value) (L : List Fl) (hs : a.eval s = v) (hown : OwnF E w base k v L) (y : Fl) (m : FlM) (hy : FlK w k m y) (hf : FreeQ v m.1 y.1) (cap : Nat) (cs : Array Value) (hcs : cs.toList = E.C m)
    (g : Nat) (hg : w.heap.size = g) (hx : a.eval x = .slice (some ⟨g, 0, none⟩) 1 cap) (hlen : L.length + 1 ≤ 1099511627776) (hb : base ≤ w.heap.size)
    (h : ∀ v' w', OwnF E w' base k v' (L ++ [y]) → Below base w w' → wpList Tryd.prog ops Q rest (a.put o.dst v') w') : wpList Tryd.prog ops Q (o :: rest) a (w.alloc (.cells cs E.T)) := by
  obtain ⟨M, h1, h2, h3⟩ := hown
  exact wpList_app3 E w hgd s x ho base v M hs h2 m cap cs hcs g hg hx (by omega) hb fun v' w' hG => h v' w' (OwnF.snoc h1 h3 hy hf hG) (hG.below h2 hb)
/-- What stands in the cells of a fault. -/
theorem Holds.flQ {E : Elem FlM} (hz : E.sz = 2) (hC : E.C = flC) {w : World} {b o : Nat} {l : List FlM} (h : Holds E w b o l) {i : Nat} (hi : i < l.length) : w.cell? ⟨b, o + i * 2, none⟩ = some (.slice l[i].1.A l[i].1.n l[i].1.c) ∧ w.cell? ⟨b, o + i * 2 + 1, none⟩ = some (.int .i64 l[i].2) := by
  constructor
  · have := h i hi 0 _ (by rw [hC]; rfl)
    rw [hz] at this
    exact this
  · have := h i hi 1 _ (by rw [hC]; rfl)
    rw [hz] at this
    exact this
end Go.Proofs.YtikjdjfpoohieaaDoor

namespace Go.Proofs.YtikjdjfpoohieaaDoor
open Go.RowKit
set_option linter.unusedVariables false

/-- Lines that are handed over. -/
structure LArgS (w : World) (A : Option Addr) (c n : Nat) (t : List T.Ln) : Prop where
  len : t.length = n
  most : n ≤ 200
  cap : n ≤ c
  nil : NilOk A c
  seen : Seen eL w A t
theorem LArgS.below {w w1 : World} {A : Option Addr} {c n : Nat} {t : List T.Ln} (h : LArgS w A c n t) (hb : Below w.heap.size w w1) : LArgS w1 A c n t := ⟨h.len, h.most, h.cap, h.nil, h.seen.below hb⟩
theorem LArgS.small {w : World} {A : Option Addr} {c n : Nat} {t : List T.Ln} (h : LArgS w A c n t) : n ≤ 1073741824 := by have := h.most; omega
def CheckIs (t : List T.Ln) (L : List Fl) (er : Int) : Prop := (T.RightT t ∧ L = C.checkP (C.pths t) ∧ er = 0) ∨ (¬ T.RightT t ∧ L = [] ∧ er = 1)
theorem check_ex (t : List T.Ln) : ∃ L er, CheckIs t L er := by
  by_cases h : T.RightT t
  · exact ⟨_, _, .inl ⟨h, rfl, rfl⟩⟩
  · exact ⟨_, _, .inr ⟨h, rfl, rfl⟩⟩
/-- What a line of a path needs. -/
def needsL (p : T.Pth) : List C.Wd := match p with
  | [a, b] => if C.secondW a ≠ [] ∧ C.knownP [a, b] = 0 then C.needsW a else []
  | _ => []
/-- The code's table of statements: a row's first path, the type behind it, whether it holds one, whether it is needed. -/
def rowsL : List (C.Wd × C.Wd × Bool × Bool) := [([104, 111, 115, 116, 115], C.kName, false, false), ([104, 111, 115, 116, 115, 32, 36, 110, 97, 109, 101, 32, 105, 112], C.kIp, true, true), ([104, 111, 115, 116, 115, 32, 36, 110, 97, 109, 101, 32, 109, 97, 99], C.kMac, true, false), ([104, 111, 115, 116, 115, 32, 36, 110, 97, 109, 101, 32, 118, 110, 105, 115], C.kVni, false, false), ([118, 110, 105, 115], C.kVni, false, false), ([118, 110, 105, 115, 32, 36, 118, 110, 105, 32, 115, 117, 98, 110, 101, 116], C.kPrefix, true, true), ([98, 105, 110, 100, 105, 110, 103, 115], C.kIp, false, false), ([98, 105, 110, 100, 105, 110, 103, 115, 32, 36, 105, 112, 32, 104, 111, 115, 116], C.kName, true, true), ([98, 105, 110, 100, 105, 110, 103, 115, 32, 36, 105, 112, 32, 109, 97, 99], C.kMac, true, true), ([98, 105, 110, 100, 105, 110, 103, 115, 32, 36, 105, 112, 32, 118, 110, 105], C.kVni, true, true), ([114, 111, 117, 116, 101, 115], C.kPrefix, false, false), ([114, 111, 117, 116, 101, 115, 32, 36, 112, 114, 101, 102, 105, 120, 32, 118, 105, 97], C.kName, true, true), ([114, 111, 117, 116, 101, 115, 32, 36, 112, 114, 101, 102, 105, 120, 32, 109, 101, 116, 114, 105, 99], C.kMetric, true, false), ([112, 111, 108, 105, 99, 121], C.kNum, false, false), ([112, 111, 108, 105, 99, 121, 32, 36, 110, 117, 109, 32, 97, 99, 116, 105, 111, 110], C.kAction, true, true), ([112, 111, 108, 105, 99, 121, 32, 36, 110, 117, 109, 32, 102, 114, 111, 109], C.kPrefix, true, false), ([112, 111, 108, 105, 99, 121, 32, 36, 110, 117, 109, 32, 116, 111], C.kPrefix, true, false)]
def rowV (r : C.Wd × C.Wd × Bool × Bool) : List Value := [.string (sB r.1), .string (sB r.2.1), .bool r.2.2.1, .bool r.2.2.2]
/-- The code's table holds what it was laid with. -/
def RowsOk (w : World) : Prop := w.var? Tryd.prog "ferryslip/schema.rows" = some (rowsL.flatMap rowV).toArray
theorem RowsOk.below {w w1 : World} (h : RowsOk w) (hb : Below w.heap.size w w1) : RowsOk w1 := Go.Joins.var_stays (g := 0) (by kernel_rfl) h hb (Nat.le_refl _)
theorem rowsAt {w w1 : World} (h : Hid (RowsOk w)) (hb : Below w.heap.size w w1) : RowsOk w1 := h.out.below hb
theorem below_drawn13 {B : Nat} {a w : World} (h : Below B a w) (q : Nat) : Below B a (w.drewN q) := ⟨h.os, h.tape, h.output, h.size, h.block⟩
/-- What schema does; its faults, and their paths, lie in new memory. -/
structure SchemaOk : Prop where
  checkOf : ∀ (A : Option Addr) (c n m : Nat) (t : List T.Ln) (L : List Fl) (er : Int) (w : World), LArgS w A c n t → CheckIs t L er → L.length = m → RowsOk w → Calls Tryd.prog 12 #[.slice A n c] w (fun e w' => ∃ B d, e = .returned (.tuple #[.slice B m d, .int .i64 er]) ∧ (ManyF eFc w' w.heap.size (.slice B m d) L ∧ ∀ a, B = some a → w.heap.size ≤ a.block) ∧ Below w.heap.size w w')
  typeOf : ∀ (k s : ByteArray) (r : Bool) (w : World), k.size ≤ 100 → s.size ≤ 100 → C.typeB k.data.toList s.data.toList = r → Calls Tryd.prog 17 #[.string k, .string s] w (fun e w' => e = .returned (.bool r) ∧ Below w.heap.size w w')
  needsOf : ∀ (A : Option Addr) (c n m : Nat) (p : T.Pth) (l : List C.Wd) (w : World), p.length = n → n ≤ c → n ≤ 40 → (∀ x ∈ p, x.length ≤ 100) → Seen eS w A p → needsL p = l → l.length = m → RowsOk w → Calls Tryd.prog 24 #[.slice A n c] w (fun e w' => ∃ B d, e = .returned (.slice B m d) ∧ m ≤ d ∧ Seen eS w' B l ∧ Below w.heap.size w w')
end Go.Proofs.YtikjdjfpoohieaaDoor

namespace Go.Proofs.YtikjdjfpoohieaaDoor
open Go.RowKit
set_option linter.unusedVariables false

theorem set_split (l r : List Value) (o : Nat) (v : Value) (h : o < l.length) : (l.set o v).take (o + 1) ++ r ++ (l.set o v).drop (o + 1 + r.length) = l.take o ++ (v :: r) ++ l.drop (o + (r.length + 1)) := by
  obtain ⟨A, x, B, rfl, rfl⟩ : ∃ (A : List Value) (x : Value) (B : List Value), l = A ++ x :: B ∧ A.length = o :=
    ⟨l.take o, l[o], l.drop (o + 1), by rw [List.getElem_cons_drop, List.take_append_drop], by rw [List.length_take]; omega⟩
  have e : (A ++ x :: B).set A.length v = A ++ v :: B := by simp
  rw [e, List.take_length_add_append, Nat.add_assoc, List.drop_length_add_append, List.take_left, List.drop_length_add_append, Nat.add_comm 1 r.length]
  simp
theorem setCells_block (g : Nat) (T : TypeId) : ∀ (vs : List Value) (o : Nat) (w : World) (cur : Array Value), w.heap[g]? = some (.cells cur T) → o + vs.length ≤ cur.size →
    ∃ cur2 : Array Value, (w.setCells g o vs).heap[g]? = some (.cells cur2 T) ∧ cur2.toList = cur.toList.take o ++ vs ++ cur.toList.drop (o + vs.length)
  | [], o, w, cur, h, _ => ⟨cur, h, by simp⟩
  | v :: r, o, w, cur, h, hl => by
    rw [List.length_cons] at hl
    have h1 : (w.setCell ⟨g, o, none⟩ v).heap[g]? = some (.cells (cur.setIfInBounds o v) T) := by simp [World.setCell, Array.getElem?_modify, h]
    obtain ⟨cur2, h2, h3⟩ := setCells_block g T r (o + 1) _ _ h1 (by rw [Array.size_setIfInBounds]; omega)
    refine ⟨cur2, h2, ?_⟩
    have hol : o < cur.toList.length := by rw [Array.length_toList]; omega
    rw [h3, Array.toList_setIfInBounds, set_split _ _ _ _ hol, List.length_cons]
theorem Own.parts {α : Type} {E : Elem α} {w : World} {base g n cap : Nat} {t : List α} (h : Own E w base (.slice (some ⟨g, 0, none⟩) n cap) t) : ∃ cur : Array Value, t.length = n ∧ base ≤ g ∧ w.heap[g]? = some (.cells cur E.T) ∧ n ≤ cap ∧ cap ≤ maxLen ∧ cur.size = cap * E.sz ∧ cur.toList.take (n * E.sz) = cellsG E t := by
  rcases h.2 with ⟨e, _⟩ | ⟨g2, cap2, cur, e, hbg, hgg, hnc, hcm, hcs, htk⟩
  · cases e
  · injection e with e1 e2 e3
    injection e1 with e1
    injection e1 with e1
    subst e1; subst e2; subst e3
    exact ⟨cur, rfl, hbg, hgg, hnc, hcm, hcs, htk⟩
theorem cellsG_take {α : Type} (E : Elem α) (t : List α) (i : Nat) : (cellsG E t).take (i * E.sz) = cellsG E (t.take i) := by
  conv => lhs; rw [← List.take_append_drop i t, cellsG_append]
  rcases Nat.lt_or_ge t.length i with h | h
  · rw [List.take_of_length_le (Nat.le_of_lt h), List.drop_eq_nil_of_le (Nat.le_of_lt h)]
    have e : cellsG E ([] : List α) = [] := rfl
    rw [e, List.append_nil, List.take_of_length_le]
    rw [cellsG_len]; exact Nat.mul_le_mul_right _ (Nat.le_of_lt h)
  · have e : (cellsG E (t.take i)).length = i * E.sz := by rw [cellsG_len, List.length_take, Nat.min_eq_left h]
    rw [← e, List.take_left]
/-- Elements, stored over those from a place on; what stands behind is cut off. -/
theorem Own.over {α : Type} {E : Elem α} {w : World} {base g n cap : Nat} {t l2 : List α} (h : Own E w base (.slice (some ⟨g, 0, none⟩) n cap) t) {i r : Nat} (hi : i ≤ n) (hr : l2.length = r) (hc : i + r ≤ cap) : Own E (w.setCells g (i * E.sz) (cellsG E l2)) base (.slice (some ⟨g, 0, none⟩) (i + r) cap) (t.take i ++ l2) := by
  obtain ⟨cur, h1, h2, h3, h4, h5, h6, h7⟩ := h.parts
  have hl2 := cellsG_len E l2
  have hmul : (i + r) * E.sz ≤ cap * E.sz := Nat.mul_le_mul_right _ hc
  have hmul2 : i * E.sz ≤ n * E.sz := Nat.mul_le_mul_right _ hi
  rw [Nat.add_mul] at hmul
  obtain ⟨cur2, k1, k2⟩ := setCells_block g E.T (cellsG E l2) (i * E.sz) w cur h3 (by rw [hl2, hr]; omega)
  have hlen : (t.take i ++ l2).length = i + r := by rw [List.length_append, List.length_take, hr]; omega
  refine ⟨by rw [cellsG_len], .inr ⟨g, cap, cur2, by rw [hlen], h2, k1, by rw [hlen]; exact hc, h5, ?_, ?_⟩⟩
  · have e := congrArg List.length k2
    rw [Array.length_toList] at e
    rw [e, List.length_append, List.length_append, List.length_take, List.length_drop, Array.length_toList, hl2, hr, h6]
    omega
  · have e0 : cur.toList.take (i * E.sz) = cellsG E (t.take i) := by
      rw [← cellsG_take, ← h7, List.take_take, Nat.min_eq_left hmul2]
    have e1 : (cellsG E (t.take i) ++ cellsG E l2).length = (i + r) * E.sz := by
      rw [List.length_append, cellsG_len, cellsG_len, hr, List.length_take, Nat.add_mul, Nat.min_eq_left (by omega)]
    rw [hlen, cellsG_append, k2, e0, ← e1, List.take_left]
/-- What is stored behind the last element turns nothing. -/
theorem Own.behind {α : Type} {E : Elem α} {w : World} {base g n cap : Nat} {t : List α} (h : Own E w base (.slice (some ⟨g, 0, none⟩) n cap) t) {o : Nat} (vs : List Value) (ho : n * E.sz ≤ o) (hc : o + vs.length ≤ cap * E.sz) : Own E (w.setCells g o vs) base (.slice (some ⟨g, 0, none⟩) n cap) t := by
  obtain ⟨cur, h1, h2, h3, h4, h5, h6, h7⟩ := h.parts
  obtain ⟨cur2, k1, k2⟩ := setCells_block g E.T vs o w cur h3 (by omega)
  subst h1
  refine ⟨h.1, .inr ⟨g, cap, cur2, rfl, h2, k1, h4, h5, ?_, ?_⟩⟩
  · have e := congrArg List.length k2
    rw [Array.length_toList] at e
    rw [e, List.length_append, List.length_append, List.length_take, List.length_drop, Array.length_toList, h6]
    omega
  · rw [k2, List.append_assoc, List.take_append, List.take_take, Nat.min_eq_left ho, h7, List.length_take]
    have e : t.length * E.sz - min o cur.toList.length = 0 := by
      have hmul : t.length * E.sz ≤ cap * E.sz := Nat.mul_le_mul_right _ h4
      have hcl : cur.toList.length = cur.size := Array.length_toList
      omega
    rw [e, List.take_zero, List.append_nil]
end Go.Proofs.YtikjdjfpoohieaaDoor

namespace Go.Proofs.YtikjdjfpoohieaaDoor
open Go.RowKit
set_option linter.unusedVariables false

theorem num_bad {s : List UInt8} {c : UInt8} (hc : c ∈ s) (h : N.digB c = false) : N.numL s = -1 := by
  unfold N.numL
  rw [if_pos (.inr (.inr (.inr (List.all_eq_false.2 ⟨c, hc, by rw [h]; simp⟩))))]
theorem num_all {s : List UInt8} (h0 : s ≠ []) (h1 : ¬ 10 < s.length) (h2 : ¬ (s.head? = some 48 ∧ 1 < s.length)) (h3 : s.all N.digB = true) : N.numL s = N.valL s := by
  unfold N.numL
  rw [if_neg]
  rintro (e | e | e | e)
  · exact h0 e
  · exact h1 e
  · exact h2 e
  · rw [h3] at e; cases e
theorem head_is (s : ByteArray) (h : 0 < s.size) : s.data.toList.head? = some s[0] := by
  have e : s.data.toList.take 1 = s.data.toList.take 0 ++ [s[0]] := W.take_snoc s 0 h
  cases hl : s.data.toList with
  | nil => rw [hl] at e; simp at e
  | cons x r => rw [hl] at e; simp at e; rw [e]; rfl
theorem digB_lo {c : UInt8} (h : c.toNat < 48) : N.digB c = false := by unfold N.digB; rw [decide_eq_false (by omega)]; rfl
theorem digB_hi {c : UInt8} (h : 57 < c.toNat) : N.digB c = false := by unfold N.digB; rw [decide_eq_false (show ¬ c.toNat ≤ 57 by omega), Bool.and_false]
theorem digB_in {c : UInt8} (h : 48 ≤ c.toNat) (h2 : c.toNat ≤ 57) : N.digB c = true := by unfold N.digB; rw [decide_eq_true h, decide_eq_true h2]; rfl
set_option maxRecDepth 100000 in
set_option maxHeartbeats 2000000 in
theorem numR (s : ByteArray) (w : World) (hs : s.size ≤ 1073741824) : Calls Tryd.prog 49 #[.string s] w (fun e w' => e = .returned (.int .i64 (N.numL s.data.toList)) ∧ w = w') := by
  have hsz : s.data.toList.length = s.size := by simp
  by_cases h0 : s.size = 0
  · have HE := Lib.hid (show N.numL s.data.toList = -1 by rw [List.eq_nil_of_length_eq_zero (hsz.trans h0)]; rfl)
    have b1 : decide ((s.size : Int) < 1) = true := decide_eq_true (by omega)
    have b1b : decide (s.size < 1) = true := decide_eq_true (by omega)
    have b1c : decide (s.size = 0) = true := decide_eq_true h0
    clear hsz h0
    go_enter Tryd.func49, Tryd.ntmps49
    go_wp2
    go_ret
    exact ⟨by rw [HE.out]; rfl, rfl⟩
  have hpos : 0 < s.size := by omega
  have b1 : decide ((s.size : Int) < 1) = false := decide_eq_false (by omega)
  have b1b : decide (s.size < 1) = false := decide_eq_false (by omega)
  have b1c : decide (s.size = 0) = false := decide_eq_false h0
  by_cases h1 : 10 < s.size
  · have HE := Lib.hid (show N.numL s.data.toList = -1 by unfold N.numL; rw [if_pos (.inr (.inl (by rw [hsz]; exact h1)))])
    have b2 : decide ((10 : Int) < (s.size : Int)) = true := decide_eq_true (by omega)
    have b2b : decide (10 < s.size) = true := decide_eq_true h1
    clear hsz h0 h1
    go_enter Tryd.func49, Tryd.ntmps49
    go_wp2
    go_ret
    exact ⟨by rw [HE.out]; rfl, rfl⟩
  have b2 : decide ((10 : Int) < (s.size : Int)) = false := decide_eq_false (by omega)
  have b2b : decide (10 < s.size) = false := decide_eq_false h1
  have hhd := head_is s hpos
  by_cases h2 : s[0].toNat = 48 ∧ 1 < s.size
  · have HE := Lib.hid (show N.numL s.data.toList = -1 by unfold N.numL; rw [if_pos (.inr (.inr (.inl ⟨by rw [hhd, show s[0] = 48 from UInt8.toNat_inj.1 h2.1], by rw [hsz]; exact h2.2⟩)))])
    have b3 : ((s[0].toNat : Int) == 48) = true := by simp; omega
    have b4 : decide ((1 : Int) < (s.size : Int)) = true := decide_eq_true (by omega)
    have b4b : decide (1 < s.size) = true := decide_eq_true h2.2
    clear hsz h0 h1 h2 hhd
    go_enter Tryd.func49, Tryd.ntmps49
    go_wp2
    go_ret
    exact ⟨by rw [HE.out]; rfl, rfl⟩
  have HSZ := Lib.hid hsz
  have HNE := Lib.hid (show s.data.toList ≠ [] from fun e => h0 (by rw [← hsz, e]; rfl))
  have HH := Lib.hid (show ¬ (s.data.toList.head? = some 48 ∧ 1 < s.data.toList.length) by
    rintro ⟨e1, e2⟩
    rw [hhd] at e1
    injection e1 with e1
    exact h2 ⟨by rw [e1]; rfl, by omega⟩)
  by_cases h3 : s[0].toNat = 48
  all_goals
    first
    | (have b3 : ((s[0].toNat : Int) == 48) = true := by (simp; omega)
       have b4 : decide ((1 : Int) < (s.size : Int)) = false := decide_eq_false (by omega)
       have b4b : decide (1 < s.size) = false := decide_eq_false (by omega))
    | (have b3 : ((s[0].toNat : Int) == 48) = false := by (simp; omega))
    clear hsz h0 h2 h3 hhd
    go_enter Tryd.func49, Tryd.ntmps49
    go_wp2
    go_loopg [3, 4] s.size (fun gk vn vi wr => ∃ k v : Nat, Hid (k + gk = s.size) ∧ k ≤ s.size ∧ vi = .int .i64 (k : Int) ∧ vn = .int .i64 (v : Int) ∧ Hid (N.valL (s.data.toList.take k) = v) ∧ Hid ((s.data.toList.take k).all N.digB = true) ∧ w = wr)
    case atStart => exact ⟨0, 0, Nat.zero_add _, Nat.zero_le _, rfl, rfl, rfl, rfl, rfl⟩
    case round =>
      obtain ⟨k, v, HG, hk, rfl, rfl, HV, HD, rfl⟩ := hrel
      by_cases hlt : k < s.size
      · have blt : decide ((k : Int) < (s.size : Int)) = true := decide_eq_true (by omega)
        have blt2 : decide (k < s.size) = true := decide_eq_true hlt
        have hki : (k : Int) < (s.size : Int) := by omega
        have hsn := W.take_snoc s k hlt
        have hmem : s[k] ∈ s.data.toList := List.mem_of_mem_take (i := k + 1) (by rw [hsn]; simp)
        have hv : v < 10000000000 := by
          rw [← HV.out]
          exact N.val_lt _ HD.out 10 (by rw [List.length_take]; omega)
        have hc := s[k].toNat_lt
        by_cases hlo : s[k].toNat < 48
        · have c1 : decide ((s[k].toNat : Int) < 48) = true := decide_eq_true (by omega)
          have HE := Lib.hid (num_bad hmem (digB_lo hlo))
          clear hsn hmem hlo
          go_wp2
          go_ret
          exact ⟨by rw [HE.out]; rfl, rfl⟩
        · have c1 : decide ((s[k].toNat : Int) < 48) = false := decide_eq_false (by omega)
          by_cases hhi : 57 < s[k].toNat
          · have c2 : decide ((57 : Int) < (s[k].toNat : Int)) = true := decide_eq_true (by omega)
            have c2b : decide (57 < s[k].toNat) = true := decide_eq_true hhi
            have HE := Lib.hid (num_bad hmem (digB_hi hhi))
            clear hsn hmem hlo hhi
            go_wp2
            go_ret
            exact ⟨by rw [HE.out]; rfl, rfl⟩
          · have c2 : decide ((57 : Int) < (s[k].toNat : Int)) = false := decide_eq_false (by omega)
            have c2b : decide (57 < s[k].toNat) = false := decide_eq_false hhi
            have HSN := Lib.hid hsn
            have HD2 := Lib.hid (show (s.data.toList.take (k + 1)).all N.digB = true by rw [hsn, List.all_append, HD.out]; show ([s[k]] : List UInt8).all N.digB = true; rw [List.all_cons, digB_in (by omega) (by omega)]; rfl)
            have HV2 := Lib.hid (show N.valL (s.data.toList.take (k + 1)) = 10 * v + (s[k].toNat - 48) by rw [hsn, N.val_snoc, HV.out])
            have hgk := HG.out
            have hu : IntKind.u8.wrap ((s[k].toNat : Int) - 48) = ((s[k].toNat - 48 : Nat) : Int) := by rw [IntKind.wrap_u8]; omega
            clear hsn hmem
            go_wp2
            go_roundg (s.size - (k + 1))
            case rel => exact ⟨k + 1, 10 * v + (s[k].toNat - 48), (by show _ = _; omega), by omega, by go_num, by go_num, HV2, HD2, rfl⟩
            case measure => omega
      · have blt : decide ((k : Int) < (s.size : Int)) = false := decide_eq_false (by omega)
        have blt2 : decide (k < s.size) = false := decide_eq_false hlt
        have htk : s.data.toList.take k = s.data.toList := List.take_of_length_le (by have := HSZ.out; omega)
        have HE := Lib.hid (show N.numL s.data.toList = v by
          have h5 := HV.out
          have h6 := HD.out
          rw [htk] at h5 h6
          rw [num_all HNE.out (by rw [HSZ.out]; exact h1) HH.out h6, h5])
        clear htk
        go_wp2
        go_ret
        exact ⟨by rw [HE.out]; rfl, rfl⟩
theorem numQ (x : List UInt8) (z : Int) (w : World) (hs : x.length ≤ 1073741824) (h : N.numL x = z) : Calls Tryd.prog 49 #[.string (sB x)] w (fun e w' => e = .returned (.int .i64 z) ∧ w = w') := by
  have := numR (sB x) w (by rw [sB_size]; exact hs)
  rw [sB_data, h] at this
  exact this
theorem cut_str (s : ByteArray) (a b : Nat) (hb : b ≤ s.size) : s.extract a b = sB ((s.data.toList.drop a).take (b - a)) := by
  refine ByteArray.ext (Array.ext' ?_)
  have h1 : (s.extract a b).data = s.data.extract a b := by simp [ByteArray.data_extract]
  rw [h1]
  simp [sB, Array.toList_extract, List.extract_eq_take_drop]
set_option maxRecDepth 100000 in
set_option maxHeartbeats 2000000 in
theorem partsR (s : ByteArray) (c : UInt8) (w : World) (hs : s.size ≤ 1073741824) : Calls Tryd.prog 81 #[.string s, .int .u8 c.toNat] w (OwnS eS w (N.splitL c s.data.toList)) := by
  have hsz : s.data.toList.length = s.size := by simp
  have HSZ := Lib.hid hsz
  clear hsz
  go_enter Tryd.func81, Tryd.ntmps81
  go_wp2
  go_loopg [5, 6, 7] (s.size + 1) (fun gk vo vf vi wr => ∃ (i f : Nat) (L : List (List UInt8)), Hid (i + gk = s.size + 1) ∧ vi = .int .i64 (i : Int) ∧ vf = .int .i64 (f : Int) ∧ Hid (Own eS wr w.heap.size vo L) ∧ Hid (L.length ≤ i ∧ f ≤ i) ∧ Hid ((i ≤ s.size ∧ N.CutAt c s.data.toList L f i) ∨ (i = s.size + 1 ∧ N.splitL c s.data.toList = L)) ∧ Below w.heap.size w wr)
  case atStart => exact ⟨0, 0, [], Nat.zero_add _, rfl, rfl, Own.nil _ _, ⟨Nat.le_refl _, Nat.le_refl _⟩, .inl ⟨Nat.zero_le _, N.cut_start c _⟩, Below.refl _ _⟩
  case round =>
    obtain ⟨i, f, L, HG, rfl, rfl, HO, HLF, HC, hbr⟩ := hrel
    have hgk := HG.out
    obtain ⟨hLi, hfi⟩ := HLF.out
    have hsz := hbr.size
    by_cases hle : i ≤ s.size
    · have blt : decide ((i : Int) ≤ (s.size : Int)) = true := decide_eq_true (by omega)
      have blt2 : decide (i ≤ s.size) = true := decide_eq_true hle
      have hcut : N.CutAt c s.data.toList L f i := by
        rcases HC.out with ⟨_, h⟩ | ⟨h, _⟩
        · exact h
        · omega
      have hx := cut_str s f i hle
      obtain ⟨x, hxd⟩ : ∃ x, (s.data.toList.drop f).take (i - f) = x := ⟨_, rfl⟩
      rw [hxd] at hx
      have HXD := Lib.hid hxd
      have HXS := Lib.hid hx
      clear hx
      by_cases heq : i = s.size
      · have be : ((i : Int) == (s.size : Int)) = true := by simp; omega
        have be2 : (i == s.size) = true := by simp; omega
        have HN := Lib.hid (N.cut_end hcut (by rw [HSZ.out]; exact heq))
        have HEQ := Lib.hid heq
        clear hcut hxd heq
        go_wp2_with (at_builtin; refine wpList_appG eS wr rfl (.tmp 25) (.tmp 30) rfl w.heap.size u5 L rfl HO.out x 1 _ (by rw [HXS.out]; rfl) wr.heap.size rfl rfl (by omega) hsz ?_; intro v3 w3 hown3 hb3)
        go_roundg (s.size + 1 - (i + 1))
        case rel => exact ⟨i + 1, i + 1, L ++ [x], (by show _ = _; omega), by go_num, by go_num, hown3, ⟨by rw [List.length_append, List.length_singleton]; omega, Nat.le_refl _⟩, .inr ⟨by have := HEQ.out; omega, by rw [HN.out, HXD.out]⟩, hbr.trans hb3⟩
        case measure => omega
      · have hlt : i < s.size := by omega
        have be : ((i : Int) == (s.size : Int)) = false := by simp; omega
        have be2 : (i == s.size) = false := by simp; omega
        have hki : (i : Int) < (s.size : Int) := by omega
        have hlt2 : i < s.data.toList.length := by rw [HSZ.out]; exact hlt
        have hget : s.data.toList[i] = s[i] := rfl
        by_cases hc : s[i] = c
        · have bc : ((s[i].toNat : Int) == (c.toNat : Int)) = true := by rw [hc]; simp
          have bc2 : (s[i].toNat == c.toNat) = true := by rw [hc]; simp
          have HN := Lib.hid (N.cut_here hcut hlt2 (hget.trans hc))
          clear hcut hxd hget hc
          go_wp2_with (at_builtin; refine wpList_appG eS wr rfl (.tmp 25) (.tmp 30) rfl w.heap.size u5 L rfl HO.out x 1 _ (by rw [HXS.out]; rfl) wr.heap.size rfl rfl (by omega) hsz ?_; intro v3 w3 hown3 hb3)
          go_roundg (s.size + 1 - (i + 1))
          case rel => exact ⟨i + 1, i + 1, L ++ [x], (by show _ = _; omega), by go_num, by go_num, hown3, ⟨by rw [List.length_append, List.length_singleton]; omega, Nat.le_refl _⟩, .inl ⟨by omega, by have := HN.out; rw [HXD.out] at this; exact this⟩, hbr.trans hb3⟩
          case measure => omega
        · have hne : s[i].toNat ≠ c.toNat := fun e => hc (UInt8.toNat_inj.1 e)
          have bc : ((s[i].toNat : Int) == (c.toNat : Int)) = false := by simp; omega
          have bc2 : (s[i].toNat == c.toNat) = false := by simp; omega
          have HN := Lib.hid (N.cut_other hcut hlt2 (fun e => hc (hget.symm.trans e)))
          clear hcut hxd hget hc hne
          go_wp2
          go_roundg (s.size + 1 - (i + 1))
          case rel => exact ⟨i + 1, f, L, (by show _ = _; omega), by go_num, rfl, HO, ⟨by omega, by omega⟩, .inl ⟨by omega, HN.out⟩, hbr⟩
          case measure => omega
    · have blt : decide ((i : Int) ≤ (s.size : Int)) = false := decide_eq_false (by omega)
      have blt2 : decide (i ≤ s.size) = false := decide_eq_false hle
      have HE := Lib.hid (show N.splitL c s.data.toList = L by
        rcases HC.out with ⟨h, _⟩ | ⟨_, h⟩
        · omega
        · exact h)
      go_wp2
      go_ret
      exact ⟨_, rfl, by rw [HE.out]; exact HO.out, hbr⟩
end Go.Proofs.YtikjdjfpoohieaaDoor

namespace Go.Proofs.YtikjdjfpoohieaaDoor
open Go.RowKit
set_option linter.unusedVariables false

theorem name_long {s : List UInt8} (h : 16 < s.length) : C.nameB s = false := by
  cases s with
  | nil => rfl
  | cons c r =>
    rw [List.length_cons] at h
    show (decide (97 ≤ c.toNat) && decide (c.toNat ≤ 122) && decide (r.length < 16) && r.all C.okC) = false
    rw [decide_eq_false (show ¬ r.length < 16 by omega), Bool.and_false]
    rfl
theorem name_head {s : List UInt8} {c : UInt8} (h : s.head? = some c) (hc : c.toNat < 97 ∨ 122 < c.toNat) : C.nameB s = false := by
  cases s with
  | nil => rfl
  | cons x r =>
    injection h with h
    subst h
    show (decide (97 ≤ x.toNat) && decide (x.toNat ≤ 122) && decide (r.length < 16) && r.all C.okC) = false
    rcases hc with h | h
    · rw [decide_eq_false (show ¬ 97 ≤ x.toNat by omega)]
      rfl
    · rw [decide_eq_false (show ¬ x.toNat ≤ 122 by omega), Bool.and_false]
      rfl
theorem okC_az {c : UInt8} (h : 97 ≤ c.toNat) (h2 : c.toNat ≤ 122) : C.okC c = true := by unfold C.okC; rw [decide_eq_true h, decide_eq_true h2]; rfl
theorem okC_dig {c : UInt8} (h : 48 ≤ c.toNat) (h2 : c.toNat ≤ 57) : C.okC c = true := by unfold C.okC N.digB; rw [decide_eq_true h, decide_eq_true h2]; simp
theorem okC_dash {c : UInt8} (h : c.toNat = 45) : C.okC c = true := by unfold C.okC; rw [decide_eq_true h, Bool.or_true]
theorem okC_no {c : UInt8} (h : ¬ (97 ≤ c.toNat ∧ c.toNat ≤ 122)) (h2 : ¬ (48 ≤ c.toNat ∧ c.toNat ≤ 57)) (h3 : c.toNat ≠ 45) : C.okC c = false := by
  unfold C.okC N.digB
  rw [← Bool.decide_and, ← Bool.decide_and, decide_eq_false h, decide_eq_false h2, decide_eq_false h3]
  rfl
theorem name_bad {s : List UInt8} {c : UInt8} (hc : c ∈ s) (h : C.okC c = false) : C.nameB s = false := by
  cases s with
  | nil => cases hc
  | cons x r =>
    rcases List.mem_cons.1 hc with rfl | hr
    · refine name_head rfl ?_
      apply Decidable.byContradiction
      intro hn
      rw [okC_az (by omega) (by omega)] at h
      cases h
    · show (decide (97 ≤ x.toNat) && decide (x.toNat ≤ 122) && decide (r.length < 16) && r.all C.okC) = false
      rw [show r.all C.okC = false from List.all_eq_false.2 ⟨c, hr, by rw [h]; simp⟩, Bool.and_false]
theorem name_yes {s : List UInt8} {c : UInt8} (h : s.head? = some c) (h1 : 97 ≤ c.toNat) (h2 : c.toNat ≤ 122) (hl : s.length ≤ 16) (ha : s.all C.okC = true) : C.nameB s = true := by
  cases s with
  | nil => cases h
  | cons x r =>
    injection h with h
    subst h
    rw [List.length_cons] at hl
    rw [List.all_cons, Bool.and_eq_true] at ha
    show (decide (97 ≤ x.toNat) && decide (x.toNat ≤ 122) && decide (r.length < 16) && r.all C.okC) = true
    rw [decide_eq_true h1, decide_eq_true h2, decide_eq_true (show r.length < 16 by omega), ha.2]
    rfl
set_option maxRecDepth 100000 in
set_option maxHeartbeats 4000000 in
theorem nameR (s : ByteArray) (w : World) (hs : s.size ≤ 1073741824) : Calls Tryd.prog 50 #[.string s] w (fun e w' => e = .returned (.bool (C.nameB s.data.toList)) ∧ w = w') := by
  have hsz : s.data.toList.length = s.size := by simp
  by_cases h0 : s.size = 0
  · have HE := Lib.hid (show C.nameB s.data.toList = false by rw [List.eq_nil_of_length_eq_zero (hsz.trans h0)]; rfl)
    have b1 : decide ((s.size : Int) < 1) = true := decide_eq_true (by omega)
    have b1b : decide (s.size < 1) = true := decide_eq_true (by omega)
    have b1c : decide (s.size = 0) = true := decide_eq_true h0
    clear hsz h0
    go_enter Tryd.func50, Tryd.ntmps50
    go_wp2
    go_ret
    exact ⟨by rw [HE.out]; rfl, rfl⟩
  have hpos : 0 < s.size := by omega
  have b1 : decide ((s.size : Int) < 1) = false := decide_eq_false (by omega)
  have b1b : decide (s.size < 1) = false := decide_eq_false (by omega)
  have b1c : decide (s.size = 0) = false := decide_eq_false h0
  by_cases h1 : 16 < s.size
  · have HE := Lib.hid (show C.nameB s.data.toList = false from name_long (by rw [hsz]; exact h1))
    have b2 : decide ((16 : Int) < (s.size : Int)) = true := decide_eq_true (by omega)
    have b2b : decide (16 < s.size) = true := decide_eq_true h1
    clear hsz h0 h1
    go_enter Tryd.func50, Tryd.ntmps50
    go_wp2
    go_ret
    exact ⟨by rw [HE.out]; rfl, rfl⟩
  have b2 : decide ((16 : Int) < (s.size : Int)) = false := decide_eq_false (by omega)
  have b2b : decide (16 < s.size) = false := decide_eq_false h1
  have hhd := head_is s hpos
  have hposi : (0 : Int) < (s.size : Int) := by omega
  by_cases h2 : s[0].toNat < 97
  · have HE := Lib.hid (show C.nameB s.data.toList = false from name_head hhd (.inl h2))
    have b3 : decide ((s[0].toNat : Int) < 97) = true := decide_eq_true (by omega)
    have b3b : decide (s[0].toNat < 97) = true := decide_eq_true h2
    clear hsz h0 h1 h2 hhd
    go_enter Tryd.func50, Tryd.ntmps50
    go_wp2
    go_ret
    exact ⟨by rw [HE.out]; rfl, rfl⟩
  have b3 : decide ((s[0].toNat : Int) < 97) = false := decide_eq_false (by omega)
  have b3b : decide (s[0].toNat < 97) = false := decide_eq_false h2
  by_cases h3 : 122 < s[0].toNat
  · have HE := Lib.hid (show C.nameB s.data.toList = false from name_head hhd (.inr h3))
    have b4 : decide ((122 : Int) < (s[0].toNat : Int)) = true := decide_eq_true (by omega)
    have b4b : decide (122 < s[0].toNat) = true := decide_eq_true h3
    clear hsz h0 h1 h2 h3 hhd
    go_enter Tryd.func50, Tryd.ntmps50
    go_wp2
    go_ret
    exact ⟨by rw [HE.out]; rfl, rfl⟩
  have b4 : decide ((122 : Int) < (s[0].toNat : Int)) = false := decide_eq_false (by omega)
  have b4b : decide (122 < s[0].toNat) = false := decide_eq_false h3
  have HHD := Lib.hid hhd
  have HSZ := Lib.hid hsz
  have HLO := Lib.hid (show 97 ≤ s[0].toNat ∧ s[0].toNat ≤ 122 ∧ s.size ≤ 16 from ⟨by omega, by omega, by omega⟩)
  clear hsz h0 h1 h2 h3 hhd
  go_enter Tryd.func50, Tryd.ntmps50
  go_wp2
  go_loopg [3, 4] s.size (fun gk vi vc wr => ∃ k : Nat, Hid (k + gk = s.size) ∧ k ≤ s.size ∧ vi = .int .i64 (k : Int) ∧ Hid ((s.data.toList.take k).all C.okC = true) ∧ w = wr)
  case atStart => exact ⟨0, Nat.zero_add _, Nat.zero_le _, rfl, rfl, rfl⟩
  case round =>
    obtain ⟨k, HG, hk, rfl, HD, rfl⟩ := hrel
    by_cases hlt : k < s.size
    · have blt : decide ((k : Int) < (s.size : Int)) = true := decide_eq_true (by omega)
      have blt2 : decide (k < s.size) = true := decide_eq_true hlt
      have hki : (k : Int) < (s.size : Int) := by omega
      have hsn := W.take_snoc s k hlt
      have hmem : s[k] ∈ s.data.toList := List.mem_of_mem_take (i := k + 1) (by rw [hsn]; simp)
      have hc := s[k].toNat_lt
      have hgk := HG.out
      have hcases : s[k].toNat < 45 ∨ s[k].toNat = 45 ∨ (45 < s[k].toNat ∧ s[k].toNat < 48) ∨ (48 ≤ s[k].toNat ∧ s[k].toNat ≤ 57) ∨ (57 < s[k].toNat ∧ s[k].toNat < 97) ∨ (97 ≤ s[k].toNat ∧ s[k].toNat ≤ 122) ∨ 122 < s[k].toNat := by omega
      rcases hcases with hr | hr | hr | hr | hr | hr | hr
      · have d1 : decide ((97 : Int) ≤ (s[k].toNat : Int)) = false := decide_eq_false (by omega)
        have d1n : decide (97 ≤ s[k].toNat) = false := decide_eq_false (by omega)
        have d2 : decide ((s[k].toNat : Int) ≤ 122) = true := decide_eq_true (by omega)
        have d2n : decide (s[k].toNat ≤ 122) = true := decide_eq_true (by omega)
        have d3 : decide ((48 : Int) ≤ (s[k].toNat : Int)) = false := decide_eq_false (by omega)
        have d3n : decide (48 ≤ s[k].toNat) = false := decide_eq_false (by omega)
        have d4 : decide ((s[k].toNat : Int) ≤ 57) = true := decide_eq_true (by omega)
        have d4n : decide (s[k].toNat ≤ 57) = true := decide_eq_true (by omega)
        have d5 : ((s[k].toNat : Int) == 45) = false := by (simp; omega)
        have d5n : (s[k].toNat == 45) = false := by (simp; omega)
        have HE := Lib.hid (show C.nameB s.data.toList = false from name_bad hmem (okC_no (by omega) (by omega) (by omega)))
        clear hsn hmem hr
        go_wp2
        go_ret
        exact ⟨by rw [HE.out]; rfl, rfl⟩
      · have d1 : decide ((97 : Int) ≤ (s[k].toNat : Int)) = false := decide_eq_false (by omega)
        have d1n : decide (97 ≤ s[k].toNat) = false := decide_eq_false (by omega)
        have d2 : decide ((s[k].toNat : Int) ≤ 122) = true := decide_eq_true (by omega)
        have d2n : decide (s[k].toNat ≤ 122) = true := decide_eq_true (by omega)
        have d3 : decide ((48 : Int) ≤ (s[k].toNat : Int)) = false := decide_eq_false (by omega)
        have d3n : decide (48 ≤ s[k].toNat) = false := decide_eq_false (by omega)
        have d4 : decide ((s[k].toNat : Int) ≤ 57) = true := decide_eq_true (by omega)
        have d4n : decide (s[k].toNat ≤ 57) = true := decide_eq_true (by omega)
        have d5 : ((s[k].toNat : Int) == 45) = true := by (simp; omega)
        have d5n : (s[k].toNat == 45) = true := by (simp; omega)
        have HD2 := Lib.hid (show (s.data.toList.take (k + 1)).all C.okC = true by rw [hsn, List.all_append, HD.out]; show ([s[k]] : List UInt8).all C.okC = true; rw [List.all_cons, okC_dash hr]; rfl)
        clear hsn hmem hr
        go_wp2
        go_roundg (s.size - (k + 1))
        case rel => exact ⟨k + 1, (by show _ = _; omega), by omega, by go_num, HD2, rfl⟩
        case measure => omega
      · have d1 : decide ((97 : Int) ≤ (s[k].toNat : Int)) = false := decide_eq_false (by omega)
        have d1n : decide (97 ≤ s[k].toNat) = false := decide_eq_false (by omega)
        have d2 : decide ((s[k].toNat : Int) ≤ 122) = true := decide_eq_true (by omega)
        have d2n : decide (s[k].toNat ≤ 122) = true := decide_eq_true (by omega)
        have d3 : decide ((48 : Int) ≤ (s[k].toNat : Int)) = false := decide_eq_false (by omega)
        have d3n : decide (48 ≤ s[k].toNat) = false := decide_eq_false (by omega)
        have d4 : decide ((s[k].toNat : Int) ≤ 57) = true := decide_eq_true (by omega)
        have d4n : decide (s[k].toNat ≤ 57) = true := decide_eq_true (by omega)
        have d5 : ((s[k].toNat : Int) == 45) = false := by (simp; omega)
        have d5n : (s[k].toNat == 45) = false := by (simp; omega)
        have HE := Lib.hid (show C.nameB s.data.toList = false from name_bad hmem (okC_no (by omega) (by omega) (by omega)))
        clear hsn hmem hr
        go_wp2
        go_ret
        exact ⟨by rw [HE.out]; rfl, rfl⟩
      · have d1 : decide ((97 : Int) ≤ (s[k].toNat : Int)) = false := decide_eq_false (by omega)
        have d1n : decide (97 ≤ s[k].toNat) = false := decide_eq_false (by omega)
        have d2 : decide ((s[k].toNat : Int) ≤ 122) = true := decide_eq_true (by omega)
        have d2n : decide (s[k].toNat ≤ 122) = true := decide_eq_true (by omega)
        have d3 : decide ((48 : Int) ≤ (s[k].toNat : Int)) = true := decide_eq_true (by omega)
        have d3n : decide (48 ≤ s[k].toNat) = true := decide_eq_true (by omega)
        have d4 : decide ((s[k].toNat : Int) ≤ 57) = true := decide_eq_true (by omega)
        have d4n : decide (s[k].toNat ≤ 57) = true := decide_eq_true (by omega)
        have d5 : ((s[k].toNat : Int) == 45) = false := by (simp; omega)
        have d5n : (s[k].toNat == 45) = false := by (simp; omega)
        have HD2 := Lib.hid (show (s.data.toList.take (k + 1)).all C.okC = true by rw [hsn, List.all_append, HD.out]; show ([s[k]] : List UInt8).all C.okC = true; rw [List.all_cons, okC_dig hr.1 hr.2]; rfl)
        clear hsn hmem hr
        go_wp2
        go_roundg (s.size - (k + 1))
        case rel => exact ⟨k + 1, (by show _ = _; omega), by omega, by go_num, HD2, rfl⟩
        case measure => omega
      · have d1 : decide ((97 : Int) ≤ (s[k].toNat : Int)) = false := decide_eq_false (by omega)
        have d1n : decide (97 ≤ s[k].toNat) = false := decide_eq_false (by omega)
        have d2 : decide ((s[k].toNat : Int) ≤ 122) = true := decide_eq_true (by omega)
        have d2n : decide (s[k].toNat ≤ 122) = true := decide_eq_true (by omega)
        have d3 : decide ((48 : Int) ≤ (s[k].toNat : Int)) = true := decide_eq_true (by omega)
        have d3n : decide (48 ≤ s[k].toNat) = true := decide_eq_true (by omega)
        have d4 : decide ((s[k].toNat : Int) ≤ 57) = false := decide_eq_false (by omega)
        have d4n : decide (s[k].toNat ≤ 57) = false := decide_eq_false (by omega)
        have d5 : ((s[k].toNat : Int) == 45) = false := by (simp; omega)
        have d5n : (s[k].toNat == 45) = false := by (simp; omega)
        have HE := Lib.hid (show C.nameB s.data.toList = false from name_bad hmem (okC_no (by omega) (by omega) (by omega)))
        clear hsn hmem hr
        go_wp2
        go_ret
        exact ⟨by rw [HE.out]; rfl, rfl⟩
      · have d1 : decide ((97 : Int) ≤ (s[k].toNat : Int)) = true := decide_eq_true (by omega)
        have d1n : decide (97 ≤ s[k].toNat) = true := decide_eq_true (by omega)
        have d2 : decide ((s[k].toNat : Int) ≤ 122) = true := decide_eq_true (by omega)
        have d2n : decide (s[k].toNat ≤ 122) = true := decide_eq_true (by omega)
        have d3 : decide ((48 : Int) ≤ (s[k].toNat : Int)) = true := decide_eq_true (by omega)
        have d3n : decide (48 ≤ s[k].toNat) = true := decide_eq_true (by omega)
        have d4 : decide ((s[k].toNat : Int) ≤ 57) = false := decide_eq_false (by omega)
        have d4n : decide (s[k].toNat ≤ 57) = false := decide_eq_false (by omega)
        have d5 : ((s[k].toNat : Int) == 45) = false := by (simp; omega)
        have d5n : (s[k].toNat == 45) = false := by (simp; omega)
        have HD2 := Lib.hid (show (s.data.toList.take (k + 1)).all C.okC = true by rw [hsn, List.all_append, HD.out]; show ([s[k]] : List UInt8).all C.okC = true; rw [List.all_cons, okC_az hr.1 hr.2]; rfl)
        clear hsn hmem hr
        go_wp2
        go_roundg (s.size - (k + 1))
        case rel => exact ⟨k + 1, (by show _ = _; omega), by omega, by go_num, HD2, rfl⟩
        case measure => omega
      · have d1 : decide ((97 : Int) ≤ (s[k].toNat : Int)) = true := decide_eq_true (by omega)
        have d1n : decide (97 ≤ s[k].toNat) = true := decide_eq_true (by omega)
        have d2 : decide ((s[k].toNat : Int) ≤ 122) = false := decide_eq_false (by omega)
        have d2n : decide (s[k].toNat ≤ 122) = false := decide_eq_false (by omega)
        have d3 : decide ((48 : Int) ≤ (s[k].toNat : Int)) = true := decide_eq_true (by omega)
        have d3n : decide (48 ≤ s[k].toNat) = true := decide_eq_true (by omega)
        have d4 : decide ((s[k].toNat : Int) ≤ 57) = false := decide_eq_false (by omega)
        have d4n : decide (s[k].toNat ≤ 57) = false := decide_eq_false (by omega)
        have d5 : ((s[k].toNat : Int) == 45) = false := by (simp; omega)
        have d5n : (s[k].toNat == 45) = false := by (simp; omega)
        have HE := Lib.hid (show C.nameB s.data.toList = false from name_bad hmem (okC_no (by omega) (by omega) (by omega)))
        clear hsn hmem hr
        go_wp2
        go_ret
        exact ⟨by rw [HE.out]; rfl, rfl⟩
    · have blt : decide ((k : Int) < (s.size : Int)) = false := decide_eq_false (by omega)
      have blt2 : decide (k < s.size) = false := decide_eq_false hlt
      have htk : s.data.toList.take k = s.data.toList := List.take_of_length_le (by have := HSZ.out; omega)
      have HE := Lib.hid (show C.nameB s.data.toList = true by
        have h6 := HD.out
        rw [htk] at h6
        exact name_yes HHD.out HLO.out.1 HLO.out.2.1 (by rw [HSZ.out]; exact HLO.out.2.2) h6)
      clear htk
      go_wp2
      go_ret
      exact ⟨by rw [HE.out]; rfl, rfl⟩
set_option maxRecDepth 100000 in
set_option maxHeartbeats 4000000 in
theorem secondR (x : List UInt8) (w : World) : Calls Tryd.prog 20 #[.string (sB x)] w (fun e w' => e = .returned (.string (sB (C.secondW x))) ∧ w = w') := by
  by_cases h0 : x = C.wHosts
  · have q0 : ((sB x).toList == [104, 111, 115, 116, 115]) = true := by rw [sB_toList, beq_iff_eq]; exact h0
    have HE := Lib.hid (show C.secondW x = C.secondW C.wHosts from by rw [h0])
    clear h0
    go_enter Tryd.func20, Tryd.ntmps20
    go_wp2
    go_ret
    exact ⟨by rw [HE.out]; rfl, rfl⟩
  have q0 : ((sB x).toList == [104, 111, 115, 116, 115]) = false := by rw [sB_toList, beq_eq_false_iff_ne]; exact h0
  by_cases h1 : x = C.wVnis
  · have q1 : ((sB x).toList == [118, 110, 105, 115]) = true := by rw [sB_toList, beq_iff_eq]; exact h1
    have HE := Lib.hid (show C.secondW x = C.secondW C.wVnis from by rw [h1])
    clear h0 h1
    go_enter Tryd.func20, Tryd.ntmps20
    go_wp2
    go_ret
    exact ⟨by rw [HE.out]; rfl, rfl⟩
  have q1 : ((sB x).toList == [118, 110, 105, 115]) = false := by rw [sB_toList, beq_eq_false_iff_ne]; exact h1
  by_cases h2 : x = C.wBindings
  · have q2 : ((sB x).toList == [98, 105, 110, 100, 105, 110, 103, 115]) = true := by rw [sB_toList, beq_iff_eq]; exact h2
    have HE := Lib.hid (show C.secondW x = C.secondW C.wBindings from by rw [h2])
    clear h0 h1 h2
    go_enter Tryd.func20, Tryd.ntmps20
    go_wp2
    go_ret
    exact ⟨by rw [HE.out]; rfl, rfl⟩
  have q2 : ((sB x).toList == [98, 105, 110, 100, 105, 110, 103, 115]) = false := by rw [sB_toList, beq_eq_false_iff_ne]; exact h2
  by_cases h3 : x = C.wRoutes
  · have q3 : ((sB x).toList == [114, 111, 117, 116, 101, 115]) = true := by rw [sB_toList, beq_iff_eq]; exact h3
    have HE := Lib.hid (show C.secondW x = C.secondW C.wRoutes from by rw [h3])
    clear h0 h1 h2 h3
    go_enter Tryd.func20, Tryd.ntmps20
    go_wp2
    go_ret
    exact ⟨by rw [HE.out]; rfl, rfl⟩
  have q3 : ((sB x).toList == [114, 111, 117, 116, 101, 115]) = false := by rw [sB_toList, beq_eq_false_iff_ne]; exact h3
  by_cases h4 : x = C.wPolicy
  · have q4 : ((sB x).toList == [112, 111, 108, 105, 99, 121]) = true := by rw [sB_toList, beq_iff_eq]; exact h4
    have HE := Lib.hid (show C.secondW x = C.secondW C.wPolicy from by rw [h4])
    clear h0 h1 h2 h3 h4
    go_enter Tryd.func20, Tryd.ntmps20
    go_wp2
    go_ret
    exact ⟨by rw [HE.out]; rfl, rfl⟩
  have q4 : ((sB x).toList == [112, 111, 108, 105, 99, 121]) = false := by rw [sB_toList, beq_eq_false_iff_ne]; exact h4
  have HE := Lib.hid (show C.secondW x = [] from by unfold C.secondW; rw [if_neg h0, if_neg h1, if_neg h2, if_neg h3, if_neg h4])
  clear h0 h1 h2 h3 h4
  go_enter Tryd.func20, Tryd.ntmps20
  go_wp2
  go_ret
  exact ⟨by rw [HE.out]; rfl, rfl⟩
set_option maxRecDepth 100000 in
set_option maxHeartbeats 4000000 in
theorem needsR (x : List UInt8) (w : World) : Calls Tryd.prog 22 #[.string (sB x)] w (fun e w' => ∃ A c, e = .returned (.slice A (C.needsW x).length c) ∧ (C.needsW x).length ≤ c ∧ Seen eS w' A (C.needsW x) ∧ (∀ a, A = some a → w.heap.size ≤ a.block) ∧ Below w.heap.size w w') := by
  by_cases h0 : x = C.wHosts
  · have q0 : ((sB x).toList == [104, 111, 115, 116, 115]) = true := by rw [sB_toList, beq_iff_eq]; exact h0
    have HE := Lib.hid (show C.needsW x = C.needsW C.wHosts from by rw [h0])
    clear h0
    go_enter Tryd.func22, Tryd.ntmps22
    go_wp2
    go_ret
    rw [HE.out]
    exact ⟨some ⟨w.heap.size, 0, none⟩, 1, rfl, by decide, lit_seen eS w [C.wIp] _ rfl (by decide), (fun a h => by injection h with h; rw [← h]; exact Nat.le_refl _), up w _⟩
  have q0 : ((sB x).toList == [104, 111, 115, 116, 115]) = false := by rw [sB_toList, beq_eq_false_iff_ne]; exact h0
  by_cases h1 : x = C.wVnis
  · have q1 : ((sB x).toList == [118, 110, 105, 115]) = true := by rw [sB_toList, beq_iff_eq]; exact h1
    have HE := Lib.hid (show C.needsW x = C.needsW C.wVnis from by rw [h1])
    clear h0 h1
    go_enter Tryd.func22, Tryd.ntmps22
    go_wp2
    go_ret
    rw [HE.out]
    exact ⟨some ⟨w.heap.size, 0, none⟩, 1, rfl, by decide, lit_seen eS w [C.wSubnet] _ rfl (by decide), (fun a h => by injection h with h; rw [← h]; exact Nat.le_refl _), up w _⟩
  have q1 : ((sB x).toList == [118, 110, 105, 115]) = false := by rw [sB_toList, beq_eq_false_iff_ne]; exact h1
  by_cases h2 : x = C.wBindings
  · have q2 : ((sB x).toList == [98, 105, 110, 100, 105, 110, 103, 115]) = true := by rw [sB_toList, beq_iff_eq]; exact h2
    have HE := Lib.hid (show C.needsW x = C.needsW C.wBindings from by rw [h2])
    clear h0 h1 h2
    go_enter Tryd.func22, Tryd.ntmps22
    go_wp2
    go_ret
    rw [HE.out]
    exact ⟨some ⟨w.heap.size, 0, none⟩, 3, rfl, by decide, lit_seen eS w [C.wHost, C.wMac, C.wVni] _ rfl (by decide), (fun a h => by injection h with h; rw [← h]; exact Nat.le_refl _), up w _⟩
  have q2 : ((sB x).toList == [98, 105, 110, 100, 105, 110, 103, 115]) = false := by rw [sB_toList, beq_eq_false_iff_ne]; exact h2
  by_cases h3 : x = C.wRoutes
  · have q3 : ((sB x).toList == [114, 111, 117, 116, 101, 115]) = true := by rw [sB_toList, beq_iff_eq]; exact h3
    have HE := Lib.hid (show C.needsW x = C.needsW C.wRoutes from by rw [h3])
    clear h0 h1 h2 h3
    go_enter Tryd.func22, Tryd.ntmps22
    go_wp2
    go_ret
    rw [HE.out]
    exact ⟨some ⟨w.heap.size, 0, none⟩, 1, rfl, by decide, lit_seen eS w [C.wVia] _ rfl (by decide), (fun a h => by injection h with h; rw [← h]; exact Nat.le_refl _), up w _⟩
  have q3 : ((sB x).toList == [114, 111, 117, 116, 101, 115]) = false := by rw [sB_toList, beq_eq_false_iff_ne]; exact h3
  by_cases h4 : x = C.wPolicy
  · have q4 : ((sB x).toList == [112, 111, 108, 105, 99, 121]) = true := by rw [sB_toList, beq_iff_eq]; exact h4
    have HE := Lib.hid (show C.needsW x = C.needsW C.wPolicy from by rw [h4])
    clear h0 h1 h2 h3 h4
    go_enter Tryd.func22, Tryd.ntmps22
    go_wp2
    go_ret
    rw [HE.out]
    exact ⟨some ⟨w.heap.size, 0, none⟩, 1, rfl, by decide, lit_seen eS w [C.wAction] _ rfl (by decide), (fun a h => by injection h with h; rw [← h]; exact Nat.le_refl _), up w _⟩
  have q4 : ((sB x).toList == [112, 111, 108, 105, 99, 121]) = false := by rw [sB_toList, beq_eq_false_iff_ne]; exact h4
  have HE := Lib.hid (show C.needsW x = [] from by unfold C.needsW; rw [if_neg h0, if_neg h1, if_neg h2, if_neg h3, if_neg h4])
  clear h0 h1 h2 h3 h4
  go_enter Tryd.func22, Tryd.ntmps22
  go_wp2
  go_ret
  exact ⟨none, 0, by rw [HE.out]; rfl, by rw [HE.out]; exact Nat.le_refl _, by rw [HE.out]; exact Seen.nil, (fun a h => by cases h), Below.refl _ _⟩
theorem sB_join13 (a b : List UInt8) : sB (a ++ b) = sB a ++ sB b := by
  apply ByteArray.ext
  unfold sB
  rw [ByteArray.data_append]
  simp
set_option maxRecDepth 100000 in
set_option maxHeartbeats 8000000 in
theorem thirdR (x y z : List UInt8) (k : List UInt8) (one need : Bool) (w : World) (hx : x.length ≤ 1073741824) (hy : y.length ≤ 1073741824) (hz : C.key x y = z) (hk : C.thirdK z = (k, one, need)) : Calls Tryd.prog 38 #[.string (sB x), .string (sB y)] w (fun e w' => e = .returned (.tuple #[.string (sB k), .bool one, .bool need]) ∧ w = w') := by
  have a1 : Sem.run Tryd.prog (Op.stringOp .add (sB x) (⟨#[32]⟩ : ByteArray)) w = .ok (.string (sB (x ++ [32]))) w := by
    rw [sB_join13]
    exact run_string_add_sum (P := Tryd.prog) (w := w) (sB x) (sB [32]) (by rw [sB_size, sB_size, List.length_singleton]; omega)
  have a2 : Sem.run Tryd.prog (Op.stringOp .add (sB (x ++ [32])) (sB y)) w = .ok (.string (sB z)) w := by
    rw [← hz, show C.key x y = (x ++ [32]) ++ y by unfold C.key; simp, sB_join13 (x ++ [32]) y]
    exact run_string_add_sum (P := Tryd.prog) (w := w) (sB (x ++ [32])) (sB y) (by rw [sB_size, sB_size, List.length_append, List.length_singleton]; omega)
  clear hz hx hy
  by_cases h0 : z = C.key C.wHosts C.wIp
  · have q0 : ((sB z).toList == [104, 111, 115, 116, 115, 32, 105, 112]) = true := by rw [sB_toList, beq_iff_eq]; exact h0
    have HE := Lib.hid (show C.thirdK z = (C.kIp, true, true) from by rw [h0]; rfl)
    clear h0
    have HK := Lib.hid hk
    clear hk
    go_enter Tryd.func38, Tryd.ntmps38
    go_wp2
    go_ret3
    have hk := HK.out
    rw [HE.out] at hk
    injection hk with e1 e2
    injection e2 with e2 e3
    subst e1; subst e2; subst e3
    exact ⟨rfl, rfl⟩
  have q0 : ((sB z).toList == [104, 111, 115, 116, 115, 32, 105, 112]) = false := by rw [sB_toList, beq_eq_false_iff_ne]; exact h0
  by_cases h1 : z = C.key C.wHosts C.wMac
  · have q1 : ((sB z).toList == [104, 111, 115, 116, 115, 32, 109, 97, 99]) = true := by rw [sB_toList, beq_iff_eq]; exact h1
    have HE := Lib.hid (show C.thirdK z = (C.kMac, true, false) from by rw [h1]; rfl)
    clear h0 h1
    have HK := Lib.hid hk
    clear hk
    go_enter Tryd.func38, Tryd.ntmps38
    go_wp2
    go_ret3
    have hk := HK.out
    rw [HE.out] at hk
    injection hk with e1 e2
    injection e2 with e2 e3
    subst e1; subst e2; subst e3
    exact ⟨rfl, rfl⟩
  have q1 : ((sB z).toList == [104, 111, 115, 116, 115, 32, 109, 97, 99]) = false := by rw [sB_toList, beq_eq_false_iff_ne]; exact h1
  by_cases h2 : z = C.key C.wHosts C.wVnis
  · have q2 : ((sB z).toList == [104, 111, 115, 116, 115, 32, 118, 110, 105, 115]) = true := by rw [sB_toList, beq_iff_eq]; exact h2
    have HE := Lib.hid (show C.thirdK z = (C.kVni, false, false) from by rw [h2]; rfl)
    clear h0 h1 h2
    have HK := Lib.hid hk
    clear hk
    go_enter Tryd.func38, Tryd.ntmps38
    go_wp2
    go_ret3
    have hk := HK.out
    rw [HE.out] at hk
    injection hk with e1 e2
    injection e2 with e2 e3
    subst e1; subst e2; subst e3
    exact ⟨rfl, rfl⟩
  have q2 : ((sB z).toList == [104, 111, 115, 116, 115, 32, 118, 110, 105, 115]) = false := by rw [sB_toList, beq_eq_false_iff_ne]; exact h2
  by_cases h3 : z = C.key C.wVnis C.wSubnet
  · have q3 : ((sB z).toList == [118, 110, 105, 115, 32, 115, 117, 98, 110, 101, 116]) = true := by rw [sB_toList, beq_iff_eq]; exact h3
    have HE := Lib.hid (show C.thirdK z = (C.kPrefix, true, true) from by rw [h3]; rfl)
    clear h0 h1 h2 h3
    have HK := Lib.hid hk
    clear hk
    go_enter Tryd.func38, Tryd.ntmps38
    go_wp2
    go_ret3
    have hk := HK.out
    rw [HE.out] at hk
    injection hk with e1 e2
    injection e2 with e2 e3
    subst e1; subst e2; subst e3
    exact ⟨rfl, rfl⟩
  have q3 : ((sB z).toList == [118, 110, 105, 115, 32, 115, 117, 98, 110, 101, 116]) = false := by rw [sB_toList, beq_eq_false_iff_ne]; exact h3
  by_cases h4 : z = C.key C.wBindings C.wHost
  · have q4 : ((sB z).toList == [98, 105, 110, 100, 105, 110, 103, 115, 32, 104, 111, 115, 116]) = true := by rw [sB_toList, beq_iff_eq]; exact h4
    have HE := Lib.hid (show C.thirdK z = (C.kName, true, true) from by rw [h4]; rfl)
    clear h0 h1 h2 h3 h4
    have HK := Lib.hid hk
    clear hk
    go_enter Tryd.func38, Tryd.ntmps38
    go_wp2
    go_ret3
    have hk := HK.out
    rw [HE.out] at hk
    injection hk with e1 e2
    injection e2 with e2 e3
    subst e1; subst e2; subst e3
    exact ⟨rfl, rfl⟩
  have q4 : ((sB z).toList == [98, 105, 110, 100, 105, 110, 103, 115, 32, 104, 111, 115, 116]) = false := by rw [sB_toList, beq_eq_false_iff_ne]; exact h4
  by_cases h5 : z = C.key C.wRoutes C.wVia
  · have q5 : ((sB z).toList == [114, 111, 117, 116, 101, 115, 32, 118, 105, 97]) = true := by rw [sB_toList, beq_iff_eq]; exact h5
    have HE := Lib.hid (show C.thirdK z = (C.kName, true, true) from by rw [h5]; rfl)
    clear h0 h1 h2 h3 h4 h5
    have HK := Lib.hid hk
    clear hk
    go_enter Tryd.func38, Tryd.ntmps38
    go_wp2
    go_ret3
    have hk := HK.out
    rw [HE.out] at hk
    injection hk with e1 e2
    injection e2 with e2 e3
    subst e1; subst e2; subst e3
    exact ⟨rfl, rfl⟩
  have q5 : ((sB z).toList == [114, 111, 117, 116, 101, 115, 32, 118, 105, 97]) = false := by rw [sB_toList, beq_eq_false_iff_ne]; exact h5
  by_cases h6 : z = C.key C.wBindings C.wMac
  · have q6 : ((sB z).toList == [98, 105, 110, 100, 105, 110, 103, 115, 32, 109, 97, 99]) = true := by rw [sB_toList, beq_iff_eq]; exact h6
    have HE := Lib.hid (show C.thirdK z = (C.kMac, true, true) from by rw [h6]; rfl)
    clear h0 h1 h2 h3 h4 h5 h6
    have HK := Lib.hid hk
    clear hk
    go_enter Tryd.func38, Tryd.ntmps38
    go_wp2
    go_ret3
    have hk := HK.out
    rw [HE.out] at hk
    injection hk with e1 e2
    injection e2 with e2 e3
    subst e1; subst e2; subst e3
    exact ⟨rfl, rfl⟩
  have q6 : ((sB z).toList == [98, 105, 110, 100, 105, 110, 103, 115, 32, 109, 97, 99]) = false := by rw [sB_toList, beq_eq_false_iff_ne]; exact h6
  by_cases h7 : z = C.key C.wBindings C.wVni
  · have q7 : ((sB z).toList == [98, 105, 110, 100, 105, 110, 103, 115, 32, 118, 110, 105]) = true := by rw [sB_toList, beq_iff_eq]; exact h7
    have HE := Lib.hid (show C.thirdK z = (C.kVni, true, true) from by rw [h7]; rfl)
    clear h0 h1 h2 h3 h4 h5 h6 h7
    have HK := Lib.hid hk
    clear hk
    go_enter Tryd.func38, Tryd.ntmps38
    go_wp2
    go_ret3
    have hk := HK.out
    rw [HE.out] at hk
    injection hk with e1 e2
    injection e2 with e2 e3
    subst e1; subst e2; subst e3
    exact ⟨rfl, rfl⟩
  have q7 : ((sB z).toList == [98, 105, 110, 100, 105, 110, 103, 115, 32, 118, 110, 105]) = false := by rw [sB_toList, beq_eq_false_iff_ne]; exact h7
  by_cases h8 : z = C.key C.wRoutes C.wMetric
  · have q8 : ((sB z).toList == [114, 111, 117, 116, 101, 115, 32, 109, 101, 116, 114, 105, 99]) = true := by rw [sB_toList, beq_iff_eq]; exact h8
    have HE := Lib.hid (show C.thirdK z = (C.kMetric, true, false) from by rw [h8]; rfl)
    clear h0 h1 h2 h3 h4 h5 h6 h7 h8
    have HK := Lib.hid hk
    clear hk
    go_enter Tryd.func38, Tryd.ntmps38
    go_wp2
    go_ret3
    have hk := HK.out
    rw [HE.out] at hk
    injection hk with e1 e2
    injection e2 with e2 e3
    subst e1; subst e2; subst e3
    exact ⟨rfl, rfl⟩
  have q8 : ((sB z).toList == [114, 111, 117, 116, 101, 115, 32, 109, 101, 116, 114, 105, 99]) = false := by rw [sB_toList, beq_eq_false_iff_ne]; exact h8
  by_cases h9 : z = C.key C.wPolicy C.wAction
  · have q9 : ((sB z).toList == [112, 111, 108, 105, 99, 121, 32, 97, 99, 116, 105, 111, 110]) = true := by rw [sB_toList, beq_iff_eq]; exact h9
    have HE := Lib.hid (show C.thirdK z = (C.kAction, true, true) from by rw [h9]; rfl)
    clear h0 h1 h2 h3 h4 h5 h6 h7 h8 h9
    have HK := Lib.hid hk
    clear hk
    go_enter Tryd.func38, Tryd.ntmps38
    go_wp2
    go_ret3
    have hk := HK.out
    rw [HE.out] at hk
    injection hk with e1 e2
    injection e2 with e2 e3
    subst e1; subst e2; subst e3
    exact ⟨rfl, rfl⟩
  have q9 : ((sB z).toList == [112, 111, 108, 105, 99, 121, 32, 97, 99, 116, 105, 111, 110]) = false := by rw [sB_toList, beq_eq_false_iff_ne]; exact h9
  by_cases h10 : z = C.key C.wPolicy C.wFrom
  · have q10 : ((sB z).toList == [112, 111, 108, 105, 99, 121, 32, 102, 114, 111, 109]) = true := by rw [sB_toList, beq_iff_eq]; exact h10
    have HE := Lib.hid (show C.thirdK z = (C.kPrefix, true, false) from by rw [h10]; rfl)
    clear h0 h1 h2 h3 h4 h5 h6 h7 h8 h9 h10
    have HK := Lib.hid hk
    clear hk
    go_enter Tryd.func38, Tryd.ntmps38
    go_wp2
    go_ret3
    have hk := HK.out
    rw [HE.out] at hk
    injection hk with e1 e2
    injection e2 with e2 e3
    subst e1; subst e2; subst e3
    exact ⟨rfl, rfl⟩
  have q10 : ((sB z).toList == [112, 111, 108, 105, 99, 121, 32, 102, 114, 111, 109]) = false := by rw [sB_toList, beq_eq_false_iff_ne]; exact h10
  by_cases h11 : z = C.key C.wPolicy C.wTo
  · have q11 : ((sB z).toList == [112, 111, 108, 105, 99, 121, 32, 116, 111]) = true := by rw [sB_toList, beq_iff_eq]; exact h11
    have HE := Lib.hid (show C.thirdK z = (C.kPrefix, true, false) from by rw [h11]; rfl)
    clear h0 h1 h2 h3 h4 h5 h6 h7 h8 h9 h10 h11
    have HK := Lib.hid hk
    clear hk
    go_enter Tryd.func38, Tryd.ntmps38
    go_wp2
    go_ret3
    have hk := HK.out
    rw [HE.out] at hk
    injection hk with e1 e2
    injection e2 with e2 e3
    subst e1; subst e2; subst e3
    exact ⟨rfl, rfl⟩
  have q11 : ((sB z).toList == [112, 111, 108, 105, 99, 121, 32, 116, 111]) = false := by rw [sB_toList, beq_eq_false_iff_ne]; exact h11
  have HE := Lib.hid (show C.thirdK z = ([], false, false) from by unfold C.thirdK; rw [if_neg h0, if_neg h1, if_neg h2, if_neg h3, if_neg (fun h => h.elim h4 h5), if_neg h6, if_neg h7, if_neg h8, if_neg h9, if_neg (fun h => h.elim h10 h11)])
  clear h0 h1 h2 h3 h4 h5 h6 h7 h8 h9 h10 h11
  have HK := Lib.hid hk
  clear hk
  go_enter Tryd.func38, Tryd.ntmps38
  go_wp2
  go_ret3
  have hk := HK.out
  rw [HE.out] at hk
  injection hk with e1 e2
  injection e2 with e2 e3
  subst e1; subst e2; subst e3
  exact ⟨rfl, rfl⟩
end Go.Proofs.YtikjdjfpoohieaaDoor

namespace Go.Proofs.YtikjdjfpoohieaaDoor
open Go.RowKit
set_option linter.unusedVariables false

theorem split_mem {c : UInt8} {s : List UInt8} {x : List UInt8} (h : x ∈ N.splitL c s) : x.length ≤ s.length := by
  induction s generalizing x with
  | nil =>
    have e : x = [] := List.mem_singleton.1 h
    subst e; exact Nat.le_refl _
  | cons y r ih =>
    rw [N.split_cons] at h
    by_cases hy : y = c
    · rw [if_pos hy] at h
      rcases List.mem_cons.1 h with rfl | h
      · exact Nat.zero_le _
      · have := ih h; rw [List.length_cons]; omega
    · rw [if_neg hy] at h
      cases e : N.splitL c r with
      | nil => exact absurd e (N.split_ne c r)
      | cons z zs =>
        rw [e] at h ih
        rcases List.mem_cons.1 h with rfl | h
        · have := ih (List.mem_cons_self ..); rw [List.length_cons, List.length_cons]; omega
        · have := ih (List.mem_cons_of_mem _ h); rw [List.length_cons]; omega
set_option maxRecDepth 100000 in
set_option maxHeartbeats 2000000 in
theorem ipR (s : ByteArray) (w : World) (hs : s.size ≤ 1073741824) : Calls Tryd.prog 51 #[.string s] w (fun e w' => e = .returned (.int .i64 (N.ipL s.data.toList)) ∧ Below w.heap.size w w') := by
  obtain ⟨L, hL⟩ : ∃ L, N.splitL 46 s.data.toList = L := ⟨_, rfl⟩
  obtain ⟨r, hr⟩ : ∃ r, N.ipL s.data.toList = r := ⟨_, rfl⟩
  obtain ⟨m, hm⟩ : ∃ m, L.length = m := ⟨_, rfl⟩
  have hparts := partsR s 46 w hs
  rw [hL] at hparts
  rw [hr]
  have HEA := Lib.hid (show ∀ x ∈ L, x.length ≤ 1073741824 from fun x hx => by
    have h := split_mem (c := 46) (hL ▸ hx)
    have h2 : s.data.toList.length = s.size := by simp
    omega)
  have HL := Lib.hid hL
  have HR := Lib.hid hr
  have HM := Lib.hid hm
  clear hL hr
  by_cases h4 : m = 4
  · have b4 : ((m : Int) != 4) = false := by simp; omega
    have H4 := Lib.hid h4
    clear h4 hm
    go_enter Tryd.func51, Tryd.ntmps51
    go_wp2_with fail
    refine hparts.mono ?_
    rintro e w1 ⟨v1, rfl, hown, hx⟩
    obtain ⟨A1, c1, e1, hc1, hs1⟩ := hown.seen
    rw [HM.out] at e1 hc1
    subst e1
    obtain ⟨b, o, rfl, hb, hH⟩ := hs1 (by rw [HM.out, H4.out]; omega)
    have HH := Lib.hid hH
    clear hown hs1 hH hparts
    go_wp2
    go_loopg [4, 5] 4 (fun gk vn vi wr => ∃ k v : Nat, Hid (k + gk = 4) ∧ k ≤ 4 ∧ vi = .int .i64 (k : Int) ∧ vn = .int .i64 (v : Int) ∧ Hid (N.accL N.octL (L.take k) = v) ∧ Hid (∀ x ∈ L.take k, 0 ≤ N.octL x) ∧ w1 = wr)
    case atStart => exact ⟨0, 0, Nat.zero_add _, Nat.zero_le _, rfl, rfl, rfl, (fun x hx => by simp at hx), rfl⟩
    case round =>
      obtain ⟨k, v, HG, hk, rfl, rfl, HV, HD, rfl⟩ := hrel
      by_cases hlt : k < 4
      · have blt : decide ((k : Int) < 4) = true := decide_eq_true (by omega)
        have blt2 : decide (k < 4) = true := decide_eq_true hlt
        have hkL : k < L.length := by rw [HM.out, H4.out]; exact hlt
        have hki : (k : Int) < (m : Int) := by have := H4.out; omega
        have z0 := HH.out.str hkL
        have hsn := List.take_succ_eq_append_getElem hkL
        obtain ⟨x, hx⟩ : ∃ x, L[k] = x := ⟨_, rfl⟩
        have hmem : x ∈ L := hx ▸ List.getElem_mem hkL
        rw [hx] at z0 hsn
        obtain ⟨z, hz⟩ : ∃ z, N.numL x = z := ⟨_, rfl⟩
        have hzr := N.num_ge x
        rw [hz] at hzr
        have hv : v < 4294967296 := by
          have h5 := (N.acc_range N.octL (fun x => (N.oct_range x).2) 4 (L.take k) (by rw [List.length_take]; omega) HD.out).2
          rw [HV.out] at h5
          omega
        have hgk := HG.out
        have HSN := Lib.hid hsn
        have HZ := Lib.hid hz
        have HXM := Lib.hid hmem
        clear hx hsn hz hmem
        go_wp2_with fail
        refine (numQ x z _ (HEA.out x HXM.out) HZ.out).mono ?_
        rintro e w2 ⟨rfl, rfl⟩
        by_cases hlo : z < 0
        · have c1 : decide (z < 0) = true := decide_eq_true hlo
          have HE := Lib.hid (show r = -1 by rw [← HR.out]; exact N.ip_bad HL.out HXM.out (by unfold N.octL; rw [HZ.out, if_pos (.inl hlo)]; omega))
          clear hlo
          go_wp2
          go_ret
          exact ⟨by rw [HE.out]; rfl, hx⟩
        · have c1 : decide (z < 0) = false := decide_eq_false hlo
          by_cases hhi : 255 < z
          · have c2 : decide (255 < z) = true := decide_eq_true hhi
            have HE := Lib.hid (show r = -1 by rw [← HR.out]; exact N.ip_bad HL.out HXM.out (by unfold N.octL; rw [HZ.out, if_pos (.inr hhi)]; omega))
            clear hlo hhi
            go_wp2
            go_ret
            exact ⟨by rw [HE.out]; rfl, hx⟩
          · have c2 : decide (255 < z) = false := decide_eq_false hhi
            obtain ⟨zn, rfl⟩ := Int.eq_ofNat_of_zero_le (show 0 ≤ z by omega)
            have hoct : N.octL x = (zn : Int) := by unfold N.octL; rw [HZ.out, if_neg (by omega)]
            have HV2 := Lib.hid (show N.accL N.octL (L.take (k + 1)) = ((256 * v + zn : Nat) : Int) by rw [HSN.out, N.acc_snoc, HV.out, hoct]; omega)
            have HD2 := Lib.hid (show ∀ y ∈ L.take (k + 1), 0 ≤ N.octL y from fun y hy => by
              rw [HSN.out] at hy
              rcases List.mem_append.1 hy with hy | hy
              · exact HD.out y hy
              · rw [List.mem_singleton.1 hy, hoct]; omega)
            clear hlo hhi hoct
            go_wp2
            go_roundg (4 - (k + 1))
            case rel => exact ⟨k + 1, 256 * v + zn, (by show _ = _; omega), by omega, by go_num, by go_num, HV2, HD2, rfl⟩
            case measure => omega
      · have blt : decide ((k : Int) < 4) = false := decide_eq_false (by omega)
        have blt2 : decide (k < 4) = false := decide_eq_false hlt
        have HE := Lib.hid (show r = (v : Int) by
          have htk : L.take k = L := List.take_of_length_le (by rw [HM.out, H4.out]; omega)
          have h5 := HV.out
          have h6 := HD.out
          rw [htk] at h5 h6
          rw [← HR.out, N.ip_good HL.out (HM.out.trans H4.out) h6, h5])
        go_wp2
        go_ret
        exact ⟨by rw [HE.out]; rfl, hx⟩
  · have b4 : ((m : Int) != 4) = true := by simp; omega
    have HE := Lib.hid (show r = -1 by rw [← HR.out]; exact N.ip_len HL.out (by rw [hm]; exact h4))
    clear h4 hm
    go_enter Tryd.func51, Tryd.ntmps51
    go_wp2_with fail
    refine hparts.mono ?_
    rintro e w1 ⟨v1, rfl, hown, hx⟩
    obtain ⟨A1, c1, e1, hc1, hs1⟩ := hown.seen
    rw [HM.out] at e1 hc1
    subst e1
    clear hown hs1 hparts
    go_wp2
    go_ret
    exact ⟨by rw [HE.out]; rfl, hx⟩
set_option maxRecDepth 100000 in
theorem powR (n : Nat) (w : World) (hn : n ≤ 60) : Calls Tryd.prog 99 #[.int .i64 (n : Int)] w (fun e w' => e = .returned (.int .i64 ((2 ^ n : Nat) : Int)) ∧ w = w') := by
  go_enter Tryd.func99, Tryd.ntmps99
  go_wp2
  go_loopg [3, 4] n (fun gk vo vi wr => ∃ k v : Nat, Hid (k + gk = n) ∧ k ≤ n ∧ vi = .int .i64 (k : Int) ∧ vo = .int .i64 (v : Int) ∧ Hid (2 ^ k = v) ∧ w = wr)
  case atStart => exact ⟨0, 1, Nat.zero_add _, Nat.zero_le _, rfl, rfl, rfl, rfl⟩
  case round =>
    obtain ⟨k, v, HG, hk, rfl, rfl, HV, rfl⟩ := hrel
    by_cases hlt : k < n
    · have blt : decide ((k : Int) < (n : Int)) = true := decide_eq_true (by omega)
      have blt2 : decide (k < n) = true := decide_eq_true hlt
      have hv : v ≤ 1152921504606846976 := by
        rw [← HV.out]
        exact Nat.le_trans (Nat.pow_le_pow_right (by omega) (show k ≤ 60 by omega)) (by decide)
      have HV2 := Lib.hid (show 2 ^ (k + 1) = 2 * v by rw [Nat.pow_succ, HV.out]; omega)
      have hgk := HG.out
      go_wp2
      go_roundg (n - (k + 1))
      case rel => exact ⟨k + 1, 2 * v, (by show _ = _; omega), by omega, by go_num, by go_num, HV2, rfl⟩
      case measure => omega
    · have blt : decide ((k : Int) < (n : Int)) = false := decide_eq_false (by omega)
      have blt2 : decide (k < n) = false := decide_eq_false hlt
      obtain rfl : n = k := by omega
      go_wp2
      go_ret
      exact ⟨by rw [HV.out]; rfl, rfl⟩
/-- Power, its answer as a variable. -/
theorem powQ (n : Int) (k p : Nat) (w : World) (hn : n = (k : Int)) (hk : k ≤ 60) (hp : 2 ^ k = p) : Calls Tryd.prog 99 #[.int .i64 n] w (fun e w' => e = .returned (.int .i64 (p : Int)) ∧ w = w') := by
  subst hn; subst hp; exact powR k w hk
set_option maxRecDepth 100000 in
set_option maxHeartbeats 1000000 in
theorem rightR10 (n bits : Int) (w : World) : Calls Tryd.prog 82 #[.int .i64 n, .int .i64 bits] w (fun e w' => e = .returned (.bool (N.rightB n bits)) ∧ w = w') := by
  by_cases h1 : 0 ≤ n
  · have b1 : decide (0 ≤ n) = true := decide_eq_true h1
    by_cases h2 : n < 4294967296
    · have b2 : decide (n < 4294967296) = true := decide_eq_true h2
      by_cases h3 : 0 ≤ bits
      · have b3 : decide (0 ≤ bits) = true := decide_eq_true h3
        by_cases h4 : bits ≤ 32
        · have b4 : decide (bits ≤ 32) = true := decide_eq_true h4
          obtain ⟨nn, rfl⟩ := Int.eq_ofNat_of_zero_le h1
          obtain ⟨k, hk⟩ : ∃ k : Nat, (32 - bits).toNat = k := ⟨_, rfl⟩
          have hk2 : 32 - bits = (k : Int) := by omega
          obtain ⟨p, hp⟩ : ∃ p, 2 ^ k = p := ⟨_, rfl⟩
          have hpp : 0 < p := by rw [← hp]; exact N.pow_pos2 k
          have hpb : p ≤ 4294967296 := by rw [← hp]; exact Nat.le_trans (Nat.pow_le_pow_right (by omega) (show k ≤ 32 by omega)) (by decide)
          obtain ⟨r, hr⟩ : ∃ r, N.rightB (nn : Int) bits = r := ⟨_, rfl⟩
          have hr2 : r = decide (nn % p = 0) := by
            rw [← hr]
            unfold N.rightB
            rw [b1, b2, b3, b4, hk, hp]
            show decide ((nn : Int) % (p : Int) = 0) = _
            exact decide_eq_decide.2 (by rw [← Int.natCast_emod]; omega)
          rw [hr]
          have hpow := powQ (32 - bits) k p w hk2 (by omega) hp
          have bp : ((p : Int) == 0) = false := beq_eq_false_iff_ne.2 (by omega)
          have bp2 : (p == 0) = false := beq_eq_false_iff_ne.2 (by omega)
          have hmod : Int.tmod (nn : Int) (p : Int) = ((nn % p : Nat) : Int) := by rw [Int.tmod_eq_emod_of_nonneg (by omega), Int.natCast_emod]
          obtain ⟨q, hq⟩ : ∃ q, nn % p = q := ⟨_, rfl⟩
          rw [hq] at hmod hr2
          have hqp : q < p := by rw [← hq]; exact Nat.mod_lt _ hpp
          have HR := Lib.hid hr2
          clear hr2 hr hk hk2 hp hq
          cases hz : (q == 0) with
          | true =>
            have hz2 : ((q : Int) == 0) = true := by simp at hz ⊢; omega
            have HE := Lib.hid (show r = true by rw [HR.out]; simpa using hz)
            clear hz
            go_enter Tryd.func82, Tryd.ntmps82
            go_wp2_with fail
            refine hpow.mono ?_
            rintro e w1 ⟨rfl, rfl⟩
            go_wp2
            go_ret
            exact ⟨by rw [HE.out]; rfl, rfl⟩
          | false =>
            have hz2 : ((q : Int) == 0) = false := by simp at hz ⊢; omega
            have HE := Lib.hid (show r = false by rw [HR.out]; simpa using hz)
            clear hz
            go_enter Tryd.func82, Tryd.ntmps82
            go_wp2_with fail
            refine hpow.mono ?_
            rintro e w1 ⟨rfl, rfl⟩
            go_wp2
            go_ret
            exact ⟨by rw [HE.out]; rfl, rfl⟩
        · have b4 : decide (bits ≤ 32) = false := decide_eq_false h4
          have HE := Lib.hid (show N.rightB n bits = false by unfold N.rightB; rw [b4, Bool.and_false, Bool.false_and])
          clear h1 h2 h3 h4
          go_enter Tryd.func82, Tryd.ntmps82
          go_wp2
          go_ret
          exact ⟨by rw [HE.out]; rfl, rfl⟩
      · have b3 : decide (0 ≤ bits) = false := decide_eq_false h3
        have HE := Lib.hid (show N.rightB n bits = false by unfold N.rightB; rw [b3, Bool.and_false, Bool.false_and, Bool.false_and])
        clear h1 h2 h3
        go_enter Tryd.func82, Tryd.ntmps82
        go_wp2
        go_ret
        exact ⟨by rw [HE.out]; rfl, rfl⟩
    · have b2 : decide (n < 4294967296) = false := decide_eq_false h2
      have HE := Lib.hid (show N.rightB n bits = false by unfold N.rightB; rw [b2, Bool.and_false, Bool.false_and, Bool.false_and, Bool.false_and])
      clear h1 h2
      go_enter Tryd.func82, Tryd.ntmps82
      go_wp2
      go_ret
      exact ⟨by rw [HE.out]; rfl, rfl⟩
  · have b1 : decide (0 ≤ n) = false := decide_eq_false h1
    have HE := Lib.hid (show N.rightB n bits = false by unfold N.rightB; rw [b1, Bool.false_and, Bool.false_and, Bool.false_and, Bool.false_and])
    clear h1
    go_enter Tryd.func82, Tryd.ntmps82
    go_wp2
    go_ret
    exact ⟨by rw [HE.out]; rfl, rfl⟩
theorem valueR10 (c : UInt8) (w : World) : Calls Tryd.prog 83 #[.int .u8 c.toNat] w (fun e w' => e = .returned (.int .i64 (N.hexV c)) ∧ w = w') := by
  have hlt := c.toNat_lt
  go_enter Tryd.func83, Tryd.ntmps83
  go_wp2
  all_goals go_ret
  all_goals
    refine ⟨congrArg (fun z => Ending.returned (.int .i64 z)) ?_, rfl⟩
    unfold N.hexV
    first | rw [if_pos (by omega)] | (rw [if_neg (by omega), if_pos (by omega)]; omega) | (rw [if_neg (by omega), if_neg (by omega)])
end Go.Proofs.YtikjdjfpoohieaaDoor

namespace Go.Proofs.YtikjdjfpoohieaaDoor
open Go.RowKit
set_option linter.unusedVariables false

theorem calls_sym {P : Program} {f : FuncId} {args : Array Value} {w : World} {v : Value} (h : Calls P f args w fun e w' => e = .returned v ∧ w = w') : Calls P f args w fun e w' => e = .returned v ∧ w' = w := h.mono fun _ _ ⟨a, b⟩ => ⟨a, b.symm⟩
theorem below_drawn10 {B : Nat} {a w : World} (h : Below B a w) (q : Nat) : Below B a (w.drewN q) := ⟨h.os, h.tape, h.output, h.size, h.block⟩
theorem rightQ10 (n bits : Int) (r : Bool) (w : World) (h : N.rightB n bits = r) : Calls Tryd.prog 82 #[.int .i64 n, .int .i64 bits] w (fun e w' => e = .returned (.bool r) ∧ w = w') := by subst h; exact rightR10 n bits w
theorem right_nums {n bits : Int} (h : N.rightB n bits = true) : 0 ≤ n ∧ n < 4294967296 ∧ 0 ≤ bits ∧ bits ≤ 32 := by
  unfold N.rightB at h
  simp only [Bool.and_eq_true, decide_eq_true_eq] at h
  exact ⟨h.1.1.1.1, h.1.1.1.2, h.1.1.2, h.1.2⟩
set_option maxRecDepth 100000 in
set_option maxHeartbeats 2000000 in
theorem inR10 (n bits ip : Int) (w : World) : Calls Tryd.prog 90 #[.int .i64 n, .int .i64 bits, .int .i64 ip] w (fun e w' => e = .returned (.bool (N.inB n bits ip)) ∧ Below w.heap.size w w') := by
  obtain ⟨r, hr⟩ : ∃ r, N.rightB n bits = r := ⟨_, rfl⟩
  have HRI := Lib.hid hr
  cases r with
  | false =>
    have HE := Lib.hid (show N.inB n bits ip = false by unfold N.inB; rw [hr]; rfl)
    clear hr
    go_enter Tryd.func90, Tryd.ntmps90
    go_wp2
    go_quiet (first | (go_at_call 82; exact Calls.quiet_of_same (calls_sym (rightQ10 _ _ _ _ HRI.out))) | (go_at_call 99; exact Calls.quiet_of_same (calls_sym (powQ _ 0 1 _ rfl (by omega) rfl))))
    go_wp2
    go_ret
    exact ⟨by rw [HE.out]; rfl, (below_drawn10 (Below.refl _ _) _)⟩
  | true =>
    obtain ⟨g1, g2, g3, g4⟩ := right_nums hr
    by_cases h1 : 0 ≤ ip
    · have b1 : decide (0 ≤ ip) = true := decide_eq_true h1
      by_cases h2 : ip < 4294967296
      · have b2 : decide (ip < 4294967296) = true := decide_eq_true h2
        obtain ⟨nn, rfl⟩ := Int.eq_ofNat_of_zero_le g1
        obtain ⟨ii, rfl⟩ := Int.eq_ofNat_of_zero_le h1
        obtain ⟨k, hk⟩ : ∃ k : Nat, (32 - bits).toNat = k := ⟨_, rfl⟩
        have hk2 : 32 - bits = (k : Int) := by omega
        obtain ⟨p, hp⟩ : ∃ p, 2 ^ k = p := ⟨_, rfl⟩
        have hpp : 0 < p := by rw [← hp]; exact N.pow_pos2 k
        have hpb : p ≤ 4294967296 := by rw [← hp]; exact Nat.le_trans (Nat.pow_le_pow_right (by omega) (show k ≤ 32 by omega)) (by decide)
        have bp : ((p : Int) == 0) = false := beq_eq_false_iff_ne.2 (by omega)
        have bp2 : (p == 0) = false := beq_eq_false_iff_ne.2 (by omega)
        obtain ⟨qi, hqi⟩ : ∃ q, ii / p = q := ⟨_, rfl⟩
        obtain ⟨qn, hqn⟩ : ∃ q, nn / p = q := ⟨_, rfl⟩
        have d1 : Int.tdiv (ii : Int) (p : Int) = (qi : Int) := by rw [Int.tdiv_eq_ediv_of_nonneg (by omega), ← hqi, Int.natCast_ediv]
        have d2 : Int.tdiv (nn : Int) (p : Int) = (qn : Int) := by rw [Int.tdiv_eq_ediv_of_nonneg (by omega), ← hqn, Int.natCast_ediv]
        have l1 : qi < 4294967296 := by rw [← hqi]; exact Nat.lt_of_le_of_lt (Nat.div_le_self _ _) (by omega)
        have l2 : qn < 4294967296 := by rw [← hqn]; exact Nat.lt_of_le_of_lt (Nat.div_le_self _ _) (by omega)
        have hK := Lib.hid (show ∀ w, Calls Tryd.prog 99 #[.int .i64 (k : Int)] w (fun e w' => e = .returned (.int .i64 (p : Int)) ∧ w = w') from fun w => powQ _ k p w rfl (by omega) hp)
        obtain ⟨rr, hrr⟩ : ∃ rr, N.inB (nn : Int) bits (ii : Int) = rr := ⟨_, rfl⟩
        have hr2 : rr = (qi == qn) := by
          rw [← hrr]
          unfold N.inB
          rw [hr, b1, b2, hk, hp]
          show decide ((ii : Int) / (p : Int) = (nn : Int) / (p : Int)) = _
          rw [← Int.natCast_ediv, ← Int.natCast_ediv, hqi, hqn, Bool.eq_iff_iff, decide_eq_true_eq, beq_iff_eq]
          omega
        rw [hrr]
        have HK2 := Lib.hid hk2
        have sb : IntKind.i64.wrap (32 - bits) = (k : Int) := by rw [hk2]; rw [IntKind.wrap_i64]; omega
        clear hr hrr hqi hqn hk hp
        cases hz : (qi == qn) with
        | true =>
          have hz2 : ((qi : Int) == (qn : Int)) = true := by simp at hz ⊢; omega
          have HE := Lib.hid (show rr = true by rw [hr2, hz])
          clear hr2 hz
          go_enter Tryd.func90, Tryd.ntmps90
          go_wp2
          go_quiet (first | (go_at_call 82; exact Calls.quiet_of_same (calls_sym (rightQ10 _ _ _ _ HRI.out))) | (go_at_call 99; exact Calls.quiet_of_same (calls_sym (hK.out _))))
          go_wp2
          go_ret
          exact ⟨by rw [HE.out]; rfl, (below_drawn10 (Below.refl _ _) _)⟩
        | false =>
          have hz2 : ((qi : Int) == (qn : Int)) = false := by simp at hz ⊢; omega
          have HE := Lib.hid (show rr = false by rw [hr2, hz])
          clear hr2 hz
          go_enter Tryd.func90, Tryd.ntmps90
          go_wp2
          go_quiet (first | (go_at_call 82; exact Calls.quiet_of_same (calls_sym (rightQ10 _ _ _ _ HRI.out))) | (go_at_call 99; exact Calls.quiet_of_same (calls_sym (hK.out _))))
          go_wp2
          go_ret
          exact ⟨by rw [HE.out]; rfl, (below_drawn10 (Below.refl _ _) _)⟩
      · have b2 : decide (ip < 4294967296) = false := decide_eq_false h2
        have HE := Lib.hid (show N.inB n bits ip = false by unfold N.inB; rw [b2, Bool.and_false, Bool.false_and])
        clear hr
        go_enter Tryd.func90, Tryd.ntmps90
        go_wp2
        go_quiet (first | (go_at_call 82; exact Calls.quiet_of_same (calls_sym (rightQ10 _ _ _ _ HRI.out))) | (go_at_call 99; exact Calls.quiet_of_same (calls_sym (powQ _ 0 1 _ rfl (by omega) rfl))))
        go_wp2
        go_ret
        exact ⟨by rw [HE.out]; rfl, (below_drawn10 (Below.refl _ _) _)⟩
    · have b1 : decide (0 ≤ ip) = false := decide_eq_false h1
      have HE := Lib.hid (show N.inB n bits ip = false by unfold N.inB; rw [b1, Bool.and_false, Bool.false_and, Bool.false_and])
      clear hr
      go_enter Tryd.func90, Tryd.ntmps90
      go_wp2
      go_quiet (first | (go_at_call 82; exact Calls.quiet_of_same (calls_sym (rightQ10 _ _ _ _ HRI.out))) | (go_at_call 99; exact Calls.quiet_of_same (calls_sym (powQ _ 0 1 _ rfl (by omega) rfl))))
      go_wp2
      go_ret
      exact ⟨by rw [HE.out]; rfl, (below_drawn10 (Below.refl _ _) _)⟩
end Go.Proofs.YtikjdjfpoohieaaDoor
