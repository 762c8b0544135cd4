/-
  Slices whose elements are laid in a fixed number of cells (lines, integers, strings): what such a slice holds, kept over whatever leaves old memory as it was; one of the call's own, and what append does to it. Condition: at most 2^40 elements.
-/
import Derived.Test.YtkifapbiimlafaaRows
import Derived.WalkKit
import Derived.WalkSpells
import Derived.WalkLawsBesides
import Derived.Lib.Hide
import Derived.Laws.OwnMore
import Derived.Deep.RegionLaw
namespace Go.Proofs.Ytkifapbiimlafaa
open Go.RowKit

/-- How an element is laid: the slice's type, the element's, its cells. -/
structure Elem (α : Type) where
  st : TypeId
  T : TypeId
  sz : Nat
  zero : Value
  by_ : Nat
  C : α → List Value
  hst : Try.prog.underlying st = some (.slice T)
  hin : (Try.prog.info? T).map (fun i => (i.zero, i.size, i.bytes)) = some (some zero, sz, by_)
  hzs : zero.cells.size = sz
  hsz : 0 < sz
  hby : by_ ≤ 64
  len : ∀ x, (C x).length = sz
  one : ∀ x, ∀ u ∈ C x, u.oneCell' = true

section
variable {α : Type} (E : Elem α)

def cellsG (l : List α) : List Value := l.flatMap E.C
theorem cellsG_append (a b : List α) : cellsG E (a ++ b) = cellsG E a ++ cellsG E b := by simp [cellsG]
theorem cellsG_one (x : α) : cellsG E [x] = E.C x := by simp [cellsG]
theorem cellsG_len (l : List α) : (cellsG E l).length = l.length * E.sz := by
  induction l with
  | nil => simp [cellsG]
  | cons x l ih => simp only [cellsG, List.flatMap_cons, List.length_append, List.length_cons] at ih ⊢; rw [ih, E.len, Nat.succ_mul]; omega
theorem cellsG_onec (l : List α) : ∀ u ∈ cellsG E l, u.oneCell' = true := by
  intro u hu
  obtain ⟨x, _, h⟩ := List.mem_flatMap.1 hu
  exact E.one x u h
theorem cellsG_at (l : List α) (i j : Nat) (hi : i < l.length) (hj : j < E.sz) : (cellsG E l)[i * E.sz + j]? = (E.C l[i])[j]? := by
  induction l generalizing i with
  | nil => simp at hi
  | cons x l ih =>
    have e : cellsG E (x :: l) = E.C x ++ cellsG E l := by simp [cellsG]
    have hl := E.len x
    rw [e]
    match i with
    | 0 => rw [List.getElem?_append_left (by omega)]; simp
    | i + 1 =>
      have hm : (i + 1) * E.sz = i * E.sz + E.sz := Nat.succ_mul ..
      rw [List.getElem?_append_right (by omega)]
      have : (i + 1) * E.sz + j - (E.C x).length = i * E.sz + j := by omega
      rw [this, ih i (by simpa using hi)]; rfl

/-- The cells from the address on hold the elements l. -/
def Holds (w : World) (b o : Nat) (l : List α) : Prop := ∀ i (h : i < l.length) (j : Nat) (u : Value), (E.C l[i])[j]? = some u → w.cell? ⟨b, o + i * E.sz + j, none⟩ = some u
/-- A slice of this address, and of as many elements as l has, reads as l. -/
def Seen (w : World) (A : Option Addr) (l : List α) : Prop := 0 < l.length → ∃ b o, A = some ⟨b, o, none⟩ ∧ b < w.heap.size ∧ Holds E w b o l
variable {E}
theorem Holds.below {w w1 : World} {b o : Nat} {l : List α} (h : Holds E w b o l) (hb : Below w.heap.size w w1) (hlt : b < w.heap.size) : Holds E w1 b o l := by
  intro i hi j u hu
  rw [← h i hi j u hu]
  exact hb.cell (p := ⟨b, o + i * E.sz + j, none⟩) hlt
theorem Seen.below {w w1 : World} {A : Option Addr} {l : List α} (h : Seen E w A l) (hb : Below w.heap.size w w1) : Seen E w1 A l := by
  intro hl
  obtain ⟨b, o, rfl, hlt, hh⟩ := h hl
  exact ⟨b, o, rfl, Nat.lt_of_lt_of_le hlt hb.size, hh.below hb hlt⟩
theorem Seen.nil {w : World} {A : Option Addr} : Seen E w A [] := fun h => absurd h (Nat.lt_irrefl 0)
theorem Holds.drop {w : World} {b o : Nat} {l : List α} (h : Holds E w b o l) (k : Nat) : Holds E w b (o + k * E.sz) (l.drop k) := by
  intro i hi j u hu
  rw [List.length_drop] at hi
  have := h (k + i) (by omega) j u (by rw [← hu]; simp)
  rw [← this, Nat.add_mul]
  congr 2; omega
theorem Holds.take {w : World} {b o : Nat} {l : List α} (h : Holds E w b o l) (k : Nat) : Holds E w b o (l.take k) := by
  intro i hi j u hu
  rw [List.length_take] at hi
  exact h i (by omega) j u (by rw [← hu]; simp)
variable (E)

/-- The slice value v owns the elements l, in blocks from base on. -/
def Own (w : World) (base : Nat) (v : Value) (l : List α) : Prop := w.ownsRow base E.T E.sz v l.length (cellsG E l)
variable {E}
theorem Own.nil (w : World) (base : Nat) : Own E w base (.slice none 0 0) [] := ⟨by simp [cellsG], .inl ⟨rfl, rfl⟩⟩
theorem Own.alloc {w : World} {base : Nat} {v : Value} {l : List α} (h : Own E w base v l) (o : Obj) : Own E (w.alloc o) base v l := World.ownsRow.alloc h o
theorem Own.drew {w : World} {base : Nat} {v : Value} {l : List α} (h : Own E w base v l) : Own E w.drew base v l := h
theorem Own.keep {w w1 : World} {base : Nat} {v : Value} {l : List α} (h : Own E w base v l) (hb : Below w.heap.size w w1) : Own E w1 base v l := by
  refine ⟨h.1, ?_⟩
  rcases h.2 with hn | ⟨g, cap, cur, rfl, hbg, hgg, rest⟩
  · exact .inl hn
  · refine .inr ⟨g, cap, cur, rfl, hbg, ?_, rest⟩
    rw [hb.block g (Array.getElem?_eq_some_iff.1 hgg).1]
    exact hgg
/-- What is owned is seen. -/
theorem Own.seen {w : World} {base : Nat} {v : Value} {l : List α} (h : Own E w base v l) : ∃ A cap, v = .slice A l.length cap ∧ l.length ≤ cap ∧ Seen E w A l := by
  rcases h.2 with ⟨rfl, hn⟩ | ⟨g, cap, cur, rfl, hbg, hgg, hnc, hcm, hcs, htk⟩
  · exact ⟨none, 0, by rw [hn], by omega, fun hl => by omega⟩
  · refine ⟨_, cap, rfl, hnc, fun hl => ⟨g, 0, rfl, (Array.getElem?_eq_some_iff.1 hgg).1, fun i hi j u hu => ?_⟩⟩
    have hj : j < E.sz := by rw [← E.len l[i]]; exact (List.getElem?_eq_some_iff.1 hu).1
    have hm : (i + 1) * E.sz ≤ l.length * E.sz := Nat.mul_le_mul_right _ hi
    rw [Nat.succ_mul] at hm
    rw [Nat.zero_add, World.ownsRow.cellAt h (i * E.sz + j) (by omega), cellsG_at E l i j hi hj, hu]

theorem add_off (b o j : Nat) : (⟨b, o, none⟩ : Addr).add j = ⟨b, o + j, none⟩ := by
  unfold Addr.add
  by_cases h : j = 0
  · subst h; rfl
  · rw [if_neg h]
theorem new_cellsG (T : TypeId) (w : World) (cs : Array Value) (news : List Value) (hcs : cs.toList = news) : ∀ j u, news[j]? = some u → (w.alloc (.cells cs T)).cell? ((⟨w.heap.size, 0, none⟩ : Addr).add j) = some u := by
  intro j u hj
  have e : cs[j]? = some u := by rw [← hj, ← hcs]; simp
  rw [← e, add_off, Nat.zero_add]
  exact World.cell?_alloc_mark w cs T (0, 0) j

/-- append of what is seen elsewhere. -/
theorem wp_appSrc (E : Elem α) {o : Oper} {a : Act} {K : Act → World → Prop} {Q : Exit → Act → World → Prop} (w : World) (s x : Operand)
    (ho : o.op = .call { callee := .builtin .append, args := #[s, x], argTypes := #[E.st, E.st] })
    (base : Nat) (v : Value) (l : List α) (hs : a.eval s = v) (hown : Own E w base v l) (b q : Nat) (l2 : List α) (m cap : Nat) (hm : l2.length = m)
    (hx : a.eval x = .slice (some ⟨b, q, none⟩) m cap) (hc : Holds E w b q l2) (hlen : l.length + m ≤ 1099511627776) (hb : base ≤ w.heap.size)
    (h : ∀ v' w', Own E w' base v' (l ++ l2) → Below base w w' → K (a.put o.dst v') w') : o.wp Try.prog a w K Q := by
  obtain ⟨i0, hi0, hz0, hz1, hz2⟩ := info_parts E.hin
  subst hm
  have hby := E.hby
  have hmul : (l.length + l2.length) * E.by_ ≤ 1099511627776 * 64 := Nat.mul_le_mul hlen hby
  refine wp_append_own w s x E.st ho base E.T i0 _ E.sz E.by_ E.hst hi0 hz0 hz1 hz2 E.hzs E.hsz v l.length (cellsG E l) hs hown ⟨b, q, none⟩ l2.length cap (cellsG E l2) hx
    (cellsG_len E l2) (fun j u hu => ?_) (cellsG_onec E _) (by unfold maxLen; omega) (by omega) hb ?_
  · have hj : j < l2.length * E.sz := by rw [← cellsG_len]; exact (List.getElem?_eq_some_iff.1 hu).1
    have hsz := E.hsz
    have hi : j / E.sz < l2.length := Nat.div_lt_of_lt_mul (by rw [Nat.mul_comm]; exact hj)
    have hr : j % E.sz < E.sz := Nat.mod_lt _ hsz
    have e : j / E.sz * E.sz + j % E.sz = j := by rw [Nat.mul_comm]; exact Nat.div_add_mod j E.sz
    rw [← e, cellsG_at E l2 _ _ hi hr] at hu
    have := hc _ hi _ u hu
    rw [show q + j / E.sz * E.sz + j % E.sz = q + j by omega] at this
    rw [add_off]; exact this
  · intro v' w' h1 h2 _
    refine h v' w' ?_ ?_
    · unfold Own; rw [cellsG_append, List.length_append]; exact h1
    · exact Below.grown (Below.refl _ _) h2 hb (fun k hk => (World.ownsRow.lt hown k hk).1)
theorem wp_appNone (E : Elem α) {o : Oper} {a : Act} {K : Act → World → Prop} {Q : Exit → Act → World → Prop} (w : World) (s x : Operand)
    (ho : o.op = .call { callee := .builtin .append, args := #[s, x], argTypes := #[E.st, E.st] })
    (base : Nat) (v : Value) (l : List α) (hs : a.eval s = v) (hown : Own E w base v l) (hx : a.eval x = .slice none 0 0)
    (h : K (a.put o.dst v) w) : o.wp Try.prog a w K Q := by
  obtain ⟨i0, hi0, hz0, hz1, hz2⟩ := info_parts E.hin
  have hr := run_append_owned_none (P := Try.prog) w base E.st o.type E.T i0 E.sz E.hst hi0 v l.length (cellsG E l) hown
  unfold Oper.wp execOp
  simp only [ho, resolve, invoke, builtin, Sem.run_bind, Sem.run_pure, Result.andThen_ok, List.map_toArray, List.map_cons, List.map_nil, hs, hx, hr]
  exact h
/-- append of one. -/
theorem wp_appG (E : Elem α) {o : Oper} {a : Act} {K : Act → World → Prop} {Q : Exit → Act → World → Prop} (w : World) (s x : Operand)
    (ho : o.op = .call { callee := .builtin .append, args := #[s, x], argTypes := #[E.st, E.st] })
    (base : Nat) (v : Value) (l : List α) (hs : a.eval s = v) (hown : Own E w base v l) (t : α) (cap : Nat) (cs : Array Value) (hcs : cs.toList = E.C t)
    (g : Nat) (hg : w.heap.size = g) (hx : a.eval x = .slice (some ⟨g, 0, none⟩) 1 cap) (hlen : l.length + 1 ≤ 1099511627776) (hb : base ≤ w.heap.size)
    (h : ∀ v' w', Own E w' base v' (l ++ [t]) → Below base w w' → K (a.put o.dst v') w') : o.wp Try.prog a (w.alloc (.cells cs E.T)) K Q := by
  subst hg
  refine wp_appSrc E _ s x ho base v l hs (World.ownsRow.alloc hown _) w.heap.size 0 [t] 1 cap rfl hx (fun i hi j u hu => ?_) hlen (by simp; omega) fun v' w' h1 h2 => h v' w' h1 (((Below.refl _ _).alloc hb _).trans h2)
  have hi0 : i = 0 := by simpa using hi
  subst hi0
  have := new_cellsG E.T w cs (E.C t) hcs j u hu
  rw [add_off, Nat.zero_add] at this
  rw [← this]; congr 2; omega
theorem wpList_appG (E : Elem α) {ops : Array Oper} {rest : List Oper} {o : Oper} {a : Act} {Q : Exit → Act → World → Prop} (w : World) (hgd : o.guard = none) (s x : Operand)
    (ho : o.op = .call { callee := .builtin .append, args := #[s, x], argTypes := #[E.st, E.st] })
    (base : Nat) (v : Value) (l : List α) (hs : a.eval s = v) (hown : Own E w base v l) (t : α) (cap : Nat) (cs : Array Value) (hcs : cs.toList = E.C t)
    (g : Nat) (hg : w.heap.size = g) (hx : a.eval x = .slice (some ⟨g, 0, none⟩) 1 cap) (hlen : l.length + 1 ≤ 1099511627776) (hb : base ≤ w.heap.size)
    (h : ∀ v' w', Own E w' base v' (l ++ [t]) → Below base w w' → wpList Try.prog ops Q rest (a.put o.dst v') w') : wpList Try.prog ops Q (o :: rest) a (w.alloc (.cells cs E.T)) :=
  wpList_plain hgd fun _ hK => wp_appG E w s x ho base v l hs hown t cap cs hcs g hg hx hlen hb fun v' w' h1 h2 => hK _ _ (h v' w' h1 h2)
theorem wpList_appGd (E : Elem α) {ops : Array Oper} {rest : List Oper} {o : Oper} {a : Act} {Q : Exit → Act → World → Prop} (w : World) (hgd : o.guard = none) (s x : Operand)
    (ho : o.op = .call { callee := .builtin .append, args := #[s, x], argTypes := #[E.st, E.st] })
    (base : Nat) (v : Value) (l : List α) (hs : a.eval s = v) (hown : Own E w base v l) (t : α) (cap : Nat) (cs : Array Value) (hcs : cs.toList = E.C t)
    (g : Nat) (hg : w.heap.size = g) (hx : a.eval x = .slice (some ⟨g, 0, none⟩) 1 cap) (hlen : l.length + 1 ≤ 1099511627776) (hb : base ≤ w.heap.size)
    (h : ∀ v' w', Own E w' base v' (l ++ [t]) → Below base w w' → wpList Try.prog ops Q rest (a.put o.dst v') w') : wpList Try.prog ops Q (o :: rest) a (w.alloc (.cells cs E.T)).drew :=
  wpList_appG E w.drew hgd s x ho base v l hs hown t cap cs hcs g hg hx hlen hb fun v' w' h1 h2 => h v' w' h1 (((Below.refl base w).drew).trans h2)
theorem wpList_appSrc (E : Elem α) {ops : Array Oper} {rest : List Oper} {o : Oper} {a : Act} {Q : Exit → Act → World → Prop} (w : World) (hgd : o.guard = none) (s x : Operand)
    (ho : o.op = .call { callee := .builtin .append, args := #[s, x], argTypes := #[E.st, E.st] })
    (base : Nat) (v : Value) (l : List α) (hs : a.eval s = v) (hown : Own E w base v l) (b q : Nat) (l2 : List α) (m cap : Nat) (hm : l2.length = m)
    (hx : a.eval x = .slice (some ⟨b, q, none⟩) m cap) (hc : Holds E w b q l2) (hlen : l.length + m ≤ 1099511627776) (hb : base ≤ w.heap.size)
    (h : ∀ v' w', Own E w' base v' (l ++ l2) → Below base w w' → wpList Try.prog ops Q rest (a.put o.dst v') w') : wpList Try.prog ops Q (o :: rest) a w :=
  wpList_plain hgd fun _ hK => wp_appSrc E w s x ho base v l hs hown b q l2 m cap hm hx hc hlen hb fun v' w' h1 h2 => hK _ _ (h v' w' h1 h2)
theorem wpList_appNone (E : Elem α) {ops : Array Oper} {rest : List Oper} {o : Oper} {a : Act} {Q : Exit → Act → World → Prop} (w : World) (hgd : o.guard = none) (s x : Operand)
    (ho : o.op = .call { callee := .builtin .append, args := #[s, x], argTypes := #[E.st, E.st] })
    (base : Nat) (v : Value) (l : List α) (hs : a.eval s = v) (hown : Own E w base v l) (hx : a.eval x = .slice none 0 0)
    (h : wpList Try.prog ops Q rest (a.put o.dst v) w) : wpList Try.prog ops Q (o :: rest) a w :=
  wpList_plain hgd fun _ hK => wp_appNone E w s x ho base v l hs hown hx (hK _ _ h)
/-- append of one, in a region that draws. -/
theorem step_appG (E : Elem α) {ops : Array Oper} {o : Oper} {a : Act} {K : Act → World → Prop} {Q : Exit → Act → World → Prop} {D : Prop} (w : World) (hgd : o.guard = none) (s x : Operand)
    (ho : o.op = .call { callee := .builtin .append, args := #[s, x], argTypes := #[E.st, E.st] })
    (base : Nat) (v : Value) (l : List α) (hs : a.eval s = v) (hown : Own E w base v l) (t : α) (cap : Nat) (cs : Array Value) (hcs : cs.toList = E.C t)
    (g : Nat) (hg : w.heap.size = g) (hx : a.eval x = .slice (some ⟨g, 0, none⟩) 1 cap) (hlen : l.length + 1 ≤ 1099511627776) (hb : base ≤ w.heap.size)
    (h : ∀ v' w', Own E w' base v' (l ++ [t]) → Below base w w' → K (a.put o.dst v') w') :
    if Region.wanted o (yielded ops a.tmps) = true then Oper.wp Try.prog o a (w.alloc (.cells cs E.T)).drew K Q else D := by
  have hw : Region.wanted o (yielded ops a.tmps) = true := by simp [Region.wanted, hgd]
  rw [if_pos hw]
  exact wp_appG E w.drew s x ho base v l hs hown t cap cs hcs g hg hx hlen hb fun v' w' h1 h2 => h v' w' h1 ((((Below.refl base w)).drew).trans h2)
end

/-- A call leaves a slice of the call's own that reads as l. -/
def SawG {α : Type} (E : Elem α) (w : World) (l : List α) (e : Ending) (w' : World) : Prop := ∃ A cap, e = .returned (.slice A l.length cap) ∧ l.length ≤ cap ∧ Seen E w' A l ∧ Below w.heap.size w w'
def TrueS (w : World) (e : Ending) (w' : World) : Prop := e = .returned (.bool true) ∧ Below w.heap.size w w'
def BoolS (w : World) (b : Bool) (e : Ending) (w' : World) : Prop := e = .returned (.bool b) ∧ Below w.heap.size w w'
def IntS (w : World) (n : Int) (e : Ending) (w' : World) : Prop := e = .returned (.int .i64 n) ∧ Below w.heap.size w w'
theorem bthen {a b c : World} (h : Below a.heap.size a b) (k : Below b.heap.size b c) : Below a.heap.size a c := h.trans (k.mono h.size)
end Go.Proofs.Ytkifapbiimlafaa
