/-
  The last step of a law's row, once for all laws of this seat: a call that returns true, and below the heap's size at the call leaves the world as it was, meets the row's post. Condition: the parameters' types can be read as data. A []string that came in, opened: the strings that it holds, kept over whatever leaves old memory as it was. No conditions.
  Slices whose elements are laid in a fixed number of cells (lines, integers, strings): what such a slice holds, kept over whatever leaves old memory as it was; one of the call's own, and what append does to it. Condition: at most 2^40 elements.
  Plain definitions and laws on lines and paths (layer 3, and what layers 5 and 6 want of it), without the program. No conditions but a tree where a law says so.
  Lines, integers and strings in memory: the cells of each; a []api.Line and a []string that came in, opened. No conditions.
-/
import Derived.Test.YtfcikfohmehmkaaGreatDoorRows
import Derived.WalkKit
import Derived.ProofKit
import Derived.OpenShut
import Derived.ShutString
import Derived.Carry
import Derived.SliceStrings
import Derived.WalkSpells
import Derived.WalkLawsBesides
import Derived.Lib.Hide
import Derived.Laws.OwnMore
import Derived.Deep.RegionLaw
import Derived.Laws.Strings
import Derived.Deep.Slices

namespace Go.Proofs.YtfcikfohmehmkaaGreatDoor
open Go.ChangeShapes Go.WideShapes Go.ChangeAt Go.RowKit

theorem Tryz.own : ownKnob Tryz.prog.godebug = none := by kernel_rfl
theorem Tryz.laidOut : laidOutB Tryz.prog = true := by kernel_rfl

theorem args_stay {P : Program} (hl : laidOutB P = true) {H : Type} {enc : TypeId × Value → H} {W W' : World} (hb : Below W.heap.size W W') :
    ∀ (ts : List TypeId) (vs : List Value) (ds : List (DataW H)) (ps : List MemPlace), ts.all (fun t => P.readableRec t && decide (t < P.types.size)) = true →
      DataW.TrodAll enc P W 0 (fun _ => true) true ts vs ds ps → (∀ x ∈ ps, x.block < W.heap.size) → DataW.TrodAll enc P W' 0 (fun b => decide (b < W.heap.size)) true ts vs ds ps
  | [], vs, ds, ps, _, h, _ => by
    obtain ⟨rfl, rfl, rfl⟩ := trodAll_nil h
    exact trodAll_mk0
  | t :: ts, vs, ds, ps, hr, h, hlt => by
    obtain ⟨v, vs', d, ds', p, q, rfl, rfl, rfl, h0, h1⟩ := trodAll_cons h
    simp only [List.all_cons, Bool.and_eq_true, decide_eq_true_eq] at hr
    refine trodAll_cons_mk (Below.trod hl hr.1.1 hr.1.2 h0 hb fun x hx => hlt x (by simp [hx])) (args_stay hl hb ts vs' ds' q ?_ h1 fun x hx => hlt x (by simp [hx]))
    simpa only [Bool.and_eq_true, decide_eq_true_eq] using hr.2

theorem law_post {H : Type} {enc : TypeId × Value → H} {f : Func} {s : ChangeSpec} {W W' : World} {args : Array Value} {ds gs : List (DataW H)} {before : List MemPlace}
    (hr : f.params.toList.all (fun t => Tryz.prog.readableRec t && decide (t < Tryz.prog.types.size)) = true) (hres : f.resultTypes = #[4]) (hvars : s.vars = [])
    (hfn1 : (s.fn H (ds ++ gs)).results = [.lit (.bool true)]) (hfn2 : (s.fn H (ds ++ gs)).args = ds) (hfn3 : (s.fn H (ds ++ gs)).vars = [])
    (hW : DataW.Whole enc Tryz.prog f.params.toList s.vars false W args.toList ds gs before) (hb : Below W.heap.size W W') : s.post enc Tryz.prog f false true false false W args (.bool true) W' := by
  have hlt : ∀ p ∈ before, p.block < W.heap.size := fun p hp => hW.lt p hp
  have hW2 := hW
  obtain ⟨p, q, hA, hV, rfl, _, _⟩ := hW
  rw [hvars] at hV
  obtain ⟨rfl, rfl⟩ := trodVars_none hV
  refine ⟨ds, [], p ++ [], [], p, [], hW2, ?_, ?_, ?_, hb.frame _, fun h => by cases h⟩
  · rw [hfn1, hres]
    exact trodAll_cons_mk (shut_bool Tryz.underlying4 true) trodAll_mk0
  · rw [hfn2]
    exact args_stay Tryz.laidOut hb _ _ _ _ hr hA (fun x hx => hlt x (by simp [hx]))
  · rw [hfn3, hvars]; rfl
end Go.Proofs.YtfcikfohmehmkaaGreatDoor

namespace Go.Proofs.YtfcikfohmehmkaaGreatDoor
open Go.ChangeShapes Go.WideShapes Go.ChangeAt Go.RowKit

theorem Tryz.cellsStr : Tryz.prog.cellsOf 9 = 1 := by kernel_rfl
end Go.Proofs.YtfcikfohmehmkaaGreatDoor

namespace Go.Proofs.YtfcikfohmehmkaaGreatDoor
open Go.RowKit

/-- How an element is laid: the slice's type, the element's, its cells. -/
structure Elem (α : Type) where
  st : TypeId
  T : TypeId
  sz : Nat
  zero : Value
  by_ : Nat
  C : α → List Value
  hst : Tryz.prog.underlying st = some (.slice T)
  hin : (Tryz.prog.info? T).map (fun i => (i.zero, i.size, i.bytes)) = some (some zero, sz, by_)
  hzs : zero.cells.size = sz
  hsz : 0 < sz
  hby : by_ ≤ 64
  len : ∀ x, (C x).length = sz
  one : ∀ x, ∀ u ∈ C x, u.oneCell' = true

section
variable {α : Type} (E : Elem α)

def cellsG (l : List α) : List Value := l.flatMap E.C
theorem cellsG_append (a b : List α) : cellsG E (a ++ b) = cellsG E a ++ cellsG E b := by simp [cellsG]
theorem cellsG_one (x : α) : cellsG E [x] = E.C x := by simp [cellsG]
theorem cellsG_len (l : List α) : (cellsG E l).length = l.length * E.sz := by
  induction l with
  | nil => simp [cellsG]
  | cons x l ih => simp only [cellsG, List.flatMap_cons, List.length_append, List.length_cons] at ih ⊢; rw [ih, E.len, Nat.succ_mul]; omega
theorem cellsG_onec (l : List α) : ∀ u ∈ cellsG E l, u.oneCell' = true := by
  intro u hu
  obtain ⟨x, _, h⟩ := List.mem_flatMap.1 hu
  exact E.one x u h
theorem cellsG_at (l : List α) (i j : Nat) (hi : i < l.length) (hj : j < E.sz) : (cellsG E l)[i * E.sz + j]? = (E.C l[i])[j]? := by
  induction l generalizing i with
  | nil => simp at hi
  | cons x l ih =>
    have e : cellsG E (x :: l) = E.C x ++ cellsG E l := by simp [cellsG]
    have hl := E.len x
    rw [e]
    match i with
    | 0 => rw [List.getElem?_append_left (by omega)]; simp
    | i + 1 =>
      have hm : (i + 1) * E.sz = i * E.sz + E.sz := Nat.succ_mul ..
      rw [List.getElem?_append_right (by omega)]
      have : (i + 1) * E.sz + j - (E.C x).length = i * E.sz + j := by omega
      rw [this, ih i (by simpa using hi)]; rfl

/-- The cells from the address on hold the elements l. -/
def Holds (w : World) (b o : Nat) (l : List α) : Prop := ∀ i (h : i < l.length) (j : Nat) (u : Value), (E.C l[i])[j]? = some u → w.cell? ⟨b, o + i * E.sz + j, none⟩ = some u
/-- A slice of this address, and of as many elements as l has, reads as l. -/
def Seen (w : World) (A : Option Addr) (l : List α) : Prop := 0 < l.length → ∃ b o, A = some ⟨b, o, none⟩ ∧ b < w.heap.size ∧ Holds E w b o l
variable {E}
theorem Holds.below {w w1 : World} {b o : Nat} {l : List α} (h : Holds E w b o l) (hb : Below w.heap.size w w1) (hlt : b < w.heap.size) : Holds E w1 b o l := by
  intro i hi j u hu
  rw [← h i hi j u hu]
  exact hb.cell (p := ⟨b, o + i * E.sz + j, none⟩) hlt
theorem Seen.below {w w1 : World} {A : Option Addr} {l : List α} (h : Seen E w A l) (hb : Below w.heap.size w w1) : Seen E w1 A l := by
  intro hl
  obtain ⟨b, o, rfl, hlt, hh⟩ := h hl
  exact ⟨b, o, rfl, Nat.lt_of_lt_of_le hlt hb.size, hh.below hb hlt⟩
theorem Seen.nil {w : World} {A : Option Addr} : Seen E w A [] := fun h => absurd h (Nat.lt_irrefl 0)
theorem Holds.drop {w : World} {b o : Nat} {l : List α} (h : Holds E w b o l) (k : Nat) : Holds E w b (o + k * E.sz) (l.drop k) := by
  intro i hi j u hu
  rw [List.length_drop] at hi
  have := h (k + i) (by omega) j u (by rw [← hu]; simp)
  rw [← this, Nat.add_mul]
  congr 2; omega
theorem Holds.take {w : World} {b o : Nat} {l : List α} (h : Holds E w b o l) (k : Nat) : Holds E w b o (l.take k) := by
  intro i hi j u hu
  rw [List.length_take] at hi
  exact h i (by omega) j u (by rw [← hu]; simp)
variable (E)

/-- The slice value v owns the elements l, in blocks from base on. -/
def Own (w : World) (base : Nat) (v : Value) (l : List α) : Prop := w.ownsRow base E.T E.sz v l.length (cellsG E l)
variable {E}
theorem Own.nil (w : World) (base : Nat) : Own E w base (.slice none 0 0) [] := ⟨by simp [cellsG], .inl ⟨rfl, rfl⟩⟩
theorem Own.alloc {w : World} {base : Nat} {v : Value} {l : List α} (h : Own E w base v l) (o : Obj) : Own E (w.alloc o) base v l := World.ownsRow.alloc h o
theorem Own.drew {w : World} {base : Nat} {v : Value} {l : List α} (h : Own E w base v l) : Own E w.drew base v l := h
theorem Own.keep {w w1 : World} {base : Nat} {v : Value} {l : List α} (h : Own E w base v l) (hb : Below w.heap.size w w1) : Own E w1 base v l := by
  refine ⟨h.1, ?_⟩
  rcases h.2 with hn | ⟨g, cap, cur, rfl, hbg, hgg, rest⟩
  · exact .inl hn
  · refine .inr ⟨g, cap, cur, rfl, hbg, ?_, rest⟩
    rw [hb.block g (Array.getElem?_eq_some_iff.1 hgg).1]
    exact hgg
/-- What is owned is seen. -/
theorem Own.seen {w : World} {base : Nat} {v : Value} {l : List α} (h : Own E w base v l) : ∃ A cap, v = .slice A l.length cap ∧ l.length ≤ cap ∧ Seen E w A l := by
  rcases h.2 with ⟨rfl, hn⟩ | ⟨g, cap, cur, rfl, hbg, hgg, hnc, hcm, hcs, htk⟩
  · exact ⟨none, 0, by rw [hn], by omega, fun hl => by omega⟩
  · refine ⟨_, cap, rfl, hnc, fun hl => ⟨g, 0, rfl, (Array.getElem?_eq_some_iff.1 hgg).1, fun i hi j u hu => ?_⟩⟩
    have hj : j < E.sz := by rw [← E.len l[i]]; exact (List.getElem?_eq_some_iff.1 hu).1
    have hm : (i + 1) * E.sz ≤ l.length * E.sz := Nat.mul_le_mul_right _ hi
    rw [Nat.succ_mul] at hm
    rw [Nat.zero_add, World.ownsRow.cellAt h (i * E.sz + j) (by omega), cellsG_at E l i j hi hj, hu]

theorem add_off (b o j : Nat) : (⟨b, o, none⟩ : Addr).add j = ⟨b, o + j, none⟩ := by
  unfold Addr.add
  by_cases h : j = 0
  · subst h; rfl
  · rw [if_neg h]
theorem new_cellsG (T : TypeId) (w : World) (cs : Array Value) (news : List Value) (hcs : cs.toList = news) : ∀ j u, news[j]? = some u → (w.alloc (.cells cs T)).cell? ((⟨w.heap.size, 0, none⟩ : Addr).add j) = some u := by
  intro j u hj
  have e : cs[j]? = some u := by rw [← hj, ← hcs]; simp
  rw [← e, add_off, Nat.zero_add]
  exact World.cell?_alloc_mark w cs T (0, 0) j

/-- append of what is seen elsewhere. -/
theorem wp_appSrc (E : Elem α) {o : Oper} {a : Act} {K : Act → World → Prop} {Q : Exit → Act → World → Prop} (w : World) (s x : Operand)
    (ho : o.op = .call { callee := .builtin .append, args := #[s, x], argTypes := #[E.st, E.st] })
    (base : Nat) (v : Value) (l : List α) (hs : a.eval s = v) (hown : Own E w base v l) (b q : Nat) (l2 : List α) (m cap : Nat) (hm : l2.length = m)
    (hx : a.eval x = .slice (some ⟨b, q, none⟩) m cap) (hc : Holds E w b q l2) (hlen : l.length + m ≤ 1099511627776) (hb : base ≤ w.heap.size)
    (h : ∀ v' w', Own E w' base v' (l ++ l2) → Below base w w' → K (a.put o.dst v') w') : o.wp Tryz.prog a w K Q := by
  obtain ⟨i0, hi0, hz0, hz1, hz2⟩ := info_parts E.hin
  subst hm
  have hby := E.hby
  have hmul : (l.length + l2.length) * E.by_ ≤ 1099511627776 * 64 := Nat.mul_le_mul hlen hby
  refine wp_append_own w s x E.st ho base E.T i0 _ E.sz E.by_ E.hst hi0 hz0 hz1 hz2 E.hzs E.hsz v l.length (cellsG E l) hs hown ⟨b, q, none⟩ l2.length cap (cellsG E l2) hx
    (cellsG_len E l2) (fun j u hu => ?_) (cellsG_onec E _) (by unfold maxLen; omega) (by omega) hb ?_
  · have hj : j < l2.length * E.sz := by rw [← cellsG_len]; exact (List.getElem?_eq_some_iff.1 hu).1
    have hsz := E.hsz
    have hi : j / E.sz < l2.length := Nat.div_lt_of_lt_mul (by rw [Nat.mul_comm]; exact hj)
    have hr : j % E.sz < E.sz := Nat.mod_lt _ hsz
    have e : j / E.sz * E.sz + j % E.sz = j := by rw [Nat.mul_comm]; exact Nat.div_add_mod j E.sz
    rw [← e, cellsG_at E l2 _ _ hi hr] at hu
    have := hc _ hi _ u hu
    rw [show q + j / E.sz * E.sz + j % E.sz = q + j by omega] at this
    rw [add_off]; exact this
  · intro v' w' h1 h2 _
    refine h v' w' ?_ ?_
    · unfold Own; rw [cellsG_append, List.length_append]; exact h1
    · exact Below.grown (Below.refl _ _) h2 hb (fun k hk => (World.ownsRow.lt hown k hk).1)
theorem wp_appNone (E : Elem α) {o : Oper} {a : Act} {K : Act → World → Prop} {Q : Exit → Act → World → Prop} (w : World) (s x : Operand)
    (ho : o.op = .call { callee := .builtin .append, args := #[s, x], argTypes := #[E.st, E.st] })
    (base : Nat) (v : Value) (l : List α) (hs : a.eval s = v) (hown : Own E w base v l) (hx : a.eval x = .slice none 0 0)
    (h : K (a.put o.dst v) w) : o.wp Tryz.prog a w K Q := by
  obtain ⟨i0, hi0, hz0, hz1, hz2⟩ := info_parts E.hin
  have hr := run_append_owned_none (P := Tryz.prog) w base E.st o.type E.T i0 E.sz E.hst hi0 v l.length (cellsG E l) hown
  unfold Oper.wp execOp
  simp only [ho, resolve, invoke, builtin, Sem.run_bind, Sem.run_pure, Result.andThen_ok, List.map_toArray, List.map_cons, List.map_nil, hs, hx, hr]
  exact h
/-- append of one. -/
theorem wp_appG (E : Elem α) {o : Oper} {a : Act} {K : Act → World → Prop} {Q : Exit → Act → World → Prop} (w : World) (s x : Operand)
    (ho : o.op = .call { callee := .builtin .append, args := #[s, x], argTypes := #[E.st, E.st] })
    (base : Nat) (v : Value) (l : List α) (hs : a.eval s = v) (hown : Own E w base v l) (t : α) (cap : Nat) (cs : Array Value) (hcs : cs.toList = E.C t)
    (g : Nat) (hg : w.heap.size = g) (hx : a.eval x = .slice (some ⟨g, 0, none⟩) 1 cap) (hlen : l.length + 1 ≤ 1099511627776) (hb : base ≤ w.heap.size)
    (h : ∀ v' w', Own E w' base v' (l ++ [t]) → Below base w w' → K (a.put o.dst v') w') : o.wp Tryz.prog a (w.alloc (.cells cs E.T)) K Q := by
  subst hg
  refine wp_appSrc E _ s x ho base v l hs (World.ownsRow.alloc hown _) w.heap.size 0 [t] 1 cap rfl hx (fun i hi j u hu => ?_) hlen (by simp; omega) fun v' w' h1 h2 => h v' w' h1 (((Below.refl _ _).alloc hb _).trans h2)
  have hi0 : i = 0 := by simpa using hi
  subst hi0
  have := new_cellsG E.T w cs (E.C t) hcs j u hu
  rw [add_off, Nat.zero_add] at this
  rw [← this]; congr 2; omega
theorem wpList_appG (E : Elem α) {ops : Array Oper} {rest : List Oper} {o : Oper} {a : Act} {Q : Exit → Act → World → Prop} (w : World) (hgd : o.guard = none) (s x : Operand)
    (ho : o.op = .call { callee := .builtin .append, args := #[s, x], argTypes := #[E.st, E.st] })
    (base : Nat) (v : Value) (l : List α) (hs : a.eval s = v) (hown : Own E w base v l) (t : α) (cap : Nat) (cs : Array Value) (hcs : cs.toList = E.C t)
    (g : Nat) (hg : w.heap.size = g) (hx : a.eval x = .slice (some ⟨g, 0, none⟩) 1 cap) (hlen : l.length + 1 ≤ 1099511627776) (hb : base ≤ w.heap.size)
    (h : ∀ v' w', Own E w' base v' (l ++ [t]) → Below base w w' → wpList Tryz.prog ops Q rest (a.put o.dst v') w') : wpList Tryz.prog ops Q (o :: rest) a (w.alloc (.cells cs E.T)) :=
  wpList_plain hgd fun _ hK => wp_appG E w s x ho base v l hs hown t cap cs hcs g hg hx hlen hb fun v' w' h1 h2 => hK _ _ (h v' w' h1 h2)
theorem wpList_appSrc (E : Elem α) {ops : Array Oper} {rest : List Oper} {o : Oper} {a : Act} {Q : Exit → Act → World → Prop} (w : World) (hgd : o.guard = none) (s x : Operand)
    (ho : o.op = .call { callee := .builtin .append, args := #[s, x], argTypes := #[E.st, E.st] })
    (base : Nat) (v : Value) (l : List α) (hs : a.eval s = v) (hown : Own E w base v l) (b q : Nat) (l2 : List α) (m cap : Nat) (hm : l2.length = m)
    (hx : a.eval x = .slice (some ⟨b, q, none⟩) m cap) (hc : Holds E w b q l2) (hlen : l.length + m ≤ 1099511627776) (hb : base ≤ w.heap.size)
    (h : ∀ v' w', Own E w' base v' (l ++ l2) → Below base w w' → wpList Tryz.prog ops Q rest (a.put o.dst v') w') : wpList Tryz.prog ops Q (o :: rest) a w :=
  wpList_plain hgd fun _ hK => wp_appSrc E w s x ho base v l hs hown b q l2 m cap hm hx hc hlen hb fun v' w' h1 h2 => hK _ _ (h v' w' h1 h2)
theorem wpList_appNone (E : Elem α) {ops : Array Oper} {rest : List Oper} {o : Oper} {a : Act} {Q : Exit → Act → World → Prop} (w : World) (hgd : o.guard = none) (s x : Operand)
    (ho : o.op = .call { callee := .builtin .append, args := #[s, x], argTypes := #[E.st, E.st] })
    (base : Nat) (v : Value) (l : List α) (hs : a.eval s = v) (hown : Own E w base v l) (hx : a.eval x = .slice none 0 0)
    (h : wpList Tryz.prog ops Q rest (a.put o.dst v) w) : wpList Tryz.prog ops Q (o :: rest) a w :=
  wpList_plain hgd fun _ hK => wp_appNone E w s x ho base v l hs hown hx (hK _ _ h)
end

/-- A call leaves a slice of the call's own that reads as l. -/
def SawG {α : Type} (E : Elem α) (w : World) (l : List α) (e : Ending) (w' : World) : Prop := ∃ A cap, e = .returned (.slice A l.length cap) ∧ l.length ≤ cap ∧ Seen E w' A l ∧ Below w.heap.size w w'
def TrueS (w : World) (e : Ending) (w' : World) : Prop := e = .returned (.bool true) ∧ Below w.heap.size w w'
def BoolS (w : World) (b : Bool) (e : Ending) (w' : World) : Prop := e = .returned (.bool b) ∧ Below w.heap.size w w'
def IntS (w : World) (n : Int) (e : Ending) (w' : World) : Prop := e = .returned (.int .i64 n) ∧ Below w.heap.size w w'
theorem bthen {a b c : World} (h : Below a.heap.size a b) (k : Below b.heap.size b c) : Below a.heap.size a c := h.trans (k.mono h.size)
end Go.Proofs.YtfcikfohmehmkaaGreatDoor

namespace Go.Proofs.YtfcikfohmehmkaaGreatDoor.T

structure Ln where
  depth : Int
  word : List UInt8
  mark : Int

def L0 : Ln := ⟨0, [], 0⟩
def at_ (t : List Ln) (i : Nat) : Ln := t.getD i L0
def dp (t : List Ln) (i : Nat) : Int := (at_ t i).depth
def wd (t : List Ln) (i : Nat) : List UInt8 := (at_ t i).word

/-- The last of the first n lines that has a lower depth than d; -1: there is none. -/
def underF (t : List Ln) (d : Int) : Nat → Int
  | 0 => -1
  | k + 1 => if dp t k < d then (k : Int) else underF t d k
def underL (t : List Ln) (i : Nat) : Int := underF t (dp t i) i
/-- Behind a part. -/
def endL (t : List Ln) (i : Nat) : Nat := i + 1 + ((t.drop (i + 1)).takeWhile fun x => decide (dp t i < x.depth)).length
def pathF (t : List Ln) : Nat → Int → List (List UInt8)
  | 0, _ => []
  | f + 1, i => if i < 0 then [] else pathF t f (underL t i.toNat) ++ [wd t i.toNat]
def pathL (t : List Ln) (i : Nat) : List (List UInt8) := pathF t (i + 1) i

/-- A tree. -/
structure RightN (N : Nat) (t : List Ln) : Prop where
  len : t.length ≤ N
  deep : ∀ i, i < t.length → 0 ≤ dp t i ∧ dp t i ≤ 15
  long : ∀ i, i < t.length → (wd t i).length ≤ 40
  mark : ∀ i, i < t.length → 0 ≤ (at_ t i).mark ∧ (at_ t i).mark ≤ 3
  first : 0 < t.length → dp t 0 = 0
  step : ∀ i, i + 1 < t.length → dp t (i + 1) ≤ dp t i + 1
  rise : ∀ i k, i < k → k < t.length → dp t k = dp t i → (∀ j, i < j → j < k → dp t i ≤ dp t j) → Op.bytesLess (wd t i) (wd t k) = true
/-- A tree of at most 200 lines. -/
abbrev RightT (t : List Ln) : Prop := RightN 200 t

theorem less_irr : ∀ l : List UInt8, Op.bytesLess l l = false
  | [] => by simp [Op.bytesLess]
  | c :: l => by simp [Op.bytesLess, less_irr l]

theorem under_spec (t : List Ln) (d : Int) : ∀ n : Nat, (underF t d n = -1 ∧ ∀ k, k < n → d ≤ dp t k) ∨ ∃ k, k < n ∧ underF t d n = (k : Int) ∧ dp t k < d ∧ ∀ j, k < j → j < n → d ≤ dp t j
  | 0 => .inl ⟨rfl, fun k hk => by omega⟩
  | n + 1 => by
    simp only [underF]
    by_cases h : dp t n < d
    · rw [if_pos h]
      exact .inr ⟨n, by omega, rfl, h, fun j h1 h2 => by omega⟩
    · rw [if_neg h]
      rcases under_spec t d n with ⟨h1, h2⟩ | ⟨k, h1, h2, h3, h4⟩
      · refine .inl ⟨h1, fun k hk => ?_⟩
        rcases Nat.lt_or_ge k n with hlt | hge
        · exact h2 k hlt
        · obtain rfl : k = n := by omega
          omega
      · refine .inr ⟨k, by omega, h2, h3, fun j hj1 hj2 => ?_⟩
        rcases Nat.lt_or_ge j n with hlt | hge
        · exact h4 j hj1 hlt
        · obtain rfl : j = n := by omega
          omega
theorem under_lt (t : List Ln) (i : Nat) : -1 ≤ underL t i ∧ underL t i < i := by
  unfold underL
  rcases under_spec t (dp t i) i with ⟨h1, _⟩ | ⟨k, h1, h2, _⟩
  · rw [h1]; omega
  · rw [h2]; omega
/-- In a tree a line of depth 0 stands under none, each other one under one of one depth less. -/
theorem RightN.under {N : Nat} {t : List Ln} (h : RightN N t) (i : Nat) (hi : i < t.length) :
    (dp t i = 0 ∧ underL t i = -1) ∨ ∃ k, k < i ∧ underL t i = (k : Int) ∧ dp t k + 1 = dp t i ∧ ∀ j, k < j → j < i → dp t i ≤ dp t j := by
  unfold underL
  rcases under_spec t (dp t i) i with ⟨h1, h2⟩ | ⟨k, h1, h2, h3, h4⟩
  · refine .inl ⟨?_, h1⟩
    have h0 := h.first (by omega)
    have hd := (h.deep i hi).1
    rcases Nat.eq_zero_or_pos i with rfl | hp
    · exact h0
    · have := h2 0 hp; omega
  · refine .inr ⟨k, h1, h2, ?_, h4⟩
    have hs := h.step k (by omega)
    rcases Nat.lt_or_ge (k + 1) i with hlt | hge
    · have := h4 (k + 1) (by omega) hlt; omega
    · obtain rfl : k + 1 = i := by omega
      omega
theorem pathF_fuel (t : List Ln) : ∀ (f g : Nat) (i : Int), i < f → i < g → pathF t f i = pathF t g i
  | 0, 0, i, _, _ => rfl
  | 0, g + 1, i, hf, _ => by
    simp only [pathF]; rw [if_pos (by omega)]
  | f + 1, 0, i, _, hg => by
    simp only [pathF]; rw [if_pos (by omega)]
  | f + 1, g + 1, i, hf, hg => by
    simp only [pathF]
    by_cases h : i < 0
    · rw [if_pos h, if_pos h]
    · rw [if_neg h, if_neg h]
      have := under_lt t i.toNat
      rw [pathF_fuel t f g _ (by omega) (by omega)]
theorem path_root {t : List Ln} {i : Nat} (h : underL t i = -1) : pathL t i = [wd t i] := by
  unfold pathL
  simp only [pathF]
  rw [if_neg (by omega), Int.toNat_natCast, h]
  cases i with
  | zero => rfl
  | succ i => simp [pathF]
theorem path_step {t : List Ln} {i k : Nat} (h : underL t i = (k : Int)) : pathL t i = pathL t k ++ [wd t i] := by
  have hl := under_lt t i
  unfold pathL
  rw [pathF, if_neg (by omega), Int.toNat_natCast, h]
  rw [pathF_fuel t i (k + 1) k (by omega) (by omega)]
theorem path_ne {t : List Ln} {i : Nat} : pathL t i ≠ [] := by
  unfold pathL; rw [pathF, if_neg (by omega)]; simp
theorem RightN.path_len {N : Nat} {t : List Ln} (h : RightN N t) : ∀ (n i : Nat), i ≤ n → i < t.length → ((pathL t i).length : Int) = dp t i + 1
  | n, i, hn, hi => by
    rcases h.under i hi with ⟨h1, h2⟩ | ⟨k, h1, h2, h3, _⟩
    · rw [path_root h2, h1]; rfl
    · match n, hn with
      | 0, hn => omega
      | n + 1, hn =>
        have ih := RightN.path_len h n k (by omega) (by omega)
        rw [path_step h2, List.length_append, List.length_singleton]
        omega
/-- No two lines of a tree have one path. -/
theorem RightN.path_inj {N : Nat} {t : List Ln} (h : RightN N t) : ∀ (n i k : Nat), i ≤ n → k ≤ n → i < t.length → k < t.length → pathL t i = pathL t k → i = k
  | n, i, k, hin, hkn, hi, hk, e => by
    have same : ∀ a b : Nat, a < b → b < t.length → dp t b = dp t a → wd t a = wd t b → (∀ j, a < j → j < b → dp t a ≤ dp t j) → False := by
      intro a b hab hb hd hw hj
      have := h.rise a b hab hb hd hj
      rw [hw, less_irr] at this
      cases this
    have li := h.path_len i i (Nat.le_refl _) hi
    have lk := h.path_len k k (Nat.le_refl _) hk
    rw [e] at li
    have hd : dp t i = dp t k := by omega
    rcases h.under i hi with ⟨a1, a2⟩ | ⟨u, a1, a2, a3, a4⟩
    · rcases h.under k hk with ⟨b1, b2⟩ | ⟨v, b1, b2, b3, b4⟩
      · rw [path_root a2, path_root b2] at e
        injection e with e _
        rcases Nat.lt_trichotomy i k with hlt | heq | hgt
        · exact absurd (same i k hlt hk (by omega) e (fun j _ hj => by have := (h.deep j (by omega)).1; omega)) id
        · exact heq
        · exact absurd (same k i hgt hi (by omega) e.symm (fun j _ hj => by have := (h.deep j (by omega)).1; omega)) id
      · have := (h.deep v (by omega)).1; omega
    · rcases h.under k hk with ⟨b1, b2⟩ | ⟨v, b1, b2, b3, b4⟩
      · have := (h.deep u (by omega)).1; omega
      · match n, hin, hkn with
        | 0, hin, _ => omega
        | n + 1, hin, hkn =>
          rw [path_step a2, path_step b2] at e
          obtain ⟨e1, e2⟩ := List.append_inj' e rfl
          injection e2 with e2 _
          obtain rfl := RightN.path_inj h n u v (by omega) (by omega) (by omega) (by omega) e1
          rcases Nat.lt_trichotomy i k with hlt | heq | hgt
          · exact absurd (same i k hlt hk (by omega) e2 (fun j h1 h2 => by have := b4 j (by omega) h2; omega)) id
          · exact heq
          · exact absurd (same k i hgt hi (by omega) e2.symm (fun j h1 h2 => by have := a4 j (by omega) h2; omega)) id
end Go.Proofs.YtfcikfohmehmkaaGreatDoor.T

namespace Go.Proofs.YtfcikfohmehmkaaGreatDoor.T

theorem less_trans : ∀ a b c : List UInt8, Op.bytesLess a b = true → Op.bytesLess b c = true → Op.bytesLess a c = true
  | _, [], _, h, _ => by simp [Op.bytesLess] at h
  | _, _ :: _, [], _, h => by simp [Op.bytesLess] at h
  | [], _ :: _, _ :: _, _, _ => by simp [Op.bytesLess]
  | x :: a, y :: b, z :: c, h1, h2 => by
    simp only [Op.bytesLess, Bool.or_eq_true, decide_eq_true_eq, Bool.and_eq_true, beq_iff_eq, UInt8.lt_iff_toNat_lt] at h1 h2 ⊢
    rcases h1 with h1 | ⟨rfl, h1⟩
    · rcases h2 with h2 | ⟨rfl, h2⟩
      · exact .inl (by omega)
      · exact .inl h1
    · rcases h2 with h2 | ⟨rfl, h2⟩
      · exact .inl h2
      · exact .inr ⟨rfl, less_trans a b c h1 h2⟩
theorem less_tri : ∀ a b : List UInt8, Op.bytesLess a b = true ∨ a = b ∨ Op.bytesLess b a = true
  | [], [] => .inr (.inl rfl)
  | [], _ :: _ => .inl (by simp [Op.bytesLess])
  | _ :: _, [] => .inr (.inr (by simp [Op.bytesLess]))
  | x :: a, y :: b => by
    simp only [Op.bytesLess, Bool.or_eq_true, decide_eq_true_eq, Bool.and_eq_true, beq_iff_eq, UInt8.lt_iff_toNat_lt, List.cons.injEq]
    rcases Nat.lt_trichotomy x.toNat y.toNat with h | h | h
    · exact .inl (.inl h)
    · obtain rfl := UInt8.toNat_inj.1 h
      rcases less_tri a b with h | rfl | h
      · exact .inl (.inr ⟨rfl, h⟩)
      · exact .inr (.inl ⟨rfl, rfl⟩)
      · exact .inr (.inr (.inr ⟨rfl, h⟩))
    · exact .inr (.inr (.inl h))
theorem less_asymm {a b : List UInt8} (h : Op.bytesLess a b = true) : Op.bytesLess b a = false := by
  cases h2 : Op.bytesLess b a with
  | false => rfl
  | true => have := less_trans a b a h h2; rw [less_irr] at this; cases this

theorem at_drop (t : List Ln) (i j : Nat) : at_ (t.drop i) j = at_ t (i + j) := by
  unfold at_; simp [List.getD, List.getElem?_drop]
theorem takeWhile_len {p : Ln → Bool} : ∀ l : List Ln, (l.takeWhile p).length ≤ l.length ∧ (∀ j, j < (l.takeWhile p).length → p (at_ l j) = true) ∧ ((l.takeWhile p).length < l.length → p (at_ l (l.takeWhile p).length) = false)
  | [] => ⟨by simp, fun j h => by simp at h, fun h => by simp at h⟩
  | x :: l => by
    obtain ⟨h1, h2, h3⟩ := takeWhile_len (p := p) l
    rw [List.takeWhile_cons]
    cases hp : p x with
    | false => exact ⟨by simp, fun j h => by simp at h, fun _ => by simpa [at_] using hp⟩
    | true =>
      simp only [if_true, List.length_cons]
      refine ⟨by omega, fun j h => ?_, fun h => ?_⟩
      · match j with
        | 0 => simpa [at_] using hp
        | j + 1 => have := h2 j (by omega); simpa [at_] using this
      · have := h3 (by omega); simpa [at_] using this
/-- Where a part ends. -/
theorem end_spec (t : List Ln) (i : Nat) (hi : i < t.length) : i < endL t i ∧ endL t i ≤ t.length ∧ (∀ j, i < j → j < endL t i → dp t i < dp t j) ∧ (endL t i < t.length → dp t (endL t i) ≤ dp t i) := by
  obtain ⟨h1, h2, h3⟩ := takeWhile_len (p := fun x => decide (dp t i < x.depth)) (t.drop (i + 1))
  rw [List.length_drop] at h1 h3
  unfold endL
  refine ⟨by omega, by omega, fun j hj1 hj2 => ?_, fun h => ?_⟩
  · have := h2 (j - (i + 1)) (by omega)
    rw [at_drop] at this
    have e : i + 1 + (j - (i + 1)) = j := by omega
    rw [e] at this
    exact of_decide_eq_true this
  · have := h3 (by omega)
    rw [at_drop] at this
    have := of_decide_eq_false this
    unfold dp at this ⊢
    omega
theorem end_unique (t : List Ln) (i e : Nat) (h1 : i < e) (h2 : e ≤ t.length) (h3 : ∀ j, i < j → j < e → dp t i < dp t j) (h4 : e < t.length → dp t e ≤ dp t i) : endL t i = e := by
  obtain ⟨g1, g2, g3, g4⟩ := end_spec t i (by omega)
  rcases Nat.lt_trichotomy (endL t i) e with h | h | h
  · have := h3 _ g1 h; have := g4 (by omega); omega
  · exact h
  · have := g3 _ h1 h; have := h4 (by omega); omega

/-- A part, as lines of its own. -/
def subL (t : List Ln) (i : Nat) : List Ln := ((t.drop i).take (endL t i - i)).map fun x => ⟨x.depth - dp t i, x.word, x.mark⟩
end Go.Proofs.YtfcikfohmehmkaaGreatDoor.T

namespace Go.Proofs.YtfcikfohmehmkaaGreatDoor.T

/-- The lines without a part. -/
def cutL (t : List Ln) (k : Nat) : List Ln := t.take k ++ t.drop (endL t k)
end Go.Proofs.YtfcikfohmehmkaaGreatDoor.T

namespace Go.Proofs.YtfcikfohmehmkaaGreatDoor.T

def kidsL (t : List Ln) (i : Int) : List Nat := (List.range t.length).filter fun k => underL t k == i
def leafB (t : List Ln) (i : Nat) : Bool := endL t i == i + 1
def leavesL (t : List Ln) : List Nat := (List.range t.length).filter (leafB t)
theorem mem_kids (t : List Ln) (i : Int) (k : Nat) : k ∈ kidsL t i ↔ k < t.length ∧ underL t k = i := by
  unfold kidsL; rw [List.mem_filter, List.mem_range, beq_iff_eq]
/-- A line right behind one of a lower depth stands under it. -/
theorem under_next (t : List Ln) (i : Nat) (h : dp t i < dp t (i + 1)) : underL t (i + 1) = (i : Int) := by
  unfold underL; simp only [underF]; rw [if_pos h]
/-- How many of the first n lines have nothing under them. -/
def leafN (t : List Ln) (n : Nat) : Nat := ((List.range n).filter (leafB t)).length
end Go.Proofs.YtfcikfohmehmkaaGreatDoor.T

namespace Go.Proofs.YtfcikfohmehmkaaGreatDoor.T

def aheadL (t : List Ln) (k : Nat) : Int := if k = 0 then -1 else dp t (k - 1)
def Fits (t : List Ln) (k : Nat) : Prop := ((0 ≤ dp t k ∧ dp t k ≤ 15) ∧ (wd t k).length ≤ 40 ∧ 0 ≤ (at_ t k).mark ∧ (at_ t k).mark ≤ 3) ∧ dp t k ≤ aheadL t k + 1
def Rise (t : List Ln) (i k : Nat) : Prop := dp t k = dp t i → (∀ j, i < j → j < k → dp t i ≤ dp t j) → Op.bytesLess (wd t i) (wd t k) = true
theorem right_of {t : List Ln} (h200 : t.length ≤ 200) (hf : ∀ k, k < t.length → Fits t k) (hr : ∀ i k, i < k → k < t.length → Rise t i k) : RightT t := by
  refine ⟨h200, fun i hi => (hf i hi).1.1, fun i hi => (hf i hi).1.2.1, fun i hi => (hf i hi).1.2.2, fun h0 => ?_, fun i hi => ?_, fun i k h1 h2 => hr i k h1 h2⟩
  · obtain ⟨⟨⟨h1, _⟩, _⟩, h2⟩ := hf 0 h0
    unfold aheadL at h2
    rw [if_pos rfl] at h2
    omega
  · have h2 := (hf (i + 1) hi).2
    unfold aheadL at h2
    rw [if_neg (by omega), Nat.add_sub_cancel] at h2
    exact h2
theorem RightN.fits {N : Nat} {t : List Ln} (h : RightN N t) {k : Nat} (hk : k < t.length) : Fits t k := by
  refine ⟨⟨h.deep k hk, h.long k hk, h.mark k hk⟩, ?_⟩
  unfold aheadL
  by_cases h0 : k = 0
  · rw [if_pos h0]; subst h0; have := h.first hk; omega
  · rw [if_neg h0]
    have := h.step (k - 1) (by omega)
    have e : k - 1 + 1 = k := by omega
    rw [e] at this
    exact this
theorem ahead_next (t : List Ln) (k : Nat) : aheadL t (k + 1) = dp t k := by unfold aheadL; rw [if_neg (by omega), Nat.add_sub_cancel]

/-- The newest word of each depth up to that of the line ahead. -/
def LastOk (t : List Ln) (k : Nat) (f : Nat → List UInt8) : Prop := ∀ d : Nat, (d : Int) ≤ aheadL t k → ∃ j, j < k ∧ dp t j = d ∧ f d = wd t j ∧ ∀ m, j < m → m < k → (d : Int) < dp t m
theorem LastOk.start (t : List Ln) (f : Nat → List UInt8) : LastOk t 0 f := fun d h => by unfold aheadL at h; rw [if_pos rfl] at h; omega
theorem LastOk.next {t : List Ln} {k e : Nat} {f : Nat → List UInt8} (h : LastOk t k f) (hd : dp t k = e) (hs : (e : Int) ≤ aheadL t k + 1) : LastOk t (k + 1) (fun d => if d = e then wd t k else f d) := by
  intro d hle
  rw [ahead_next, hd] at hle
  by_cases he : d = e
  · subst he
    exact ⟨k, by omega, hd, if_pos rfl, fun m h1 h2 => by omega⟩
  · obtain ⟨j, h1, h2, h3, h4⟩ := h d (by omega)
    refine ⟨j, by omega, h2, by show (if d = e then _ else _) = _; rw [if_neg he]; exact h3, fun m hm1 hm2 => ?_⟩
    rcases Nat.lt_or_ge m k with hlt | hge
    · exact h4 m hm1 hlt
    · obtain rfl : m = k := by omega
      omega
/-- The pairs of the first k lines. -/
def RiseTo (t : List Ln) (k : Nat) : Prop := ∀ i c, i < c → c < k → Rise t i c
theorem RiseTo.next {t : List Ln} {k : Nat} {f : Nat → List UInt8} {e : Nat} (h : RiseTo t k) (hl : LastOk t k f) (hd : dp t k = e) (hs : (e : Int) ≤ aheadL t k + 1)
    (hw : (e : Int) ≤ aheadL t k → Op.bytesLess (f e) (wd t k) = true) : RiseTo t (k + 1) := by
  intro i c hic hc
  rcases Nat.lt_or_ge c k with hlt | hge
  · exact h i c hic hlt
  · obtain rfl : c = k := by omega
    intro hdi hb
    have hne : c ≠ 0 := by omega
    by_cases ha : (e : Int) ≤ aheadL t c
    · obtain ⟨j, j1, j2, j3, j4⟩ := hl e ha
      have hw := hw ha
      rw [j3] at hw
      rcases Nat.lt_trichotomy i j with hij | hij | hij
      · exact less_trans _ _ _ (h i j hij j1 (by omega) (fun m h1 h2 => hb m h1 (by omega))) hw
      · subst hij; exact hw
      · have := j4 i hij hic; omega
    · have hae : aheadL t c = dp t (c - 1) := by unfold aheadL; rw [if_neg hne]
      rcases Nat.lt_or_ge i (c - 1) with h1 | h1
      · have := hb (c - 1) h1 (by omega); omega
      · obtain rfl : i = c - 1 := by omega
        omega
theorem RightN.last {N : Nat} {t : List Ln} (h : RightN N t) {k e : Nat} (hk : k < t.length) {f : Nat → List UInt8} (hl : LastOk t k f) (hd : dp t k = e) (ha : (e : Int) ≤ aheadL t k) : Op.bytesLess (f e) (wd t k) = true := by
  obtain ⟨j, j1, j2, j3, j4⟩ := hl e ha
  rw [j3]
  exact h.rise j k j1 hk (by omega) (fun m h1 h2 => by have := j4 m h1 h2; omega)
/-- The second half of the document's way: pair by pair. -/
def PairTo (t : List Ln) (i k : Nat) : Prop := (∀ m, i < m → m < k → dp t i ≤ dp t m) ∧ ∀ m, i < m → m < k → dp t m = dp t i → Op.bytesLess (wd t i) (wd t m) = true
theorem PairTo.start (t : List Ln) (i : Nat) : PairTo t i (i + 1) := ⟨fun m h1 h2 => by omega, fun m h1 h2 => by omega⟩
theorem PairTo.next {t : List Ln} {i k : Nat} (h : PairTo t i k) (h1 : dp t i ≤ dp t k) (h2 : dp t k = dp t i → Op.bytesLess (wd t i) (wd t k) = true) : PairTo t i (k + 1) := by
  refine ⟨fun m a b => ?_, fun m a b => ?_⟩
  · rcases Nat.lt_or_ge m k with hlt | hge
    · exact h.1 m a hlt
    · obtain rfl : m = k := by omega
      exact h1
  · rcases Nat.lt_or_ge m k with hlt | hge
    · exact h.2 m a hlt
    · obtain rfl : m = k := by omega
      exact h2
theorem PairTo.done {t : List Ln} {i k : Nat} (h : PairTo t i k) (hik : i < k) (hs : k < t.length → dp t k < dp t i) : ∀ c, i < c → c < t.length → Rise t i c := by
  intro c h1 h2 hd hb
  rcases Nat.lt_trichotomy c k with hlt | heq | hgt
  · exact h.2 c h1 hlt hd
  · subst heq; have := hs h2; omega
  · have := hb k hik hgt; have := hs (by omega); omega
theorem PairTo.bad {t : List Ln} {i k : Nat} (h : PairTo t i k) (hik : i < k) (hk : k < t.length) (hd : dp t k = dp t i) (hn : Op.bytesLess (wd t i) (wd t k) = false) : ¬ RightT t := by
  intro hr
  have := hr.rise i k hik hk hd h.1
  rw [hn] at this; cases this
end Go.Proofs.YtfcikfohmehmkaaGreatDoor.T

namespace Go.Proofs.YtfcikfohmehmkaaGreatDoor.T

/-- The depth of those that stand under i. -/
def kidD (t : List Ln) (i : Int) : Int := if i < 0 then 0 else dp t i.toNat + 1
def kidsTo (t : List Ln) (i : Int) (k : Nat) : List Nat := (List.range k).filter fun m => underL t m == i
/-- From the line behind i on, up to k, all are at least as deep as those that stand under i. -/
def DeepTo (t : List Ln) (i : Int) (k : Nat) : Prop := ∀ m : Nat, i < m → m < k → kidD t i ≤ dp t m
theorem RightN.kid_iff {N : Nat} {t : List Ln} (h : RightN N t) {i : Int} {k : Nat} (hi : -1 ≤ i) (hik : i < k) (hk : k < t.length) (hd : DeepTo t i k) : underL t k = i ↔ dp t k = kidD t i := by
  unfold kidD
  by_cases h0 : i < 0
  · rw [if_pos h0]
    rcases h.under k hk with ⟨a1, a2⟩ | ⟨u, u1, u2, u3, u4⟩
    · rw [a2]; omega
    · rw [u2]; have := (h.deep u (by omega)).1; omega
  · rw [if_neg h0]
    obtain ⟨n, rfl⟩ := Int.eq_ofNat_of_zero_le (show 0 ≤ i by omega)
    rw [Int.toNat_natCast]
    have hd2 : ∀ m, n < m → m < k → dp t n + 1 ≤ dp t m := fun m h1 h2 => by
      have := hd m (by omega) h2
      unfold kidD at this
      rw [if_neg h0, Int.toNat_natCast] at this
      exact this
    rcases h.under k hk with ⟨a1, a2⟩ | ⟨u, u1, u2, u3, u4⟩
    · rw [a2]; have := (h.deep n (by omega)).1; omega
    · rw [u2]
      constructor
      · intro e
        obtain rfl : u = n := by omega
        omega
      · intro e
        rcases Nat.lt_trichotomy u n with hlt | heq | hgt
        · have := u4 n hlt (by omega); omega
        · omega
        · have := hd2 u hgt u1; omega
theorem kids_next (t : List Ln) (i : Int) (k : Nat) : kidsTo t i (k + 1) = kidsTo t i k ++ if underL t k = i then [k] else [] := by
  unfold kidsTo
  rw [List.range_succ, List.filter_append]
  congr 1
  by_cases h : underL t k = i <;> simp [h]
theorem kids_start (t : List Ln) (i : Int) (k : Nat) (h : (k : Int) ≤ i + 1) : kidsTo t i k = [] := by
  unfold kidsTo
  rw [List.filter_eq_nil_iff]
  intro m hm
  have := (under_lt t m).2
  have := List.mem_range.1 hm
  simp; omega
theorem DeepTo.next {t : List Ln} {i : Int} {k : Nat} (h : DeepTo t i k) (hk : kidD t i ≤ dp t k) : DeepTo t i (k + 1) := by
  intro m h1 h2
  rcases Nat.lt_or_ge m k with hlt | hge
  · exact h m h1 hlt
  · obtain rfl : m = k := by omega
    exact hk
theorem filter_rest (l : List Nat) (p : Nat → Bool) (h : ∀ m ∈ l, p m = false) : l.filter p = [] := by
  rw [List.filter_eq_nil_iff]; intro m hm; rw [h m hm]; simp
theorem RightN.kids_done {N : Nat} {t : List Ln} (h : RightN N t) {i : Int} {k : Nat} (_hi : -1 ≤ i) (hik : i < k) (hkl : k ≤ t.length) (hs : k < t.length → dp t k < kidD t i) : kidsTo t i k = kidsL t i := by
  unfold kidsTo kidsL
  have e : List.range t.length = List.range k ++ (List.range (t.length - k)).map (k + ·) := by
    have := @List.range_add k (t.length - k)
    rwa [show k + (t.length - k) = t.length by omega] at this
  rw [e, List.filter_append, filter_rest ((List.range (t.length - k)).map (k + ·)), List.append_nil]
  intro m hm
  obtain ⟨j, hj, rfl⟩ := List.mem_map.1 hm
  have hj := List.mem_range.1 hj
  have hs := hs (by omega)
  rw [beq_eq_false_iff_ne]
  intro e
  rcases h.under (k + j) (by omega) with ⟨a1, a2⟩ | ⟨u, u1, u2, u3, u4⟩
  · unfold kidD at hs
    rw [if_pos (by omega)] at hs
    have := (h.deep k (by omega)).1; omega
  · unfold kidD at hs
    rw [if_neg (by omega)] at hs
    have hu : i.toNat = u := by omega
    rw [hu] at hs
    rcases Nat.eq_zero_or_pos j with rfl | hp
    · rw [Nat.add_zero] at u3; omega
    · have := u4 k (by omega) (by omega); omega
theorem filter_len (k : Nat) (p : Nat → Bool) : ((List.range k).filter p).length ≤ k := by
  have := List.length_filter_le p (List.range k); rwa [List.length_range] at this

/-- The path of a line, or of none. -/
def pathI (t : List Ln) (j : Int) : List (List UInt8) := if j < 0 then [] else pathL t j.toNat
theorem pathI_nat (t : List Ln) (k : Nat) : pathI t (k : Int) = pathL t k := by unfold pathI; rw [if_neg (by omega), Int.toNat_natCast]
theorem pathI_none (t : List Ln) : pathI t (-1) = [] := by unfold pathI; rw [if_pos (by omega)]
theorem path_under (t : List Ln) (k : Nat) : pathL t k = pathI t (underL t k) ++ [wd t k] := by
  have hl := under_lt t k
  by_cases h : underL t k = -1
  · rw [path_root h, h, pathI_none]; rfl
  · obtain ⟨u, hu⟩ := Int.eq_ofNat_of_zero_le (show 0 ≤ underL t k by omega)
    rw [path_step hu, hu, pathI_nat]
/-- So much of a path is laid, from its end on. -/
def Laid (t : List Ln) (p : List (List UInt8)) (j : Int) (F : Nat → List UInt8) : Prop := -1 ≤ j ∧ j < t.length ∧ ∃ rest, p = pathI t j ++ rest ∧ ∀ d, (pathI t j).length ≤ d → d < p.length → F d = p.getD d []
theorem Laid.start (t : List Ln) (i : Nat) (hi : i < t.length) (F : Nat → List UInt8) : Laid t (pathL t i) i F :=
  ⟨by omega, by omega, [], by rw [pathI_nat, List.append_nil], fun d h1 h2 => by rw [pathI_nat] at h1; omega⟩
theorem RightN.laid {N : Nat} {t : List Ln} (h : RightN N t) {p : List (List UInt8)} {k d : Nat} {F : Nat → List UInt8} (hL : Laid t p k F) (hd : dp t k = d) : d < p.length ∧ Laid t p (underL t k) (fun x => if x = d then wd t k else F x) := by
  obtain ⟨_, hk, rest, hp, hF⟩ := hL
  have hkl : k < t.length := by omega
  have hl := h.path_len k k (Nat.le_refl _) hkl
  rw [pathI_nat] at hp hF
  have hdl : (pathL t k).length = d + 1 := by omega
  have hu := path_under t k
  have hul : (pathI t (underL t k)).length = d := by have := congrArg List.length hu; rw [List.length_append, List.length_singleton, hdl] at this; omega
  have hplen : d < p.length := by rw [hp, List.length_append]; omega
  have hlt := under_lt t k
  refine ⟨hplen, hlt.1, by omega, [wd t k] ++ rest, by rw [hp, hu, List.append_assoc], fun x h1 h2 => ?_⟩
  rw [hul] at h1
  by_cases hx : x = d
  · subst hx
    show (if x = x then wd t k else F x) = _
    rw [if_pos rfl, hp, hu, List.append_assoc]
    unfold List.getD
    rw [List.getElem?_append_right (by omega), hul, Nat.sub_self]
    rfl
  · show (if x = d then wd t k else F x) = _
    rw [if_neg hx]
    exact hF x (by omega) h2
theorem Laid.done {t : List Ln} {p : List (List UInt8)} {F : Nat → List UInt8} (h : Laid t p (-1) F) : ∀ d, d < p.length → F d = p.getD d [] := by
  obtain ⟨_, _, rest, _, hF⟩ := h
  intro d hd
  exact hF d (by rw [pathI_none]; simp) hd

/-- The line of a path's beginning. -/
theorem RightN.path_take {N : Nat} {t : List Ln} (h : RightN N t) : ∀ (n i m : Nat), i ≤ n → i < t.length → 0 < m → m ≤ (pathL t i).length → ∃ k, k < t.length ∧ pathL t k = (pathL t i).take m
  | n, i, m, hn, hi, hm, hle => by
    have hu := path_under t i
    rcases Nat.lt_or_ge m (pathL t i).length with hlt | hge
    · rcases h.under i hi with ⟨a1, a2⟩ | ⟨u, u1, u2, u3, _⟩
      · rw [path_root a2] at hlt; simp at hlt; omega
      · have e := path_step u2
        rw [e, List.length_append, List.length_singleton] at hlt
        match n, hn with
        | 0, hn => omega
        | n + 1, hn =>
          obtain ⟨k, k1, k2⟩ := RightN.path_take h n u m (by omega) (by omega) hm (by omega)
          exact ⟨k, k1, by rw [k2, e, List.take_append_of_le_length (by omega)]⟩
    · exact ⟨i, hi, by rw [List.take_of_length_le hge]⟩
/-- The lines under i that have that word: at most one has the path. -/
theorem RightN.find_none {N : Nat} {t : List Ln} (h : RightN N t) {p : List (List UInt8)} {d : Nat} {at' : Int} (hd : d < p.length) (ha : pathI t at' = p.take d) (hat : -1 ≤ at' ∧ at' < t.length)
    (hn : ∀ k, k < t.length → underL t k = at' → wd t k ≠ p[d]) : ∀ i, i < t.length → pathL t i ≠ p := by
  intro i hi e
  obtain ⟨k, k1, k2⟩ := h.path_take i i (d + 1) (Nat.le_refl _) hi (by omega) (by rw [e]; omega)
  rw [e, List.take_succ_eq_append_getElem hd, path_under t k] at k2
  obtain ⟨e1, e2⟩ := List.append_inj' k2 rfl
  injection e2 with e2 _
  refine hn k k1 ?_ e2
  rw [← ha] at e1
  have hlt := under_lt t k
  by_cases h1 : underL t k = -1
  · rw [h1, pathI_none] at e1
    by_cases h2 : at' = -1
    · omega
    · obtain ⟨a, ha2⟩ := Int.eq_ofNat_of_zero_le (show 0 ≤ at' by omega)
      rw [ha2, pathI_nat] at e1
      exact absurd e1.symm path_ne
  · obtain ⟨u, hu⟩ := Int.eq_ofNat_of_zero_le (show 0 ≤ underL t k by omega)
    rw [hu, pathI_nat] at e1
    by_cases h2 : at' = -1
    · rw [h2, pathI_none] at e1; exact absurd e1 path_ne
    · obtain ⟨a, ha2⟩ := Int.eq_ofNat_of_zero_le (show 0 ≤ at' by omega)
      rw [ha2, pathI_nat] at e1
      rw [hu, ha2, h.path_inj (max u a) u a (Nat.le_max_left ..) (Nat.le_max_right ..) (by omega) (by omega) e1]
theorem find_next {t : List Ln} {p : List (List UInt8)} {d k : Nat} {at' : Int} (hd : d < p.length) (ha : pathI t at' = p.take d) (hu : underL t k = at') (hw : wd t k = p[d]) : pathI t k = p.take (d + 1) := by
  rw [pathI_nat, path_under, hu, ha, hw, List.take_succ_eq_append_getElem hd]
theorem RightN.kidD_path {N : Nat} {t : List Ln} (h : RightN N t) {at' : Int} {d : Nat} (hat : -1 ≤ at' ∧ at' < t.length) (hp : (pathI t at').length = d) : kidD t at' = d := by
  unfold kidD
  by_cases h0 : at' < 0
  · rw [if_pos h0]; unfold pathI at hp; rw [if_pos h0] at hp; simp at hp; omega
  · rw [if_neg h0]
    obtain ⟨a, rfl⟩ := Int.eq_ofNat_of_zero_le (show 0 ≤ at' by omega)
    rw [pathI_nat] at hp
    have := h.path_len a a (Nat.le_refl _) (by omega)
    rw [Int.toNat_natCast]; omega
end Go.Proofs.YtfcikfohmehmkaaGreatDoor.T

namespace Go.Proofs.YtfcikfohmehmkaaGreatDoor.T

end Go.Proofs.YtfcikfohmehmkaaGreatDoor.T

namespace Go.Proofs.YtfcikfohmehmkaaGreatDoor.T

abbrev Pth := List (List UInt8)
/-- The order of paths: word by word, a beginning ahead of what goes on. -/
def pless : Pth → Pth → Bool
  | [], [] => false
  | [], _ :: _ => true
  | _ :: _, [] => false
  | a :: p, b :: q => Op.bytesLess a b || (a == b && pless p q)
theorem pless_irr : ∀ p : Pth, pless p p = false
  | [] => rfl
  | a :: p => by simp [pless, less_irr a, pless_irr p]
theorem pless_cons (a b : List UInt8) (p q : Pth) : pless (a :: p) (b :: q) = true ↔ Op.bytesLess a b = true ∨ (a = b ∧ pless p q = true) := by
  simp [pless]
theorem pless_trans : ∀ p q r : Pth, pless p q = true → pless q r = true → pless p r = true
  | [], [], _, h, _ => by simp [pless] at h
  | _ :: _, [], _, h, _ => by simp [pless] at h
  | [], _ :: _, [], _, h => by simp [pless] at h
  | [], _ :: _, _ :: _, _, _ => rfl
  | _ :: _, _ :: _, [], _, h => by simp [pless] at h
  | a :: p, b :: q, c :: r, h1, h2 => by
    rw [pless_cons] at h1 h2 ⊢
    rcases h1 with h1 | ⟨rfl, h1⟩
    · rcases h2 with h2 | ⟨rfl, h2⟩
      · exact .inl (less_trans a b c h1 h2)
      · exact .inl h1
    · rcases h2 with h2 | ⟨rfl, h2⟩
      · exact .inl h2
      · exact .inr ⟨rfl, pless_trans p q r h1 h2⟩
theorem pless_tri : ∀ p q : Pth, pless p q = true ∨ p = q ∨ pless q p = true
  | [], [] => .inr (.inl rfl)
  | [], _ :: _ => .inl rfl
  | _ :: _, [] => .inr (.inr rfl)
  | a :: p, b :: q => by
    rw [pless_cons, pless_cons]
    rcases less_tri a b with h | rfl | h
    · exact .inl (.inl h)
    · rcases pless_tri p q with h | rfl | h
      · exact .inl (.inr ⟨rfl, h⟩)
      · exact .inr (.inl rfl)
      · exact .inr (.inr (.inr ⟨rfl, h⟩))
    · exact .inr (.inr (.inl h))
theorem pless_asymm {p q : Pth} (h : pless p q = true) : pless q p = false := by
  cases h2 : pless q p with
  | false => rfl
  | true => have := pless_trans p q p h h2; rw [pless_irr] at this; cases this
theorem pless_app (p q r : Pth) : pless (p ++ q) (p ++ r) = pless q r := by
  induction p with
  | nil => rfl
  | cons a p ih => simp [pless, less_irr a, ih]
theorem pless_more (p q : Pth) (h : q ≠ []) : pless p (p ++ q) = true := by
  have := pless_app p [] q
  rw [List.append_nil] at this
  rw [this]
  cases q with
  | nil => exact absurd rfl h
  | cons a q => rfl
/-- What stands between a path and one that goes on from it by a word goes on from it, too. -/
theorem pless_between : ∀ (q r : Pth) (w : List UInt8), pless q r = true → pless r (q ++ [w]) = true → ∃ s, s ≠ [] ∧ r = q ++ s
  | [], [], _, h, _ => by simp [pless] at h
  | [], b :: r, w, _, _ => ⟨b :: r, List.cons_ne_nil _ _, rfl⟩
  | a :: q, [], _, h, _ => by simp [pless] at h
  | a :: q, b :: r, w, h1, h2 => by
    rw [List.cons_append, pless_cons] at h2
    rw [pless_cons] at h1
    rcases h1 with h1 | ⟨rfl, h1⟩
    · rcases h2 with h2 | ⟨rfl, _⟩
      · rw [less_asymm h1] at h2; cases h2
      · rw [less_irr] at h1; cases h1
    · rcases h2 with h2 | ⟨_, h2⟩
      · rw [less_irr] at h2; cases h2
      · obtain ⟨s, hs, rfl⟩ := pless_between q r w h1 h2
        exact ⟨s, hs, rfl⟩

/-- The path of a line of a part begins with the part's. -/
theorem part_prefix {t : List Ln} {a : Nat} (ha : a < t.length) : ∀ (n i : Nat), i ≤ n → a ≤ i → i < endL t a → ∃ rest, pathL t i = pathL t a ++ rest
  | n, i, hn, hai, hi => by
    obtain ⟨g1, g2, g3, g4⟩ := end_spec t a ha
    rcases Nat.eq_or_lt_of_le hai with rfl | hlt
    · exact ⟨[], by simp⟩
    · have hd := g3 i hlt hi
      unfold endL at hi
      rcases under_spec t (dp t i) i with ⟨h1, h2⟩ | ⟨u, u1, u2, u3, u4⟩
      · have := h2 a hlt; omega
      · have hau : a ≤ u := by
          rcases Nat.lt_or_ge u a with h | h
          · have := u4 a h hlt; omega
          · exact h
        have hue : u < endL t a := by unfold endL; omega
        match n, hn with
        | 0, hn => omega
        | n + 1, hn =>
          obtain ⟨rest, hr⟩ := part_prefix ha n u (by omega) hau hue
          exact ⟨rest ++ [wd t i], by rw [path_step (show underL t i = (u : Int) from u2), hr, List.append_assoc]⟩
theorem underF_same (t : List Ln) (d : Int) (a : Nat) : ∀ n, a ≤ n → (∀ j, a ≤ j → j < n → d ≤ dp t j) → underF t d n = underF t d a
  | n, hn, h => by
    rcases Nat.eq_or_lt_of_le hn with rfl | hlt
    · rfl
    · match n, hlt with
      | n + 1, hlt =>
        simp only [underF]
        rw [if_neg (by have := h n (by omega) (by omega); omega)]
        exact underF_same t d a n (by omega) (fun j h1 h2 => h j h1 (by omega))
/-- The next line's path stands behind. -/
theorem RightN.path_next {N : Nat} {t : List Ln} (h : RightN N t) {i : Nat} (hi : i + 1 < t.length) : pless (pathL t i) (pathL t (i + 1)) = true := by
  have hs := h.step i hi
  have hd1 := h.deep (i + 1) hi
  by_cases hup : dp t i < dp t (i + 1)
  · rw [path_step (under_next t i hup)]
    exact pless_more _ _ (by simp)
  · -- the line of that depth that stands ahead, in whose part the line ahead is
    obtain ⟨e, he⟩ := Int.eq_ofNat_of_zero_le hd1.1
    obtain ⟨a, a1, a2, a3⟩ : ∃ a, a ≤ i ∧ dp t a ≤ e ∧ ∀ m, a < m → m ≤ i → (e : Int) < dp t m := by
      rcases under_spec t ((e : Int) + 1) (i + 1) with ⟨_, h2⟩ | ⟨u, u1, u2, u3, u4⟩
      · have := h2 0 (by omega); have := h.first (by omega); omega
      · exact ⟨u, by omega, by omega, fun m h1 h2 => by have := u4 m h1 (by omega); omega⟩
    have hae : dp t a = e := by
      rcases Nat.eq_or_lt_of_le a1 with rfl | hlt
      · omega
      · have h1 := a3 (a + 1) (by omega) (by omega)
        have h2 := h.step a (by omega)
        omega
    have hal : a < t.length := by omega
    obtain ⟨g1, g2, g3, g4⟩ := end_spec t a hal
    have hie : i < endL t a := by
      rcases Nat.lt_or_ge i (endL t a) with hlt | hge
      · exact hlt
      · have := g4 (by omega)
        have := a3 (endL t a) g1 hge
        omega
    obtain ⟨rest, hr⟩ := part_prefix hal i i (Nat.le_refl _) a1 hie
    have hu : underL t (i + 1) = underL t a := by
      unfold underL
      rw [he, hae]
      refine underF_same t e a (i + 1) (by omega) (fun j h1 h2 => ?_)
      rcases Nat.eq_or_lt_of_le h1 with rfl | h1
      · omega
      · have := a3 j h1 (by omega); omega
    have hlt := h.rise a (i + 1) (by omega) hi (by omega) (fun j h1 h2 => by have := a3 j h1 (by omega); omega)
    rw [hr, path_under t a, path_under t (i + 1), hu, List.append_assoc, pless_app, List.singleton_append, pless_cons]
    exact .inl hlt
/-- The lines of a tree stand in the order of their paths. -/
theorem RightN.path_less {N : Nat} {t : List Ln} (h : RightN N t) {i : Nat} : ∀ k : Nat, i < k → k < t.length → pless (pathL t i) (pathL t k) = true
  | 0, hik, _ => by omega
  | k + 1, hik, hk => by
    rcases Nat.eq_or_lt_of_le (Nat.lt_succ_iff.1 hik) with rfl | hlt
    · exact h.path_next hk
    · exact pless_trans _ _ _ (RightN.path_less h k hlt (by omega)) (h.path_next hk)
/-- A tree, as its paths and marks, in order. -/
def entries (t : List Ln) : List (Pth × Int) := (List.range t.length).map fun i => (pathL t i, (at_ t i).mark)
theorem entries_len (t : List Ln) : (entries t).length = t.length := by unfold entries; rw [List.length_map, List.length_range]
theorem entries_at (t : List Ln) (i : Nat) (hi : i < t.length) : (entries t)[i]'(by rw [entries_len]; exact hi) = (pathL t i, (at_ t i).mark) := by
  unfold entries; simp
/-- Entries in order, each path once. -/
def Sorted (l : List (Pth × Int)) : Prop := ∀ i k (hk : k < l.length) (hik : i < k), pless (l[i]'(by omega)).1 l[k].1 = true
theorem RightN.sorted {N : Nat} {t : List Ln} (h : RightN N t) : Sorted (entries t) := by
  intro i k hk hik
  have hkl : k < t.length := by rwa [entries_len] at hk
  rw [entries_at t i (by omega), entries_at t k hkl]
  exact h.path_less k hik hkl
theorem Sorted.tail {x : Pth × Int} {l : List (Pth × Int)} (h : Sorted (x :: l)) : Sorted l := fun i k hk hik => h (i + 1) (k + 1) (by simpa using hk) (by omega)
theorem Sorted.head {x : Pth × Int} {l : List (Pth × Int)} (h : Sorted (x :: l)) : ∀ y ∈ l, pless x.1 y.1 = true := by
  intro y hy
  obtain ⟨k, hk, rfl⟩ := List.getElem_of_mem hy
  exact h 0 (k + 1) (by simpa using hk) (by omega)
/-- Two lists in order with the same entries are one. -/
theorem Sorted.ext : ∀ {a b : List (Pth × Int)}, Sorted a → Sorted b → (∀ x, x ∈ a ↔ x ∈ b) → a = b
  | [], [], _, _, _ => rfl
  | [], y :: b, _, _, h => by have := (h y).2 (by simp); cases this
  | x :: a, [], _, _, h => by have := (h x).1 (by simp); cases this
  | x :: a, y :: b, ha, hb, h => by
    have hxy : x = y := by
      have h1 := (h x).1 (by simp)
      have h2 := (h y).2 (by simp)
      rcases List.mem_cons.1 h1 with h1 | h1
      · exact h1
      · rcases List.mem_cons.1 h2 with h2 | h2
        · exact h2.symm
        · have e1 := hb.head x h1
          have e2 := ha.head y h2
          rw [pless_asymm e1] at e2; cases e2
    subst hxy
    congr 1
    refine Sorted.ext ha.tail hb.tail fun z => ?_
    have hz := h z
    rw [List.mem_cons, List.mem_cons] at hz
    constructor
    · intro hm
      rcases hz.1 (.inr hm) with e | e
      · subst e; have := ha.head z hm; rw [pless_irr] at this; cases this
      · exact e
    · intro hm
      rcases hz.2 (.inr hm) with e | e
      · subst e; have := hb.head z hm; rw [pless_irr] at this; cases this
      · exact e
theorem ln_ext (a b : Ln) (h1 : a.depth = b.depth) (h2 : a.word = b.word) (h3 : a.mark = b.mark) : a = b := by
  cases a; cases b; simp_all
theorem RightN.of_entries {N : Nat} {a b : List Ln} (ha : RightN N a) (hb : RightN N b) (h : entries a = entries b) : a = b := by
  have hl : a.length = b.length := by rw [← entries_len a, h, entries_len]
  refine List.ext_getElem hl fun i h1 h2 => ?_
  have e : (pathL a i, (at_ a i).mark) = (pathL b i, (at_ b i).mark) := by
    rw [← entries_at a i h1, ← entries_at b i h2]; congr 1
  injection e with e1 e2
  have p1 := ha.path_len i i (Nat.le_refl _) h1
  have p2 := hb.path_len i i (Nat.le_refl _) h2
  have w : wd a i = wd b i := by
    have := e1
    rw [path_under a i, path_under b i] at this
    obtain ⟨_, this⟩ := List.append_inj' this rfl
    injection this
  rw [e1] at p1
  have ga : a[i] = at_ a i := by unfold at_ List.getD; rw [List.getElem?_eq_getElem h1]; rfl
  have gb : b[i] = at_ b i := by unfold at_ List.getD; rw [List.getElem?_eq_getElem h2]; rfl
  rw [ga, gb]
  exact ln_ext _ _ (show dp a i = dp b i by omega) w e2
/-- Trees with the same paths and marks are one. -/
theorem RightN.ext {N : Nat} {a b : List Ln} (ha : RightN N a) (hb : RightN N b) (h : ∀ x, x ∈ entries a ↔ x ∈ entries b) : a = b :=
  ha.of_entries hb (ha.sorted.ext hb.sorted h)
end Go.Proofs.YtfcikfohmehmkaaGreatDoor.T

namespace Go.Proofs.YtfcikfohmehmkaaGreatDoor.T

/-- The lines of paths and marks. -/
def lnOf (x : Pth × Int) : Ln := ⟨(x.1.length : Int) - 1, x.1.getLastD [], x.2⟩
def ofP (l : List (Pth × Int)) : List Ln := l.map lnOf
/-- Paths in order, each with its beginnings, and within bounds. -/
structure GoodP (N : Nat) (l : List (Pth × Int)) : Prop where
  len : l.length ≤ N
  sorted : Sorted l
  ne : ∀ x ∈ l, x.1 ≠ []
  deep : ∀ x ∈ l, x.1.length ≤ 16
  long : ∀ x ∈ l, (x.1.getLastD []).length ≤ 40
  mark : ∀ x ∈ l, 0 ≤ x.2 ∧ x.2 ≤ 3
  closed : ∀ x ∈ l, ∀ q w, x.1 = q ++ [w] → q ≠ [] → ∃ m, (q, m) ∈ l

theorem ofP_len (l : List (Pth × Int)) : (ofP l).length = l.length := by unfold ofP; rw [List.length_map]
theorem ofP_at (l : List (Pth × Int)) (i : Nat) (hi : i < l.length) : at_ (ofP l) i = lnOf l[i] := by
  unfold ofP at_ List.getD; rw [List.getElem?_map, List.getElem?_eq_getElem hi]; rfl
theorem ofP_dp (l : List (Pth × Int)) (i : Nat) (hi : i < l.length) : dp (ofP l) i = (l[i].1.length : Int) - 1 := by unfold dp; rw [ofP_at l i hi]; rfl
theorem ofP_wd (l : List (Pth × Int)) (i : Nat) (hi : i < l.length) : wd (ofP l) i = l[i].1.getLastD [] := by unfold wd; rw [ofP_at l i hi]; rfl
theorem last_snoc (q : Pth) (w : List UInt8) : (q ++ [w]).getLastD [] = w := by simp
theorem snoc_of {p : Pth} (h : p ≠ []) : ∃ q w, p = q ++ [w] := ⟨p.dropLast, p.getLast h, (List.dropLast_concat_getLast h).symm⟩
theorem Sorted.lt_of {l : List (Pth × Int)} (h : Sorted l) {i k : Nat} (hi : i < l.length) (hk : k < l.length) (hp : pless l[i].1 l[k].1 = true) : i < k := by
  rcases Nat.lt_trichotomy i k with hlt | heq | hgt
  · exact hlt
  · subst heq; rw [pless_irr] at hp; cases hp
  · have := h k i hi hgt; rw [pless_asymm this] at hp; cases hp
/-- Where a path's beginning is, and what stands between. -/
theorem GoodP.parent {N : Nat} {l : List (Pth × Int)} (h : GoodP N l) {i : Nat} (hi : i < l.length) {q : Pth} {w : List UInt8} (e : l[i].1 = q ++ [w]) (hq : q ≠ []) :
    ∃ j, ∃ hj : j < i, (l[j]'(by omega)).1 = q ∧ ∀ k (hk : k < i), j < k → ∃ s, s ≠ [] ∧ (l[k]'(by omega)).1 = q ++ s := by
  obtain ⟨m, hm⟩ := h.closed _ (List.getElem_mem hi) q w e hq
  obtain ⟨j, hj, hjm⟩ := List.getElem_of_mem hm
  have hjq : l[j].1 = q := by rw [hjm]
  have hji : j < i := h.sorted.lt_of hj hi (by rw [hjq, e]; exact pless_more q [w] (by simp))
  refine ⟨j, hji, hjq, fun k hk hjk => ?_⟩
  have h1 := h.sorted j k (by omega) hjk
  have h2 := h.sorted k i hi hk
  rw [hjq] at h1
  rw [e] at h2
  exact pless_between q _ w h1 h2
theorem GoodP.pos {N : Nat} {l : List (Pth × Int)} (h : GoodP N l) {i : Nat} (hi : i < l.length) : 1 ≤ l[i].1.length := by
  have := h.ne _ (List.getElem_mem hi)
  cases hh : l[i].1 with
  | nil => exact absurd hh this
  | cons a p => simp
theorem GoodP.right {N : Nat} {l : List (Pth × Int)} (h : GoodP N l) : RightN N (ofP l) := by
  have hl := ofP_len l
  have snoc : ∀ i (hi : i < l.length), 1 < l[i].1.length → ∃ q w, l[i].1 = q ++ [w] ∧ q ≠ [] := fun i hi h1 => by
    obtain ⟨q, w, e⟩ := snoc_of (h.ne _ (List.getElem_mem hi))
    refine ⟨q, w, e, fun hq => ?_⟩
    rw [e, hq] at h1; simp at h1
  refine ⟨by rw [hl]; exact h.len, fun i hi => ?_, fun i hi => ?_, fun i hi => ?_, fun hp => ?_, fun i hi => ?_, fun i k hik hk hd hb => ?_⟩
  · rw [hl] at hi
    rw [ofP_dp l i hi]
    have := h.pos hi
    have := h.deep _ (List.getElem_mem hi)
    omega
  · rw [hl] at hi; rw [ofP_wd l i hi]; exact h.long _ (List.getElem_mem hi)
  · rw [hl] at hi; rw [ofP_at l i hi]; exact h.mark _ (List.getElem_mem hi)
  · rw [hl] at hp
    rw [ofP_dp l 0 hp]
    have := h.pos hp
    rcases Nat.eq_or_lt_of_le this with e | hlt
    · omega
    · obtain ⟨q, w, e, hq⟩ := snoc 0 hp hlt
      obtain ⟨j, hj, _⟩ := h.parent hp e hq
      omega
  · rw [hl] at hi
    rw [ofP_dp l i (by omega), ofP_dp l (i + 1) hi]
    have := h.pos (show i < l.length by omega)
    rcases Nat.eq_or_lt_of_le (h.pos hi) with e | hlt
    · omega
    · obtain ⟨q, w, e, hq⟩ := snoc (i + 1) hi hlt
      obtain ⟨j, hj, hjq, hbt⟩ := h.parent hi e hq
      have e2 : l[i + 1].1.length = q.length + 1 := by rw [e]; simp
      rcases Nat.eq_or_lt_of_le (Nat.lt_succ_iff.1 hj) with rfl | hlt2
      · rw [hjq, e2]; omega
      · obtain ⟨s, hs, es⟩ := hbt i (by omega) hlt2
        have : 0 < s.length := List.length_pos_iff.2 hs
        rw [es, e2, List.length_append]; omega
  · rw [hl] at hk
    have hi : i < l.length := by omega
    rw [ofP_dp l i hi, ofP_dp l k hk] at hd
    have hlen : l[k].1.length = l[i].1.length := by omega
    obtain ⟨q, w, e⟩ := snoc_of (h.ne _ (List.getElem_mem hk))
    obtain ⟨q2, w2, e2⟩ := snoc_of (h.ne _ (List.getElem_mem hi))
    have hs := h.sorted i k hk hik
    have hql : q.length = q2.length := by rw [e, e2] at hlen; simpa using hlen
    have hqq : q2 = q := by
      by_cases hq : q = []
      · subst hq; exact List.eq_nil_of_length_eq_zero hql.symm
      · obtain ⟨j, hj, hjq, hbt⟩ := h.parent hk e hq
        have hji : j < i := by
          rcases Nat.lt_trichotomy j i with hlt | heq | hgt
          · exact hlt
          · subst heq; rw [hjq, e] at hlen; simp at hlen
          · have := hb j hgt hj
            rw [ofP_dp l i hi, ofP_dp l j (by omega), hjq, ← hlen, e] at this
            simp at this; omega
        obtain ⟨s, hsn, es⟩ := hbt i (by omega) hji
        rw [e2] at es
        have hsl : s.length = 1 := by have := congrArg List.length es; simp at this; omega
        obtain ⟨x, rfl⟩ := List.length_eq_one_iff.1 hsl
        exact (List.append_inj' es rfl).1
    rw [ofP_wd l i hi, ofP_wd l k hk, e, e2, last_snoc, last_snoc]
    rw [e, e2, hqq, pless_app, pless_cons] at hs
    rcases hs with hs | ⟨_, hs⟩
    · exact hs
    · simp [pless] at hs
/-- They have these paths. -/
theorem GoodP.path {N : Nat} {l : List (Pth × Int)} (h : GoodP N l) : ∀ (n i : Nat), i ≤ n → ∀ hi : i < l.length, pathL (ofP l) i = l[i].1
  | n, i, hn, hi => by
    have hl := ofP_len l
    obtain ⟨q, w, e⟩ := snoc_of (h.ne _ (List.getElem_mem hi))
    have hdi := ofP_dp l i hi
    have hwi : wd (ofP l) i = w := by rw [ofP_wd l i hi, e, last_snoc]
    have hil : l[i].1.length = q.length + 1 := by rw [e]; simp
    by_cases hq : q = []
    · subst hq
      have hu : underL (ofP l) i = -1 := by
        rcases h.right.under i (by omega) with ⟨_, a2⟩ | ⟨u, u1, _, u3, _⟩
        · exact a2
        · have := (h.right.deep u (by omega)).1
          simp at hil; omega
      rw [path_root hu, hwi, e]; rfl
    · obtain ⟨j, hj, hjq, hbt⟩ := h.parent hi e hq
      have hdj := ofP_dp l j (by omega)
      rw [hjq] at hdj
      have hu : underL (ofP l) i = (j : Int) := by
        unfold underL
        rcases under_spec (ofP l) (dp (ofP l) i) i with ⟨_, h2⟩ | ⟨u, u1, u2, u3, u4⟩
        · have := h2 j hj; omega
        · rw [u2]
          rcases Nat.lt_trichotomy u j with hlt | heq | hgt
          · have := u4 j hlt hj; omega
          · omega
          · obtain ⟨s, hs, es⟩ := hbt u u1 hgt
            have hdu := ofP_dp l u (by omega)
            have : 0 < s.length := List.length_pos_iff.2 hs
            rw [es, List.length_append] at hdu
            omega
      match n, hn with
      | 0, hn => omega
      | n + 1, hn =>
        rw [path_step hu, GoodP.path h n j (by omega) (by omega), hjq, hwi, e]
theorem GoodP.entries {N : Nat} {l : List (Pth × Int)} (h : GoodP N l) : T.entries (ofP l) = l := by
  refine List.ext_getElem (by rw [entries_len, ofP_len]) fun i h1 h2 => ?_
  rw [entries_at (ofP l) i (by rw [ofP_len]; exact h2), h.path i i (Nat.le_refl _) h2, ofP_at l i h2]
  rfl
theorem RightN.good {N : Nat} {t : List Ln} (h : RightN N t) : GoodP N (T.entries t) := by
  have hl := entries_len t
  have get : ∀ x ∈ T.entries t, ∃ i, i < t.length ∧ x = (pathL t i, (at_ t i).mark) := fun x hx => by
    unfold T.entries at hx
    obtain ⟨i, hi, rfl⟩ := List.mem_map.1 hx
    exact ⟨i, List.mem_range.1 hi, rfl⟩
  have put : ∀ i, i < t.length → (pathL t i, (at_ t i).mark) ∈ T.entries t := fun i hi => List.mem_map.2 ⟨i, List.mem_range.2 hi, rfl⟩
  refine ⟨by rw [hl]; exact h.len, h.sorted, fun x hx => ?_, fun x hx => ?_, fun x hx => ?_, fun x hx => ?_, fun x hx q w e hq => ?_⟩
  · obtain ⟨i, _, rfl⟩ := get x hx; exact path_ne
  · obtain ⟨i, hi, rfl⟩ := get x hx
    have h1 := h.path_len i i (Nat.le_refl _) hi
    have h2 := h.deep i hi
    show (pathL t i).length ≤ 16
    omega
  · obtain ⟨i, hi, rfl⟩ := get x hx
    show ((pathL t i).getLastD []).length ≤ 40
    rw [path_under t i, last_snoc]; exact h.long i hi
  · obtain ⟨i, hi, rfl⟩ := get x hx; exact h.mark i hi
  · obtain ⟨i, hi, rfl⟩ := get x hx
    have e : pathL t i = q ++ [w] := e
    have hq0 : 0 < q.length := List.length_pos_iff.2 hq
    obtain ⟨k, k1, k2⟩ := h.path_take i i q.length (Nat.le_refl _) hi hq0 (by rw [e]; simp)
    rw [e, List.take_left] at k2
    exact ⟨_, by rw [← k2]; exact put k k1⟩
theorem RightN.ofP_entries {N : Nat} {t : List Ln} (h : RightN N t) : ofP (T.entries t) = t := h.good.right.of_entries h h.good.entries
theorem mem_entries (t : List Ln) (p : Pth) (m : Int) : (p, m) ∈ T.entries t ↔ ∃ i, i < t.length ∧ pathL t i = p ∧ (at_ t i).mark = m := by
  unfold T.entries
  rw [List.mem_map]
  constructor
  · rintro ⟨i, hi, e⟩; injection e with e1 e2; exact ⟨i, List.mem_range.1 hi, e1, e2⟩
  · rintro ⟨i, hi, e1, e2⟩; exact ⟨i, List.mem_range.2 hi, by rw [e1, e2]⟩
end Go.Proofs.YtfcikfohmehmkaaGreatDoor.T

namespace Go.Proofs.YtfcikfohmehmkaaGreatDoor.T

theorem sorted_iff (l : List (Pth × Int)) : Sorted l ↔ l.Pairwise fun a b => pless a.1 b.1 = true := by
  rw [List.pairwise_iff_getElem]
  constructor
  · intro h i k hi hk hik; exact h i k hk hik
  · intro h i k hk hik; exact h i k (by omega) hk hik
def insP (l : List (Pth × Int)) (at' : Nat) (x : Pth × Int) : List (Pth × Int) := l.take at' ++ x :: l.drop at'
theorem mem_ins (l : List (Pth × Int)) (at' : Nat) (x y : Pth × Int) : y ∈ insP l at' x ↔ y = x ∨ y ∈ l := by
  unfold insP
  rw [List.mem_append, List.mem_cons]
  constructor
  · rintro (h | h | h)
    · exact .inr (List.mem_of_mem_take h)
    · exact .inl h
    · exact .inr (List.mem_of_mem_drop h)
  · rintro (h | h)
    · exact .inr (.inl h)
    · rw [← List.take_append_drop at' l, List.mem_append] at h
      rcases h with h | h
      · exact .inl h
      · exact .inr (.inr h)
theorem GoodP.ins {N : Nat} {l : List (Pth × Int)} (h : GoodP N l) {at' : Nat} {x : Pth × Int} (h200 : l.length < N) (hlt : ∀ y ∈ l.take at', pless y.1 x.1 = true) (hgt : ∀ y ∈ l.drop at', pless x.1 y.1 = true)
    (hne : x.1 ≠ []) (hdeep : x.1.length ≤ 16) (hlong : (x.1.getLastD []).length ≤ 40) (hmark : 0 ≤ x.2 ∧ x.2 ≤ 3) (hpar : ∀ q w, x.1 = q ++ [w] → q ≠ [] → ∃ m, (q, m) ∈ l) : GoodP N (insP l at' x) := by
  have hs := (sorted_iff l).1 h.sorted
  refine ⟨?_, ?_, fun y hy => ?_, fun y hy => ?_, fun y hy => ?_, fun y hy => ?_, fun y hy q w e hq => ?_⟩
  · unfold insP; rw [List.length_append, List.length_cons, List.length_take, List.length_drop]; omega
  · rw [sorted_iff]
    unfold insP
    rw [List.pairwise_append, List.pairwise_cons]
    refine ⟨hs.sublist (List.take_sublist _ _), ⟨fun y hy => hgt y hy, hs.sublist (List.drop_sublist _ _)⟩, fun a ha b hb => ?_⟩
    rcases List.mem_cons.1 hb with rfl | hb
    · exact hlt a ha
    · exact pless_trans _ _ _ (hlt a ha) (hgt b hb)
  · rcases (mem_ins l at' x y).1 hy with rfl | hy
    · exact hne
    · exact h.ne y hy
  · rcases (mem_ins l at' x y).1 hy with rfl | hy
    · exact hdeep
    · exact h.deep y hy
  · rcases (mem_ins l at' x y).1 hy with rfl | hy
    · exact hlong
    · exact h.long y hy
  · rcases (mem_ins l at' x y).1 hy with rfl | hy
    · exact hmark
    · exact h.mark y hy
  · rcases (mem_ins l at' x y).1 hy with rfl | hy
    · obtain ⟨m, hm⟩ := hpar q w e hq
      exact ⟨m, (mem_ins ..).2 (.inr hm)⟩
    · obtain ⟨m, hm⟩ := h.closed y hy q w e hq
      exact ⟨m, (mem_ins ..).2 (.inr hm)⟩
theorem ofP_ins (l : List (Pth × Int)) (at' : Nat) (x : Pth × Int) : ofP (insP l at' x) = (ofP l).take at' ++ lnOf x :: (ofP l).drop at' := by
  unfold ofP insP; rw [List.map_append, List.map_cons, List.map_take, List.map_drop]
/-- A line put among those of a tree. -/
def putT (t : List Ln) (at' : Nat) (x : Pth × Int) : List Ln := t.take at' ++ lnOf x :: t.drop at'
theorem RightN.put {N : Nat} {t : List Ln} (h : RightN N t) {at' : Nat} {x : Pth × Int} (h200 : t.length < N) (hlt : ∀ i, i < at' → i < t.length → pless (pathL t i) x.1 = true) (hgt : ∀ i, at' ≤ i → i < t.length → pless x.1 (pathL t i) = true)
    (hne : x.1 ≠ []) (hdeep : x.1.length ≤ 16) (hlong : (x.1.getLastD []).length ≤ 40) (hmark : 0 ≤ x.2 ∧ x.2 ≤ 3) (hpar : ∀ q w, x.1 = q ++ [w] → q ≠ [] → ∃ i, i < t.length ∧ pathL t i = q) :
    RightN N (putT t at' x) ∧ entries (putT t at' x) = insP (entries t) at' x := by
  have hg : GoodP N (insP (entries t) at' x) := by
    refine h.good.ins (by rw [entries_len]; exact h200) (fun y hy => ?_) (fun y hy => ?_) hne hdeep hlong hmark (fun q w e hq => ?_)
    · obtain ⟨i, hi, rfl⟩ := List.getElem_of_mem hy
      rw [List.length_take, entries_len] at hi
      rw [List.getElem_take, entries_at t i (by omega)]
      exact hlt i (by omega) (by omega)
    · obtain ⟨i, hi, rfl⟩ := List.getElem_of_mem hy
      rw [List.length_drop, entries_len] at hi
      rw [List.getElem_drop, entries_at t (at' + i) (by omega)]
      exact hgt (at' + i) (by omega) (by omega)
    · obtain ⟨i, hi, e2⟩ := hpar q w e hq
      exact ⟨(at_ t i).mark, (mem_entries t q _).2 ⟨i, hi, e2, rfl⟩⟩
  have e : ofP (insP (entries t) at' x) = putT t at' x := by rw [ofP_ins, h.ofP_entries]; rfl
  rw [← e]
  exact ⟨hg.right, hg.entries⟩

/-- What does not begin with a path, and stands behind it, stands behind all that go on from it. -/
theorem pless_off : ∀ (p r s : Pth), pless p r = true → (¬ ∃ x, r = p ++ x) → pless (p ++ s) r = true
  | [], r, s, _, hn => absurd ⟨r, rfl⟩ hn
  | a :: p, [], s, h, _ => by simp [pless] at h
  | a :: p, b :: r, s, h, hn => by
    rw [pless_cons] at h
    rw [List.cons_append, pless_cons]
    rcases h with h | ⟨rfl, h⟩
    · exact .inl h
    · exact .inr ⟨rfl, pless_off p r s h (fun ⟨x, hx⟩ => hn ⟨x, by rw [hx]; rfl⟩)⟩
theorem RightN.pathI_inj {N : Nat} {t : List Ln} (h : RightN N t) {a b : Int} (ha : -1 ≤ a ∧ a < t.length) (hb : -1 ≤ b ∧ b < t.length) (e : pathI t a = pathI t b) : a = b := by
  by_cases h1 : a = -1
  · by_cases h2 : b = -1
    · omega
    · obtain ⟨k, hk⟩ := Int.eq_ofNat_of_zero_le (show 0 ≤ b by omega)
      rw [h1, hk, pathI_none, pathI_nat] at e
      exact absurd e.symm path_ne
  · obtain ⟨j, hj⟩ := Int.eq_ofNat_of_zero_le (show 0 ≤ a by omega)
    by_cases h2 : b = -1
    · rw [h2, hj, pathI_none, pathI_nat] at e
      exact absurd e path_ne
    · obtain ⟨k, hk⟩ := Int.eq_ofNat_of_zero_le (show 0 ≤ b by omega)
      rw [hj, hk, pathI_nat, pathI_nat] at e
      rw [hj, hk, h.path_inj (max j k) j k (Nat.le_max_left ..) (Nat.le_max_right ..) (by omega) (by omega) e]
/-- A line whose path goes on from another's by a word stands under it. -/
theorem RightN.kid_of {N : Nat} {t : List Ln} (h : RightN N t) {up : Int} (hu : -1 ≤ up ∧ up < t.length) {c : Nat} (hc : c < t.length) {a : List UInt8} (e : pathL t c = pathI t up ++ [a]) : underL t c = up ∧ wd t c = a := by
  rw [path_under t c] at e
  obtain ⟨e1, e2⟩ := List.append_inj' e rfl
  injection e2 with e2
  have hl := under_lt t c
  exact ⟨h.pathI_inj ⟨hl.1, by omega⟩ hu e1, e2⟩
/-- A line whose path goes on from another's is in the part of a kid. -/
theorem RightN.kid_above {N : Nat} {t : List Ln} (h : RightN N t) {up : Int} (hu : -1 ≤ up ∧ up < t.length) {j : Nat} (hj : j < t.length) {a : List UInt8} {s : Pth} (e : pathL t j = pathI t up ++ a :: s) :
    ∃ c, c ≤ j ∧ underL t c = up ∧ wd t c = a := by
  obtain ⟨c, hc, e2⟩ := h.path_take j j ((pathI t up).length + 1) (Nat.le_refl _) hj (by omega) (by rw [e]; simp)
  have e3 : pathL t c = pathI t up ++ [a] := by rw [e2, e, List.take_append, List.take_of_length_le (by omega)]; simp
  obtain ⟨k1, k2⟩ := h.kid_of hu hc e3
  refine ⟨c, ?_, k1, k2⟩
  rcases Nat.lt_or_ge j c with hlt | hge
  · have := h.path_less c hlt hc
    rw [e, e3, pless_app] at this
    rw [pless_cons, less_irr] at this
    rcases this with this | ⟨_, this⟩
    · cases this
    · cases s <;> simp [pless] at this
  · exact hge
/-- The line ahead of which a new one goes: the first kid with a greater word. -/
theorem RightN.put_ahead {N : Nat} {t : List Ln} (h : RightN N t) {up : Int} (hu : -1 ≤ up ∧ up < t.length) {w : List UInt8} {k : Nat} (hk : k < t.length) (hku : underL t k = up) (hkw : Op.bytesLess w (wd t k) = true)
    (hb : ∀ c, c < k → underL t c = up → Op.bytesLess (wd t c) w = true) :
    (∀ i, i < k → i < t.length → pless (pathL t i) (pathI t up ++ [w]) = true) ∧ (∀ i, k ≤ i → i < t.length → pless (pathI t up ++ [w]) (pathL t i) = true) := by
  have hpk : pathL t k = pathI t up ++ [wd t k] := by rw [path_under t k, hku]
  have hx : pless (pathI t up ++ [w]) (pathL t k) = true := by rw [hpk, pless_app, pless_cons]; exact .inl hkw
  refine ⟨fun i hik hi => ?_, fun i hki hi => ?_⟩
  · have hlt := h.path_less k hik hk
    rcases pless_tri (pathL t i) (pathI t up) with h1 | h1 | h1
    · exact pless_trans _ _ _ h1 (pless_more _ _ (by simp))
    · rw [h1]; exact pless_more _ _ (by simp)
    · rw [hpk] at hlt
      obtain ⟨s, hs, es⟩ := pless_between _ _ _ h1 hlt
      cases s with
      | nil => exact absurd rfl hs
      | cons a s =>
        obtain ⟨c, c1, c2, c3⟩ := h.kid_above hu hi es
        rw [es, pless_app, pless_cons]
        exact .inl (by rw [← c3]; exact hb c (by omega) c2)
  · rcases Nat.eq_or_lt_of_le hki with rfl | hlt
    · exact hx
    · exact pless_trans _ _ _ hx (h.path_less i hlt hi)
/-- Where a part ends, also that of none. -/
def endI (t : List Ln) (up : Int) : Nat := if up < 0 then t.length else endL t up.toNat
/-- A new line goes behind a part, if all kids have lower words. -/
theorem RightN.put_end {N : Nat} {t : List Ln} (h : RightN N t) {up : Int} (hu : -1 ≤ up ∧ up < t.length) {w : List UInt8} (hb : ∀ c, c < t.length → underL t c = up → Op.bytesLess (wd t c) w = true) :
    (∀ i, i < endI t up → i < t.length → pless (pathL t i) (pathI t up ++ [w]) = true) ∧ (∀ i, endI t up ≤ i → i < t.length → pless (pathI t up ++ [w]) (pathL t i) = true) := by
  have inside : ∀ i, i < t.length → (∃ s, pathL t i = pathI t up ++ s) → pless (pathL t i) (pathI t up ++ [w]) = true := by
    rintro i hi ⟨s, es⟩
    cases s with
    | nil => rw [es, List.append_nil]; exact pless_more _ _ (by simp)
    | cons a s =>
      obtain ⟨c, c1, c2, c3⟩ := h.kid_above hu hi es
      rw [es, pless_app, pless_cons]
      exact .inl (by rw [← c3]; exact hb c (by omega) c2)
  by_cases h0 : up < 0
  · have e : pathI t up = [] := by unfold pathI; rw [if_pos h0]
    unfold endI
    rw [if_pos h0]
    exact ⟨fun i _ hi => inside i hi ⟨_, by rw [e]; rfl⟩, fun i h1 h2 => by omega⟩
  · obtain ⟨n, rfl⟩ := Int.eq_ofNat_of_zero_le (show 0 ≤ up by omega)
    have hn : n < t.length := by omega
    obtain ⟨g1, g2, g3, g4⟩ := end_spec t n hn
    unfold endI
    rw [if_neg h0, Int.toNat_natCast]
    rw [pathI_nat] at inside ⊢
    refine ⟨fun i hie hi => ?_, fun i hei hi => ?_⟩
    · rcases Nat.lt_or_ge i n with hlt | hge
      · exact pless_trans _ _ _ (h.path_less n hlt hn) (pless_more _ _ (by simp))
      · exact inside i hi (part_prefix hn i i (Nat.le_refl _) hge hie)
    · have he : endL t n < t.length := by omega
      have hx : pless (pathL t n ++ [w]) (pathL t (endL t n)) = true := by
        refine pless_off _ _ _ (h.path_less _ g1 he) ?_
        rintro ⟨x, hx⟩
        have l1 := h.path_len (endL t n) (endL t n) (Nat.le_refl _) he
        have l2 := h.path_len n n (Nat.le_refl _) hn
        have := g4 he
        rw [hx, List.length_append] at l1
        have hx0 : x = [] := List.eq_nil_of_length_eq_zero (by omega)
        rw [hx0, List.append_nil] at hx
        have := h.path_inj (max (endL t n) n) _ _ (Nat.le_max_left ..) (Nat.le_max_right ..) he hn hx
        omega
      rcases Nat.eq_or_lt_of_le hei with rfl | hlt
      · exact hx
      · exact pless_trans _ _ _ hx (h.path_less i hlt hi)
end Go.Proofs.YtfcikfohmehmkaaGreatDoor.T

namespace Go.Proofs.YtfcikfohmehmkaaGreatDoor
open Go.ChangeShapes Go.WideShapes Go.ChangeAt Go.RowKit

/-- A word as the program has it. -/
def sB (l : List UInt8) : ByteArray := ⟨l.toArray⟩
theorem sB_size (l : List UInt8) : (sB l).size = l.length := by simp [sB, ByteArray.size]
theorem sB_data (l : List UInt8) : (sB l).data.toList = l := by simp [sB]
theorem sB_of (s : ByteArray) : sB s.data.toList = s := by simp [sB]
theorem sB_toList (l : List UInt8) : (sB l).toList = l := by rw [ByteArray.toList_eq, sB_data]
theorem sB_eq {a b : List UInt8} (h : a = b) : ((sB a).toList == (sB b).toList) = true := by rw [h]; simp
theorem sB_ne {a b : List UInt8} (h : a ≠ b) : ((sB a).toList == (sB b).toList) = false := by rw [sB_toList, sB_toList]; exact beq_eq_false_iff_ne.2 h
def lnC (x : T.Ln) : List Value := [.int .i64 x.depth, .string (sB x.word), .int .i64 x.mark]
def zeroLn : Value := .agg #[.int .i64 0, .string ⟨#[]⟩, .int .i64 0]
def eL : Elem T.Ln where
  st := 22
  T := 52
  sz := 3
  zero := zeroLn
  by_ := 32
  C := lnC
  hst := Tryz.underlying22
  hin := by kernel_rfl
  hzs := rfl
  hsz := by decide
  hby := by decide
  len := fun _ => rfl
  one := fun x u hu => by simp [lnC] at hu; rcases hu with rfl | rfl | rfl <;> rfl
def eI : Elem Nat where
  st := 71
  T := 3
  sz := 1
  zero := .int .i64 0
  by_ := 8
  C := fun n => [.int .i64 (n : Int)]
  hst := Tryz.underlying71
  hin := by kernel_rfl
  hzs := rfl
  hsz := by decide
  hby := by decide
  len := fun _ => rfl
  one := fun x u hu => by simp at hu; subst hu; rfl
def eS : Elem (List UInt8) where
  st := 42
  T := 9
  sz := 1
  zero := .string ⟨#[]⟩
  by_ := 16
  C := fun s => [.string (sB s)]
  hst := Tryz.underlying42
  hin := by kernel_rfl
  hzs := rfl
  hsz := by decide
  hby := by decide
  len := fun _ => rfl
  one := fun x u hu => by simp at hu; subst hu; rfl

theorem at_get (t : List T.Ln) (i : Nat) (h : i < t.length) : t[i] = T.at_ t i := by
  unfold T.at_ List.getD; rw [List.getElem?_eq_getElem h]; rfl
/-- The three cells of each line. -/
theorem Holds.line {w : World} {b o : Nat} {t : List T.Ln} (h : Holds eL w b o t) {i : Nat} (hi : i < t.length) :
    w.cell? ⟨b, o + i * 3, none⟩ = some (.int .i64 (T.dp t i)) ∧ w.cell? ⟨b, o + i * 3 + 1, none⟩ = some (.string (sB (T.wd t i))) ∧ w.cell? ⟨b, o + i * 3 + 2, none⟩ = some (.int .i64 (T.at_ t i).mark) := by
  have e := at_get t i hi
  refine ⟨h i hi 0 _ ?_, h i hi 1 _ ?_, h i hi 2 _ ?_⟩ <;> rw [e] <;> rfl
theorem Seen.lines {w : World} {A : Option Addr} {t : List T.Ln} (h : Seen eL w A t) (hl : 0 < t.length) : ∃ b o, A = some ⟨b, o, none⟩ ∧ b < w.heap.size ∧ Holds eL w b o t := h hl
theorem Holds.num {w : World} {b o : Nat} {l : List Nat} (h : Holds eI w b o l) {i : Nat} (hi : i < l.length) : w.cell? ⟨b, o + i, none⟩ = some (.int .i64 ((l[i] : Nat) : Int)) := by
  have := h i hi 0 _ rfl
  simpa [eI] using this
theorem Holds.str {w : World} {b o : Nat} {l : List (List UInt8)} (h : Holds eS w b o l) {i : Nat} (hi : i < l.length) : w.cell? ⟨b, o + i, none⟩ = some (.string (sB l[i])) := by
  have := h i hi 0 _ rfl
  simpa [eS] using this

theorem Tryz.cellsLn : Tryz.prog.cellsOf 52 = 3 := by kernel_rfl
theorem Tryz.cellsInt : Tryz.prog.cellsOf 3 = 1 := by kernel_rfl
set_option maxRecDepth 100000 in
/-- A []api.Line that came in. -/
theorem open_lines {H : Type} {enc : TypeId × Value → H} {W : World} {base : Nat} {v : Value} {d : DataW H} {p : List MemPlace} (hok : Value.okWide Tryz.prog W .any base 22 v)
    (h : DataW.Trod enc Tryz.prog W 0 (fun _ => true) true 22 v d p) :
    ∃ (A : Option Addr) (c : Nat) (t : List T.Ln), v = .slice A t.length c ∧ t.length ≤ c ∧ Seen eL W A t ∧ t.length ≤ maxLen ∧ ∀ i, i < t.length → -9223372036854775808 ≤ T.dp t i ∧ T.dp t i ≤ 9223372036854775807 ∧ (T.wd t i).length ≤ maxLen := by
  obtain ⟨A, n, c, rfl⟩ := okWide_slice Tryz.underlying22 hok
  obtain ⟨fuel, hf⟩ := h
  rcases Go.Deep.open_slice Tryz.underlying22 hf with ⟨hcs, _⟩ | ⟨a, len, cap, m, k, D, Pl, hcs, _, hl, hm, hmm, _, hx⟩
  · have hc2 : ([Value.slice A n c] : List Value) = [.slice none 0 0] := hcs
    injection hc2 with hc2
    injection hc2 with e1 e2 e3
    subst e1; subst e2; subst e3
    exact ⟨none, 0, [], rfl, Nat.le_refl _, Seen.nil, by unfold maxLen; simp, fun i hi => absurd hi (Nat.not_lt_zero i)⟩
  · have hc2 : ([Value.slice A n c] : List Value) = [.slice (some a) len cap] := hcs
    injection hc2 with hc2
    injection hc2 with e1 e2 e3
    subst e1; subst e2; subst e3
    have hnm : n ≤ m := by rw [hmm]; simp; exact hl
    have each : ∀ i, i < n → ∃ x : T.Ln, (W.cell? (a.add (i * 3)) = some (.int .i64 x.depth) ∧ W.cell? (a.add (i * 3 + 1)) = some (.string (sB x.word)) ∧ W.cell? (a.add (i * 3 + 2)) = some (.int .i64 x.mark)) ∧
        -9223372036854775808 ≤ x.depth ∧ x.depth ≤ 9223372036854775807 ∧ x.word.length ≤ maxLen := by
      intro i hi
      obtain ⟨cs', h1, h2⟩ := hx i (by omega)
      rw [Tryz.cellsLn] at h1
      obtain ⟨_, hlen, hcell⟩ := World.cells?_some h1
      obtain ⟨xs, q, hq, hxy, _, hxl, hff⟩ := DataW.trod_struct Tryz.underlying52 h2
      match xs, hxl, cs', hlen with
      | [y0, y1, y2], _, [v0, v1, v2], _ =>
        have g0 := hff 0 _ rfl
        have g1 := hff 1 _ rfl
        have g2 := hff 2 _ rfl
        simp [Tryz.cellsInt, Tryz.cellsStr] at g0 g1 g2
        obtain ⟨z0, q0, _, w0⟩ := DataW.trod_int Tryz.underlying3 g0
        obtain ⟨z1, q1, _, w1⟩ := DataW.trod_string Tryz.underlying9 g1
        obtain ⟨z2, q2, _, w2⟩ := DataW.trod_int Tryz.underlying3 g2
        simp at q0 q1 q2
        subst q0; subst q1; subst q2
        have e0 := hcell 0 (by omega)
        have e1 := hcell 1 (by omega)
        have e2 := hcell 2 (by omega)
        rw [Go.Deep.add_add] at e0 e1 e2
        have wb := bounds_i64 w0
        refine ⟨⟨z0, z1.data.toList, z2⟩, ⟨by simpa using e0, by rw [sB_of]; simpa using e1, by simpa using e2⟩, wb.1, wb.2, ?_⟩
        rw [← sB_size, sB_of]; exact w1
    haveI : Inhabited T.Ln := ⟨T.L0⟩
    obtain ⟨f, hfx⟩ := Go.Deep.choose_lt each
    have hat : ∀ i, i < n → T.at_ ((List.range n).map f) i = f i := fun i hi => by unfold T.at_; simp [List.getD, hi]
    refine ⟨some a, c, (List.range n).map f, by simp, by simp; exact hl, fun hpos => ?_, by simp; omega, fun i hi => ?_⟩
    · have hn : 0 < n := by simpa using hpos
      obtain ⟨b, o, sp⟩ := a
      have hc0 := (hfx 0 hn).1.1
      have hsp : sp = none := by simpa [Addr.add] using World.cell?_spot hc0
      subst hsp
      refine ⟨b, o, rfl, ?_, fun i hi j u hu => ?_⟩
      · have := World.block_lt_of_cell? W _ hc0; simpa [Addr.add] using this
      · have hin : i < n := by simpa using hi
        obtain ⟨⟨k0, k1, k2⟩, _⟩ := hfx i hin
        rw [add_off] at k0 k1 k2
        have eg : ((List.range n).map f)[i] = f i := by simp
        rw [eg] at hu
        match j, hu with
        | 0, hu => simp [eL, lnC] at hu; subst hu; simpa [eL] using k0
        | 1, hu => simp [eL, lnC] at hu; subst hu; simpa [eL, Nat.add_assoc] using k1
        | 2, hu => simp [eL, lnC] at hu; subst hu; simpa [eL, Nat.add_assoc] using k2
        | j + 3, hu => simp [eL, lnC] at hu
    · have hin : i < n := by simpa using hi
      unfold T.dp T.wd
      rw [hat i hin]
      exact (hfx i hin).2
end Go.Proofs.YtfcikfohmehmkaaGreatDoor
