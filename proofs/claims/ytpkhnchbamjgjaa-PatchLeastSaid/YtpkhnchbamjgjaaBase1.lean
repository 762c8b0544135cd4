/-
  The last step of a law's row, once for all laws of this seat: a call that returns true, and below the heap's size at the call leaves the world as it was, meets the row's post. Condition: the parameters' types can be read as data. A []string that came in, opened: the strings that it holds, kept over whatever leaves old memory as it was. No conditions.
  Slices whose elements are laid in a fixed number of cells (lines, integers, strings): what such a slice holds, kept over whatever leaves old memory as it was; one of the call's own, and what append does to it. Condition: at most 2^40 elements.
  Plain definitions and laws on lines and paths (layer 3, and what layers 5 and 6 want of it), without the program. No conditions but a tree where a law says so.
  Lines, integers and strings in memory: the cells of each; a []api.Line and a []string that came in, opened. No conditions.
  Contracts of layer 3's inner functions under and end, and of the document's Small, Short, Under and End: what they return is what the plain definitions say; below the heap's size at the call the world is as it was. Condition: a place of a line, at most 2^30 lines. Contracts of layer 3's inner functions under and end, and of the document's End and Short: what they return is what the plain definitions say; below the heap's size at the call the world is as it was. Condition: a place of a line, at most 2^30 lines. Contracts of the document's Ints, Equal and Same (layer 3): equal lists are equal; Equal decides it; below the heap's size at the call the world is as it was. Condition: at most 2^30 elements. Contracts of layer 3's fits and Right: Right returns whether lines are a tree, by the plain definition; below the heap's size at the call the world is as it was. Condition: at most 2^30 lines. Contract of the document's Right (layer 3): it returns whether lines are a tree, by the plain definition; below the heap's size at the call the world is as it was. Condition: at most 2^30 lines. Contracts of layer 3's has, Under and End: what they return is what the plain definitions say; below the heap's size at the call the world is as it was. Condition: at most 2^30 lines. Contract of the document's Same (layer 3) for any two lists of lines: it returns whether they are equal; below the heap's size at the call the world is as it was. Condition: at most 2^30 lines.
  Contract of layer 3's Path: the path of a line, or ErrArg; below the heap's size at the call the world is as it was. Condition: at most 2^30 lines. Contracts of layer 3's Kids and Leaves: the places that the plain definitions say, or none; below the heap's size at the call the world is as it was. Condition: at most 2^30 lines. Contract of layer 3's Sub: the part that the plain definition says, or none; below the heap's size at the call the world is as it was. Condition: at most 2^30 lines. Contracts of the document's Path, Find and Kids (layer 3): what the plain definitions say; below the heap's size at the call the world is as it was. Condition: a tree where it says so, at most 2^30 lines. Contract of the document's Sub (layer 3): the part that the plain definition says; below the heap's size at the call the world is as it was. Condition: a tree, a place of a line, at most 2^30 lines. Contracts of layer 3's kid and Find: the line of a path, or none; below the heap's size at the call the world is as it was. Condition: at most 2^30 lines, a path of at most 2^30 words.
  The fixed answer 'awake' of layer 3's statements: it returns true; below the heap's size at the call the world is as it was. No conditions. Small contracts for the walks of layer 3's statements: Right of lines whose number is said otherwise; what is seen of a slice of a slice. No conditions.
  Plain definitions and laws for layers 1 and 2 (words, tokens), without the program. No conditions but where a law says so.
  Plain definitions and laws for layers 4 and 5 (the text of a tree, and how a text is read), without the program. Condition: a tree where a law says so.
  Plain laws of layer 5 (parse): a reader's steps that keep whole paths make the document's tree; what follows of a text that is a tree, of two texts one behind the other, of one that is cut off. No conditions but where a law says so.
  Plain laws of layer 6 (lines): a path that is added to a tree. Condition: a path of at most 16 words of at most 40 bytes. Plain laws of layer 6 (lines): where a new path's lines go; a tree's commands, as text and as tokens; commands read one by one. Condition: a tree, paths of at most 16 words of at most 40 bytes. Plain laws of layer 6 (lines), third part: a tree's commands as text and as tokens; commands that are read one by one; what stands twice. Condition: a tree. Plain laws of layer 6 (lines), fourth part: the commands of a tree are read as that tree. Condition: a tree.
  Plain laws of layer 7 (edit): what is locked; a tree without a part; a part under another word; a mark more or less. Condition: a tree, a path of one of its lines. Plain laws of layer 7 (edit), second part: what the document's answer to each act is; what follows. Condition: a tree. Plain laws of layer 7 (edit), third part: a part of a tree laid where a new line stands is that part put line by line. Condition: trees. Plain laws of layer 8 (diff): the difference of two trees; that it makes the second one of the first; that no path stands twice in it. Condition: trees. Plain laws of layer 8 (diff), second part: no path stands twice in a difference, nor one under one that is gone; what a path that is added is told by; the text of changes. Condition: trees. Plain laws for layer 8's code: a path that is new at its last word alone, added; its mark, set. Condition: trees.
  Plain laws for layer 10: numbers, addresses, prefixes and hardware addresses, and their texts. No conditions.
  Plain laws for layer 11: the texts of thousandths (thoL: what a text means; thoT: the text), each read back. No conditions.
  Plain laws for layer 13: the types of words, what is a statement, the faults of a list of paths, and of the part of it whose first words are kept. No conditions.
  Plain laws for layer 12: the words under a path, what a path means, a group's paths, a tree expanded. No conditions.
  Plain laws for layer 14: entries in order, each once; the tables of a tree. No conditions.
  Several slices of the call's own, each in blocks of its own: append of one to one of them leaves the others as they were. Condition: at most 2^40 elements.
  Contracts of the leaves of layer 5: cmp.Compare and slices.Compare of words, slices.Equal and slices.Clone of paths. Condition: paths of at most 2^30 words. What a reader of layer 5 holds in memory: its block, the statements that it has found, the paths of each; slices.Clone of a path. Condition: paths of at most 2^30 words. Contracts of layer 5's begins, goesOn and has: what each says of a reader; below the heap's size at the call the world is as it was. No conditions but tokens as layer 2 has them. Contracts of layer 5's name and take: a step of the reader is what the plain definition says, and what it leaves as it was. No conditions but tokens as layer 2 has them.
  Contracts of the document's With and Put (layer 5): a path and one more word; a line where it belongs. Condition: a tree, and the path of one of its lines, or of none. Contract of the document's Put (layer 5): a line where it belongs. Condition: a tree, and the path of one of its lines, or of none.
  Contracts of the leaves of layer 6 (lines): append of a slice wherever it lies, slices.Clone of lines, ContainsFunc of words, wrong, known, behind. Condition: at most 2^30 lines and words. What a slice that came in says of its capacity; a nil slice has none. No conditions. Contracts of layer 6's known, behind and Add (lines): a path that is added to a tree. Condition: at most 2^30 lines and words. Contract of layer 6's Add (lines): the tree with a path, or the error; a slice of the call's own. Condition: at most 2^30 lines and words. Contract of layer 6's Add (lines), further cases. Condition: at most 2^30 lines and words. Contract of layer 6's Add (lines), further cases. Condition: at most 2^30 lines and words. Contract of layer 6's Add (lines), all cases: the tree with a path, or the error's number. Condition: at most 2^30 lines and words.
  Paths in memory: what a slice of them holds, one of the call's own, and what append does to it. Condition: at most 2^40 elements.
  Entries in memory: the cells of each, the document's and the code's. No conditions.
  Entries that come in: a struct of a word, a number and two words; a slice of such. No conditions.
  The document's own functions on entries, walked: which one stands ahead, an entry put where it belongs, a set of them, equal ones. Condition: at most 2^25 entries.
  Plain laws for layer 13: the faults of a tree line by line; what stands under a line that is no statement is left out; marks make no difference. No conditions.
  slices.Delete and clear at lines of the call's own; elements stored over others. Condition: at most 2^30 lines.
  The document's side of layer 13: meant. Condition: a tree.
-/
import Derived.Test.YtpkhnchbamjgjaaRows
import Derived.WalkKit
import Derived.ProofKit
import Derived.OpenShut
import Derived.ShutString
import Derived.Carry
import Derived.SliceStrings
import Derived.WalkSpells
import Derived.WalkLawsBesides
import Derived.Lib.Hide
import Derived.Laws.OwnMore
import Derived.Deep.RegionLaw
import Derived.Laws.Strings
import Derived.Deep.Slices
import Derived.Deep.LoopGhost
import Derived.WalkMore
import Derived.RegionTactic
import Derived.BigQuiet
import Derived.Deep.OwnRows
import Derived.IntWalk
import Derived.BigRegion
import Derived.Lib.SmallJoins
import Derived.Lib.Bytealg
import Derived.Lib.Strings
import Derived.Maps.AppendAt
import Derived.Laws.IdiomStrings
import Derived.Laws.BytesArg
import Derived.Deep.QuietTactic
import Derived.StillTailTactics
import Derived.ArgAppend
import Derived.Lib.AppendZeros
import Derived.Lib.AppendZerosOnto
import Derived.Deep.RegionHeld3
import Derived.Deep.RegionWith
import Derived.Laws.FloatArith
import Derived.Laws.Cover2
import Derived.Laws.Externs

namespace Go.Proofs.Ytpkhnchbamjgjaa
open Go.ChangeShapes Go.WideShapes Go.ChangeAt Go.RowKit

theorem Try.own : ownKnob Try.prog.godebug = none := by kernel_rfl
theorem Try.laidOut : laidOutB Try.prog = true := by kernel_rfl

theorem args_stay {P : Program} (hl : laidOutB P = true) {H : Type} {enc : TypeId × Value → H} {W W' : World} (hb : Below W.heap.size W W') :
    ∀ (ts : List TypeId) (vs : List Value) (ds : List (DataW H)) (ps : List MemPlace), ts.all (fun t => P.readableRec t && decide (t < P.types.size)) = true →
      DataW.TrodAll enc P W 0 (fun _ => true) true ts vs ds ps → (∀ x ∈ ps, x.block < W.heap.size) → DataW.TrodAll enc P W' 0 (fun b => decide (b < W.heap.size)) true ts vs ds ps
  | [], vs, ds, ps, _, h, _ => by
    obtain ⟨rfl, rfl, rfl⟩ := trodAll_nil h
    exact trodAll_mk0
  | t :: ts, vs, ds, ps, hr, h, hlt => by
    obtain ⟨v, vs', d, ds', p, q, rfl, rfl, rfl, h0, h1⟩ := trodAll_cons h
    simp only [List.all_cons, Bool.and_eq_true, decide_eq_true_eq] at hr
    refine trodAll_cons_mk (Below.trod hl hr.1.1 hr.1.2 h0 hb fun x hx => hlt x (by simp [hx])) (args_stay hl hb ts vs' ds' q ?_ h1 fun x hx => hlt x (by simp [hx]))
    simpa only [Bool.and_eq_true, decide_eq_true_eq] using hr.2

theorem law_post {H : Type} {enc : TypeId × Value → H} {f : Func} {s : ChangeSpec} {W W' : World} {args : Array Value} {ds gs : List (DataW H)} {before : List MemPlace}
    (hr : f.params.toList.all (fun t => Try.prog.readableRec t && decide (t < Try.prog.types.size)) = true) (hres : f.resultTypes = #[4]) (hvars : s.vars = [])
    (hfn1 : (s.fn H (ds ++ gs)).results = [.lit (.bool true)]) (hfn2 : (s.fn H (ds ++ gs)).args = ds) (hfn3 : (s.fn H (ds ++ gs)).vars = [])
    (hW : DataW.Whole enc Try.prog f.params.toList s.vars false W args.toList ds gs before) (hb : Below W.heap.size W W') : s.post enc Try.prog f false true false false W args (.bool true) W' := by
  have hlt : ∀ p ∈ before, p.block < W.heap.size := fun p hp => hW.lt p hp
  have hW2 := hW
  obtain ⟨p, q, hA, hV, rfl, _, _⟩ := hW
  rw [hvars] at hV
  obtain ⟨rfl, rfl⟩ := trodVars_none hV
  refine ⟨ds, [], p ++ [], [], p, [], hW2, ?_, ?_, ?_, hb.frame _, fun h => by cases h⟩
  · rw [hfn1, hres]
    exact trodAll_cons_mk (shut_bool Try.underlying4 true) trodAll_mk0
  · rw [hfn2]
    exact args_stay Try.laidOut hb _ _ _ _ hr hA (fun x hx => hlt x (by simp [hx]))
  · rw [hfn3, hvars]; rfl
end Go.Proofs.Ytpkhnchbamjgjaa

namespace Go.Proofs.Ytpkhnchbamjgjaa
open Go.ChangeShapes Go.WideShapes Go.ChangeAt Go.RowKit

theorem Try.cellsStr : Try.prog.cellsOf 9 = 1 := by kernel_rfl
end Go.Proofs.Ytpkhnchbamjgjaa

namespace Go.Proofs.Ytpkhnchbamjgjaa
open Go.RowKit

/-- How an element is laid: the slice's type, the element's, its cells. -/
structure Elem (α : Type) where
  st : TypeId
  T : TypeId
  sz : Nat
  zero : Value
  by_ : Nat
  C : α → List Value
  hst : Try.prog.underlying st = some (.slice T)
  hin : (Try.prog.info? T).map (fun i => (i.zero, i.size, i.bytes)) = some (some zero, sz, by_)
  hzs : zero.cells.size = sz
  hsz : 0 < sz
  hby : by_ ≤ 128
  len : ∀ x, (C x).length = sz
  one : ∀ x, ∀ u ∈ C x, u.oneCell' = true

section
variable {α : Type} (E : Elem α)

def cellsG (l : List α) : List Value := l.flatMap E.C
theorem cellsG_append (a b : List α) : cellsG E (a ++ b) = cellsG E a ++ cellsG E b := by simp [cellsG]
theorem cellsG_len (l : List α) : (cellsG E l).length = l.length * E.sz := by
  induction l with
  | nil => simp [cellsG]
  | cons x l ih => simp only [cellsG, List.flatMap_cons, List.length_append, List.length_cons] at ih ⊢; rw [ih, E.len, Nat.succ_mul]; omega
theorem cellsG_onec (l : List α) : ∀ u ∈ cellsG E l, u.oneCell' = true := by
  intro u hu
  obtain ⟨x, _, h⟩ := List.mem_flatMap.1 hu
  exact E.one x u h
theorem cellsG_at (l : List α) (i j : Nat) (hi : i < l.length) (hj : j < E.sz) : (cellsG E l)[i * E.sz + j]? = (E.C l[i])[j]? := by
  induction l generalizing i with
  | nil => simp at hi
  | cons x l ih =>
    have e : cellsG E (x :: l) = E.C x ++ cellsG E l := by simp [cellsG]
    have hl := E.len x
    rw [e]
    match i with
    | 0 => rw [List.getElem?_append_left (by omega)]; simp
    | i + 1 =>
      have hm : (i + 1) * E.sz = i * E.sz + E.sz := Nat.succ_mul ..
      rw [List.getElem?_append_right (by omega)]
      have : (i + 1) * E.sz + j - (E.C x).length = i * E.sz + j := by omega
      rw [this, ih i (by simpa using hi)]; rfl

/-- The cells from the address on hold the elements l. -/
def Holds (w : World) (b o : Nat) (l : List α) : Prop := ∀ i (h : i < l.length) (j : Nat) (u : Value), (E.C l[i])[j]? = some u → w.cell? ⟨b, o + i * E.sz + j, none⟩ = some u
/-- A slice of this address, and of as many elements as l has, reads as l. -/
def Seen (w : World) (A : Option Addr) (l : List α) : Prop := 0 < l.length → ∃ b o, A = some ⟨b, o, none⟩ ∧ b < w.heap.size ∧ Holds E w b o l
variable {E}
theorem Holds.below {w w1 : World} {b o : Nat} {l : List α} (h : Holds E w b o l) (hb : Below w.heap.size w w1) (hlt : b < w.heap.size) : Holds E w1 b o l := by
  intro i hi j u hu
  rw [← h i hi j u hu]
  exact hb.cell (p := ⟨b, o + i * E.sz + j, none⟩) hlt
theorem Seen.below {w w1 : World} {A : Option Addr} {l : List α} (h : Seen E w A l) (hb : Below w.heap.size w w1) : Seen E w1 A l := by
  intro hl
  obtain ⟨b, o, rfl, hlt, hh⟩ := h hl
  exact ⟨b, o, rfl, Nat.lt_of_lt_of_le hlt hb.size, hh.below hb hlt⟩
theorem Seen.nil {w : World} {A : Option Addr} : Seen E w A [] := fun h => absurd h (Nat.lt_irrefl 0)
variable (E)

/-- The slice value v owns the elements l, in blocks from base on. -/
def Own (w : World) (base : Nat) (v : Value) (l : List α) : Prop := w.ownsRow base E.T E.sz v l.length (cellsG E l)
variable {E}
theorem Own.nil (w : World) (base : Nat) : Own E w base (.slice none 0 0) [] := ⟨by simp [cellsG], .inl ⟨rfl, rfl⟩⟩
theorem Own.alloc {w : World} {base : Nat} {v : Value} {l : List α} (h : Own E w base v l) (o : Obj) : Own E (w.alloc o) base v l := World.ownsRow.alloc h o
theorem Own.keep {w w1 : World} {base : Nat} {v : Value} {l : List α} (h : Own E w base v l) (hb : Below w.heap.size w w1) : Own E w1 base v l := by
  refine ⟨h.1, ?_⟩
  rcases h.2 with hn | ⟨g, cap, cur, rfl, hbg, hgg, rest⟩
  · exact .inl hn
  · refine .inr ⟨g, cap, cur, rfl, hbg, ?_, rest⟩
    rw [hb.block g (Array.getElem?_eq_some_iff.1 hgg).1]
    exact hgg
/-- What is owned is seen. -/
theorem Own.seen {w : World} {base : Nat} {v : Value} {l : List α} (h : Own E w base v l) : ∃ A cap, v = .slice A l.length cap ∧ l.length ≤ cap ∧ Seen E w A l := by
  rcases h.2 with ⟨rfl, hn⟩ | ⟨g, cap, cur, rfl, hbg, hgg, hnc, hcm, hcs, htk⟩
  · exact ⟨none, 0, by rw [hn], by omega, fun hl => by omega⟩
  · refine ⟨_, cap, rfl, hnc, fun hl => ⟨g, 0, rfl, (Array.getElem?_eq_some_iff.1 hgg).1, fun i hi j u hu => ?_⟩⟩
    have hj : j < E.sz := by rw [← E.len l[i]]; exact (List.getElem?_eq_some_iff.1 hu).1
    have hm : (i + 1) * E.sz ≤ l.length * E.sz := Nat.mul_le_mul_right _ hi
    rw [Nat.succ_mul] at hm
    rw [Nat.zero_add, World.ownsRow.cellAt h (i * E.sz + j) (by omega), cellsG_at E l i j hi hj, hu]

theorem add_off (b o j : Nat) : (⟨b, o, none⟩ : Addr).add j = ⟨b, o + j, none⟩ := by
  unfold Addr.add
  by_cases h : j = 0
  · subst h; rfl
  · rw [if_neg h]
theorem new_cellsG (T : TypeId) (w : World) (cs : Array Value) (news : List Value) (hcs : cs.toList = news) : ∀ j u, news[j]? = some u → (w.alloc (.cells cs T)).cell? ((⟨w.heap.size, 0, none⟩ : Addr).add j) = some u := by
  intro j u hj
  have e : cs[j]? = some u := by rw [← hj, ← hcs]; simp
  rw [← e, add_off, Nat.zero_add]
  exact World.cell?_alloc_mark w cs T (0, 0) j

/-- append of what is seen elsewhere. -/
theorem wp_appSrc (E : Elem α) {o : Oper} {a : Act} {K : Act → World → Prop} {Q : Exit → Act → World → Prop} (w : World) (s x : Operand)
    (ho : o.op = .call { callee := .builtin .append, args := #[s, x], argTypes := #[E.st, E.st] })
    (base : Nat) (v : Value) (l : List α) (hs : a.eval s = v) (hown : Own E w base v l) (b q : Nat) (l2 : List α) (m cap : Nat) (hm : l2.length = m)
    (hx : a.eval x = .slice (some ⟨b, q, none⟩) m cap) (hc : Holds E w b q l2) (hlen : l.length + m ≤ 1099511627776) (hb : base ≤ w.heap.size)
    (h : ∀ v' w', Own E w' base v' (l ++ l2) → Below base w w' → K (a.put o.dst v') w') : o.wp Try.prog a w K Q := by
  obtain ⟨i0, hi0, hz0, hz1, hz2⟩ := info_parts E.hin
  subst hm
  have hby := E.hby
  have hmul : (l.length + l2.length) * E.by_ ≤ 1099511627776 * 128 := Nat.mul_le_mul hlen hby
  refine wp_append_own w s x E.st ho base E.T i0 _ E.sz E.by_ E.hst hi0 hz0 hz1 hz2 E.hzs E.hsz v l.length (cellsG E l) hs hown ⟨b, q, none⟩ l2.length cap (cellsG E l2) hx
    (cellsG_len E l2) (fun j u hu => ?_) (cellsG_onec E _) (by unfold maxLen; omega) (by omega) hb ?_
  · have hj : j < l2.length * E.sz := by rw [← cellsG_len]; exact (List.getElem?_eq_some_iff.1 hu).1
    have hsz := E.hsz
    have hi : j / E.sz < l2.length := Nat.div_lt_of_lt_mul (by rw [Nat.mul_comm]; exact hj)
    have hr : j % E.sz < E.sz := Nat.mod_lt _ hsz
    have e : j / E.sz * E.sz + j % E.sz = j := by rw [Nat.mul_comm]; exact Nat.div_add_mod j E.sz
    rw [← e, cellsG_at E l2 _ _ hi hr] at hu
    have := hc _ hi _ u hu
    rw [show q + j / E.sz * E.sz + j % E.sz = q + j by omega] at this
    rw [add_off]; exact this
  · intro v' w' h1 h2 _
    refine h v' w' ?_ ?_
    · unfold Own; rw [cellsG_append, List.length_append]; exact h1
    · exact Below.grown (Below.refl _ _) h2 hb (fun k hk => (World.ownsRow.lt hown k hk).1)
theorem wp_appNone (E : Elem α) {o : Oper} {a : Act} {K : Act → World → Prop} {Q : Exit → Act → World → Prop} (w : World) (s x : Operand)
    (ho : o.op = .call { callee := .builtin .append, args := #[s, x], argTypes := #[E.st, E.st] })
    (base : Nat) (v : Value) (l : List α) (hs : a.eval s = v) (hown : Own E w base v l) (hx : a.eval x = .slice none 0 0)
    (h : K (a.put o.dst v) w) : o.wp Try.prog a w K Q := by
  obtain ⟨i0, hi0, hz0, hz1, hz2⟩ := info_parts E.hin
  have hr := run_append_owned_none (P := Try.prog) w base E.st o.type E.T i0 E.sz E.hst hi0 v l.length (cellsG E l) hown
  unfold Oper.wp execOp
  simp only [ho, resolve, invoke, builtin, Sem.run_bind, Sem.run_pure, Result.andThen_ok, List.map_toArray, List.map_cons, List.map_nil, hs, hx, hr]
  exact h
/-- append of one. -/
theorem wp_appG (E : Elem α) {o : Oper} {a : Act} {K : Act → World → Prop} {Q : Exit → Act → World → Prop} (w : World) (s x : Operand)
    (ho : o.op = .call { callee := .builtin .append, args := #[s, x], argTypes := #[E.st, E.st] })
    (base : Nat) (v : Value) (l : List α) (hs : a.eval s = v) (hown : Own E w base v l) (t : α) (cap : Nat) (cs : Array Value) (hcs : cs.toList = E.C t)
    (g : Nat) (hg : w.heap.size = g) (hx : a.eval x = .slice (some ⟨g, 0, none⟩) 1 cap) (hlen : l.length + 1 ≤ 1099511627776) (hb : base ≤ w.heap.size)
    (h : ∀ v' w', Own E w' base v' (l ++ [t]) → Below base w w' → K (a.put o.dst v') w') : o.wp Try.prog a (w.alloc (.cells cs E.T)) K Q := by
  subst hg
  refine wp_appSrc E _ s x ho base v l hs (World.ownsRow.alloc hown _) w.heap.size 0 [t] 1 cap rfl hx (fun i hi j u hu => ?_) hlen (by simp; omega) fun v' w' h1 h2 => h v' w' h1 (((Below.refl _ _).alloc hb _).trans h2)
  have hi0 : i = 0 := by simpa using hi
  subst hi0
  have := new_cellsG E.T w cs (E.C t) hcs j u hu
  rw [add_off, Nat.zero_add] at this
  rw [← this]; congr 2; omega
theorem wpList_appG (E : Elem α) {ops : Array Oper} {rest : List Oper} {o : Oper} {a : Act} {Q : Exit → Act → World → Prop} (w : World) (hgd : o.guard = none) (s x : Operand)
    (ho : o.op = .call { callee := .builtin .append, args := #[s, x], argTypes := #[E.st, E.st] })
    (base : Nat) (v : Value) (l : List α) (hs : a.eval s = v) (hown : Own E w base v l) (t : α) (cap : Nat) (cs : Array Value) (hcs : cs.toList = E.C t)
    (g : Nat) (hg : w.heap.size = g) (hx : a.eval x = .slice (some ⟨g, 0, none⟩) 1 cap) (hlen : l.length + 1 ≤ 1099511627776) (hb : base ≤ w.heap.size)
    (h : ∀ v' w', Own E w' base v' (l ++ [t]) → Below base w w' → wpList Try.prog ops Q rest (a.put o.dst v') w') : wpList Try.prog ops Q (o :: rest) a (w.alloc (.cells cs E.T)) :=
  wpList_plain hgd fun _ hK => wp_appG E w s x ho base v l hs hown t cap cs hcs g hg hx hlen hb fun v' w' h1 h2 => hK _ _ (h v' w' h1 h2)
theorem wpList_appNone (E : Elem α) {ops : Array Oper} {rest : List Oper} {o : Oper} {a : Act} {Q : Exit → Act → World → Prop} (w : World) (hgd : o.guard = none) (s x : Operand)
    (ho : o.op = .call { callee := .builtin .append, args := #[s, x], argTypes := #[E.st, E.st] })
    (base : Nat) (v : Value) (l : List α) (hs : a.eval s = v) (hown : Own E w base v l) (hx : a.eval x = .slice none 0 0)
    (h : wpList Try.prog ops Q rest (a.put o.dst v) w) : wpList Try.prog ops Q (o :: rest) a w :=
  wpList_plain hgd fun _ hK => wp_appNone E w s x ho base v l hs hown hx (hK _ _ h)
end

def TrueS (w : World) (e : Ending) (w' : World) : Prop := e = .returned (.bool true) ∧ Below w.heap.size w w'
def BoolS (w : World) (b : Bool) (e : Ending) (w' : World) : Prop := e = .returned (.bool b) ∧ Below w.heap.size w w'
theorem bthen {a b c : World} (h : Below a.heap.size a b) (k : Below b.heap.size b c) : Below a.heap.size a c := h.trans (k.mono h.size)
end Go.Proofs.Ytpkhnchbamjgjaa

namespace Go.Proofs.Ytpkhnchbamjgjaa.T

structure Ln where
  depth : Int
  word : List UInt8
  mark : Int

def L0 : Ln := ⟨0, [], 0⟩
def at_ (t : List Ln) (i : Nat) : Ln := t.getD i L0
def dp (t : List Ln) (i : Nat) : Int := (at_ t i).depth
def wd (t : List Ln) (i : Nat) : List UInt8 := (at_ t i).word

/-- The last of the first n lines that has a lower depth than d; -1: there is none. -/
def underF (t : List Ln) (d : Int) : Nat → Int
  | 0 => -1
  | k + 1 => if dp t k < d then (k : Int) else underF t d k
def underL (t : List Ln) (i : Nat) : Int := underF t (dp t i) i
/-- Behind a part. -/
def endL (t : List Ln) (i : Nat) : Nat := i + 1 + ((t.drop (i + 1)).takeWhile fun x => decide (dp t i < x.depth)).length
def pathF (t : List Ln) : Nat → Int → List (List UInt8)
  | 0, _ => []
  | f + 1, i => if i < 0 then [] else pathF t f (underL t i.toNat) ++ [wd t i.toNat]
def pathL (t : List Ln) (i : Nat) : List (List UInt8) := pathF t (i + 1) i

/-- A tree. -/
structure RightN (N : Nat) (t : List Ln) : Prop where
  len : t.length ≤ N
  deep : ∀ i, i < t.length → 0 ≤ dp t i ∧ dp t i ≤ 15
  long : ∀ i, i < t.length → (wd t i).length ≤ 40
  mark : ∀ i, i < t.length → 0 ≤ (at_ t i).mark ∧ (at_ t i).mark ≤ 3
  first : 0 < t.length → dp t 0 = 0
  step : ∀ i, i + 1 < t.length → dp t (i + 1) ≤ dp t i + 1
  rise : ∀ i k, i < k → k < t.length → dp t k = dp t i → (∀ j, i < j → j < k → dp t i ≤ dp t j) → Op.bytesLess (wd t i) (wd t k) = true
/-- A tree of at most 200 lines. -/
abbrev RightT (t : List Ln) : Prop := RightN 200 t

theorem less_irr : ∀ l : List UInt8, Op.bytesLess l l = false
  | [] => by simp [Op.bytesLess]
  | c :: l => by simp [Op.bytesLess, less_irr l]

end Go.Proofs.Ytpkhnchbamjgjaa.T

namespace Go.Proofs.Ytpkhnchbamjgjaa.T

theorem less_trans : ∀ a b c : List UInt8, Op.bytesLess a b = true → Op.bytesLess b c = true → Op.bytesLess a c = true
  | _, [], _, h, _ => by simp [Op.bytesLess] at h
  | _, _ :: _, [], _, h => by simp [Op.bytesLess] at h
  | [], _ :: _, _ :: _, _, _ => by simp [Op.bytesLess]
  | x :: a, y :: b, z :: c, h1, h2 => by
    simp only [Op.bytesLess, Bool.or_eq_true, decide_eq_true_eq, Bool.and_eq_true, beq_iff_eq, UInt8.lt_iff_toNat_lt] at h1 h2 ⊢
    rcases h1 with h1 | ⟨rfl, h1⟩
    · rcases h2 with h2 | ⟨rfl, h2⟩
      · exact .inl (by omega)
      · exact .inl h1
    · rcases h2 with h2 | ⟨rfl, h2⟩
      · exact .inl h2
      · exact .inr ⟨rfl, less_trans a b c h1 h2⟩
theorem less_tri : ∀ a b : List UInt8, Op.bytesLess a b = true ∨ a = b ∨ Op.bytesLess b a = true
  | [], [] => .inr (.inl rfl)
  | [], _ :: _ => .inl (by simp [Op.bytesLess])
  | _ :: _, [] => .inr (.inr (by simp [Op.bytesLess]))
  | x :: a, y :: b => by
    simp only [Op.bytesLess, Bool.or_eq_true, decide_eq_true_eq, Bool.and_eq_true, beq_iff_eq, UInt8.lt_iff_toNat_lt, List.cons.injEq]
    rcases Nat.lt_trichotomy x.toNat y.toNat with h | h | h
    · exact .inl (.inl h)
    · obtain rfl := UInt8.toNat_inj.1 h
      rcases less_tri a b with h | rfl | h
      · exact .inl (.inr ⟨rfl, h⟩)
      · exact .inr (.inl ⟨rfl, rfl⟩)
      · exact .inr (.inr (.inr ⟨rfl, h⟩))
    · exact .inr (.inr (.inl h))
theorem less_asymm {a b : List UInt8} (h : Op.bytesLess a b = true) : Op.bytesLess b a = false := by
  cases h2 : Op.bytesLess b a with
  | false => rfl
  | true => have := less_trans a b a h h2; rw [less_irr] at this; cases this

/-- A part, as lines of its own. -/
def subL (t : List Ln) (i : Nat) : List Ln := ((t.drop i).take (endL t i - i)).map fun x => ⟨x.depth - dp t i, x.word, x.mark⟩
end Go.Proofs.Ytpkhnchbamjgjaa.T

namespace Go.Proofs.Ytpkhnchbamjgjaa.T

end Go.Proofs.Ytpkhnchbamjgjaa.T

namespace Go.Proofs.Ytpkhnchbamjgjaa.T

def kidsL (t : List Ln) (i : Int) : List Nat := (List.range t.length).filter fun k => underL t k == i
def leafB (t : List Ln) (i : Nat) : Bool := endL t i == i + 1
def leavesL (t : List Ln) : List Nat := (List.range t.length).filter (leafB t)
/-- How many of the first n lines have nothing under them. -/
def leafN (t : List Ln) (n : Nat) : Nat := ((List.range n).filter (leafB t)).length
end Go.Proofs.Ytpkhnchbamjgjaa.T

namespace Go.Proofs.Ytpkhnchbamjgjaa.T

end Go.Proofs.Ytpkhnchbamjgjaa.T

namespace Go.Proofs.Ytpkhnchbamjgjaa.T

/-- The path of a line, or of none. -/
def pathI (t : List Ln) (j : Int) : List (List UInt8) := if j < 0 then [] else pathL t j.toNat
end Go.Proofs.Ytpkhnchbamjgjaa.T

namespace Go.Proofs.Ytpkhnchbamjgjaa.T

end Go.Proofs.Ytpkhnchbamjgjaa.T

namespace Go.Proofs.Ytpkhnchbamjgjaa.T

abbrev Pth := List (List UInt8)
/-- The order of paths: word by word, a beginning ahead of what goes on. -/
def pless : Pth → Pth → Bool
  | [], [] => false
  | [], _ :: _ => true
  | _ :: _, [] => false
  | a :: p, b :: q => Op.bytesLess a b || (a == b && pless p q)
/-- A tree, as its paths and marks, in order. -/
def entries (t : List Ln) : List (Pth × Int) := (List.range t.length).map fun i => (pathL t i, (at_ t i).mark)
/-- Entries in order, each path once. -/
def Sorted (l : List (Pth × Int)) : Prop := ∀ i k (hk : k < l.length) (hik : i < k), pless (l[i]'(by omega)).1 l[k].1 = true
end Go.Proofs.Ytpkhnchbamjgjaa.T

namespace Go.Proofs.Ytpkhnchbamjgjaa.T

/-- The lines of paths and marks. -/
def lnOf (x : Pth × Int) : Ln := ⟨(x.1.length : Int) - 1, x.1.getLastD [], x.2⟩
/-- Paths in order, each with its beginnings, and within bounds. -/
structure GoodP (N : Nat) (l : List (Pth × Int)) : Prop where
  len : l.length ≤ N
  sorted : Sorted l
  ne : ∀ x ∈ l, x.1 ≠ []
  deep : ∀ x ∈ l, x.1.length ≤ 16
  long : ∀ x ∈ l, (x.1.getLastD []).length ≤ 40
  mark : ∀ x ∈ l, 0 ≤ x.2 ∧ x.2 ≤ 3
  closed : ∀ x ∈ l, ∀ q w, x.1 = q ++ [w] → q ≠ [] → ∃ m, (q, m) ∈ l

end Go.Proofs.Ytpkhnchbamjgjaa.T

namespace Go.Proofs.Ytpkhnchbamjgjaa.T

def insP (l : List (Pth × Int)) (at' : Nat) (x : Pth × Int) : List (Pth × Int) := l.take at' ++ x :: l.drop at'
theorem mem_ins (l : List (Pth × Int)) (at' : Nat) (x y : Pth × Int) : y ∈ insP l at' x ↔ y = x ∨ y ∈ l := by
  unfold insP
  rw [List.mem_append, List.mem_cons]
  constructor
  · rintro (h | h | h)
    · exact .inr (List.mem_of_mem_take h)
    · exact .inl h
    · exact .inr (List.mem_of_mem_drop h)
  · rintro (h | h)
    · exact .inr (.inl h)
    · rw [← List.take_append_drop at' l, List.mem_append] at h
      rcases h with h | h
      · exact .inl h
      · exact .inr (.inr h)
/-- A line put among those of a tree. -/
def putT (t : List Ln) (at' : Nat) (x : Pth × Int) : List Ln := t.take at' ++ lnOf x :: t.drop at'
/-- Where a part ends, also that of none. -/
def endI (t : List Ln) (up : Int) : Nat := if up < 0 then t.length else endL t up.toNat
end Go.Proofs.Ytpkhnchbamjgjaa.T

namespace Go.Proofs.Ytpkhnchbamjgjaa
open Go.ChangeShapes Go.WideShapes Go.ChangeAt Go.RowKit

/-- A word as the program has it. -/
def sB (l : List UInt8) : ByteArray := ⟨l.toArray⟩
theorem sB_size (l : List UInt8) : (sB l).size = l.length := by simp [sB, ByteArray.size]
theorem sB_data (l : List UInt8) : (sB l).data.toList = l := by simp [sB]
theorem sB_of (s : ByteArray) : sB s.data.toList = s := by simp [sB]
theorem sB_toList (l : List UInt8) : (sB l).toList = l := by rw [ByteArray.toList_eq, sB_data]
theorem sB_eq {a b : List UInt8} (h : a = b) : ((sB a).toList == (sB b).toList) = true := by rw [h]; simp
theorem sB_ne {a b : List UInt8} (h : a ≠ b) : ((sB a).toList == (sB b).toList) = false := by rw [sB_toList, sB_toList]; exact beq_eq_false_iff_ne.2 h
def eI : Elem Nat where
  st := 90
  T := 3
  sz := 1
  zero := .int .i64 0
  by_ := 8
  C := fun n => [.int .i64 (n : Int)]
  hst := Try.underlying90
  hin := by kernel_rfl
  hzs := rfl
  hsz := by decide
  hby := by decide
  len := fun _ => rfl
  one := fun x u hu => by simp at hu; subst hu; rfl
def eS : Elem (List UInt8) where
  st := 37
  T := 9
  sz := 1
  zero := .string ⟨#[]⟩
  by_ := 16
  C := fun s => [.string (sB s)]
  hst := Try.underlying37
  hin := by kernel_rfl
  hzs := rfl
  hsz := by decide
  hby := by decide
  len := fun _ => rfl
  one := fun x u hu => by simp at hu; subst hu; rfl

theorem Holds.str {w : World} {b o : Nat} {l : List (List UInt8)} (h : Holds eS w b o l) {i : Nat} (hi : i < l.length) : w.cell? ⟨b, o + i, none⟩ = some (.string (sB l[i])) := by
  have := h i hi 0 _ rfl
  simpa [eS] using this

theorem Try.cellsInt : Try.prog.cellsOf 3 = 1 := by kernel_rfl
end Go.Proofs.Ytpkhnchbamjgjaa

namespace Go.Proofs.Ytpkhnchbamjgjaa
open Go.RowKit

end Go.Proofs.Ytpkhnchbamjgjaa

namespace Go.Proofs.Ytpkhnchbamjgjaa
open Go.RowKit

end Go.Proofs.Ytpkhnchbamjgjaa

namespace Go.Proofs.Ytpkhnchbamjgjaa
open Go.RowKit

theorem equal_short (A B : Option Addr) (c d n m : Nat) (w : World) (h : n ≠ m) :
    Calls Try.prog 20 #[.slice A n c, .slice B m d] w (BoolS w false) := by
  have b : ((n : Int) != (m : Int)) = true := by simp; omega
  go_enter Try.func20, Try.ntmps20
  go_wp2
  go_ret
  exact ⟨rfl, Below.refl _ _⟩
theorem take_next {l1 l2 : List (List UInt8)} {k : Nat} (h : l1.take k = l2.take k) (h1 : k < l1.length) (h2 : k < l2.length) (e : l1[k] = l2[k]) : l1.take (k + 1) = l2.take (k + 1) := by
  rw [List.take_succ_eq_append_getElem h1, List.take_succ_eq_append_getElem h2, h, e]
theorem equal_long (A B : Option Addr) (c d : Nat) (l1 l2 : List (List UInt8)) (n : Nat) (w : World) (hl : n ≤ 1073741824) (hA : Seen eS w A l1) (hB : Seen eS w B l2) (h1 : l1.length = n) (h2 : l2.length = n) :
    Calls Try.prog 20 #[.slice A n c, .slice B n d] w (BoolS w (decide (l1 = l2))) := by
  have HA := Lib.hid hA
  have HB := Lib.hid hB
  have H1 := Lib.hid h1
  have H2 := Lib.hid h2
  clear hA hB h1 h2
  go_enter Try.func20, Try.ntmps20
  go_wp2
  go_loopg [5] n (fun g i wr => ∃ k : Nat, Hid (k + g = n) ∧ k ≤ n ∧ i = .int .i64 k ∧ Hid (l1.take k = l2.take k) ∧ Below w.heap.size w wr)
  case atStart => exact ⟨0, Nat.zero_add _, Nat.zero_le _, rfl, rfl, Below.refl _ _⟩
  case round =>
    obtain ⟨k, HG, hk, rfl, HI, hb⟩ := hrel
    by_cases hlt : k < n
    · have hk1 : k < l1.length := by have := H1.out; omega
      have hk2 : k < l2.length := by have := H2.out; omega
      obtain ⟨b1, o1, rfl, hw1, hL1⟩ := HA.out (by omega)
      obtain ⟨b2, o2, rfl, hw2, hL2⟩ := HB.out (by omega)
      have c1 := (hL1.below hb hw1).str hk1
      have c2 := (hL2.below hb hw2).str hk2
      by_cases he : l1[k] = l2[k]
      · have HN := Lib.hid (take_next HI.out hk1 hk2 he)
        rw [← he] at c2
        clear he
        go_wp2
        go_region
        go_wp2
        go_roundg (n - (k + 1))
        case rel => exact ⟨k + 1, (by show _ = _; omega), by omega, by go_num, HN, hb.drew⟩
        case measure => have := HG.out; omega
      · have hne := sB_ne he
        have HN := Lib.hid (show decide (l1 = l2) = false from decide_eq_false fun e => he (by subst e; rfl))
        clear he
        go_wp2
        go_region
        go_wp2
        go_ret
        rw [HN.out]
        exact ⟨rfl, hb.drew⟩
    · have HN := Lib.hid (show decide (l1 = l2) = true from decide_eq_true (by
        have := HI.out
        rwa [List.take_of_length_le (by have := H1.out; omega), List.take_of_length_le (by have := H2.out; omega)] at this))
      go_wp2
      go_ret
      rw [HN.out]
      exact ⟨rfl, hb⟩
theorem equal_any (A B : Option Addr) (c d : Nat) (l1 l2 : List (List UInt8)) (w : World) (hl : l1.length ≤ 1073741824) (hA : Seen eS w A l1) (hB : Seen eS w B l2) :
    Calls Try.prog 20 #[.slice A l1.length c, .slice B l2.length d] w (BoolS w (decide (l1 = l2))) := by
  by_cases h : l1.length = l2.length
  · rw [← h]; exact equal_long A B c d l1 l2 l1.length w hl hA hB rfl h.symm
  · have e : decide (l1 = l2) = false := decide_eq_false fun e => h (by rw [e])
    rw [e]; exact equal_short A B c d _ _ w h
theorem equal_yes (A B : Option Addr) (c d : Nat) (l1 l2 : List (List UInt8)) (n m : Nat) (w : World) (e : l1 = l2) (hn : l1.length = n) (hm : l2.length = m) (hl : n ≤ 1073741824) (hA : Seen eS w A l1) (hB : Seen eS w B l2) :
    Calls Try.prog 20 #[.slice A n c, .slice B m d] w (TrueS w) := by
  have := equal_any A B c d l1 l2 w (by omega) hA hB
  rw [decide_eq_true e, hn, hm] at this
  exact this
end Go.Proofs.Ytpkhnchbamjgjaa

namespace Go.Proofs.Ytpkhnchbamjgjaa
open Go.RowKit

/-- A comparison of words, as the walk asks it. -/
theorem leq_no {a b : List UInt8} (h : Op.bytesLess b a = true) : Op.bytesLess (sB a).toList (sB b).toList = false ∧ ((sB a).toList == (sB b).toList) = false := by
  rw [sB_toList, sB_toList]
  exact ⟨T.less_asymm h, beq_eq_false_iff_ne.2 fun e => by subst e; rw [T.less_irr] at h; cases h⟩
end Go.Proofs.Ytpkhnchbamjgjaa

namespace Go.Proofs.Ytpkhnchbamjgjaa
open Go.RowKit

theorem wrapI (n : Int) (h : -9223372036854775808 ≤ n ∧ n ≤ 9223372036854775807) : IntKind.i64.wrap n = n := IntWalk.i64_in _ (by omega)
end Go.Proofs.Ytpkhnchbamjgjaa

namespace Go.Proofs.Ytpkhnchbamjgjaa
open Go.RowKit

end Go.Proofs.Ytpkhnchbamjgjaa

namespace Go.Proofs.Ytpkhnchbamjgjaa
open Go.RowKit

end Go.Proofs.Ytpkhnchbamjgjaa

namespace Go.Proofs.Ytpkhnchbamjgjaa
open Go.RowKit

end Go.Proofs.Ytpkhnchbamjgjaa

namespace Go.Proofs.Ytpkhnchbamjgjaa
open Go.RowKit

end Go.Proofs.Ytpkhnchbamjgjaa

namespace Go.Proofs.Ytpkhnchbamjgjaa
open Go.RowKit

end Go.Proofs.Ytpkhnchbamjgjaa

namespace Go.Proofs.Ytpkhnchbamjgjaa
open Go.RowKit

theorem Own.base {α : Type} {E : Elem α} {w : World} {b1 b2 : Nat} {v : Value} {l : List α} (h : Own E w b1 v l) (hb : b2 ≤ b1) : Own E w b2 v l := by
  refine ⟨h.1, ?_⟩
  rcases h.2 with hn | ⟨g, cap, cur, rfl, hbg, rest⟩
  · exact .inl hn
  · exact .inr ⟨g, cap, cur, rfl, Nat.le_trans hb hbg, rest⟩
end Go.Proofs.Ytpkhnchbamjgjaa

namespace Go.Proofs.Ytpkhnchbamjgjaa
open Go.RowKit

end Go.Proofs.Ytpkhnchbamjgjaa

namespace Go.Proofs.Ytpkhnchbamjgjaa.T
end Go.Proofs.Ytpkhnchbamjgjaa.T
namespace Go.Proofs.Ytpkhnchbamjgjaa
open Go.RowKit

end Go.Proofs.Ytpkhnchbamjgjaa

namespace Go.Proofs.Ytpkhnchbamjgjaa
open Go.RowKit

theorem lit_seen {α : Type} (E : Elem α) (w : World) (l : List α) (cs : Array Value) (h : cs.toList = cellsG E l) (hl : l.length ≤ 1000) : Seen E (w.alloc (.cells cs E.T)) (some ⟨w.heap.size, 0, none⟩) l := by
  have h1 : cs.size = l.length * E.sz := by rw [← cellsG_len, ← h, Array.length_toList]
  have := World.ownsRow_lit (base := 0) (e := E.T) (size := E.sz) w cs l.length (Nat.zero_le _) (by unfold maxLen; omega) h1
  rw [h] at this
  obtain ⟨A, cap, e, _, hs⟩ := Own.seen (E := E) this
  injection e with e1 e2 e3
  subst e1
  exact hs
theorem up (w : World) (o : Obj) : Below w.heap.size w (w.alloc o) := (Below.refl _ _).alloc (Nat.le_refl _) o

end Go.Proofs.Ytpkhnchbamjgjaa

namespace Go.Proofs.Ytpkhnchbamjgjaa
open Go.RowKit

end Go.Proofs.Ytpkhnchbamjgjaa

namespace Go.Proofs.Ytpkhnchbamjgjaa.W

/-- May a byte stand in a plain word? -/
def plainB (c : UInt8) : Bool :=
  decide (97 ≤ c.toNat ∧ c.toNat ≤ 122 ∨ 65 ≤ c.toNat ∧ c.toNat ≤ 90 ∨ 48 ≤ c.toNat ∧ c.toNat ≤ 57 ∨ c.toNat = 45 ∨ c.toNat = 95 ∨ c.toNat = 46 ∨ c.toNat = 47 ∨ c.toNat = 58 ∨ c.toNat = 42)
/-- Does a byte stand for itself between two quotes (or need a backslash)? -/
def shownB (c : UInt8) : Bool := decide (32 ≤ c.toNat ∧ c.toNat ≤ 126)
def allPlainL (l : List UInt8) : Bool := l.all plainB && !l.isEmpty
def inactiveL : List UInt8 := [105, 110, 97, 99, 116, 105, 118, 101, 58]
def protectL : List UInt8 := [112, 114, 111, 116, 101, 99, 116, 58]
def reservedL (l : List UInt8) : Bool := l == inactiveL || l == protectL || Lib.hasPrefix l [47, 42]
def bareL (l : List UInt8) : Bool := allPlainL l && !reservedL l
def hexD (n : Nat) : UInt8 := if n < 10 then (48 + n).toUInt8 else (87 + n).toUInt8
/-- A byte, as it is written between two quotes. -/
def encB (c : UInt8) : List UInt8 :=
  if c == 34 || c == 92 then [92, c] else if shownB c then [c] else [92, 120, hexD (c.toNat / 16), hexD (c.toNat % 16)]
def encL (l : List UInt8) : List UInt8 := l.flatMap encB
def quotedL (l : List UInt8) : List UInt8 := 34 :: (encL l ++ [34])
def quoteL (l : List UInt8) : List UInt8 := if bareL l then l else quotedL l

end Go.Proofs.Ytpkhnchbamjgjaa.W

namespace Go.Proofs.Ytpkhnchbamjgjaa.W

/-- The bytes from here on, up to the quote that ends, with that. -/
def quotedRun : List UInt8 → Option Nat
  | [] => none
  | [c] => if c.toNat = 34 then some 1 else none
  | c :: d :: l => if c.toNat = 34 then some 1 else if c.toNat = 92 then (quotedRun l).map (· + 2) else (quotedRun (d :: l)).map (· + 1)
def plainRun (l : List UInt8) : Nat := (l.takeWhile plainB).length
/-- The length of the word at the front. -/
def scanD : List UInt8 → Option Nat
  | [] => none
  | c :: r => if c.toNat = 34 then (quotedRun r).map (· + 1) else if plainRun (c :: r) = 0 then none else some (plainRun (c :: r))
def hexV (c : UInt8) : Int := Lib.indexByte [48, 49, 50, 51, 52, 53, 54, 55, 56, 57, 97, 98, 99, 100, 101, 102] c
def codedD : List UInt8 → Option UInt8
  | h :: l :: _ => if hexV h < 0 ∨ hexV l < 0 then none else some (hexV h * 16 + hexV l).toNat.toUInt8
  | _ => none
/-- What the byte at the front of a quoted text means, and how many bytes say it. -/
def oneD : List UInt8 → Option (UInt8 × Nat)
  | [] => none
  | c :: r => if c.toNat = 34 ∨ shownB c = false then none else if c.toNat ≠ 92 then some (c, 1) else
    match r with
    | [] => none
    | e :: r' => if e.toNat = 34 ∨ e.toNat = 92 then some (e, 2) else if e.toNat = 120 then (codedD r').map (·, 4) else none
def decF : Nat → List UInt8 → Option (List UInt8)
  | 0, _ => some []
  | _ + 1, [] => some []
  | f + 1, c :: r => match oneD (c :: r) with
    | none => none
    | some (b, n) => (decF f ((c :: r).drop n)).map (b :: ·)
def decL (l : List UInt8) : Option (List UInt8) := decF l.length l

def meantL (l : List UInt8) : Option (List UInt8) :=
  if allPlainL l = true then (if reservedL l = true then none else some l)
  else if l.length < 2 ∨ l.head? ≠ some 34 ∨ l.getLast? ≠ some 34 then none
  else decL ((l.drop 1).take (l.length - 2))
/-- The word of a text, and the error's number. -/
def unqL (l : List UInt8) : List UInt8 × Int :=
  match meantL l with
  | none => ([], 2)
  | some s => if 40 < s.length then ([], 5) else (s, 0)

end Go.Proofs.Ytpkhnchbamjgjaa.W

namespace Go.Proofs.Ytpkhnchbamjgjaa.W

theorem codedD_len {l : List UInt8} {b : UInt8} (h : codedD l = some b) : 2 ≤ l.length := by
  match l, h with
  | _ :: _ :: r, _ => simp
theorem oneD_pos {l : List UInt8} {b : UInt8} {n : Nat} (h : oneD l = some (b, n)) : 1 ≤ n ∧ n ≤ 4 ∧ n ≤ l.length := by
  match l, h with
  | c :: r, h =>
    simp only [oneD] at h
    split at h
    · cases h
    · split at h
      · injection h with h; injection h with _ h; subst h; simp
      · match r, h with
        | e :: r', h =>
          simp only at h
          split at h
          · injection h with h; injection h with _ h; subst h; simp
          · split at h
            · cases hc : codedD r' with
              | none => rw [hc] at h; cases h
              | some x =>
                have := codedD_len hc
                rw [hc] at h; injection h with h; injection h with _ h; subst h; simp; omega
            · cases h
theorem decF_fuel : ∀ (f g : Nat) (l : List UInt8), l.length ≤ f → l.length ≤ g → decF f l = decF g l
  | 0, g, l, hf, _ => by
    have : l = [] := List.eq_nil_of_length_eq_zero (by omega)
    subst this; cases g <;> rfl
  | f + 1, 0, l, _, hg => by
    have : l = [] := List.eq_nil_of_length_eq_zero (by omega)
    subst this; rfl
  | f + 1, g + 1, [], _, _ => rfl
  | f + 1, g + 1, c :: r, hf, hg => by
    simp only [decF]
    cases h : oneD (c :: r) with
    | none => rfl
    | some p =>
      obtain ⟨b, n⟩ := p
      have hn := oneD_pos h
      simp only []
      rw [decF_fuel f g]
      · simp only [List.length_drop, List.length_cons] at hf ⊢; omega
      · simp only [List.length_drop, List.length_cons] at hg ⊢; omega
theorem decL_nil : decL [] = some [] := rfl
theorem decL_none {l : List UInt8} (hl : l ≠ []) (h : oneD l = none) : decL l = none := by
  match l, hl, h with
  | c :: r, _, h => simp only [decL, List.length_cons, decF, h]
theorem decL_some {l : List UInt8} {b : UInt8} {n : Nat} (h : oneD l = some (b, n)) : decL l = (decL (l.drop n)).map (b :: ·) := by
  match l, h with
  | c :: r, h =>
    have hn := oneD_pos h
    simp only [decL, List.length_cons, decF, h]
    rw [decF_fuel r.length ((c :: r).drop n).length]
    · simp only [List.length_drop, List.length_cons]; omega
    · exact Nat.le_refl _
theorem decL_len : ∀ (f : Nat) (l x : List UInt8), l.length ≤ f → decL l = some x → x.length ≤ l.length
  | f, [], x, _, h => by rw [decL_nil] at h; injection h with h; subst h; simp
  | 0, c :: r, x, hf, _ => by simp at hf
  | f + 1, c :: r, x, hf, h => by
    cases ho : oneD (c :: r) with
    | none => rw [decL_none (by simp) ho] at h; cases h
    | some p =>
      obtain ⟨b, n⟩ := p
      have hn := oneD_pos ho
      rw [decL_some ho] at h
      cases hd : decL ((c :: r).drop n) with
      | none => rw [hd] at h; cases h
      | some y =>
        rw [hd] at h
        injection h with h
        subst h
        have := decL_len f _ y (by simp only [List.length_drop, List.length_cons] at hf ⊢; omega) hd
        simp only [List.length_drop, List.length_cons] at this ⊢
        omega
end Go.Proofs.Ytpkhnchbamjgjaa.W

namespace Go.Proofs.Ytpkhnchbamjgjaa.W

end Go.Proofs.Ytpkhnchbamjgjaa.W

namespace Go.Proofs.Ytpkhnchbamjgjaa.W

structure Tok where
  kind : Int
  pos : Nat
  word : List UInt8
  bit : Int

inductive Step where
  | skip (n : Nat)
  | tok (k : Int) (w : List UInt8) (b : Int) (n : Nat)
  | bad (e : Int)

inductive Res where
  | ok (l : List Tok)
  | bad (p : Nat) (e : Int)

/-- Tokens ahead of a result. -/
def Res.pre (a : List Tok) : Res → Res | .ok l => .ok (a ++ l) | .bad p e => .bad p e
def blankB (c : UInt8) : Bool := decide (c.toNat = 32 ∨ c.toNat = 9 ∨ c.toNat = 10 ∨ c.toNat = 13)
def signK (c : UInt8) : Int := if c.toNat = 123 then 2 else if c.toNat = 125 then 3 else if c.toNat = 59 then 4 else 0
def markK (l : List UInt8) : Int := if l == inactiveL then 1 else if l == protectL then 2 else 0
def lineB (c : UInt8) : Bool := decide (c.toNat ≠ 10)
/-- So many bytes stand ahead of the next byte 10, or of the end. -/
def lineRun (l : List UInt8) : Nat := (l.takeWhile lineB).length
/-- So many bytes up to the next star and slash, with these. -/
def starEnd : List UInt8 → Option Nat
  | [] => none
  | [_] => none
  | c :: d :: l => if c.toNat = 42 ∧ d.toNat = 47 then some 2 else (starEnd (d :: l)).map (· + 1)
/-- What is left off at the front: none for a comment without an end. -/
def gapO : List UInt8 → Option Nat
  | [] => some 0
  | c :: r => if blankB c = true then some 1 else if c.toNat = 35 then some (lineRun (c :: r))
    else if Lib.hasPrefix (c :: r) [47, 42] = true then (starEnd (r.drop 1)).map (· + 2) else some 0
/-- The token at the front. -/
def takeD (l : List UInt8) : Step :=
  if signK (l.headD 0) ≠ 0 then .tok (signK (l.headD 0)) [] 0 1 else
  match scanD l with
  | none => .bad 2
  | some n => if markK (l.take n) ≠ 0 then .tok 5 [] (markK (l.take n)) n
    else if (unqL (l.take n)).2 ≠ 0 then .bad (unqL (l.take n)).2 else .tok 1 (unqL (l.take n)).1 0 n
def stepD (l : List UInt8) : Step :=
  match gapO l with
  | none => .bad 2
  | some 0 => takeD l
  | some (n + 1) => .skip (n + 1)

def lexF : Nat → Nat → List UInt8 → Res
  | 0, _, _ => .ok []
  | _ + 1, _, [] => .ok []
  | f + 1, p, c :: r => match stepD (c :: r) with
    | .skip n => lexF f (p + n) ((c :: r).drop n)
    | .tok k w b n => (lexF f (p + n) ((c :: r).drop n)).pre [⟨k, p, w, b⟩]
    | .bad e => .bad p e
/-- The tokens of a text whose first byte has the place p. -/
def lexL (p : Nat) (l : List UInt8) : Res := lexF l.length p l

/-- No plain byte stands at the front. -/
def stops (r : List UInt8) : Prop := ∀ c, r.head? = some c → plainB c = false
end Go.Proofs.Ytpkhnchbamjgjaa.W

namespace Go.Proofs.Ytpkhnchbamjgjaa.W

end Go.Proofs.Ytpkhnchbamjgjaa.W

namespace Go.Proofs.Ytpkhnchbamjgjaa.W

end Go.Proofs.Ytpkhnchbamjgjaa.W

namespace Go.Proofs.Ytpkhnchbamjgjaa.W

end Go.Proofs.Ytpkhnchbamjgjaa.W

namespace Go.Proofs.Ytpkhnchbamjgjaa.W

end Go.Proofs.Ytpkhnchbamjgjaa.W

namespace Go.Proofs.Ytpkhnchbamjgjaa.W

end Go.Proofs.Ytpkhnchbamjgjaa.W

namespace Go.Proofs.Ytpkhnchbamjgjaa.W

end Go.Proofs.Ytpkhnchbamjgjaa.W

namespace Go.Proofs.Ytpkhnchbamjgjaa.S
open T (Ln at_ dp wd RightT)
open W (Tok Res Step lexL stepD quoteL inactiveL protectL stops signK)

/-- A token without its place. -/
abbrev Trip := Int × List UInt8 × Int
def markK (m : Int) : List Trip := (if m % 2 = 1 then [(5, [], 1)] else []) ++ (if 1 < m then [(5, [], 2)] else [])
end Go.Proofs.Ytpkhnchbamjgjaa.S

namespace Go.Proofs.Ytpkhnchbamjgjaa.S
open T (Ln at_ dp wd RightT endL subL leafB leafN)
open W (quoteL inactiveL protectL)

/-- A piece of a row ahead of its end. -/
def Quiet (l : List UInt8) : Prop := ∀ b ∈ l, 32 ≤ b.toNat ∧ b.toNat ≤ 126
/-- A row: quiet bytes, then one of three signs, then a byte 10. -/
inductive Rows : List UInt8 → Nat → Prop
  | nil : Rows [] 0
  | row {l : List UInt8} {n : Nat} (q : List UInt8) (c : UInt8) (hq : Quiet q) (hc : c.toNat = 59 ∨ c.toNat = 123 ∨ c.toNat = 125) (h : Rows l n) : Rows (q ++ [c, 10] ++ l) (n + 1)
end Go.Proofs.Ytpkhnchbamjgjaa.S

namespace Go.Proofs.Ytpkhnchbamjgjaa.S
open T (Ln at_ dp wd RightT endL subL)
open W (quoteL inactiveL protectL)

end Go.Proofs.Ytpkhnchbamjgjaa.S

namespace Go.Proofs.Ytpkhnchbamjgjaa.T

/-- The line of a path, or -1. -/
def findI (t : List Ln) (p : Pth) : Int := match (List.range t.length).find? fun i => pathL t i == p with | some i => (i : Int) | none => -1
/-- Where a line of that word belongs under another. -/
def posL (t : List Ln) (up : Int) (w : List UInt8) : Nat := ((kidsL t up).find? fun k => Op.bytesLess w (wd t k)).getD (endI t up)
/-- The lines with one more. -/
def putL (t : List Ln) (p : Pth) (w : List UInt8) (m : Int) : List Ln := putT t (posL t (findI t p) w) (p ++ [w], m)
end Go.Proofs.Ytpkhnchbamjgjaa.T

namespace Go.Proofs.Ytpkhnchbamjgjaa.S
open T (Ln Pth at_ dp wd RightT pathL pathI underL findI putL entries)
open W (Tok)

end Go.Proofs.Ytpkhnchbamjgjaa.S

namespace Go.Proofs.Ytpkhnchbamjgjaa.S
open T (Ln Pth at_ dp wd RightT pathL pathI underL findI putL entries)
open W (Tok)

end Go.Proofs.Ytpkhnchbamjgjaa.S

namespace Go.Proofs.Ytpkhnchbamjgjaa.S
open T (Ln Pth at_ dp wd RightT pathL pathI underL findI putL entries)
open W (Tok)

def hasP (l : List (Pth × Int)) (p : Pth) : Bool := l.any fun f => decide (f.1 = p)
end Go.Proofs.Ytpkhnchbamjgjaa.S

namespace Go.Proofs.Ytpkhnchbamjgjaa.S
open T (Ln Pth at_ dp wd RightT pathL pathI underL findI putL entries)
open W (Tok)

/-! places -/
/-! counts -/
def one (a b : Int) : Nat := if a = b then 1 else 0
end Go.Proofs.Ytpkhnchbamjgjaa.S

namespace Go.Proofs.Ytpkhnchbamjgjaa.T

/-- A path's first lines, each where it lacks. -/
def addTo (t : List Ln) (p : Pth) : Nat → List Ln
  | 0 => t
  | n + 1 => if findI (addTo t p n) (p.take (n + 1)) < 0 then putL (addTo t p n) (p.take n) (p.getD n []) 0 else addTo t p n
def addL (t : List Ln) (p : Pth) : List Ln := addTo t p p.length
theorem take_next (p : Pth) (n : Nat) (h : n < p.length) : p.take n ++ [p.getD n []] = p.take (n + 1) := by
  rw [List.take_succ_eq_append_getElem h]
  unfold List.getD
  rw [List.getElem?_eq_getElem h]; rfl
/-- A tree of all beginnings of these paths, without marks. -/
structure Built (ps : List Pth) (t : List Ln) : Prop where
  right : RightT t
  mem : ∀ x, x ∈ entries t ↔ ∃ p ∈ ps, ∃ j, j < p.length ∧ x = (p.take (j + 1), (0 : Int))
/-- The tree without its marks. -/
def bareT (t : List Ln) : List Ln := t.map fun x => ⟨x.depth, x.word, 0⟩
/-- The paths of the lines under which nothing stands. -/
def leafPaths (t : List Ln) : List Pth := (leavesL t).map (pathL t)
end Go.Proofs.Ytpkhnchbamjgjaa.T

namespace Go.Proofs.Ytpkhnchbamjgjaa.T

end Go.Proofs.Ytpkhnchbamjgjaa.T

namespace Go.Proofs.Ytpkhnchbamjgjaa.S
open T (Ln Pth at_ dp wd RightT RightN pathL pathI underL findI entries addL leavesL leafPaths bareT)
open W (Tok Res lexL signK quoteL blankB stops)

/-! ### rows -/
/-! ### commands read -/
/-! ### what stands twice -/
end Go.Proofs.Ytpkhnchbamjgjaa.S

namespace Go.Proofs.Ytpkhnchbamjgjaa.S
open T (Ln Pth at_ dp wd RightT RightN pathL pathI underL findI entries addL leavesL leafPaths bareT Built)
open W (Tok Res lexL signK quoteL blankB stops)

end Go.Proofs.Ytpkhnchbamjgjaa.S

namespace Go.Proofs.Ytpkhnchbamjgjaa.T

/-- Does a path begin with another one? -/
def pre (p q : Pth) : Prop := q.take p.length = p
instance (p q : Pth) : Decidable (pre p q) := inferInstanceAs (Decidable (q.take p.length = p))
end Go.Proofs.Ytpkhnchbamjgjaa.T

namespace Go.Proofs.Ytpkhnchbamjgjaa.T

end Go.Proofs.Ytpkhnchbamjgjaa.T

namespace Go.Proofs.Ytpkhnchbamjgjaa.T
end Go.Proofs.Ytpkhnchbamjgjaa.T

namespace Go.Proofs.Ytpkhnchbamjgjaa.T

end Go.Proofs.Ytpkhnchbamjgjaa.T

namespace Go.Proofs.Ytpkhnchbamjgjaa.T

/-- Is there a line of that path? -/
def isIn (t : List Ln) (p : Pth) : Prop := ∃ i, i < t.length ∧ pathL t i = p
def inB (t : List Ln) (p : Pth) : Bool := decide (0 ≤ findI t p)
end Go.Proofs.Ytpkhnchbamjgjaa.T

namespace Go.Proofs.Ytpkhnchbamjgjaa.T

/-- The digits of a number. -/
def decL (n : Nat) : List UInt8 := if n < 10 then [UInt8.ofNat (48 + n)] else decL (n / 10) ++ [UInt8.ofNat (48 + n % 10)]
termination_by n
decreasing_by omega
theorem decL_small {n : Nat} (h : n < 10) : decL n = [UInt8.ofNat (48 + n)] := by rw [decL, if_pos h]
theorem decL_big {n : Nat} (h : 10 ≤ n) : decL n = decL (n / 10) ++ [UInt8.ofNat (48 + n % 10)] := by rw [decL, if_neg (by omega)]
theorem decL_len : ∀ (k n : Nat), n < 10 ^ (k + 1) → (decL n).length ≤ k + 1
  | 0, n, h => by rw [decL_small (by simpa using h)]; simp
  | k + 1, n, h => by
    rcases Nat.lt_or_ge n 10 with h1 | h1
    · rw [decL_small h1]; simp
    · rw [decL_big h1, List.length_append, List.length_singleton]
      have := decL_len k (n / 10) (by rw [Nat.pow_succ] at h; omega)
      omega
end Go.Proofs.Ytpkhnchbamjgjaa.T

namespace Go.Proofs.Ytpkhnchbamjgjaa
namespace T
open Go

end T
end Go.Proofs.Ytpkhnchbamjgjaa

namespace Go.Proofs.Ytpkhnchbamjgjaa
namespace N
open T (decL decL_small decL_big decL_len)

/-- A digit of base 10? -/
def digB (c : UInt8) : Bool := decide (48 ≤ c.toNat) && decide (c.toNat ≤ 57)
def valL (s : List UInt8) : Nat := s.foldl (fun n c => 10 * n + (c.toNat - 48)) 0
/-- The number of which a text is the text; -1: there is none. -/
def numL (s : List UInt8) : Int := if s = [] ∨ 10 < s.length ∨ (s.head? = some 48 ∧ 1 < s.length) ∨ s.all digB = false then -1 else (valL s : Nat)
theorem val_snoc (s : List UInt8) (c : UInt8) : valL (s ++ [c]) = 10 * valL s + (c.toNat - 48) := by unfold valL; rw [List.foldl_append]; rfl
theorem dec_ne (n : Nat) : decL n ≠ [] := by
  by_cases h : n < 10
  · rw [decL_small h]; simp
  · rw [decL_big (by omega)]; simp
theorem dig_of (d : Nat) (h : d < 10) : (UInt8.ofNat (48 + d)).toNat = 48 + d := by rw [UInt8.toNat_ofNat']; omega
theorem digB_of (d : Nat) (h : d < 10) : digB (UInt8.ofNat (48 + d)) = true := by
  unfold digB
  rw [dig_of d h, decide_eq_true (by omega), decide_eq_true (by omega)]; rfl
theorem val_dec (n : Nat) : valL (decL n) = n := by
  induction n using Nat.strongRecOn with
  | _ n ih =>
    by_cases h : n < 10
    · rw [decL_small h]
      show 10 * 0 + ((UInt8.ofNat (48 + n)).toNat - 48) = n
      rw [dig_of n h]; omega
    · rw [decL_big (by omega), val_snoc, ih (n / 10) (by omega), dig_of _ (by omega)]; omega
theorem dec_dig (n : Nat) : ∀ c ∈ decL n, digB c = true := by
  induction n using Nat.strongRecOn with
  | _ n ih =>
    by_cases h : n < 10
    · rw [decL_small h]
      intro c hc
      rw [List.mem_singleton.1 hc]; exact digB_of n h
    · rw [decL_big (by omega)]
      intro c hc
      rcases List.mem_append.1 hc with hc | hc
      · exact ih (n / 10) (by omega) c hc
      · rw [List.mem_singleton.1 hc]; exact digB_of _ (by omega)
theorem head_app {α : Type} {a b : List α} (h : a ≠ []) : (a ++ b).head? = a.head? := by
  cases a with
  | nil => exact absurd rfl h
  | cons x r => rfl
theorem dec_head (n : Nat) (h0 : 1 ≤ n) : (decL n).head? ≠ some 48 := by
  induction n using Nat.strongRecOn with
  | _ n ih =>
    by_cases h : n < 10
    · rw [decL_small h]
      intro e
      have e2 : (UInt8.ofNat (48 + n)).toNat = 48 := by injection e with e; rw [e]; rfl
      rw [dig_of n h] at e2; omega
    · rw [decL_big (by omega), head_app (dec_ne _)]
      exact ih (n / 10) (by omega) (by omega)
theorem dec_one (n : Nat) (h : (decL n).head? = some 48) : (decL n).length = 1 := by
  by_cases h0 : 1 ≤ n
  · exact absurd h (dec_head n h0)
  · obtain rfl : n = 0 := by omega
    rw [decL_small (by omega)]; rfl
theorem snoc_cases (s : List UInt8) (h : s ≠ []) : ∃ r c, s = r ++ [c] := ⟨s.dropLast, s.getLast h, (List.dropLast_concat_getLast h).symm⟩
theorem val_pos (s : List UInt8) (hd : s.all digB = true) (h : s ≠ []) (h0 : s.head? ≠ some 48) : 1 ≤ valL s := by
  obtain ⟨n, hn⟩ : ∃ n, s.length = n := ⟨_, rfl⟩
  induction n generalizing s with
  | zero => exact absurd (List.eq_nil_of_length_eq_zero hn) h
  | succ n ih =>
    obtain ⟨r, c, rfl⟩ := snoc_cases s h
    rw [val_snoc]
    by_cases hr : r = []
    · subst hr
      have hc : digB c = true := List.all_eq_true.1 hd c (by simp)
      unfold digB at hc
      rw [Bool.and_eq_true, decide_eq_true_eq, decide_eq_true_eq] at hc
      have : c.toNat ≠ 48 := fun e => h0 (by show some c = some 48; rw [show c = 48 from UInt8.toNat_inj.1 e])
      omega
    · rw [List.length_append, List.length_singleton] at hn
      have := ih r (List.all_eq_true.2 fun x hx => List.all_eq_true.1 hd x (List.mem_append_left _ hx)) hr (by rw [head_app hr] at h0; exact h0) (by omega)
      omega
theorem dec_val (s : List UInt8) (hd : s.all digB = true) (h : s ≠ []) (h0 : s.length = 1 ∨ s.head? ≠ some 48) : decL (valL s) = s := by
  obtain ⟨n, hn⟩ : ∃ n, s.length = n := ⟨_, rfl⟩
  induction n generalizing s with
  | zero => exact absurd (List.eq_nil_of_length_eq_zero hn) h
  | succ n ih =>
    obtain ⟨r, c, rfl⟩ := snoc_cases s h
    have hc : digB c = true := List.all_eq_true.1 hd c (by simp)
    have hc2 := hc
    unfold digB at hc2
    rw [Bool.and_eq_true, decide_eq_true_eq, decide_eq_true_eq] at hc2
    have hcc : UInt8.ofNat (48 + (c.toNat - 48)) = c := by rw [show 48 + (c.toNat - 48) = c.toNat by omega, UInt8.ofNat_toNat]
    rw [val_snoc]
    by_cases hr : r = []
    · subst hr
      show decL (10 * 0 + (c.toNat - 48)) = [c]
      rw [decL_small (by omega), show 10 * 0 + (c.toNat - 48) = c.toNat - 48 by omega, hcc]
    · rw [List.length_append, List.length_singleton] at hn h0
      have hrl : 1 ≤ r.length := List.length_pos_iff.2 hr
      have hdr : r.all digB = true := List.all_eq_true.2 fun x hx => List.all_eq_true.1 hd x (List.mem_append_left _ hx)
      have hh : r.head? ≠ some 48 := by
        rcases h0 with h0 | h0
        · omega
        · rwa [head_app hr] at h0
      have h1 := val_pos r hdr hr hh
      rw [decL_big (by omega), show (10 * valL r + (c.toNat - 48)) / 10 = valL r by omega, show (10 * valL r + (c.toNat - 48)) % 10 = c.toNat - 48 by omega, hcc, ih r hdr hr (.inr hh) (by omega)]
theorem val_lt (s : List UInt8) (hd : s.all digB = true) : ∀ k, s.length ≤ k → valL s < 10 ^ k := by
  intro k
  induction k generalizing s with
  | zero =>
    intro h
    have e : s = [] := List.eq_nil_of_length_eq_zero (by omega)
    subst e
    show 0 < 1
    omega
  | succ k ih =>
    intro h
    by_cases hs : s = []
    · subst hs; exact Nat.pow_pos (by omega)
    · obtain ⟨r, c, rfl⟩ := snoc_cases s hs
      have hc : digB c = true := List.all_eq_true.1 hd c (by simp)
      unfold digB at hc
      rw [Bool.and_eq_true, decide_eq_true_eq, decide_eq_true_eq] at hc
      rw [List.length_append, List.length_singleton] at h
      have := ih r (List.all_eq_true.2 fun x hx => List.all_eq_true.1 hd x (List.mem_append_left _ hx)) (by omega)
      rw [val_snoc, Nat.pow_succ]
      omega
-- PARTS
/-- The parts of a text, at each of a byte. -/
def splitL (c : UInt8) : List UInt8 → List (List UInt8)
  | [] => [[]]
  | x :: r => if x = c then [] :: splitL c r else match splitL c r with
    | [] => [[x]]
    | y :: ys => (x :: y) :: ys
-- ADDRESSES
def octL (s : List UInt8) : Int := if numL s < 0 ∨ 255 < numL s then -1 else numL s
/-- The address of a text; -1: there is none. -/
def ipL (s : List UInt8) : Int := match splitL 46 s with
  | [a, b, c, d] => if octL a < 0 ∨ octL b < 0 ∨ octL c < 0 ∨ octL d < 0 then -1 else 16777216 * octL a + 65536 * octL b + 256 * octL c + octL d
  | _ => -1
-- PREFIXES
/-- Is it a prefix? -/
def rightB (n bits : Int) : Bool := decide (0 ≤ n) && decide (n < 4294967296) && decide (0 ≤ bits) && decide (bits ≤ 32) && decide (n % (2 ^ (32 - bits).toNat : Nat) = 0)
/-- The prefix of a text; (-1, 0): there is none. -/
def prefL (s : List UInt8) : Int × Int := match splitL 47 s with
  | [a, b] => if rightB (ipL a) (numL b) = true then (ipL a, numL b) else (-1, 0)
  | _ => (-1, 0)
-- HARDWARE ADDRESSES
/-- A digit's value of base 16; -1: it is none. -/
def hexV (c : UInt8) : Int := if 48 ≤ c.toNat ∧ c.toNat ≤ 57 then (c.toNat : Int) - 48 else if 97 ≤ c.toNat ∧ c.toNat ≤ 102 then (c.toNat : Int) - 87 else -1
def pairV : List UInt8 → Int
  | [a, b] => if hexV a < 0 ∨ hexV b < 0 then -1 else 16 * hexV a + hexV b
  | _ => -1
/-- The hardware address of a text; -1: there is none. -/
def macL (s : List UInt8) : Int := match splitL 58 s with
  | [a, b, c, d, e, f] => if pairV a < 0 ∨ pairV b < 0 ∨ pairV c < 0 ∨ pairV d < 0 ∨ pairV e < 0 ∨ pairV f < 0 then -1 else 1099511627776 * pairV a + 4294967296 * pairV b + 16777216 * pairV c + 65536 * pairV d + 256 * pairV e + pairV f
  | _ => -1
-- WHAT IS IN A PREFIX
def inB (n bits ip : Int) : Bool := rightB n bits && decide (0 ≤ ip) && decide (ip < 4294967296) && decide (ip / (2 ^ (32 - bits).toNat : Nat) = n / (2 ^ (32 - bits).toNat : Nat))
-- ALONG THE PARTS
-- CUTTING AT A BYTE, STEP BY STEP
end N
end Go.Proofs.Ytpkhnchbamjgjaa

namespace Go.Proofs.Ytpkhnchbamjgjaa
namespace F
open T (decL decL_small decL_big decL_len)
open N (digB valL val_snoc dig_of digB_of val_dec dec_dig dec_ne dec_head dec_one dec_val val_lt)
set_option linter.unusedVariables false

/-- Digits ahead of the point: 1 to 6, the first one not 0, but for 0 itself. -/
def intOk (a : List UInt8) : Bool := !a.isEmpty && decide (a.length ≤ 6) && !(decide (a.head? = some 48) && decide (1 < a.length))
/-- Nothing, or a point and 1 to 3 digits, the last one not 0. -/
def fracOk : List UInt8 → Bool
  | [] => true
  | c :: f => decide (c = 46) && !f.isEmpty && decide (f.getLast? ≠ some 48) && decide (f.length ≤ 3) && f.all digB
/-- The thousandths of which a text, without its sign, is the text. -/
def thoL (s : List UInt8) : Option Nat := if (intOk (s.takeWhile digB) && fracOk (s.dropWhile digB)) = true then some (valL (s.takeWhile digB ++ (s.dropWhile digB).tail) * 10 ^ (3 - (s.dropWhile digB).tail.length)) else none
end F
end Go.Proofs.Ytpkhnchbamjgjaa

namespace Go.Proofs.Ytpkhnchbamjgjaa.C
set_option linter.unusedVariables false
open T (Pth pless)

abbrev Wd := List UInt8
def wHosts : Wd := [104, 111, 115, 116, 115]
def wVnis : Wd := [118, 110, 105, 115]
def wBindings : Wd := [98, 105, 110, 100, 105, 110, 103, 115]
def wRoutes : Wd := [114, 111, 117, 116, 101, 115]
def wPolicy : Wd := [112, 111, 108, 105, 99, 121]
def wIp : Wd := [105, 112]
def wMac : Wd := [109, 97, 99]
def wSubnet : Wd := [115, 117, 98, 110, 101, 116]
def wHost : Wd := [104, 111, 115, 116]
def wVni : Wd := [118, 110, 105]
def wVia : Wd := [118, 105, 97]
def wMetric : Wd := [109, 101, 116, 114, 105, 99]
def wAction : Wd := [97, 99, 116, 105, 111, 110]
def wFrom : Wd := [102, 114, 111, 109]
def wTo : Wd := [116, 111]
def wPermit : Wd := [112, 101, 114, 109, 105, 116]
def wDeny : Wd := [100, 101, 110, 121]
def kName : Wd := 36 :: [110, 97, 109, 101]
def kIp : Wd := 36 :: wIp
def kPrefix : Wd := 36 :: [112, 114, 101, 102, 105, 120]
def kMac : Wd := 36 :: wMac
def kVni : Wd := 36 :: wVni
def kNum : Wd := 36 :: [110, 117, 109]
def kMetric : Wd := 36 :: wMetric
def kAction : Wd := 36 :: wAction
/-- A byte of a name? -/
def okC (c : UInt8) : Bool := (decide (97 ≤ c.toNat) && decide (c.toNat ≤ 122)) || N.digB c || decide (c.toNat = 45)
def nameB : Wd → Bool
  | [] => false
  | c :: r => decide (97 ≤ c.toNat) && decide (c.toNat ≤ 122) && decide (r.length < 16) && r.all okC
/-- Is a text a metric's? -/
def readB (s : Wd) : Bool := decide (s = [110, 97, 110]) || decide (s = [105, 110, 102]) || decide (s = [45, 105, 110, 102]) || (if s.head? = some 45 then (F.thoL s.tail).isSome else (F.thoL s).isSome)
def typeB (k w : Wd) : Bool :=
  if k = kName then nameB w else if k = kIp then decide (0 ≤ N.ipL w) else if k = kPrefix then decide (0 ≤ (N.prefL w).1) else if k = kMac then decide (0 ≤ N.macL w)
  else if k = kVni then decide (1 ≤ N.numL w) && decide (N.numL w ≤ 16777215) else if k = kNum then decide (1 ≤ N.numL w) && decide (N.numL w ≤ 1000)
  else if k = kMetric then readB w else if k = kAction then decide (w = wPermit) || decide (w = wDeny) else false
def secondW (a : Wd) : Wd := if a = wHosts then kName else if a = wVnis then kVni else if a = wBindings then kIp else if a = wRoutes then kPrefix else if a = wPolicy then kNum else []
/-- Two words with a blank between. -/
def key (a w : Wd) : Wd := a ++ 32 :: w
/-- The type behind a third word, whether it holds one, whether it is needed. -/
def thirdK (k : Wd) : Wd × Bool × Bool :=
  if k = key wHosts wIp then (kIp, true, true) else if k = key wHosts wMac then (kMac, true, false) else if k = key wHosts wVnis then (kVni, false, false) else if k = key wVnis wSubnet then (kPrefix, true, true)
  else if k = key wBindings wHost ∨ k = key wRoutes wVia then (kName, true, true) else if k = key wBindings wMac then (kMac, true, true) else if k = key wBindings wVni then (kVni, true, true)
  else if k = key wRoutes wMetric then (kMetric, true, false) else if k = key wPolicy wAction then (kAction, true, true) else if k = key wPolicy wFrom ∨ k = key wPolicy wTo then (kPrefix, true, false) else ([], false, false)
def needsW (a : Wd) : List Wd := if a = wHosts then [wIp] else if a = wVnis then [wSubnet] else if a = wBindings then [wHost, wMac, wVni] else if a = wRoutes then [wVia] else if a = wPolicy then [wAction] else []
/-- The error's number of a path as such; 0: it is a statement, if it is one without its last word. -/
def knownP : Pth → Int
  | [] => 3
  | [a] => if secondW a = [] then 3 else 0
  | [a, b] => if typeB (secondW a) b = true then 0 else 2
  | [a, _, c] => if (thirdK (key a c)).1 = [] then 3 else 0
  | [a, _, c, d] => if typeB (thirdK (key a c)).1 d = true then 0 else 2
  | _ => 3
/-- Does a path stand just under another one? -/
def isKid (p q : Pth) : Bool := decide (q ≠ [] ∧ q.dropLast = p)
def kidsP (P : List Pth) (p : Pth) : List Pth := P.filter (isKid p)
def hasP (P : List Pth) (p : Pth) (w : Wd) : Bool := decide (p ++ [w] ∈ kidsP P p)
def sameAd (x : Wd) : Pth → Bool
  | [a, b, c, d] => decide (a = wHosts) && nameB b && decide (c = wIp) && decide (d = x)
  | _ => false
def twiceP (P : List Pth) (p : Pth) (w : Wd) : Bool := P.any fun q => pless q p && sameAd w q
def outP (P : List Pth) (ip v : Wd) : Bool := match kidsP P [wVnis, v, wSubnet] with
  | [] => false
  | q :: _ => decide (0 ≤ (N.prefL (q.getLastD [])).1) && !N.inB (N.prefL (q.getLastD [])).1 (N.prefL (q.getLastD [])).2 (N.ipL ip)
def meantP (P : List Pth) : Pth → Bool
  | [a, b, c, d] => if key a c = key wHosts wIp then twiceP P [a, b, c, d] d
    else if key a c = key wBindings wHost ∨ key a c = key wRoutes wVia then !decide ([wHosts, d] ∈ P)
    else if key a c = key wHosts wVnis then !decide ([wVnis, d] ∈ P)
    else if key a c = key wBindings wVni then (!decide ([wVnis, d] ∈ P)) || outP P b d else false
  | _ => false
/-- The faults of one path. -/
def faultsP (P : List Pth) (p : Pth) : List (Pth × Int) :=
  if knownP p ≠ 0 then [(p, knownP p)] else match p with
    | [a, b] => ((needsW a).filter fun w => !hasP P [a, b] w).map fun w => ([a, b] ++ [w], 1)
    | [a, b, c] => if (thirdK (key a c)).2.1 = true then (if (kidsP P [a, b, c]).length = 0 then [([a, b, c], 1)] else if 1 < (kidsP P [a, b, c]).length then [([a, b, c], 4)] else []) else []
    | [a, b, c, d] => if meantP P [a, b, c, d] = true then [([a, b, c, d], 7)] else []
    | _ => []
/-- Is each beginning of a path a statement? -/
def liveP (p : Pth) : Bool := (List.range p.length).all fun k => decide (k = 0) || decide (knownP (p.take k) = 0)
def atP (P : List Pth) (p : Pth) : List (Pth × Int) := if liveP p = true then faultsP P p else []
def checkP (P : List Pth) : List (Pth × Int) := P.flatMap (atP P)
def pths (t : List T.Ln) : List Pth := (List.range t.length).map (T.pathL t)
end Go.Proofs.Ytpkhnchbamjgjaa.C

namespace Go.Proofs.Ytpkhnchbamjgjaa.T
set_option linter.unusedVariables false

-- THE WORDS UNDER A PATH
/-- The words of all lines under a path (of none: of Depth 0), in order. -/
def underW (x : List Ln) (p : Pth) : List (List UInt8) := ((entries x).filter fun e => decide (e.1.dropLast = p)).map fun e => e.1.getLastD []
-- WHAT A PATH MEANS
-- HOW MANY
-- A GROUP'S PATHS
-- EXPANDED
-- ANOTHER GROUP
end Go.Proofs.Ytpkhnchbamjgjaa.T

namespace Go.Proofs.Ytpkhnchbamjgjaa.H
set_option linter.unusedVariables false
open T (Pth RightN RightT isIn underW Ln)
open C (Wd wHosts wVnis wBindings wRoutes wPolicy wIp wMac wHost wVni wVia wMetric wAction wFrom wTo)

/-- An entry. -/
structure En where
  host : Wd
  kind : Int
  key : Wd
  val : Wd
deriving DecidableEq
/-- Does one stand ahead of another one? -/
def aheadE (a b : En) : Bool := if a.host ≠ b.host then Op.bytesLess a.host b.host else if a.kind ≠ b.kind then decide (a.kind < b.kind) else if a.key ≠ b.key then Op.bytesLess a.key b.key else Op.bytesLess a.val b.val
theorem ahead_irr (a : En) : aheadE a a = false := by
  unfold aheadE
  rw [if_neg (fun h => h rfl), if_neg (fun h => h rfl), if_neg (fun h => h rfl)]
  exact T.less_irr _
/-- What 'ahead' says, place by place. -/
theorem ahead_iff (a b : En) : aheadE a b = true ↔ Op.bytesLess a.host b.host = true ∨ (a.host = b.host ∧ (a.kind < b.kind ∨ (a.kind = b.kind ∧ (Op.bytesLess a.key b.key = true ∨ (a.key = b.key ∧ Op.bytesLess a.val b.val = true))))) := by
  have ne : ∀ {x y : Wd}, Op.bytesLess x y = true → x ≠ y := fun h e => by rw [e, T.less_irr] at h; cases h
  unfold aheadE
  by_cases h1 : a.host = b.host
  · rw [if_neg (fun h => h h1)]
    by_cases h2 : a.kind = b.kind
    · rw [if_neg (fun h => h h2)]
      by_cases h3 : a.key = b.key
      · rw [if_neg (fun h => h h3)]
        constructor
        · intro h; exact .inr ⟨h1, .inr ⟨h2, .inr ⟨h3, h⟩⟩⟩
        · rintro (h | ⟨_, h | ⟨_, h | ⟨_, h⟩⟩⟩)
          · exact absurd h1 (ne h)
          · omega
          · exact absurd h3 (ne h)
          · exact h
      · rw [if_pos h3]
        constructor
        · intro h; exact .inr ⟨h1, .inr ⟨h2, .inl h⟩⟩
        · rintro (h | ⟨_, h | ⟨_, h | ⟨h, _⟩⟩⟩)
          · exact absurd h1 (ne h)
          · omega
          · exact h
          · exact absurd h h3
    · rw [if_pos h2]
      constructor
      · intro h; exact .inr ⟨h1, .inl (of_decide_eq_true h)⟩
      · rintro (h | ⟨_, h | ⟨h, _⟩⟩)
        · exact absurd h1 (ne h)
        · exact decide_eq_true h
        · exact absurd h h2
  · rw [if_pos h1]
    constructor
    · intro h; exact .inl h
    · rintro (h | ⟨h, _⟩)
      · exact h
      · exact absurd h h1
theorem ahead_tri (a b : En) : aheadE a b = true ∨ a = b ∨ aheadE b a = true := by
  rw [ahead_iff, ahead_iff]
  rcases T.less_tri a.host b.host with h | h1 | h
  · exact .inl (.inl h)
  · rcases Int.lt_trichotomy a.kind b.kind with h | h2 | h
    · exact .inl (.inr ⟨h1, .inl h⟩)
    · rcases T.less_tri a.key b.key with h | h3 | h
      · exact .inl (.inr ⟨h1, .inr ⟨h2, .inl h⟩⟩)
      · rcases T.less_tri a.val b.val with h | h4 | h
        · exact .inl (.inr ⟨h1, .inr ⟨h2, .inr ⟨h3, h⟩⟩⟩)
        · refine .inr (.inl ?_)
          cases a; cases b; simp only at h1 h2 h3 h4; subst h1 h2 h3 h4; rfl
        · exact .inr (.inr (.inr ⟨h1.symm, .inr ⟨h2.symm, .inr ⟨h3.symm, h⟩⟩⟩))
      · exact .inr (.inr (.inr ⟨h1.symm, .inr ⟨h2.symm, .inl h⟩⟩))
    · exact .inr (.inr (.inr ⟨h1.symm, .inl h⟩))
  · exact .inr (.inr (.inl h))
theorem ahead_trans {a b c : En} (h : aheadE a b = true) (k : aheadE b c = true) : aheadE a c = true := by
  rw [ahead_iff] at h k ⊢
  rcases h with h | ⟨h1, h⟩
  · rcases k with k | ⟨k1, k⟩
    · exact .inl (T.less_trans _ _ _ h k)
    · exact .inl (by rw [← k1]; exact h)
  · rcases k with k | ⟨k1, k⟩
    · exact .inl (by rw [h1]; exact k)
    · refine .inr ⟨h1.trans k1, ?_⟩
      rcases h with h | ⟨h2, h⟩
      · rcases k with k | ⟨k2, k⟩
        · exact .inl (by omega)
        · exact .inl (by omega)
      · rcases k with k | ⟨k2, k⟩
        · exact .inl (by omega)
        · refine .inr ⟨h2.trans k2, ?_⟩
          rcases h with h | ⟨h3, h⟩
          · rcases k with k | ⟨k3, k⟩
            · exact .inl (T.less_trans _ _ _ h k)
            · exact .inl (by rw [← k3]; exact h)
          · rcases k with k | ⟨k3, k⟩
            · exact .inl (by rw [h3]; exact k)
            · exact .inr ⟨h3.trans k3, T.less_trans _ _ _ h k⟩
theorem ahead_asymm {a b : En} (h : aheadE a b = true) : aheadE b a = false := by
  cases k : aheadE b a with
  | false => rfl
  | true => have := ahead_trans h k; rw [ahead_irr] at this; cases this
/-- Which of two stands ahead, as a number. -/
def cmpE (x y : En) : Int := if aheadE x y = true then -1 else if aheadE y x = true then 1 else 0
/-- In order, each once. -/
def SortE (l : List En) : Prop := l.Pairwise fun a b => aheadE a b = true
def insE (e : En) : List En → List En
  | [] => [e]
  | x :: l => if aheadE e x = true then e :: x :: l else x :: insE e l
def putE (l : List En) (e : En) : List En := if e ∈ l then l else insE e l
def setE (l : List En) : List En := l.foldl putE []
theorem mem_ins {e x : En} : ∀ {l : List En}, x ∈ insE e l ↔ x = e ∨ x ∈ l
  | [] => by simp [insE]
  | y :: l => by
    unfold insE
    split
    · simp
    · rw [List.mem_cons, mem_ins (l := l), List.mem_cons]
      constructor
      · rintro (h | h | h)
        · exact .inr (.inl h)
        · exact .inl h
        · exact .inr (.inr h)
      · rintro (h | h | h)
        · exact .inr (.inl h)
        · exact .inl h
        · exact .inr (.inr h)
theorem sort_ins {e : En} : ∀ {l : List En}, SortE l → e ∉ l → SortE (insE e l)
  | [], _, _ => by simp [insE, SortE]
  | y :: l, h, hn => by
    obtain ⟨h1, h2⟩ := List.pairwise_cons.1 h
    unfold insE
    split
    · next k => exact List.pairwise_cons.2 ⟨fun x hx => by
        rcases List.mem_cons.1 hx with rfl | hx
        · exact k
        · exact ahead_trans k (h1 x hx), h⟩
    · next k =>
      have hne : e ≠ y := fun q => hn (by rw [q]; exact List.mem_cons_self)
      have hye : aheadE y e = true := by
        rcases ahead_tri e y with q | q | q
        · exact absurd q k
        · exact absurd q hne
        · exact q
      refine List.pairwise_cons.2 ⟨fun x hx => ?_, sort_ins h2 (fun q => hn (List.mem_cons_of_mem _ q))⟩
      rcases mem_ins.1 hx with rfl | hx
      · exact hye
      · exact h1 x hx
theorem mem_put {l : List En} {e x : En} : x ∈ putE l e ↔ x ∈ l ∨ x = e := by
  unfold putE
  split
  · next h => exact ⟨.inl, fun k => k.elim id (fun q => q ▸ h)⟩
  · rw [mem_ins]; exact Or.comm
theorem sort_put {l : List En} {e : En} (h : SortE l) : SortE (putE l e) := by
  unfold putE
  split
  · exact h
  · next k => exact sort_ins h k
theorem fold_put : ∀ (l a : List En), SortE a → SortE (l.foldl putE a) ∧ ∀ x, x ∈ l.foldl putE a ↔ x ∈ a ∨ x ∈ l
  | [], a, h => ⟨h, fun x => by simp⟩
  | e :: l, a, h => by
    obtain ⟨h1, h2⟩ := fold_put l (putE a e) (sort_put h)
    refine ⟨h1, fun x => ?_⟩
    rw [List.foldl_cons, h2 x, mem_put, List.mem_cons]
    constructor
    · rintro ((h | h) | h)
      · exact .inl h
      · exact .inr (.inl h)
      · exact .inr (.inr h)
    · rintro (h | h | h)
      · exact .inl (.inl h)
      · exact .inl (.inr h)
      · exact .inr h
theorem set_sort (l : List En) : SortE (setE l) := (fold_put l [] List.Pairwise.nil).1
theorem mem_set {l : List En} {x : En} : x ∈ setE l ↔ x ∈ l := by
  have := (fold_put l [] List.Pairwise.nil).2 x
  rw [show setE l = l.foldl putE [] from rfl, this]; simp
/-- Lists in order with the same entries are the same. -/
theorem sort_ext : ∀ {a b : List En}, SortE a → SortE b → (∀ x, x ∈ a ↔ x ∈ b) → a = b
  | [], [], _, _, _ => rfl
  | [], y :: b, _, _, h => by have := (h y).2 List.mem_cons_self; cases this
  | x :: a, [], _, _, h => by have := (h x).1 List.mem_cons_self; cases this
  | x :: a, y :: b, ha, hb, h => by
    obtain ⟨a1, a2⟩ := List.pairwise_cons.1 ha
    obtain ⟨b1, b2⟩ := List.pairwise_cons.1 hb
    have e : x = y := by
      rcases List.mem_cons.1 ((h x).1 List.mem_cons_self) with e | hx
      · exact e
      · rcases List.mem_cons.1 ((h y).2 List.mem_cons_self) with e | hy
        · exact e.symm
        · have h1 := b1 x hx
          have h2 := a1 y hy
          rw [ahead_asymm h1] at h2; cases h2
    subst e
    rw [sort_ext a2 b2 fun z => ?_]
    constructor
    · intro hz
      rcases List.mem_cons.1 ((h z).1 (List.mem_cons_of_mem _ hz)) with e | k
      · subst e; have := a1 z hz; rw [ahead_irr] at this; cases this
      · exact k
    · intro hz
      rcases List.mem_cons.1 ((h z).2 (List.mem_cons_of_mem _ hz)) with e | k
      · subst e; have := b1 z hz; rw [ahead_irr] at this; cases this
      · exact k
theorem set_ext {a : List En} {l : List En} (h : SortE a) (hm : ∀ x, x ∈ a ↔ x ∈ l) : a = setE l := sort_ext h (set_sort l) fun x => (hm x).trans mem_set.symm
theorem sort_nodup {l : List En} (h : SortE l) : l.Nodup := h.imp fun {a b} k e => by subst e; rw [ahead_irr] at k; cases k
theorem set_len (l : List En) : (setE l).length ≤ l.length := (sort_nodup (set_sort l)).length_le_of_subset fun x hx => mem_set.1 hx
-- THE TABLES
end Go.Proofs.Ytpkhnchbamjgjaa.H

namespace Go.Proofs.Ytpkhnchbamjgjaa
open Go.RowKit

section
variable {α : Type} {E : Elem α}
theorem Own.lt {w : World} {base : Nat} {v : Value} {l : List α} (h : Own E w base v l) : ∀ k, v.ownBlock = some k → base ≤ k ∧ k < w.heap.size := World.ownsRow.lt h
/-- What an append to v, in the world w, has made. -/
structure Grew (E : Elem α) (w w' : World) (base : Nat) (v v' : Value) (l : List α) : Prop where
  own : Own E w' base v' l
  grown : w.grownBy w' v.ownBlock
  at_ : v'.ownBlock = v.ownBlock ∨ ∃ g, v'.ownBlock = some g ∧ w.heap.size ≤ g
theorem Grew.below {w w' : World} {base : Nat} {v v' : Value} {l l2 : List α} (h : Grew E w w' base v v' l) (hv : Own E w base v l2) (hb : base ≤ w.heap.size) : Below base w w' :=
  Below.grown (Below.refl _ _) h.grown hb (fun k hk => (hv.lt k hk).1)
end
end Go.Proofs.Ytpkhnchbamjgjaa

namespace Go.Proofs.Ytpkhnchbamjgjaa
open Go.RowKit

def cmpW (a b : List UInt8) : Int := if Op.bytesLess a b = true then -1 else if Op.bytesLess b a = true then 1 else 0
theorem cmpW_self (a : List UInt8) : cmpW a a = 0 := by unfold cmpW; rw [T.less_irr]; rfl
theorem cmpW_zero {a b : List UInt8} : cmpW a b = 0 ↔ a = b := by
  constructor
  · intro h
    unfold cmpW at h
    split at h
    · cases h
    · rename_i h1
      split at h
      · cases h
      · rename_i h2
        rcases T.less_tri a b with h3 | h3 | h3
        · exact absurd h3 h1
        · exact h3
        · exact absurd h3 h2
  · rintro rfl; exact cmpW_self a
end Go.Proofs.Ytpkhnchbamjgjaa

namespace Go.Proofs.Ytpkhnchbamjgjaa
open Go.RowKit

theorem Own.empty {α : Type} (E : Elem α) (w : World) : Own E (w.alloc (.cells #[] E.T)) w.heap.size (.slice (some ⟨w.heap.size, 0, none⟩) 0 0) [] :=
  ⟨by simp [cellsG], .inr ⟨w.heap.size, 0, #[], rfl, Nat.le_refl _, heap_alloc_new w _, Nat.le_refl _, by decide, by simp, by simp [cellsG]⟩⟩
section
variable {w w1 : World} {g : Nat} {vf vp : Value} {nm : Bool} {mk : Int}
end

section
variable {w w1 : World} {g : Nat} {vf vp : Value}
end
end Go.Proofs.Ytpkhnchbamjgjaa

namespace Go.Proofs.Ytpkhnchbamjgjaa
open Go.RowKit

end Go.Proofs.Ytpkhnchbamjgjaa

namespace Go.Proofs.Ytpkhnchbamjgjaa
open Go.RowKit

theorem Own.block {α : Type} {E : Elem α} {w : World} {base : Nat} {A : Option Addr} {n cap : Nat} {l : List α} (h : Own E w base (.slice A n cap) l) (hl : 0 < l.length) : ∃ b, A = some ⟨b, 0, none⟩ ∧ base ≤ b ∧ b < w.heap.size ∧ Holds E w b 0 l := by
  obtain ⟨A2, cap2, e, _, hs⟩ := h.seen
  injection e with e1 e2 e3
  subst e1
  obtain ⟨b, o, e4, hb, hh⟩ := hs hl
  rcases h.2 with ⟨e5, _⟩ | ⟨g, c, cur, e5, hbg, _⟩
  · injection e5 with e5; rw [e5] at e4; cases e4
  · injection e5 with e5
    rw [e5] at e4
    injection e4 with e4
    injection e4 with e6 e7
    subst e6; subst e7
    exact ⟨g, e5, hbg, hb, hh⟩
end Go.Proofs.Ytpkhnchbamjgjaa

namespace Go.Proofs.Ytpkhnchbamjgjaa
open Go.RowKit

/-- A slice value that reads as l, at an address that may be cut. -/
def VecAt {α : Type} (E : Elem α) (w : World) (v : Value) (l : List α) : Prop :=
  (v = .slice none 0 0 ∧ l = []) ∨ ∃ b o c, v = .slice (some ⟨b, o, none⟩) l.length c ∧ l.length ≤ c ∧ b < w.heap.size ∧ Holds E w b o l
section
variable {α : Type} {E : Elem α} {w w1 : World} {v : Value} {l : List α}
theorem VecAt.below (h : VecAt E w v l) (hb : Below w.heap.size w w1) : VecAt E w1 v l := by
  rcases h with h | ⟨b, o, c, h1, h2, h3, h4⟩
  · exact .inl h
  · exact .inr ⟨b, o, c, h1, h2, Nat.lt_of_lt_of_le h3 hb.size, h4.below hb h3⟩
theorem VecAt.own {base : Nat} (h : Own E w base v l) : VecAt E w v l := by
  rcases h.2 with ⟨h1, h2⟩ | ⟨g, cap, cur, rfl, hbg, hgg, hnc, hcm, hcs, htk⟩
  · exact .inl ⟨h1, List.eq_nil_of_length_eq_zero h2⟩
  · refine .inr ⟨g, 0, cap, rfl, hnc, (Array.getElem?_eq_some_iff.1 hgg).1, fun i hi j u hu => ?_⟩
    obtain ⟨A, c, e, _, hs⟩ := h.seen
    injection e with e1 e2 e3
    subst e1
    obtain ⟨b2, o2, e4, _, hh⟩ := hs (by omega)
    injection e4 with e4
    injection e4 with e5 e6
    subst e5; subst e6
    exact hh i hi j u hu
end
end Go.Proofs.Ytpkhnchbamjgjaa

namespace Go.Proofs.Ytpkhnchbamjgjaa
open Go.RowKit

end Go.Proofs.Ytpkhnchbamjgjaa

namespace Go.Proofs.Ytpkhnchbamjgjaa
open Go.ChangeShapes Go.WideShapes Go.ChangeAt Go.RowKit

/-- append of what is seen elsewhere, wherever it lies. -/
theorem wp_appSeen {α : Type} (E : Elem α) {o : Oper} {a : Act} {K : Act → World → Prop} {Q : Exit → Act → World → Prop} (w : World) (s x : Operand)
    (ho : o.op = .call { callee := .builtin .append, args := #[s, x], argTypes := #[E.st, E.st] })
    (base : Nat) (v : Value) (l : List α) (hs : a.eval s = v) (hown : Own E w base v l) (ad : Addr) (l2 : List α) (m cap : Nat) (hm : l2.length = m)
    (hx : a.eval x = .slice (some ad) m cap) (hc : Seen E w (some ad) l2) (hlen : l.length + m ≤ 1099511627776) (hb : base ≤ w.heap.size)
    (h : ∀ v' w', Own E w' base v' (l ++ l2) → Below base w w' → K (a.put o.dst v') w') : o.wp Try.prog a w K Q := by
  by_cases hl : 0 < l2.length
  · obtain ⟨b, q, e, _, hh⟩ := hc hl
    injection e with e
    subst e
    exact wp_appSrc E w s x ho base v l hs hown b q l2 m cap hm hx hh hlen hb h
  · obtain rfl : l2 = [] := List.eq_nil_of_length_eq_zero (by omega)
    subst hm
    obtain ⟨i0, hi0, hz0, hz1, hz2⟩ := info_parts E.hin
    have hby := E.hby
    have hmul : l.length * E.by_ ≤ 1099511627776 * 128 := Nat.mul_le_mul (by omega) hby
    refine wp_append_own w s x E.st ho base E.T i0 _ E.sz E.by_ E.hst hi0 hz0 hz1 hz2 E.hzs E.hsz v l.length (cellsG E l) hs hown ad 0 cap [] hx (by simp) (fun j u hu => by simp at hu) (fun u hu => by cases hu) (by unfold maxLen; simp at hlen; omega) (by simp at hmul ⊢; omega) hb ?_
    intro v' w' h1 h2 _
    refine h v' w' ?_ ?_
    · unfold Own; rw [List.append_nil]; rw [List.append_nil] at h1; exact h1
    · exact Below.grown (Below.refl _ _) h2 hb (fun k hk => (World.ownsRow.lt hown k hk).1)
theorem wpList_appSeen {α : Type} (E : Elem α) {ops : Array Oper} {rest : List Oper} {o : Oper} {a : Act} {Q : Exit → Act → World → Prop} (w : World) (hgd : o.guard = none) (s x : Operand)
    (ho : o.op = .call { callee := .builtin .append, args := #[s, x], argTypes := #[E.st, E.st] })
    (base : Nat) (v : Value) (l : List α) (hs : a.eval s = v) (hown : Own E w base v l) (ad : Addr) (l2 : List α) (m cap : Nat) (hm : l2.length = m)
    (hx : a.eval x = .slice (some ad) m cap) (hc : Seen E w (some ad) l2) (hlen : l.length + m ≤ 1099511627776) (hb : base ≤ w.heap.size)
    (h : ∀ v' w', Own E w' base v' (l ++ l2) → Below base w w' → wpList Try.prog ops Q rest (a.put o.dst v') w') : wpList Try.prog ops Q (o :: rest) a w :=
  wpList_plain hgd fun _ hK => wp_appSeen E w s x ho base v l hs hown ad l2 m cap hm hx hc hlen hb fun v' w' h1 h2 => hK _ _ (h v' w' h1 h2)

/-- A call leaves a slice of its own. -/
def OwnS {α : Type} (E : Elem α) (w : World) (l : List α) (e : Ending) (w' : World) : Prop := ∃ v, e = .returned v ∧ Own E w' w.heap.size v l ∧ Below w.heap.size w w'
/-- A nil slice has no room. -/
def NilOk (A : Option Addr) (c : Nat) : Prop := A = none → c = 0
end Go.Proofs.Ytpkhnchbamjgjaa

namespace Go.Proofs.Ytpkhnchbamjgjaa
open Go.ChangeShapes Go.WideShapes Go.ChangeAt Go.RowKit
theorem slice_ok {P : Program} {w : World} {r : Reach} {base : Nat} {t e : TypeId} {A : Option Addr} {n c : Nat} (ht : P.underlying t = some (.slice e)) (h : Value.okWide P w r base t (.slice A n c)) : (A = none → n = 0 ∧ c = 0) ∧ n ≤ c := by
  simp only [Value.okWide, ht, Cell.okWide] at h
  cases A with
  | some a => simp only [Cell.ok, ht] at h; exact ⟨(fun e => by cases e), h.1⟩
  | none =>
    cases n with
    | zero =>
      cases c with
      | zero => exact ⟨fun _ => ⟨rfl, rfl⟩, Nat.le_refl _⟩
      | succ c => simp [Cell.ok, ht] at h
    | succ n => simp [Cell.ok, ht] at h
end Go.Proofs.Ytpkhnchbamjgjaa

namespace Go.Proofs.Ytpkhnchbamjgjaa
open Go.RowKit

end Go.Proofs.Ytpkhnchbamjgjaa

namespace Go.Proofs.Ytpkhnchbamjgjaa
open Go.RowKit
set_option linter.unusedVariables false

section
variable (b o d : Nat) (t : List T.Ln) (p : T.Pth) (w : World)
end
end Go.Proofs.Ytpkhnchbamjgjaa

namespace Go.Proofs.Ytpkhnchbamjgjaa
open Go.RowKit
set_option linter.unusedVariables false

section
variable (b o d : Nat) (t : List T.Ln) (p : T.Pth) (w : World)
end
end Go.Proofs.Ytpkhnchbamjgjaa

namespace Go.Proofs.Ytpkhnchbamjgjaa
open Go.RowKit
set_option linter.unusedVariables false

section
variable (b o d : Nat) (p : T.Pth) (w : World)
end
end Go.Proofs.Ytpkhnchbamjgjaa

namespace Go.Proofs.Ytpkhnchbamjgjaa
open Go.RowKit

end Go.Proofs.Ytpkhnchbamjgjaa

namespace Go.Proofs.Ytpkhnchbamjgjaa
open Go.RowKit
set_option linter.unusedVariables false

theorem cells_from {α : Type} {E : Elem α} {w : World} {b q : Nat} {l2 : List α} (hc : Holds E w b q l2) : ∀ j u, (cellsG E l2)[j]? = some u → w.cell? ((⟨b, q, none⟩ : Addr).add j) = some u := by
  intro j u hu
  have hj : j < l2.length * E.sz := by rw [← cellsG_len]; exact (List.getElem?_eq_some_iff.1 hu).1
  have hsz := E.hsz
  have hi : j / E.sz < l2.length := Nat.div_lt_of_lt_mul (by rw [Nat.mul_comm]; exact hj)
  have hr : j % E.sz < E.sz := Nat.mod_lt _ hsz
  have e : j / E.sz * E.sz + j % E.sz = j := by rw [Nat.mul_comm]; exact Nat.div_add_mod j E.sz
  rw [← e, cellsG_at E l2 _ _ hi hr] at hu
  have := hc _ hi _ u hu
  rw [show q + j / E.sz * E.sz + j % E.sz = q + j by omega] at this
  rw [add_off]; exact this
/-- append of many, wherever they lie, saying what it leaves. -/
theorem wpList_appSrc3 {α : Type} (E : Elem α) {ops : Array Oper} {rest : List Oper} {o : Oper} {a : Act} {Q : Exit → Act → World → Prop} (w : World) (hgd : o.guard = none) (s x : Operand)
    (ho : o.op = .call { callee := .builtin .append, args := #[s, x], argTypes := #[E.st, E.st] })
    (base : Nat) (v : Value) (l : List α) (hs : a.eval s = v) (hown : Own E w base v l) (b q : Nat) (l2 : List α) (m cap : Nat) (hm : l2.length = m)
    (hx : a.eval x = .slice (some ⟨b, q, none⟩) m cap) (hc : Holds E w b q l2) (hlen : l.length + m ≤ 1099511627776) (hb : base ≤ w.heap.size)
    (h : ∀ v' w', Grew E w w' base v v' (l ++ l2) → wpList Try.prog ops Q rest (a.put o.dst v') w') : wpList Try.prog ops Q (o :: rest) a w := by
  obtain ⟨i0, hi0, hz0, hz1, hz2⟩ := info_parts E.hin
  subst hm
  have hby := E.hby
  have hmul : (l.length + l2.length) * E.by_ ≤ 1099511627776 * 128 := Nat.mul_le_mul hlen hby
  refine Go.wpList_append_own_at (w := w) hgd s x E.st ho base E.T i0 _ E.sz E.by_ E.hst hi0 hz0 hz1 hz2 E.hzs E.hsz v l.length (cellsG E l) hs hown ⟨b, q, none⟩ l2.length cap (cellsG E l2) hx
    (cellsG_len E l2) (fun j u hu => cells_from hc j u hu) (cellsG_onec E _) (by unfold maxLen; omega) (by omega) hb ?_
  intro v' w' h1 h2 _ h3
  refine h v' w' ⟨?_, ⟨h2.os, h2.tape, h2.output, h2.size, fun k hk hne => h2.block k hk hne⟩, ?_⟩
  · unfold Own; rw [cellsG_append, List.length_append]; exact h1
  · rcases h3 with h3 | h3
    · exact .inl h3
    · exact .inr ⟨_, h3, Nat.le_refl _⟩
/-- What an append to v, in the world w, leaves. -/
def G12 (w w' : World) (v v' : Value) : Prop := w.heap.size ≤ w'.heap.size ∧ (∀ b, b < w.heap.size → v.ownBlock ≠ some b → w'.heap[b]? = w.heap[b]?) ∧ ∀ b, v'.ownBlock = some b → v.ownBlock = some b ∨ w.heap.size ≤ b
/-- append of many, saying what it leaves. -/
theorem wpList_appM {α : Type} (E : Elem α) {ops : Array Oper} {rest : List Oper} {o : Oper} {a : Act} {Q : Exit → Act → World → Prop} (w : World) (hgd : o.guard = none) (s x : Operand)
    (ho : o.op = .call { callee := .builtin .append, args := #[s, x], argTypes := #[E.st, E.st] })
    (base : Nat) (v : Value) (l : List α) (hs : a.eval s = v) (hown : Own E w base v l) (v2 : Value) (l2 : List α) (hx : a.eval x = v2) (h2 : VecAt E w v2 l2) (hlen : l.length + l2.length ≤ 1099511627776) (hb : base ≤ w.heap.size)
    (h : ∀ v' w', Own E w' base v' (l ++ l2) → Below base w w' → G12 w w' v v' → wpList Try.prog ops Q rest (a.put o.dst v') w') : wpList Try.prog ops Q (o :: rest) a w := by
  rcases h2 with ⟨rfl, rfl⟩ | ⟨b, q, c, rfl, hc, hbw, hH⟩
  · refine wpList_appNone E w hgd s x ho base v l hs hown hx ?_
    exact h v w (by rw [List.append_nil]; exact hown) (Below.refl _ _) ⟨Nat.le_refl _, fun _ _ _ => rfl, fun b e => .inl e⟩
  · refine wpList_appSrc3 E w hgd s x ho base v l hs hown b q l2 l2.length c rfl hx hH hlen hb fun v' w' hG => h v' w' hG.own (hG.below hown hb) ⟨hG.grown.size, fun b hb hne => hG.grown.block b hb (fun e => hne e.symm), fun b e => ?_⟩
    rcases hG.at_ with h | ⟨g, h, h4⟩
    · left; rw [← h]; exact e
    · right; rw [h] at e; injection e with e; omega
end Go.Proofs.Ytpkhnchbamjgjaa

namespace Go.Proofs.Ytpkhnchbamjgjaa
open Go.RowKit
set_option linter.unusedVariables false

def enC (x : H.En) : List Value := [.string (sB x.host), .int .i64 x.kind, .string (sB x.key), .string (sB x.val)]
def enV (x : H.En) : Value := .agg #[.string (sB x.host), .int .i64 x.kind, .string (sB x.key), .string (sB x.val)]
def zeroEn : Value := .agg #[.string ⟨#[]⟩, .int .i64 0, .string ⟨#[]⟩, .string ⟨#[]⟩]
theorem enC_one (x : H.En) (u : Value) (hu : u ∈ enC x) : u.oneCell' = true := by
  simp [enC] at hu
  rcases hu with rfl | rfl | rfl | rfl <;> rfl
/-- The document's. -/
def eEd : Elem H.En where
  st := 27
  T := 46
  sz := 4
  zero := zeroEn
  by_ := 56
  C := enC
  hst := Try.underlying27
  hin := by kernel_rfl
  hzs := rfl
  hsz := by decide
  hby := by decide
  len := fun _ => rfl
  one := enC_one
/-- The code's. -/
def eEc : Elem H.En where
  st := 22
  T := 44
  sz := 4
  zero := zeroEn
  by_ := 56
  C := enC
  hst := Try.underlying22
  hin := by kernel_rfl
  hzs := rfl
  hsz := by decide
  hby := by decide
  len := fun _ => rfl
  one := enC_one
/-- The four cells of an entry. -/
theorem Holds.entry {E : Elem H.En} (hz : E.sz = 4) (hC : E.C = enC) {w : World} {b o : Nat} {l : List H.En} (h : Holds E w b o l) {i : Nat} (hi : i < l.length) :
    w.cell? ⟨b, o + i * 4, none⟩ = some (.string (sB l[i].host)) ∧ w.cell? ⟨b, o + i * 4 + 1, none⟩ = some (.int .i64 l[i].kind) ∧ w.cell? ⟨b, o + i * 4 + 2, none⟩ = some (.string (sB l[i].key)) ∧ w.cell? ⟨b, o + i * 4 + 3, none⟩ = some (.string (sB l[i].val)) := by
  have e : ∀ j u, (enC l[i])[j]? = some u → w.cell? ⟨b, o + i * 4 + j, none⟩ = some u := fun j u hu => by
    have := h i hi j u (by rw [hC]; exact hu)
    rw [hz] at this
    exact this
  exact ⟨e 0 _ rfl, e 1 _ rfl, e 2 _ rfl, e 3 _ rfl⟩
end Go.Proofs.Ytpkhnchbamjgjaa

namespace Go.Proofs.Ytpkhnchbamjgjaa
open Go.ChangeShapes Go.WideShapes Go.ChangeAt Go.RowKit
set_option linter.unusedVariables false

/-- The block g holds an entry. -/
structure EntAt (w : World) (g : Nat) (a : List UInt8) (k : Int) (b d : List UInt8) : Prop where
  host0 : w.cell? ⟨g, 0, none⟩ = some (.string (sB a))
  kind0 : w.cell? ⟨g, 1, none⟩ = some (.int .i64 k)
  key0 : w.cell? ⟨g, 2, none⟩ = some (.string (sB b))
  val0 : w.cell? ⟨g, 3, none⟩ = some (.string (sB d))
  low0 : g < w.heap.size
theorem ent_laid (w : World) (a : List UInt8) (k : Int) (b d : List UInt8) : EntAt (w.alloc (.cells #[.string (sB a), .int .i64 k, .string (sB b), .string (sB d)] 44)) w.heap.size a k b d :=
  ⟨World.cell?_alloc_mark w _ _ (0, 0) 0, World.cell?_alloc_mark w _ _ (0, 0) 1, World.cell?_alloc_mark w _ _ (0, 0) 2, World.cell?_alloc_mark w _ _ (0, 0) 3, by simp⟩
theorem ent_below {w w1 : World} {g : Nat} {a : List UInt8} {k : Int} {b d : List UInt8} (h : EntAt w g a k b d) (hb : Below w.heap.size w w1) : EntAt w1 g a k b d :=
  ⟨(hb.cell (p := ⟨g, 0, none⟩) h.low0).trans h.host0, (hb.cell (p := ⟨g, 1, none⟩) h.low0).trans h.kind0, (hb.cell (p := ⟨g, 2, none⟩) h.low0).trans h.key0, (hb.cell (p := ⟨g, 3, none⟩) h.low0).trans h.val0, Nat.lt_of_lt_of_le h.low0 hb.size⟩
theorem drew_below (w : World) (q : Nat) : Below w.heap.size w (w.drewN q) := by
  have h := Below.refl w.heap.size w
  exact ⟨h.os, h.tape, h.output, h.size, h.block⟩
theorem Try.cellsEntry : Try.prog.cellsOf 44 = 4 := by kernel_rfl
/-- What is known of an entry that came in. -/
def LongE (x : H.En) : Prop := x.host.length ≤ maxLen ∧ x.key.length ≤ maxLen ∧ x.val.length ≤ maxLen ∧ -9223372036854775808 ≤ x.kind ∧ x.kind ≤ 9223372036854775807
set_option maxRecDepth 100000 in
theorem open_entries {HH : Type} {enc : TypeId × Value → HH} {W : World} {base : Nat} {v : Value} {d : DataW HH} {p : List MemPlace} (hok : Value.okWide Try.prog W .any base 22 v)
    (h : DataW.Trod enc Try.prog W 0 (fun _ => true) true 22 v d p) : ∃ (A : Option Addr) (c : Nat) (L : List H.En), v = .slice A L.length c ∧ L.length ≤ c ∧ NilOk A c ∧ Seen eEc W A L ∧ L.length ≤ maxLen ∧ ∀ x ∈ L, LongE x := by
  obtain ⟨A, n, c, rfl⟩ := okWide_slice Try.underlying22 hok
  have hnc : n ≤ c := (slice_ok Try.underlying22 hok).2
  have hno : NilOk A c := fun e => ((slice_ok Try.underlying22 hok).1 e).2
  obtain ⟨fuel, hf⟩ := h
  rcases Go.Deep.open_slice Try.underlying22 hf with ⟨hcs, _⟩ | ⟨a, len, cap, m, k, D, Pl, hcs, _, hl, hm, hmm, _, hx⟩
  · have hc2 : ([Value.slice A n c] : List Value) = [.slice none 0 0] := hcs
    injection hc2 with hc2
    injection hc2 with e1 e2 e3
    subst e1; subst e2; subst e3
    exact ⟨none, 0, [], rfl, Nat.le_refl _, fun _ => rfl, Seen.nil, by unfold maxLen; simp, fun x hx => by cases hx⟩
  · have hc2 : ([Value.slice A n c] : List Value) = [.slice (some a) len cap] := hcs
    injection hc2 with hc2
    injection hc2 with e1 e2 e3
    subst e1; subst e2; subst e3
    have hnm : n ≤ m := by rw [hmm]; simp; exact hl
    have each : ∀ i, i < n → ∃ x : H.En, (W.cell? (a.add (i * 4)) = some (.string (sB x.host)) ∧ W.cell? (a.add (i * 4 + 1)) = some (.int .i64 x.kind) ∧ W.cell? (a.add (i * 4 + 2)) = some (.string (sB x.key)) ∧ W.cell? (a.add (i * 4 + 3)) = some (.string (sB x.val))) ∧ LongE x := by
      intro i hi
      obtain ⟨cs', h1, h2⟩ := hx i (by omega)
      rw [Try.cellsEntry] at h1
      obtain ⟨_, hlen, hcell⟩ := World.cells?_some h1
      obtain ⟨xs, q, hq, hxy, _, hxl, hff⟩ := DataW.trod_struct Try.underlying44 h2
      match xs, hxl, cs', hlen with
      | [y0, y1, y2, y3], _, [v0, v1, v2, v3], _ =>
        have g0 := hff 0 _ rfl
        have g1 := hff 1 _ rfl
        have g2 := hff 2 _ rfl
        have g3 := hff 3 _ rfl
        simp [Try.cellsInt, Try.cellsStr] at g0 g1 g2 g3
        obtain ⟨z0, q0, _, w0⟩ := DataW.trod_string Try.underlying9 g0
        obtain ⟨z1, q1, _, w1⟩ := DataW.trod_int Try.underlying3 g1
        obtain ⟨z2, q2, _, w2⟩ := DataW.trod_string Try.underlying9 g2
        obtain ⟨z3, q3, _, w3⟩ := DataW.trod_string Try.underlying9 g3
        simp at q0 q1 q2 q3
        subst q0; subst q1; subst q2; subst q3
        have e0 := hcell 0 (by omega)
        have e1 := hcell 1 (by omega)
        have e2 := hcell 2 (by omega)
        have e3 := hcell 3 (by omega)
        rw [Go.Deep.add_add] at e0 e1 e2 e3
        have wb := bounds_i64 w1
        refine ⟨⟨z0.data.toList, z1, z2.data.toList, z3.data.toList⟩, ⟨by rw [sB_of]; simpa using e0, by simpa using e1, by rw [sB_of]; simpa using e2, by rw [sB_of]; simpa using e3⟩, by rw [← sB_size, sB_of]; exact w0, by rw [← sB_size, sB_of]; exact w2, by rw [← sB_size, sB_of]; exact w3, wb.1, wb.2⟩
    haveI : Inhabited H.En := ⟨⟨[], 0, [], []⟩⟩
    obtain ⟨f, hfx⟩ := Go.Deep.choose_lt each
    refine ⟨some a, c, (List.range n).map f, by simp, by simp; exact hnc, hno, fun hpos => ?_, by simp; omega, fun x hx => ?_⟩
    · have hn : 0 < n := by simpa using hpos
      obtain ⟨b, o, sp⟩ := a
      have hc0 := (hfx 0 hn).1.1
      have hsp : sp = none := by simpa [Addr.add] using World.cell?_spot hc0
      subst hsp
      refine ⟨b, o, rfl, ?_, fun i hi j u hu => ?_⟩
      · have := World.block_lt_of_cell? W _ hc0; simpa [Addr.add] using this
      · have hin : i < n := by simpa using hi
        obtain ⟨⟨h0, h1, h2, h3⟩, _⟩ := hfx i hin
        rw [add_off] at h0 h1 h2 h3
        have eg : ((List.range n).map f)[i] = f i := by simp
        rw [eg] at hu
        match j, hu with
        | 0, hu => injection hu with hu; rw [← hu]; exact h0
        | 1, hu => injection hu with hu; rw [← hu]; exact h1
        | 2, hu => injection hu with hu; rw [← hu]; exact h2
        | 3, hu => injection hu with hu; rw [← hu]; exact h3
        | j + 4, hu => cases hu
    · obtain ⟨i, hi, rfl⟩ := List.mem_map.1 hx
      exact (hfx i (List.mem_range.1 hi)).2
theorem EntAt.cells {w : World} {g : Nat} {a : List UInt8} {k : Int} {b d : List UInt8} (h : EntAt w g a k b d) : w.cell? ⟨g, 0, none⟩ = some (.string (sB a)) ∧ w.cell? ⟨g, 1, none⟩ = some (.int .i64 k) ∧ w.cell? ⟨g, 2, none⟩ = some (.string (sB b)) ∧ w.cell? ⟨g, 3, none⟩ = some (.string (sB d)) := ⟨h.host0, h.kind0, h.key0, h.val0⟩
theorem long_yes {a : List UInt8} (h : ¬ a.length ≤ 100) : decide ((100 : Int) < ((sB a).size : Int)) = true := decide_eq_true (by rw [sB_size]; omega)
theorem long_no {a : List UInt8} (h : a.length ≤ 100) : decide ((100 : Int) < ((sB a).size : Int)) = false := decide_eq_false (by rw [sB_size]; omega)
end Go.Proofs.Ytpkhnchbamjgjaa

namespace Go.Proofs.Ytpkhnchbamjgjaa
open Go.RowKit
set_option linter.unusedVariables false

set_option maxHeartbeats 4000000 in
theorem aheadR (x y : H.En) (r : Bool) (w : World) (hr : H.aheadE x y = r) : Calls Try.prog 37 #[enV x, enV y] w (fun e w' => e = .returned (.bool r) ∧ Below w.heap.size w w') := by
  obtain ⟨h1, k1, q1, v1⟩ := x
  obtain ⟨h2, k2, q2, v2⟩ := y
  unfold H.aheadE at hr
  simp only at hr
  unfold enV
  simp only
  by_cases e1 : h1 = h2
  · rw [if_neg (fun h => h e1)] at hr
    have b1 : ((sB h1).toList == (sB h2).toList) = true := sB_eq e1
    clear e1
    by_cases e2 : k1 = k2
    · rw [if_neg (fun h => h e2)] at hr
      have b2 : (k1 == k2) = true := by simp [e2]
      clear e2
      by_cases e3 : q1 = q2
      · rw [if_neg (fun h => h e3)] at hr
        have b3 : ((sB q1).toList == (sB q2).toList) = true := sB_eq e3
        have b4 : Op.bytesLess (sB v1).toList (sB v2).toList = r := by rw [sB_toList, sB_toList]; exact hr
        clear e3 hr
        go_enter Try.func37, Try.ntmps37
        go_wp2
        go_ret
        exact ⟨rfl, bthen (up _ _) (up _ _)⟩
      · rw [if_pos e3] at hr
        have b3 : ((sB q1).toList == (sB q2).toList) = false := sB_ne e3
        have b4 : Op.bytesLess (sB q1).toList (sB q2).toList = r := by rw [sB_toList, sB_toList]; exact hr
        clear e3 hr
        go_enter Try.func37, Try.ntmps37
        go_wp2
        go_ret
        exact ⟨rfl, bthen (up _ _) (up _ _)⟩
    · rw [if_pos e2] at hr
      have b2 : (k1 == k2) = false := by simp [e2]
      clear e2
      go_enter Try.func37, Try.ntmps37
      go_wp2
      go_ret
      exact ⟨rfl, bthen (up _ _) (up _ _)⟩
  · rw [if_pos e1] at hr
    have b1 : ((sB h1).toList == (sB h2).toList) = false := sB_ne e1
    have b4 : Op.bytesLess (sB h1).toList (sB h2).toList = r := by rw [sB_toList, sB_toList]; exact hr
    clear e1 hr
    go_enter Try.func37, Try.ntmps37
    go_wp2
    go_ret
    exact ⟨rfl, bthen (up _ _) (up _ _)⟩

set_option maxRecDepth 100000 in
theorem sameR14 (A B : Option Addr) (c d n : Nat) (l : List H.En) (w : World) (hn : l.length = n) (hl : n ≤ 1073741824) (hA : Seen eEd w A l) (hB : Seen eEd w B l) :
    Calls Try.prog 15 #[.slice A n c, .slice B n d] w (TrueS w) := by
  have HA := Lib.hid hA
  have HB := Lib.hid hB
  have HN := Lib.hid hn
  clear hA hB hn
  go_enter Try.func15, Try.ntmps15
  go_wp2
  go_loopg [5] n (fun g i wr => ∃ k : Nat, Hid (k + g = n) ∧ k ≤ n ∧ i = .int .i64 k ∧ Below w.heap.size w wr)
  case atStart => exact ⟨0, Nat.zero_add _, Nat.zero_le _, rfl, Below.refl _ _⟩
  case round =>
    obtain ⟨k, HG, hk, rfl, hb⟩ := hrel
    by_cases hlt : k < n
    · have hkl : k < l.length := by have := HN.out; omega
      obtain ⟨b1, o1, rfl, hw1, hL1⟩ := HA.out (by omega)
      obtain ⟨b2, o2, rfl, hw2, hL2⟩ := HB.out (by omega)
      obtain ⟨c0, c1, c2, c3⟩ := (hL1.below hb hw1).entry rfl rfl hkl
      obtain ⟨d0, d1, d2, d3⟩ := (hL2.below hb hw2).entry rfl rfl hkl
      generalize l[k] = x at c0 c1 c2 c3 d0 d1 d2 d3
      clear hL1 hL2
      go_wp2
      go_region
      go_wp2
      go_roundg (n - (k + 1))
      case rel => exact ⟨k + 1, (by show _ = _; omega), by omega, by go_num, hb.drew⟩
      case measure => have := HG.out; omega
    · go_wp2
      go_ret
      exact ⟨rfl, hb⟩
end Go.Proofs.Ytpkhnchbamjgjaa

namespace Go.Proofs.Ytpkhnchbamjgjaa.C
set_option linter.unusedVariables false
open T (Pth pless RightN RightT pathL endL kidsL underL pathI wd dp at_ Ln pre isIn)

theorem mem_pths {t : List Ln} {p : Pth} : p ∈ pths t ↔ isIn t p := by
  unfold pths isIn
  rw [List.mem_map]
  exact ⟨fun ⟨k, h, e⟩ => ⟨k, List.mem_range.1 h, e⟩, fun ⟨k, h, e⟩ => ⟨k, List.mem_range.2 h, e⟩⟩
end Go.Proofs.Ytpkhnchbamjgjaa.C

namespace Go.Proofs.Ytpkhnchbamjgjaa
open Go.RowKit
set_option linter.unusedVariables false

theorem Own.frozenNo {α : Type} {E : Elem α} {w : World} {base g n cap : Nat} {t : List α} (h : Own E w base (.slice (some ⟨g, 0, none⟩) n cap) t) (j : Nat) : w.frozen? ⟨g, j, none⟩ = false ∧ base ≤ g ∧ g < w.heap.size := by
  rcases h.2 with ⟨e, _⟩ | ⟨g2, cap2, cur, e, hbg, hgg, _⟩
  · cases e
  · injection e with e1 e2 e3
    injection e1 with e1
    injection e1 with e1
    subst e1
    exact ⟨Lib.frozen_of_heap hgg j, hbg, (Array.getElem?_eq_some_iff.1 hgg).1⟩
theorem below_cells {B : Nat} {a : World} (b : Nat) (hb : B ≤ b) : ∀ (vs : List Value) (o : Nat) {w : World}, Below B a w → Below B a (w.setCells b o vs)
  | [], _, _, h => h
  | v :: r, o, _, h => below_cells b hb r (o + 1) (h.setCell (p := ⟨b, o, none⟩) hb v)
theorem zeroCells_one (a : Array Value) (h : ∀ v ∈ a, v.oneCell' = true) (n : Nat) : ∀ v ∈ (Builtin.zeroCells a n).toList, v.oneCell' = true := by
  intro v hv
  unfold Builtin.zeroCells at hv
  rw [Array.toList_map] at hv
  obtain ⟨i, hi, rfl⟩ := List.mem_map.1 hv
  have hi2 : i < n * a.size := by simpa using hi
  have hpos : 0 < a.size := Nat.pos_of_ne_zero fun e => by rw [e] at hi2; omega
  have hm : i % a.size < a.size := Nat.mod_lt _ hpos
  rw [getElem!_pos a (i % a.size) hm]
  exact h _ (Array.getElem_mem hm)

end Go.Proofs.Ytpkhnchbamjgjaa

namespace Go.Proofs.Ytpkhnchbamjgjaa
open Go.RowKit
open F
set_option linter.unusedVariables false
set_option linter.unusedSimpArgs false

open Go.Region in
/-- 'wpAnyH_take', the operation's own slot named. -/
theorem takeD13 {P : Program} {ops : Array Oper} {Q : Exit → Act → World → Prop} {md : Region.Mode} {S : World → Prop} {i : Nat} {oi : Oper} {v : Value} {d : Option Nat} {fuel : Nat} {listed : Array Bool} {a : Act} {w : World} (hi : ops[i]? = some oi) (hd : oi.dst = d)
    (hs : Region.noSelect ops = true) (hf : free md ops listed i = true) (hr : (Region.ready md ops listed).contains i = true)
    (hQ : ∀ c a w, Q (.panic c) (a.put d v) w → Q (.panic c) a w) (hy : YieldsIf P ops S oi v a) (hS : S w)
    (h : wpAnyH P md ops Q S fuel (listed.setIfInBounds i true) (a.put d v) w) : wpAnyH P md ops Q S (fuel + 1) listed a w := by
  subst hd; exact wpAnyH_take hi hs hf hr hQ hy hS h
end Go.Proofs.Ytpkhnchbamjgjaa
