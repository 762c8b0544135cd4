/-
  Plain laws for layer 14: entries in order, each once; the tables of a tree. No conditions.
  Several slices of the call's own, each in blocks of its own: append of one to one of them leaves the others as they were. Condition: at most 2^40 elements.
  Contracts of the smallest functions under layer 1 (word): shown, plainByte, strings.IndexByte, strings.HasPrefix, reserved, allPlain return what the plain definitions say, and leave the world as it was. Condition: strings of at most 2^40 bytes. Contracts of layer 1's Scan, and of quotedEnd, one and coded beneath Unquote: they return what the plain definitions say, and leave the world as it was. Condition: strings of at most 2^40 bytes. Contracts of one and coded (layer 1, beneath Unquote): they return what the plain definitions say, and leave the world as it was. Condition: strings of at most 2^40 bytes. A slice of bytes of the call's own: what append does to it, its string, a literal one. Condition: at most 2^42 bytes. Contracts of layer 1's inner, meant and Unquote: the word of a text is what the plain definitions say; below the heap's size at the call the world is as it was. Condition: strings of at most 2^40 bytes. Contracts of layer 1's Scan and Unquote, with what they answer as a variable. Condition: strings of at most 2^40 bytes. Contracts of layer 1's appendQuoted and Quote: what is written is what the plain definitions say; below the heap's size at the call the world is as it was. Condition: strings of at most 2^40 bytes.
  A slice of tokens of the call's own: what append does to it; the cells of a token. Condition: at most 2^40 tokens. Contracts of lex's blank, sign and markBit (layer 2): they return what the plain definitions say, and leave the world as it was. No conditions. Contract of lex's take (layer 2): the token at a byte, and its end, or the error, is what the plain definitions say; below the heap's size at the call the world is as it was. Condition: strings of at most 2^40 bytes. Contract of layer 2's All: the tokens of a text, or the first error, are what the plain definitions say; below the heap's size at the call the world is as it was. Condition: strings of at most 2^30 bytes. Contracts of layer 2's Place and of the document's: the line and the byte of a place are what the plain definitions say; the world is as it was. Condition: strings of at most 2^30 bytes.
  Contracts of the leaves of layer 5: cmp.Compare and slices.Compare of words, slices.Equal and slices.Clone of paths. Condition: paths of at most 2^30 words. What a reader of layer 5 holds in memory: its block, the statements that it has found, the paths of each; slices.Clone of a path. Condition: paths of at most 2^30 words. Contracts of layer 5's begins, goesOn and has: what each says of a reader; below the heap's size at the call the world is as it was. No conditions but tokens as layer 2 has them. Contracts of layer 5's name and take: a step of the reader is what the plain definition says, and what it leaves as it was. No conditions but tokens as layer 2 has them.
  Contracts of the document's With and Put (layer 5): a path and one more word; a line where it belongs. Condition: a tree, and the path of one of its lines, or of none. Contract of the document's Put (layer 5): a line where it belongs. Condition: a tree, and the path of one of its lines, or of none.
-/
import Derived.Test.YtfcikfohmehmkaaGreatDoorBase4
import Derived.Maps.AppendAt
import Derived.Test.YtfcikfohmehmkaaGreatDoorRows
import Derived.WalkKit
import Derived.WalkSpells
import Derived.WalkLawsBesides
import Derived.Lib.Bytealg
import Derived.Lib.Hide
import Derived.Deep.RegionLaw
import Derived.Laws.IdiomStrings
import Derived.Laws.BytesArg
import Derived.Laws.OwnMore
import Derived.Deep.LoopGhost
import Derived.WalkMore
import Derived.RegionTactic

namespace Go.Proofs.YtfcikfohmehmkaaGreatDoor.H
set_option linter.unusedVariables false
open T (Pth RightN RightT isIn underW Ln)
open C (Wd wHosts wVnis wBindings wRoutes wPolicy wIp wMac wHost wVni wVia wMetric wAction wFrom wTo)

/-- An entry. -/
structure En where
  host : Wd
  kind : Int
  key : Wd
  val : Wd
deriving DecidableEq
/-- Does one stand ahead of another one? -/
def aheadE (a b : En) : Bool := if a.host ≠ b.host then Op.bytesLess a.host b.host else if a.kind ≠ b.kind then decide (a.kind < b.kind) else if a.key ≠ b.key then Op.bytesLess a.key b.key else Op.bytesLess a.val b.val
theorem ahead_irr (a : En) : aheadE a a = false := by
  unfold aheadE
  rw [if_neg (fun h => h rfl), if_neg (fun h => h rfl), if_neg (fun h => h rfl)]
  exact T.less_irr _
/-- What 'ahead' says, place by place. -/
theorem ahead_iff (a b : En) : aheadE a b = true ↔ Op.bytesLess a.host b.host = true ∨ (a.host = b.host ∧ (a.kind < b.kind ∨ (a.kind = b.kind ∧ (Op.bytesLess a.key b.key = true ∨ (a.key = b.key ∧ Op.bytesLess a.val b.val = true))))) := by
  have ne : ∀ {x y : Wd}, Op.bytesLess x y = true → x ≠ y := fun h e => by rw [e, T.less_irr] at h; cases h
  unfold aheadE
  by_cases h1 : a.host = b.host
  · rw [if_neg (fun h => h h1)]
    by_cases h2 : a.kind = b.kind
    · rw [if_neg (fun h => h h2)]
      by_cases h3 : a.key = b.key
      · rw [if_neg (fun h => h h3)]
        constructor
        · intro h; exact .inr ⟨h1, .inr ⟨h2, .inr ⟨h3, h⟩⟩⟩
        · rintro (h | ⟨_, h | ⟨_, h | ⟨_, h⟩⟩⟩)
          · exact absurd h1 (ne h)
          · omega
          · exact absurd h3 (ne h)
          · exact h
      · rw [if_pos h3]
        constructor
        · intro h; exact .inr ⟨h1, .inr ⟨h2, .inl h⟩⟩
        · rintro (h | ⟨_, h | ⟨_, h | ⟨h, _⟩⟩⟩)
          · exact absurd h1 (ne h)
          · omega
          · exact h
          · exact absurd h h3
    · rw [if_pos h2]
      constructor
      · intro h; exact .inr ⟨h1, .inl (of_decide_eq_true h)⟩
      · rintro (h | ⟨_, h | ⟨h, _⟩⟩)
        · exact absurd h1 (ne h)
        · exact decide_eq_true h
        · exact absurd h h2
  · rw [if_pos h1]
    constructor
    · intro h; exact .inl h
    · rintro (h | ⟨h, _⟩)
      · exact h
      · exact absurd h h1
theorem ahead_tri (a b : En) : aheadE a b = true ∨ a = b ∨ aheadE b a = true := by
  rw [ahead_iff, ahead_iff]
  rcases T.less_tri a.host b.host with h | h1 | h
  · exact .inl (.inl h)
  · rcases Int.lt_trichotomy a.kind b.kind with h | h2 | h
    · exact .inl (.inr ⟨h1, .inl h⟩)
    · rcases T.less_tri a.key b.key with h | h3 | h
      · exact .inl (.inr ⟨h1, .inr ⟨h2, .inl h⟩⟩)
      · rcases T.less_tri a.val b.val with h | h4 | h
        · exact .inl (.inr ⟨h1, .inr ⟨h2, .inr ⟨h3, h⟩⟩⟩)
        · refine .inr (.inl ?_)
          cases a; cases b; simp only at h1 h2 h3 h4; subst h1 h2 h3 h4; rfl
        · exact .inr (.inr (.inr ⟨h1.symm, .inr ⟨h2.symm, .inr ⟨h3.symm, h⟩⟩⟩))
      · exact .inr (.inr (.inr ⟨h1.symm, .inr ⟨h2.symm, .inl h⟩⟩))
    · exact .inr (.inr (.inr ⟨h1.symm, .inl h⟩))
  · exact .inr (.inr (.inl h))
theorem ahead_trans {a b c : En} (h : aheadE a b = true) (k : aheadE b c = true) : aheadE a c = true := by
  rw [ahead_iff] at h k ⊢
  rcases h with h | ⟨h1, h⟩
  · rcases k with k | ⟨k1, k⟩
    · exact .inl (T.less_trans _ _ _ h k)
    · exact .inl (by rw [← k1]; exact h)
  · rcases k with k | ⟨k1, k⟩
    · exact .inl (by rw [h1]; exact k)
    · refine .inr ⟨h1.trans k1, ?_⟩
      rcases h with h | ⟨h2, h⟩
      · rcases k with k | ⟨k2, k⟩
        · exact .inl (by omega)
        · exact .inl (by omega)
      · rcases k with k | ⟨k2, k⟩
        · exact .inl (by omega)
        · refine .inr ⟨h2.trans k2, ?_⟩
          rcases h with h | ⟨h3, h⟩
          · rcases k with k | ⟨k3, k⟩
            · exact .inl (T.less_trans _ _ _ h k)
            · exact .inl (by rw [← k3]; exact h)
          · rcases k with k | ⟨k3, k⟩
            · exact .inl (by rw [h3]; exact k)
            · exact .inr ⟨h3.trans k3, T.less_trans _ _ _ h k⟩
theorem ahead_asymm {a b : En} (h : aheadE a b = true) : aheadE b a = false := by
  cases k : aheadE b a with
  | false => rfl
  | true => have := ahead_trans h k; rw [ahead_irr] at this; cases this
/-- In order, each once. -/
def SortE (l : List En) : Prop := l.Pairwise fun a b => aheadE a b = true
def insE (e : En) : List En → List En
  | [] => [e]
  | x :: l => if aheadE e x = true then e :: x :: l else x :: insE e l
def putE (l : List En) (e : En) : List En := if e ∈ l then l else insE e l
def setE (l : List En) : List En := l.foldl putE []
theorem mem_ins {e x : En} : ∀ {l : List En}, x ∈ insE e l ↔ x = e ∨ x ∈ l
  | [] => by simp [insE]
  | y :: l => by
    unfold insE
    split
    · simp
    · rw [List.mem_cons, mem_ins (l := l), List.mem_cons]
      constructor
      · rintro (h | h | h)
        · exact .inr (.inl h)
        · exact .inl h
        · exact .inr (.inr h)
      · rintro (h | h | h)
        · exact .inr (.inl h)
        · exact .inl h
        · exact .inr (.inr h)
theorem sort_ins {e : En} : ∀ {l : List En}, SortE l → e ∉ l → SortE (insE e l)
  | [], _, _ => by simp [insE, SortE]
  | y :: l, h, hn => by
    obtain ⟨h1, h2⟩ := List.pairwise_cons.1 h
    unfold insE
    split
    · next k => exact List.pairwise_cons.2 ⟨fun x hx => by
        rcases List.mem_cons.1 hx with rfl | hx
        · exact k
        · exact ahead_trans k (h1 x hx), h⟩
    · next k =>
      have hne : e ≠ y := fun q => hn (by rw [q]; exact List.mem_cons_self)
      have hye : aheadE y e = true := by
        rcases ahead_tri e y with q | q | q
        · exact absurd q k
        · exact absurd q hne
        · exact q
      refine List.pairwise_cons.2 ⟨fun x hx => ?_, sort_ins h2 (fun q => hn (List.mem_cons_of_mem _ q))⟩
      rcases mem_ins.1 hx with rfl | hx
      · exact hye
      · exact h1 x hx
theorem mem_put {l : List En} {e x : En} : x ∈ putE l e ↔ x ∈ l ∨ x = e := by
  unfold putE
  split
  · next h => exact ⟨.inl, fun k => k.elim id (fun q => q ▸ h)⟩
  · rw [mem_ins]; exact Or.comm
theorem sort_put {l : List En} {e : En} (h : SortE l) : SortE (putE l e) := by
  unfold putE
  split
  · exact h
  · next k => exact sort_ins h k
theorem fold_put : ∀ (l a : List En), SortE a → SortE (l.foldl putE a) ∧ ∀ x, x ∈ l.foldl putE a ↔ x ∈ a ∨ x ∈ l
  | [], a, h => ⟨h, fun x => by simp⟩
  | e :: l, a, h => by
    obtain ⟨h1, h2⟩ := fold_put l (putE a e) (sort_put h)
    refine ⟨h1, fun x => ?_⟩
    rw [List.foldl_cons, h2 x, mem_put, List.mem_cons]
    constructor
    · rintro ((h | h) | h)
      · exact .inl h
      · exact .inr (.inl h)
      · exact .inr (.inr h)
    · rintro (h | h | h)
      · exact .inl (.inl h)
      · exact .inl (.inr h)
      · exact .inr h
theorem set_sort (l : List En) : SortE (setE l) := (fold_put l [] List.Pairwise.nil).1
theorem mem_set {l : List En} {x : En} : x ∈ setE l ↔ x ∈ l := by
  have := (fold_put l [] List.Pairwise.nil).2 x
  rw [show setE l = l.foldl putE [] from rfl, this]; simp
/-- Lists in order with the same entries are the same. -/
theorem sort_ext : ∀ {a b : List En}, SortE a → SortE b → (∀ x, x ∈ a ↔ x ∈ b) → a = b
  | [], [], _, _, _ => rfl
  | [], y :: b, _, _, h => by have := (h y).2 List.mem_cons_self; cases this
  | x :: a, [], _, _, h => by have := (h x).1 List.mem_cons_self; cases this
  | x :: a, y :: b, ha, hb, h => by
    obtain ⟨a1, a2⟩ := List.pairwise_cons.1 ha
    obtain ⟨b1, b2⟩ := List.pairwise_cons.1 hb
    have e : x = y := by
      rcases List.mem_cons.1 ((h x).1 List.mem_cons_self) with e | hx
      · exact e
      · rcases List.mem_cons.1 ((h y).2 List.mem_cons_self) with e | hy
        · exact e.symm
        · have h1 := b1 x hx
          have h2 := a1 y hy
          rw [ahead_asymm h1] at h2; cases h2
    subst e
    rw [sort_ext a2 b2 fun z => ?_]
    constructor
    · intro hz
      rcases List.mem_cons.1 ((h z).1 (List.mem_cons_of_mem _ hz)) with e | k
      · subst e; have := a1 z hz; rw [ahead_irr] at this; cases this
      · exact k
    · intro hz
      rcases List.mem_cons.1 ((h z).2 (List.mem_cons_of_mem _ hz)) with e | k
      · subst e; have := b1 z hz; rw [ahead_irr] at this; cases this
      · exact k
theorem set_ext {a : List En} {l : List En} (h : SortE a) (hm : ∀ x, x ∈ a ↔ x ∈ l) : a = setE l := sort_ext h (set_sort l) fun x => (hm x).trans mem_set.symm
theorem sort_nodup {l : List En} (h : SortE l) : l.Nodup := h.imp fun {a b} k e => by subst e; rw [ahead_irr] at k; cases k
theorem set_len (l : List En) : (setE l).length ≤ l.length := (sort_nodup (set_sort l)).length_le_of_subset fun x hx => mem_set.1 hx
theorem sort_filter {l : List En} (h : SortE l) (f : En → Bool) : SortE (l.filter f) := h.filter _
-- THE TABLES
def wLocal : Wd := [108, 111, 99, 97, 108]
def wAny : Wd := [97, 110, 121]
/-- The first word under a path; another one: there is none. -/
def wordH (t : List Ln) (p : Pth) (o : Wd) : Wd := (underW t p).headD o
def inH (t : List Ln) (h v : Wd) : Bool := decide (v ∈ underW t [wHosts, h, wVnis])
def ipH (t : List Ln) (g : Wd) : Wd := wordH t [wHosts, g, wIp] []
def floodL (t : List Ln) (h g : Wd) : List En := ((underW t [wVnis]).filter fun v => decide (h ≠ g) && inH t h v && inH t g v).map fun v => ⟨h, 1, v, ipH t g⟩
def bindOne (t : List Ln) (h g i : Wd) : List En :=
  if wordH t [wBindings, i, wHost] [] = g ∧ inH t h (wordH t [wBindings, i, wVni] []) = true then
    ⟨h, 2, wordH t [wBindings, i, wVni] [] ++ 32 :: i, wordH t [wBindings, i, wMac] []⟩ :: (if g = h then [] else [⟨h, 3, wordH t [wBindings, i, wVni] [] ++ 32 :: wordH t [wBindings, i, wMac] [], ipH t g⟩])
  else []
def bindL (t : List Ln) (h g : Wd) : List En := (underW t [wBindings]).flatMap (bindOne t h g)
def routeOne (t : List Ln) (h g p : Wd) : List En := if wordH t [wRoutes, p, wVia] [] = g then [⟨h, 4, p, (if g = h then wLocal else ipH t g) ++ 32 :: wordH t [wRoutes, p, wMetric] [48]⟩] else []
def routeL (t : List Ln) (h g : Wd) : List En := (underW t [wRoutes]).flatMap (routeOne t h g)
def pairsL (t : List Ln) (h g : Wd) : List En := floodL t h g ++ bindL t h g ++ routeL t h g
def polOne (t : List Ln) (h n : Wd) : En := ⟨h, 5, n, wordH t [wPolicy, n, wAction] [] ++ 32 :: (wordH t [wPolicy, n, wFrom] wAny ++ 32 :: wordH t [wPolicy, n, wTo] wAny)⟩
def polL (t : List Ln) (h : Wd) : List En := (underW t [wPolicy]).map (polOne t h)
def hostL (t : List Ln) (h : Wd) : List En := ((underW t [wHosts]).flatMap fun g => pairsL t h g) ++ polL t h
def allL (t : List Ln) : List En := (underW t [wHosts]).flatMap (hostL t)
def tablesL (t : List Ln) : List En := setE (allL t)
theorem flat_most {α β : Type} (f : α → List β) (k : Nat) : ∀ l : List α, (∀ x ∈ l, (f x).length ≤ k) → (l.flatMap f).length ≤ k * l.length
  | [], _ => by simp
  | x :: l, h => by
    rw [List.flatMap_cons, List.length_append, List.length_cons, Nat.mul_succ]
    have h1 := h x List.mem_cons_self
    have h2 := flat_most f k l fun y hy => h y (List.mem_cons_of_mem _ hy)
    omega
theorem under_few {Z : Nat} {t : List Ln} (h : RightN Z t) (hl : t.length ≤ 200) (p : Pth) : (underW t p).length ≤ 200 := Nat.le_trans (T.underW_len h p) hl
theorem flood_few {Z : Nat} {t : List Ln} (h : RightN Z t) (hl : t.length ≤ 200) (a b : Wd) : (floodL t a b).length ≤ 200 := by
  unfold floodL; rw [List.length_map]; exact Nat.le_trans (List.length_filter_le _ _) (under_few h hl _)
theorem bindOne_few (t : List Ln) (a b i : Wd) : (bindOne t a b i).length ≤ 2 := by
  unfold bindOne
  split
  · split <;> simp
  · simp
theorem routeOne_few (t : List Ln) (a b i : Wd) : (routeOne t a b i).length ≤ 1 := by
  unfold routeOne
  split <;> simp
theorem pairs_few {Z : Nat} {t : List Ln} (h : RightN Z t) (hl : t.length ≤ 200) (a b : Wd) : (pairsL t a b).length ≤ 800 := by
  unfold pairsL bindL routeL
  rw [List.length_append, List.length_append]
  have h1 := flood_few h hl a b
  have h2 := flat_most (bindOne t a b) 2 (underW t [wBindings]) fun x _ => bindOne_few t a b x
  have h3 := flat_most (routeOne t a b) 1 (underW t [wRoutes]) fun x _ => routeOne_few t a b x
  have h4 := under_few h hl [wBindings]
  have h5 := under_few h hl [wRoutes]
  omega
theorem host_few {Z : Nat} {t : List Ln} (h : RightN Z t) (hl : t.length ≤ 200) (a : Wd) : (hostL t a).length ≤ 160200 := by
  unfold hostL polL
  rw [List.length_append, List.length_map]
  have h1 := flat_most (fun g => pairsL t a g) 800 (underW t [wHosts]) fun x _ => pairs_few h hl a x
  have h2 := under_few h hl [wHosts]
  have h3 := under_few h hl [wPolicy]
  omega
theorem all_few {Z : Nat} {t : List Ln} (h : RightN Z t) (hl : t.length ≤ 200) : (allL t).length ≤ 32040000 := by
  unfold allL
  have h1 := flat_most (hostL t) 160200 (underW t [wHosts]) fun x _ => host_few h hl x
  have h2 := under_few h hl [wHosts]
  omega
theorem word_long {Z : Nat} {t : List Ln} (h : RightN Z t) (p : Pth) {o : Wd} (ho : o.length ≤ 40) : (wordH t p o).length ≤ 40 := by
  unfold wordH
  cases hu : underW t p with
  | nil => exact ho
  | cons x r => exact T.underW_word h (p := p) (by rw [hu]; exact List.mem_cons_self)
end Go.Proofs.YtfcikfohmehmkaaGreatDoor.H

namespace Go.Proofs.YtfcikfohmehmkaaGreatDoor
open Go.RowKit

section
variable {α : Type} {E : Elem α}
theorem Own.lt {w : World} {base : Nat} {v : Value} {l : List α} (h : Own E w base v l) : ∀ k, v.ownBlock = some k → base ≤ k ∧ k < w.heap.size := World.ownsRow.lt h
/-- What an append to v, in the world w, has made. -/
structure Grew (E : Elem α) (w w' : World) (base : Nat) (v v' : Value) (l : List α) : Prop where
  own : Own E w' base v' l
  grown : w.grownBy w' v.ownBlock
  at_ : v'.ownBlock = v.ownBlock ∨ ∃ g, v'.ownBlock = some g ∧ w.heap.size ≤ g
theorem Grew.below {w w' : World} {base : Nat} {v v' : Value} {l l2 : List α} (h : Grew E w w' base v v' l) (hv : Own E w base v l2) (hb : base ≤ w.heap.size) : Below base w w' :=
  Below.grown (Below.refl _ _) h.grown hb (fun k hk => (hv.lt k hk).1)
theorem wpList_app3 (E : Elem α) {ops : Array Oper} {rest : List Oper} {o : Oper} {a : Act} {Q : Exit → Act → World → Prop} (w : World) (hgd : o.guard = none) (s x : Operand)
    (ho : o.op = .call { callee := .builtin .append, args := #[s, x], argTypes := #[E.st, E.st] })
    (base : Nat) (v : Value) (l : List α) (hs : a.eval s = v) (hown : Own E w base v l) (t : α) (cap : Nat) (cs : Array Value) (hcs : cs.toList = E.C t)
    (g : Nat) (hg : w.heap.size = g) (hx : a.eval x = .slice (some ⟨g, 0, none⟩) 1 cap) (hlen : l.length + 1 ≤ 1099511627776) (hb : base ≤ w.heap.size)
    (h : ∀ v' w', Grew E w w' base v v' (l ++ [t]) → wpList Tryz.prog ops Q rest (a.put o.dst v') w') : wpList Tryz.prog ops Q (o :: rest) a (w.alloc (.cells cs E.T)) := by
  subst hg
  obtain ⟨i0, hi0, hz0, hz1, hz2⟩ := info_parts E.hin
  have hby := E.hby
  have hmul : (l.length + 1) * E.by_ ≤ 1099511627776 * 64 := Nat.mul_le_mul hlen hby
  refine Go.wpList_append_own_at (w := w.alloc (.cells cs E.T)) hgd s x E.st ho base E.T i0 _ E.sz E.by_ E.hst hi0 hz0 hz1 hz2 E.hzs E.hsz v l.length (cellsG E l) hs (World.ownsRow.alloc hown _) ⟨w.heap.size, 0, none⟩ 1 cap (cellsG E [t]) hx
    (by rw [cellsG_len]; rfl) (fun j u hu => new_cellsG E.T w cs (E.C t) hcs j u (by rw [← cellsG_one]; exact hu)) (cellsG_onec E _) (by unfold maxLen; omega) (by omega) (by simp; omega) ?_
  intro v' w' h1 h2 _ h3
  refine h v' w' ⟨?_, ⟨h2.os, h2.tape, h2.output, Nat.le_trans (by simp) h2.size, fun k hk hne => ?_⟩, ?_⟩
  · unfold Own; rw [cellsG_append, List.length_append]; exact h1
  · rw [h2.block k (by simp; omega) hne]; exact heap_alloc_old w _ hk
  · rcases h3 with h3 | h3
    · exact .inl h3
    · exact .inr ⟨_, h3, by simp⟩
end
end Go.Proofs.YtfcikfohmehmkaaGreatDoor

namespace Go.Proofs.YtfcikfohmehmkaaGreatDoor
open Go.RowKit

theorem ret_bool {a b : Bool} (h : a = b) : Ending.returned (.bool a) = .returned (.bool b) := by rw [h]

theorem shown_any (c : UInt8) (w : World) :
    Calls Tryz.prog 186 #[.int .u8 c.toNat] w fun e w' => e = .returned (.bool (W.shownB c)) ∧ w = w' := by
  go_enter Tryz.func186, Tryz.ntmps186
  go_wp2
  · go_ret
    exact ⟨ret_bool (W.shown_yes ‹_›).symm, rfl⟩
  · go_ret
    exact ⟨ret_bool (W.shown_no ‹_›).symm, rfl⟩

set_option maxRecDepth 100000 in
theorem sliteIndex_any (s : ByteArray) (c : UInt8) (w : World) :
    Calls Tryz.prog 175 #[.string s, .int .u8 c.toNat] w fun e w' => e = .returned (.int .i64 (Lib.indexByte s.data.toList c)) ∧ w = w' := by
  go_enter Tryz.func175, Tryz.ntmps175
  go_wp2
  rw [run_callFunc_extern Tryz.func184 (by kernel_rfl) (by kernel_rfl) (by kernel_rfl) (e := Extern.BytealgIndexByte.indexByte) (by kernel_rfl), Lib.run_indexByteString]
  simp only [Result.andThen]
  rw [Oper.upon_value]
  go_wp2
  go_ret
  exact ⟨by simp, rfl⟩

theorem index_any (s : ByteArray) (c : UInt8) (w : World) :
    Calls Tryz.prog 153 #[.string s, .int .u8 c.toNat] w fun e w' => e = .returned (.int .i64 (Lib.indexByte s.data.toList c)) ∧ w = w' := by
  go_enter Tryz.func153, Tryz.ntmps153
  go_wp2_with (go_at_call 175; refine (sliteIndex_any _ _ _).mono ?_; rintro e w' ⟨rfl, rfl⟩)
  go_ret
  exact ⟨rfl, rfl⟩

theorem plainByte_any (c : UInt8) (w : World) :
    Calls Tryz.prog 147 #[.int .u8 c.toNat] w fun e w' => e = .returned (.bool (W.plainB c)) ∧ w = w' := by
  go_enter Tryz.func147, Tryz.ntmps147
  go_wp2_with (go_at_call 153; refine (index_any _ _ _).mono ?_; rintro e w' ⟨rfl, rfl⟩)
  all_goals
    go_ret
    refine ⟨ret_bool (Eq.symm ?_), rfl⟩
    first
      | exact W.plainB_of (by omega)
      | exact W.plainB_idx c (by omega) (by omega) (by omega)

theorem litePrefix_any (s p : ByteArray) (w : World) :
    Calls Tryz.prog 115 #[.string s, .string p] w fun e w' => e = .returned (.bool (Lib.hasPrefix s.data.toList p.data.toList)) ∧ w = w' := by
  go_enter Tryz.func115, Tryz.ntmps115
  go_wp2
  · go_ret
    exact ⟨ret_bool (W.prefix_yes s p ‹_›), rfl⟩
  · go_ret
    exact ⟨ret_bool (W.prefix_no s p ‹_›), rfl⟩
theorem prefix_any (s p : ByteArray) (w : World) :
    Calls Tryz.prog 78 #[.string s, .string p] w fun e w' => e = .returned (.bool (Lib.hasPrefix s.data.toList p.data.toList)) ∧ w = w' := by
  go_enter Tryz.func78, Tryz.ntmps78
  go_wp2_with (go_at_call 115; refine (litePrefix_any _ _ _).mono ?_; rintro e w' ⟨rfl, rfl⟩)
  go_ret
  exact ⟨rfl, rfl⟩
theorem reserved_any (s : ByteArray) (w : World) :
    Calls Tryz.prog 171 #[.string s] w fun e w' => e = .returned (.bool (W.reservedL s.data.toList)) ∧ w = w' := by
  go_enter Tryz.func171, Tryz.ntmps171
  go_wp2_with (go_at_call 78; refine (prefix_any _ _ _).mono ?_; rintro e w' ⟨rfl, rfl⟩)
  · go_ret
    exact ⟨ret_bool (W.reserved_a s ‹_›).symm, rfl⟩
  · go_ret
    exact ⟨ret_bool (W.reserved_b s ‹_›).symm, rfl⟩
  · go_ret
    refine ⟨ret_bool ?_, rfl⟩
    rw [W.reserved_c s ‹_› ‹_›]
    simp [*]

theorem allPlain_any (s : ByteArray) (w : World) (hs : s.size ≤ 1099511627776) :
    Calls Tryz.prog 170 #[.string s] w fun e w' => e = .returned (.bool (W.allPlainL s.data.toList)) ∧ w = w' := by
  go_enter Tryz.func170, Tryz.ntmps170
  go_wp2
  go_loop [3] (fun i => ∃ k : Nat, k ≤ s.size ∧ i = .int .i64 k ∧ Hid ((s.data.toList.take k).all W.plainB = true)) (fun i => s.size - (intOf i).toNat)
  case atStart => exact ⟨0, Nat.zero_le _, rfl, by simp [Hid]⟩
  case round =>
    obtain ⟨k, hk, rfl, H⟩ := hrel
    by_cases hlt : k < s.size
    · cases hp : W.plainB s[k]
      · go_wp2_with (go_at_call 147; refine (plainByte_any _ _).mono ?_; rintro e w' ⟨rfl, rfl⟩)
        go_ret
        exact ⟨ret_bool (W.allPlain_miss s k hlt hp).symm, rfl⟩
      · go_wp2_with (go_at_call 147; refine (plainByte_any _ _).mono ?_; rintro e w' ⟨rfl, rfl⟩)
        go_round
        case rel => exact ⟨k + 1, by omega, by go_num, W.all_snoc s k hlt H.out hp⟩
        case measure => simp [intOf]; omega
    · go_wp2
      go_ret
      exact ⟨ret_bool (by rw [W.allPlain_all s k (by omega) H.out]), rfl⟩

end Go.Proofs.YtfcikfohmehmkaaGreatDoor

namespace Go.Proofs.YtfcikfohmehmkaaGreatDoor
open Go.RowKit

theorem ret_int_bool {a b : Int} {c d : Bool} (h : a = b) (h2 : c = d) : Ending.returned (.tuple #[.int .i64 a, .bool c]) = .returned (.tuple #[.int .i64 b, .bool d]) := by rw [h, h2]
theorem ret_byte_int {a b c d : Int} (h : a = b) (h2 : c = d) : Ending.returned (.tuple #[.int .u8 a, .int .i64 c]) = .returned (.tuple #[.int .u8 b, .int .i64 d]) := by rw [h, h2]

set_option maxHeartbeats 400000 in
theorem quotedEnd_any (s : ByteArray) (a : Nat) (w : World) (hs : s.size ≤ 1099511627776) (ha : a < s.size) :
    Calls Tryz.prog 146 #[.string s, .int .i64 a] w fun e w' => e = .returned (.tuple #[.int .i64 (W.optN (W.qFrom s.data.toList (a + 1))), .bool (W.qFrom s.data.toList (a + 1)).isSome]) ∧ w = w' := by
  go_enter Tryz.func146, Tryz.ntmps146
  go_wp2
  go_loop [6] (fun i => ∃ k : Nat, k ≤ s.size + 1 ∧ i = .int .i64 k ∧ Hid (W.qFrom s.data.toList (a + 1) = W.qFrom s.data.toList k)) (fun i => s.size + 1 - (intOf i).toNat)
  case atStart => exact ⟨a + 1, by omega, by go_num, rfl⟩
  case round =>
    obtain ⟨k, hk, rfl, H⟩ := hrel
    by_cases hlt : k < s.size
    · go_wp2
      · have h1 : ((s[k].toNat : Int) == 34) = true := by assumption
        go_ret2
        exact ⟨ret_int_bool (by rw [H.out, W.qFrom_hit s k hlt (by simp at h1; omega)]; simp [W.optN]) (by rw [H.out, W.qFrom_hit s k hlt (by simp at h1; omega)]; rfl), rfl⟩
      · have h1 : ((s[k].toNat : Int) == 34) = false := by assumption
        have h2 : ((s[k].toNat : Int) == 92) = true := by assumption
        go_round
        case rel => exact ⟨k + 2, by omega, by go_num, by rw [H.out]; exact W.qFrom_back s k hlt (by simp at h2; omega)⟩
        case measure => simp [intOf]; omega
      · have h1 : ((s[k].toNat : Int) == 34) = false := by assumption
        have h2 : ((s[k].toNat : Int) == 92) = false := by assumption
        go_round
        case rel => exact ⟨k + 1, by omega, by go_num, by rw [H.out]; exact W.qFrom_plain s k hlt (by simp at h1; omega) (by simp at h2; omega)⟩
        case measure => simp [intOf]; omega
    · go_wp2
      go_ret2
      exact ⟨ret_int_bool (by rw [H.out, W.qFrom_over s k (by omega)]; rfl) (by rw [H.out, W.qFrom_over s k (by omega)]; rfl), rfl⟩

set_option maxHeartbeats 400000 in
theorem scan_any (s : ByteArray) (a : Int) (w : World) (hs : s.size ≤ 1099511627776) :
    Calls Tryz.prog 117 #[.string s, .int .i64 a] w fun e w' => e = .returned (.tuple #[.int .i64 (W.optN (W.scanL s.data.toList a)), .bool (W.scanL s.data.toList a).isSome]) ∧ w = w' := by
  by_cases h0 : a < 0
  · go_enter Tryz.func117, Tryz.ntmps117
    go_wp2
    go_ret2
    exact ⟨ret_int_bool (by rw [W.scan_neg _ _ h0]; rfl) (by rw [W.scan_neg _ _ h0]; rfl), rfl⟩
  · obtain ⟨k, rfl⟩ := Int.eq_ofNat_of_zero_le (show 0 ≤ a by omega)
    by_cases hlt : k < s.size
    · by_cases hc : s[k].toNat = 34
      · have hb : ((s[k].toNat : Int) == 34) = true := by simp; omega
        have HC := Lib.hid hc
        clear hc
        go_enter Tryz.func117, Tryz.ntmps117
        go_wp2_with (go_at_call 146; refine (quotedEnd_any _ _ _ hs hlt).mono ?_; rintro e w' ⟨rfl, rfl⟩)
        go_ret2
        exact ⟨ret_int_bool (by rw [W.scan_quote s k hlt HC.out]) (by rw [W.scan_quote s k hlt HC.out]), rfl⟩
      · have hb : ((s[k].toNat : Int) == 34) = false := by simp; omega
        go_enter Tryz.func117, Tryz.ntmps117
        go_wp2
        go_loop [6] (fun i => ∃ j : Nat, k ≤ j ∧ j ≤ s.size ∧ i = .int .i64 j ∧ Hid (W.plainRun (s.data.toList.drop k) = j - k + W.plainRun (s.data.toList.drop j))) (fun i => s.size - (intOf i).toNat)
        case atStart => exact ⟨k, by omega, by omega, rfl, by simp [Hid]⟩
        case round =>
          obtain ⟨j, hj, hjs, rfl, H⟩ := hrel
          have hsc := Lib.hid (W.scan_plain s k hlt hc)
          by_cases hjl : j < s.size
          · cases hp : W.plainB s[j]
            · have hz := Lib.hid (W.plainRun_stop s j hjl hp)
              by_cases hjk : j = k
              · obtain rfl := hjk
                go_wp2_with (go_at_call 147; refine (plainByte_any _ _).mono ?_; rintro e w' ⟨rfl, rfl⟩)
                go_ret2
                exact ⟨ret_int_bool (by rw [hsc.out, H.out, hz.out]; simp [W.optN]) (by rw [hsc.out, H.out, hz.out]; simp), rfl⟩
              · have hjk2 : ((j : Int) == (k : Int)) = false := by simp; omega
                go_wp2_with (go_at_call 147; refine (plainByte_any _ _).mono ?_; rintro e w' ⟨rfl, rfl⟩)
                go_ret2
                have hne : ¬ (j - k + 0 = 0) := by omega
                exact ⟨ret_int_bool (by rw [hsc.out, H.out, hz.out, if_neg hne]; simp [W.optN]; omega) (by rw [hsc.out, H.out, hz.out, if_neg hne]; rfl), rfl⟩
            · have hz := Lib.hid (W.plainRun_at s j hjl hp)
              go_wp2_with (go_at_call 147; refine (plainByte_any _ _).mono ?_; rintro e w' ⟨rfl, rfl⟩)
              go_round
              case rel => exact ⟨j + 1, by omega, by omega, by go_num, by rw [H.out, hz.out]; show _ = _; omega⟩
              case measure => simp [intOf]; omega
          · have hz := Lib.hid (W.plainRun_over s j (by omega))
            have hjk2 : ((j : Int) == (k : Int)) = false := by simp; omega
            go_wp2
            go_ret2
            have hne : ¬ (j - k + 0 = 0) := by omega
            exact ⟨ret_int_bool (by rw [hsc.out, H.out, hz.out, if_neg hne]; simp [W.optN]; omega) (by rw [hsc.out, H.out, hz.out, if_neg hne]; rfl), rfl⟩
    · go_enter Tryz.func117, Tryz.ntmps117
      go_wp2
      go_ret2
      exact ⟨ret_int_bool (by rw [W.scan_over s k (by omega)]; rfl) (by rw [W.scan_over s k (by omega)]; rfl), rfl⟩
end Go.Proofs.YtfcikfohmehmkaaGreatDoor

namespace Go.Proofs.YtfcikfohmehmkaaGreatDoor
open Go.RowKit

theorem hexIdx_any (c : UInt8) (w : World) :
    Calls Tryz.prog 153 #[.string ⟨#[48, 49, 50, 51, 52, 53, 54, 55, 56, 57, 97, 98, 99, 100, 101, 102]⟩, .int .u8 c.toNat] w fun e w' => e = .returned (.int .i64 (W.hexV c)) ∧ w = w' := index_any _ c w

set_option maxHeartbeats 400000 in
theorem coded_any (s : ByteArray) (a : Int) (w : World) (hs : s.size ≤ 1099511627776) (ha : 0 ≤ a) (ha2 : a ≤ s.size + 2) :
    Calls Tryz.prog 187 #[.string s, .int .i64 a] w fun e w' => e = .returned (.tuple #[.int .u8 (W.oneC ((W.codedD (s.data.toList.drop a.toNat)).map (·, 4))).toNat, .int .i64 (W.oneN ((W.codedD (s.data.toList.drop a.toNat)).map (·, 4)))]) ∧ w = w' := by
  obtain ⟨k, rfl⟩ := Int.eq_ofNat_of_zero_le ha
  rw [Int.toNat_natCast]
  by_cases hlt : k + 1 < s.size
  · have g1 : (k : Int) + 1 < s.size := by omega
    have g2 : k < s.size := by omega
    have hx := W.hexV_lt s[k]
    have hy := W.hexV_lt s[k + 1]
    have HD := Lib.hid (W.coded_at s k hlt)
    go_enter Tryz.func187, Tryz.ntmps187
    go_wp2_with (go_at_call 153; refine (hexIdx_any _ _).mono ?_; rintro e w' ⟨rfl, rfl⟩)
    · go_ret2
      have hd : W.codedD (s.data.toList.drop k) = none := by rw [HD.out, if_pos (by omega)]
      exact ⟨by rw [hd]; rfl, rfl⟩
    · go_ret2
      have hd : W.codedD (s.data.toList.drop k) = some (W.hexV s[k] * 16 + W.hexV s[k + 1]).toNat.toUInt8 := by rw [HD.out, if_neg (by omega)]
      rw [hd]
      refine ⟨ret_byte_int (Eq.symm ?_) rfl, rfl⟩
      simp only [Option.map, W.oneC]
      rw [W.code_val _ _ (by omega) (by omega)]
    · go_ret2
      have hd : W.codedD (s.data.toList.drop k) = none := by rw [HD.out, if_pos (by omega)]
      exact ⟨by rw [hd]; rfl, rfl⟩
  · have HD := Lib.hid (W.coded_short s k (by omega))
    go_enter Tryz.func187, Tryz.ntmps187
    go_wp2
    go_ret2
    exact ⟨by rw [HD.out]; rfl, rfl⟩

set_option maxHeartbeats 800000 in
theorem one_any (s : ByteArray) (k : Nat) (w : World) (hs : s.size ≤ 1099511627776) (hk : k < s.size) :
    Calls Tryz.prog 182 #[.string s, .int .i64 k] w fun e w' => e = .returned (.tuple #[.int .u8 (W.oneC (W.oneD (s.data.toList.drop k))).toNat, .int .i64 (W.oneN (W.oneD (s.data.toList.drop k)))]) ∧ w = w' := by
  by_cases h34 : s[k].toNat = 34
  · have HD := Lib.hid (W.one_bad s k hk (.inl h34))
    have b34 : ((s[k].toNat : Int) == 34) = true := by simp; omega
    clear h34
    go_enter Tryz.func182, Tryz.ntmps182
    go_wp2
    go_ret2
    exact ⟨by rw [HD.out]; rfl, rfl⟩
  have b34 : ((s[k].toNat : Int) == 34) = false := by simp; omega
  cases hsh : W.shownB s[k] with
  | false =>
    have HD := Lib.hid (W.one_bad s k hk (.inr hsh))
    go_enter Tryz.func182, Tryz.ntmps182
    go_wp2_with (go_at_call 186; refine (shown_any _ _).mono ?_; rintro e w' ⟨rfl, rfl⟩)
    go_ret2
    exact ⟨by rw [HD.out]; rfl, rfl⟩
  | true =>
    by_cases h92 : s[k].toNat ≠ 92
    · have HD := Lib.hid (W.one_self s k hk (by simp [h34, hsh]) h92)
      have b92 : ((s[k].toNat : Int) != 92) = true := by simp; omega
      go_enter Tryz.func182, Tryz.ntmps182
      go_wp2_with (go_at_call 186; refine (shown_any _ _).mono ?_; rintro e w' ⟨rfl, rfl⟩)
      go_ret2
      exact ⟨by rw [HD.out]; rfl, rfl⟩
    have b92 : ((s[k].toNat : Int) != 92) = false := by simp; omega
    have h92' : s[k].toNat = 92 := by omega
    by_cases hk2 : k + 1 < s.size
    · have g1 : (k : Int) + 1 < s.size := by omega
      by_cases e34 : s[k + 1].toNat = 34 ∨ s[k + 1].toNat = 92
      · have HD := Lib.hid (W.one_esc s k hk hk2 h92' e34)
        clear h92' h92
        by_cases e1 : s[k + 1].toNat = 34
        · have c34 : ((s[k + 1].toNat : Int) == 34) = true := by simp; omega
          clear e34 e1
          go_enter Tryz.func182, Tryz.ntmps182
          go_wp2_with (go_at_call 186; refine (shown_any _ _).mono ?_; rintro e w' ⟨rfl, rfl⟩)
          go_ret2
          exact ⟨by rw [HD.out]; rfl, rfl⟩
        · have c34 : ((s[k + 1].toNat : Int) == 34) = false := by simp; omega
          have c92 : ((s[k + 1].toNat : Int) == 92) = true := by simp; omega
          clear e34 e1
          go_enter Tryz.func182, Tryz.ntmps182
          go_wp2_with (go_at_call 186; refine (shown_any _ _).mono ?_; rintro e w' ⟨rfl, rfl⟩)
          go_ret2
          exact ⟨by rw [HD.out]; rfl, rfl⟩
      · have c34 : ((s[k + 1].toNat : Int) == 34) = false := by simp; omega
        have c92 : ((s[k + 1].toNat : Int) == 92) = false := by simp; omega
        by_cases e120 : s[k + 1].toNat = 120
        · have HD := Lib.hid (W.one_hex s k hk hk2 h92' e120)
          have c120 : ((s[k + 1].toNat : Int) == 120) = true := by simp; omega
          clear h92' h92 e120 e34
          go_enter Tryz.func182, Tryz.ntmps182
          go_wp2_with (first | (go_at_call 186; refine (shown_any _ _).mono ?_; rintro e w' ⟨rfl, rfl⟩) | (go_at_call 187; refine (coded_any _ _ _ hs (by omega) (by omega)).mono ?_; rintro e w' ⟨rfl, rfl⟩))
          go_ret2
          exact ⟨by rw [HD.out]; rfl, rfl⟩
        · have HD := Lib.hid (W.one_not s k hk hk2 h92' (by omega) (by omega) e120)
          have c120 : ((s[k + 1].toNat : Int) == 120) = false := by simp; omega
          clear h92' h92 e120 e34
          go_enter Tryz.func182, Tryz.ntmps182
          go_wp2_with (go_at_call 186; refine (shown_any _ _).mono ?_; rintro e w' ⟨rfl, rfl⟩)
          go_ret2
          exact ⟨by rw [HD.out]; rfl, rfl⟩
    · have HD := Lib.hid (W.one_end s k hk (by omega) h92')
      clear h92' h92
      go_enter Tryz.func182, Tryz.ntmps182
      go_wp2_with (go_at_call 186; refine (shown_any _ _).mono ?_; rintro e w' ⟨rfl, rfl⟩)
      go_ret2
      exact ⟨by rw [HD.out]; rfl, rfl⟩
end Go.Proofs.YtfcikfohmehmkaaGreatDoor

namespace Go.Proofs.YtfcikfohmehmkaaGreatDoor
open Go.RowKit

/-- The cells of bytes. -/
def byteCells (l : List UInt8) : List Value := l.map fun b => .int .u8 (b.toNat : Int)
theorem byteCells_append (a b : List UInt8) : byteCells (a ++ b) = byteCells a ++ byteCells b := by simp [byteCells]
theorem byteCells_one (l : List UInt8) : ∀ u ∈ byteCells l, u.oneCell' = true := by
  intro u hu; simp [byteCells] at hu; obtain ⟨b, _, rfl⟩ := hu; rfl
/-- The slice value v owns the bytes l, in blocks from base on. -/
def OwnB (w : World) (base : Nat) (v : Value) (l : List UInt8) : Prop := w.ownsRow base 5 1 v l.length (byteCells l)
theorem u8_info : (Tryz.prog.info? 5).map (fun i => (i.zero, i.size, i.bytes)) = some (some (.int .u8 0), 1, 1) := by kernel_rfl

theorem new_cells (w : World) (cs : Array Value) (news : List UInt8) (hcs : cs.toList = byteCells news) : ∀ j u, (byteCells news)[j]? = some u → (w.alloc (.cells cs 5)).cell? ((⟨w.heap.size, 0, none⟩ : Addr).add j) = some u := by
  intro j u hj
  have e : cs[j]? = some u := by rw [← hj, ← hcs]; simp
  rw [← e]
  have := World.cell?_alloc_mark w cs 5 (0, 0) j
  unfold Addr.add
  by_cases h : j = 0
  · subst h; exact this
  · rw [if_neg h, Nat.zero_add]; exact this

theorem wp_appB {o : Oper} {a : Act} {K : Act → World → Prop} {Q : Exit → Act → World → Prop} (w : World) (s x : Operand)
    (ho : o.op = .call { callee := .builtin .append, args := #[s, x], argTypes := #[134, 134] })
    (base : Nat) (v : Value) (l : List UInt8) (hs : a.eval s = v) (hown : OwnB w base v l) (ad : Addr) (news : List UInt8) (m cap : Nat) (hm : news.length = m)
    (hx : a.eval x = .slice (some ad) m cap) (hc : ∀ j u, (byteCells news)[j]? = some u → w.cell? (ad.add j) = some u) (hlen : l.length + m ≤ 4398046511104) (hb : base ≤ w.heap.size)
    (h : ∀ v' w', OwnB w' base v' (l ++ news) → Below base w w' → K (a.put o.dst v') w') : o.wp Tryz.prog a w K Q := by
  obtain ⟨i0, hi0, hz0, hz1, hz2⟩ := info_parts u8_info
  refine wp_append_own w s x 134 ho base 5 i0 _ 1 1 Tryz.underlying134 hi0 hz0 hz1 hz2 rfl (by decide) v l.length (byteCells l) hs hown ad m cap (byteCells news) hx
    (by simp [byteCells, hm]) hc (byteCells_one _) (by unfold maxLen; omega) (by omega) hb ?_
  intro v' w' h1 h2 _
  refine h v' w' ?_ ?_
  · unfold OwnB; rw [byteCells_append, List.length_append, hm]; exact h1
  · exact Below.grown (Below.refl _ _) h2 hb (fun k hk => (World.ownsRow.lt hown k hk).1)

theorem wpList_appB {ops : Array Oper} {rest : List Oper} {o : Oper} {a : Act} {Q : Exit → Act → World → Prop} (w : World) (hgd : o.guard = none) (s x : Operand)
    (ho : o.op = .call { callee := .builtin .append, args := #[s, x], argTypes := #[134, 134] })
    (base : Nat) (v : Value) (l : List UInt8) (hs : a.eval s = v) (hown : OwnB w base v l) (news : List UInt8) (m cap : Nat) (cs : Array Value) (hcs : cs.toList = byteCells news) (hm : news.length = m)
    (hx : a.eval x = .slice (some ⟨w.heap.size, 0, none⟩) m cap) (hlen : l.length + m ≤ 4398046511104) (hb : base ≤ w.heap.size)
    (h : ∀ v' w', OwnB w' base v' (l ++ news) → Below base w w' → wpList Tryz.prog ops Q rest (a.put o.dst v') w') : wpList Tryz.prog ops Q (o :: rest) a (w.alloc (.cells cs 5)) :=
  wpList_plain hgd fun _ hK => wp_appB _ s x ho base v l hs (World.ownsRow.alloc hown _) ⟨w.heap.size, 0, none⟩ news m cap hm hx (new_cells w cs news hcs) hlen (by simp; omega) fun v' w' h1 h2 => hK _ _ (h v' w' h1 (((Below.refl _ _).alloc hb _).trans h2))

theorem conv_own {w : World} {base : Nat} {v : Value} {l : List UInt8} (h : OwnB w base v l) : (convert 134 9 v).run Tryz.prog w = .ok (.string ⟨l.toArray⟩) w := by
  rcases h.2 with ⟨rfl, hn⟩ | ⟨g, cap, cur, rfl, _, hh, hnc, _, hsz, htk⟩
  · have : l = [] := List.eq_nil_of_length_eq_zero hn
    subst this
    exact run_convert_bytes_nil w 134 5 Tryz.underlying134 Tryz.underlying5 0 0 9 Tryz.underlying9
  · refine run_convert_bytes_back w _ _ _ ⟨g, 0, none⟩ cap l Tryz.underlying134 Tryz.underlying5 Tryz.underlying9 ?_
    intro j hj
    have hc := World.ownsRow.cellAt h j (by omega)
    have e : (⟨g, 0, none⟩ : Addr).add j = ⟨g, j, none⟩ := by
      unfold Addr.add; by_cases h0 : j = 0
      · subst h0; rfl
      · rw [if_neg h0, Nat.zero_add]
    rw [e, hc]
    simp [byteCells, List.getElem?_eq_getElem hj]

theorem own_lit (w : World) (base : Nat) (hb : base ≤ w.heap.size) (l : List UInt8) (cs : Array Value) (hcs : cs.toList = byteCells l) (n : Nat) (hn : l.length = n) (hm : n ≤ 1099511627776) :
    OwnB (w.alloc (.cells cs 5)) base (.slice (some ⟨w.heap.size, 0, none⟩) n n) l := by
  subst hn
  have h1 : cs.size = l.length * 1 := by rw [← Array.length_toList, hcs]; simp [byteCells]
  have := World.ownsRow_lit (base := base) (e := 5) (size := 1) w cs l.length hb (by unfold maxLen; omega) h1
  unfold OwnB
  rw [hcs] at this
  exact this

def WroteS (B : Nat) (w : World) (l : List UInt8) (k : Int) (e : Ending) (w' : World) : Prop := e = .returned (.tuple #[.string ⟨l.toArray⟩, .int .i64 k]) ∧ Below B w w'

end Go.Proofs.YtfcikfohmehmkaaGreatDoor

namespace Go.Proofs.YtfcikfohmehmkaaGreatDoor
open Go.RowKit

def InnerS (w : World) (o : Option (List UInt8)) (e : Ending) (w' : World) : Prop :=
  e = .returned (.tuple #[.string ⟨(o.getD []).toArray⟩, .bool o.isSome]) ∧ Below w.heap.size w w'

set_option maxHeartbeats 800000 in
theorem inner_any (s : ByteArray) (w : World) (hs : s.size ≤ 1099511627776) :
    Calls Tryz.prog 172 #[.string s] w (InnerS w (W.decL s.data.toList)) := by
  go_enter Tryz.func172, Tryz.ntmps172
  go_wp2
  go_loopw [4, 5] (fun b i wr => ∃ (k : Nat) (acc : List UInt8), k ≤ s.size ∧ acc.length ≤ k ∧ i = .int .i64 k ∧ OwnB wr w.heap.size b acc ∧ Below w.heap.size w wr ∧ Hid (W.decL s.data.toList = (W.decL (s.data.toList.drop k)).map (acc ++ ·))) (fun _ i _ => s.size - (intOf i).toNat)
  case atStart => exact ⟨0, [], Nat.zero_le _, Nat.zero_le _, rfl, own_lit w _ (Nat.le_refl _) [] _ rfl 0 rfl (by omega), (Below.refl _ _).alloc (Nat.le_refl _) _, by simp [Hid]⟩
  case round =>
    obtain ⟨k, acc, hk, hac, rfl, hown, hb, H⟩ := hrel
    have hsz := hb.size
    by_cases hlt : k < s.size
    · have hlen : (s.data.toList.drop k).length = s.size - k := by rw [List.length_drop, ← Lib.size_eq]
      have HL := Lib.hid hlen
      clear hlen
      cases ho : W.oneD (s.data.toList.drop k) with
      | none =>
        have HD : Hid (W.decL s.data.toList = none) := by
          rw [H.out, W.decL_none (by rw [W.drop_at s k hlt]; simp) ho]; rfl
        have HO := Lib.hid ho
        clear ho
        go_wp2_with (go_at_call 182; refine (one_any _ k _ hs hlt).mono ?_; rintro e w' ⟨rfl, rfl⟩; rw [HO.out]; simp only [W.oneC, W.oneN])
        go_ret2
        exact ⟨by rw [HD.out]; rfl, hb⟩
      | some p =>
        obtain ⟨c, n⟩ := p
        have hn := W.oneD_pos ho
        rw [HL.out] at hn
        have hn1 := hn.1
        have hn2 := hn.2.1
        have hn3 := hn.2.2
        clear hn
        have hn0 : ((n : Int) == 0) = false := by simp; omega
        have HD : Hid (W.decL s.data.toList = (W.decL (s.data.toList.drop (k + n))).map ((acc ++ [c]) ++ ·)) := by
          rw [H.out, W.decL_some ho, W.map_acc, List.drop_drop]; exact rfl
        have HO := Lib.hid ho
        clear ho
        go_wp2_with (first | (go_at_call 182; refine (one_any _ k _ hs hlt).mono ?_; rintro e w' ⟨rfl, rfl⟩; rw [HO.out]; simp only [W.oneC, W.oneN]) | (at_builtin; refine wpList_appB _ rfl (.tmp 21) (.tmp 23) rfl w.heap.size _ acc rfl hown [c] 1 1 _ rfl rfl rfl (by omega) hsz ?_; intro v1 w1 hown1 hb1))
        go_roundw
        case rel => exact ⟨k + n, acc ++ [c], by omega, by simp only [List.length_append, List.length_singleton]; omega, by go_num, hown1, hb.trans hb1, HD⟩
        case measure => simp [intOf]; omega
    · have HD : Hid (W.decL s.data.toList = some acc) := by
        rw [H.out, W.drop_over s k (by omega), W.decL_nil]; simp [Hid]
      have hcv := conv_own hown
      go_wp2
      go_ret2
      exact ⟨by rw [HD.out]; rfl, hb⟩

def MeantS (w : World) (o : Option (List UInt8)) (e : Ending) (w' : World) : Prop :=
  ∃ x : List UInt8, e = .returned (.tuple #[.string ⟨x.toArray⟩, .bool o.isSome]) ∧ (∀ y, o = some y → x = y) ∧ Below w.heap.size w w'

set_option maxHeartbeats 800000 in
theorem meant_any (s : ByteArray) (w : World) (hs : s.size ≤ 1099511627776) :
    Calls Tryz.prog 148 #[.string s] w (MeantS w (W.meantL s.data.toList)) := by
  cases hp : W.allPlainL s.data.toList with
  | true =>
    have HM := Lib.hid (W.meant_plain s hp)
    go_enter Tryz.func148, Tryz.ntmps148
    go_wp2_with (first | (go_at_call 170; refine (allPlain_any _ _ hs).mono ?_; rintro e w' ⟨rfl, rfl⟩) | (go_at_call 171; refine (reserved_any _ _).mono ?_; rintro e w' ⟨rfl, rfl⟩))
    go_ret2
    refine ⟨s.data.toList, ?_, ?_, Below.refl _ _⟩
    · rw [HM.out, Lib.mk_data]; cases W.reservedL s.data.toList <;> rfl
    · intro y hy; rw [HM.out] at hy; split at hy
      · cases hy
      · injection hy
  | false =>
    by_cases h2 : s.size < 2
    · have HM := Lib.hid (W.meant_short s hp h2)
      go_enter Tryz.func148, Tryz.ntmps148
      go_wp2_with (go_at_call 170; refine (allPlain_any _ _ hs).mono ?_; rintro e w' ⟨rfl, rfl⟩)
      go_ret2
      exact ⟨[], by rw [HM.out]; rfl, (fun y hy => by rw [HM.out] at hy; cases hy), Below.refl _ _⟩
    · have g0 : 0 < s.size := by omega
      have g1 : s.size - 1 < s.size := by omega
      have g2 : 2 ≤ s.size := by omega
      by_cases h3 : s[0].toNat = 34
      · by_cases h4 : s[s.size - 1].toNat = 34
        · have HM := Lib.hid (W.meant_quoted s hp (by omega) h3 h4)
          have b3 : ((s[0].toNat : Int) != 34) = false := by simp; omega
          have b4 : ((s[s.size - 1].toNat : Int) != 34) = false := by simp; omega
          have hes : (s.extract 1 (s.size - 1)).size ≤ 1099511627776 := by rw [Lib.size_eq, Lib.extract_data, List.length_take, List.length_drop, ← Lib.size_eq]; omega
          clear h3 h4
          obtain ⟨o, ho⟩ : ∃ o, W.decL (s.extract 1 (s.size - 1)).data.toList = o := ⟨_, rfl⟩
          have HO := Lib.hid ho
          clear ho
          go_enter Tryz.func148, Tryz.ntmps148
          go_wp2_with (first | (go_at_call 170; refine (allPlain_any _ _ hs).mono ?_; rintro e w' ⟨rfl, rfl⟩) | (go_at_call 172; refine (inner_any _ _ hes).mono ?_; rintro e w1 ⟨rfl, hb1⟩; rw [HO.out]))
          go_ret2
          refine ⟨_, by rw [HM.out, HO.out]; rfl, fun y hy => ?_, hb1⟩
          rw [HM.out, HO.out] at hy
          rw [hy]; rfl
        · have HM := Lib.hid (W.meant_last s hp g0 h4)
          have b3 : ((s[0].toNat : Int) != 34) = false := by simp; omega
          have b4 : ((s[s.size - 1].toNat : Int) != 34) = true := by simp; omega
          clear h3 h4
          go_enter Tryz.func148, Tryz.ntmps148
          go_wp2_with (go_at_call 170; refine (allPlain_any _ _ hs).mono ?_; rintro e w' ⟨rfl, rfl⟩)
          go_ret2
          exact ⟨[], by rw [HM.out]; rfl, (fun y hy => by rw [HM.out] at hy; cases hy), Below.refl _ _⟩
      · have HM := Lib.hid (W.meant_head s hp g0 h3)
        have b3 : ((s[0].toNat : Int) != 34) = true := by simp; omega
        clear h3
        go_enter Tryz.func148, Tryz.ntmps148
        go_wp2_with (go_at_call 170; refine (allPlain_any _ _ hs).mono ?_; rintro e w' ⟨rfl, rfl⟩)
        go_ret2
        exact ⟨[], by rw [HM.out]; rfl, (fun y hy => by rw [HM.out] at hy; cases hy), Below.refl _ _⟩

set_option maxHeartbeats 800000 in
theorem unquote_any (s : ByteArray) (w : World) (hs : s.size ≤ 1099511627776) :
    Calls Tryz.prog 119 #[.string s] w (WroteS w.heap.size w (W.unqL s.data.toList).1 (W.unqL s.data.toList).2) := by
  cases hm : W.meantL s.data.toList with
  | none =>
    have HU := Lib.hid (W.unq_none hm)
    have HM := Lib.hid hm
    clear hm
    go_enter Tryz.func119, Tryz.ntmps119
    go_wp2_with (go_at_call 148; refine (meant_any _ _ hs).mono ?_; rintro e w1 ⟨x, rfl, hx, hb1⟩; clear hx; rw [HM.out]; simp only [Option.isSome])
    go_ret2
    exact ⟨by rw [HU.out]; rfl, hb1⟩
  | some y =>
    by_cases h40 : 40 < y.length
    · have HU := Lib.hid (W.unq_long hm h40)
      have HM := Lib.hid hm
      clear hm
      have hsz : 40 < (⟨y.toArray⟩ : ByteArray).size := by show 40 < y.toArray.size; rw [List.size_toArray]; exact h40
      go_enter Tryz.func119, Tryz.ntmps119
      go_wp2_with (go_at_call 148; refine (meant_any _ _ hs).mono ?_; rintro e w1 ⟨x, rfl, hx, hb1⟩; obtain rfl := hx y HM.out; clear hx; rw [HM.out]; simp only [Option.isSome])
      go_ret2
      exact ⟨by rw [HU.out]; rfl, hb1⟩
    · have HU := Lib.hid (W.unq_ok hm h40)
      have HM := Lib.hid hm
      clear hm
      have hsz : (⟨y.toArray⟩ : ByteArray).size ≤ 40 := by show y.toArray.size ≤ 40; rw [List.size_toArray]; omega
      go_enter Tryz.func119, Tryz.ntmps119
      go_wp2_with (go_at_call 148; refine (meant_any _ _ hs).mono ?_; rintro e w1 ⟨x, rfl, hx, hb1⟩; obtain rfl := hx y HM.out; clear hx; rw [HM.out]; simp only [Option.isSome])
      go_ret2
      exact ⟨by rw [HU.out]; rfl, hb1⟩
end Go.Proofs.YtfcikfohmehmkaaGreatDoor

namespace Go.Proofs.YtfcikfohmehmkaaGreatDoor
open Go.RowKit

theorem unq_is (s : ByteArray) (x : List UInt8) (k : Int) (w : World) (hs : s.size ≤ 1099511627776) (hq : W.unqL s.data.toList = (x, k)) : Calls Tryz.prog 119 #[.string s] w (WroteS w.heap.size w x k) := by
  have h := unquote_any s w hs
  rw [hq] at h
  exact h
theorem scan2_is (s : ByteArray) (a : Int) (o : Option Nat) (w : World) (hs : s.size ≤ 1099511627776) (h : W.scanL s.data.toList a = o) : Calls Tryz.prog 117 #[.string s, .int .i64 a] w fun e w' => e = .returned (.tuple #[.int .i64 (W.optN o), .bool o.isSome]) ∧ w = w' := by
  rw [← h]; exact scan_any s a w hs
end Go.Proofs.YtfcikfohmehmkaaGreatDoor

namespace Go.Proofs.YtfcikfohmehmkaaGreatDoor
open Go.RowKit

end Go.Proofs.YtfcikfohmehmkaaGreatDoor

namespace Go.Proofs.YtfcikfohmehmkaaGreatDoor
open Go.RowKit

/-- The four cells of a token. -/
def tokC (t : W.Tok) : List Value := [.int .i64 t.kind, .int .i64 (t.pos : Int), .string ⟨t.word.toArray⟩, .int .i64 t.bit]
def tokCells (l : List W.Tok) : List Value := l.flatMap tokC
def tokV (t : W.Tok) : Value := .agg #[.int .i64 t.kind, .int .i64 (t.pos : Int), .string ⟨t.word.toArray⟩, .int .i64 t.bit]
theorem tokCells_append (a b : List W.Tok) : tokCells (a ++ b) = tokCells a ++ tokCells b := by simp [tokCells]
theorem tokCells_one (l : List W.Tok) : ∀ u ∈ tokCells l, u.oneCell' = true := by
  intro u hu; simp [tokCells, tokC] at hu; obtain ⟨t, _, h⟩ := hu
  rcases h with rfl | rfl | rfl | rfl <;> rfl
/-- The slice value v owns the tokens l, in blocks of the type T from base on. -/
def OwnT (T : TypeId) (w : World) (base : Nat) (v : Value) (l : List W.Tok) : Prop := w.ownsRow base T 4 v l.length (tokCells l)
theorem OwnT.nil (T : TypeId) (w : World) (base : Nat) : OwnT T w base (.slice none 0 0) [] := ⟨by simp [tokCells], .inl ⟨rfl, rfl⟩⟩
theorem OwnT.alloc {T : TypeId} {w : World} {base : Nat} {v : Value} {l : List W.Tok} (h : OwnT T w base v l) (o : Obj) : OwnT T (w.alloc o) base v l := World.ownsRow.alloc h o
def zeroTok : Value := .agg #[.int .i64 0, .int .i64 0, .string ⟨#[]⟩, .int .i64 0]
theorem tok_info : (Tryz.prog.info? 86).map (fun i => (i.zero, i.size, i.bytes)) = some (some zeroTok, 4, 40) := by kernel_rfl

theorem new_toks (T : TypeId) (w : World) (cs : Array Value) (news : List Value) (hcs : cs.toList = news) : ∀ j u, news[j]? = some u → (w.alloc (.cells cs T)).cell? ((⟨w.heap.size, 0, none⟩ : Addr).add j) = some u := by
  intro j u hj
  have e : cs[j]? = some u := by rw [← hj, ← hcs]; simp
  rw [← e]
  have := World.cell?_alloc_mark w cs T (0, 0) j
  unfold Addr.add
  by_cases h : j = 0
  · subst h; exact this
  · rw [if_neg h, Nat.zero_add]; exact this

theorem wp_appT (st T : TypeId) (hst : Tryz.prog.underlying st = some (.slice T)) (hin : (Tryz.prog.info? T).map (fun i => (i.zero, i.size, i.bytes)) = some (some zeroTok, 4, 40)) {o : Oper} {a : Act} {K : Act → World → Prop} {Q : Exit → Act → World → Prop} (w : World) (s x : Operand)
    (ho : o.op = .call { callee := .builtin .append, args := #[s, x], argTypes := #[st, st] })
    (base : Nat) (v : Value) (l : List W.Tok) (hs : a.eval s = v) (hown : OwnT T w base v l) (ad : Addr) (t : W.Tok) (cap : Nat)
    (hx : a.eval x = .slice (some ad) 1 cap) (hc : ∀ j u, (tokC t)[j]? = some u → w.cell? (ad.add j) = some u) (hlen : l.length + 1 ≤ 1099511627776) (hb : base ≤ w.heap.size)
    (h : ∀ v' w', OwnT T w' base v' (l ++ [t]) → Below base w w' → K (a.put o.dst v') w') : o.wp Tryz.prog a w K Q := by
  obtain ⟨i0, hi0, hz0, hz1, hz2⟩ := info_parts hin
  have e1 : tokCells [t] = tokC t := by simp [tokCells]
  refine wp_append_own w s x st ho base T i0 _ 4 40 hst hi0 hz0 hz1 hz2 rfl (by decide) v l.length (tokCells l) hs hown ad 1 cap (tokC t) hx
    rfl hc (by rw [← e1]; exact tokCells_one _) (by unfold maxLen; omega) (by omega) hb ?_
  intro v' w' h1 h2 _
  refine h v' w' ?_ ?_
  · unfold OwnT; rw [tokCells_append, List.length_append, e1]; exact h1
  · exact Below.grown (Below.refl _ _) h2 hb (fun k hk => (World.ownsRow.lt hown k hk).1)

theorem wpList_appT (st T : TypeId) (hst : Tryz.prog.underlying st = some (.slice T)) (hin : (Tryz.prog.info? T).map (fun i => (i.zero, i.size, i.bytes)) = some (some zeroTok, 4, 40)) {ops : Array Oper} {rest : List Oper} {o : Oper} {a : Act} {Q : Exit → Act → World → Prop} (w : World) (hgd : o.guard = none) (s x : Operand)
    (ho : o.op = .call { callee := .builtin .append, args := #[s, x], argTypes := #[st, st] })
    (base : Nat) (v : Value) (l : List W.Tok) (hs : a.eval s = v) (hown : OwnT T w base v l) (t : W.Tok) (cap : Nat) (cs : Array Value) (hcs : cs.toList = tokC t)
    (g : Nat) (hg : w.heap.size = g) (hx : a.eval x = .slice (some ⟨g, 0, none⟩) 1 cap) (hlen : l.length + 1 ≤ 1099511627776) (hb : base ≤ w.heap.size)
    (h : ∀ v' w', OwnT T w' base v' (l ++ [t]) → Below base w w' → wpList Tryz.prog ops Q rest (a.put o.dst v') w') : wpList Tryz.prog ops Q (o :: rest) a (w.alloc (.cells cs T)) := by
  subst hg
  exact wpList_plain hgd fun _ hK => wp_appT st T hst hin _ s x ho base v l hs (World.ownsRow.alloc hown _) ⟨w.heap.size, 0, none⟩ t cap hx (new_toks T w cs (tokC t) hcs) hlen (by simp; omega) fun v' w' h1 h2 => hK _ _ (h v' w' h1 (((Below.refl _ _).alloc hb _).trans h2))

end Go.Proofs.YtfcikfohmehmkaaGreatDoor

namespace Go.Proofs.YtfcikfohmehmkaaGreatDoor
open Go.RowKit

theorem retI {a b : Int} (h : a = b) : Ending.returned (.int .i64 a) = .returned (.int .i64 b) := by rw [h]
theorem blank_any (c : UInt8) (w : World) :
    Calls Tryz.prog 77 #[.int .u8 c.toNat] w fun e w' => e = .returned (.bool (W.blankB c)) ∧ w = w' := by
  go_enter Tryz.func77, Tryz.ntmps77
  go_wp2
  all_goals go_ret
  all_goals refine ⟨ret_bool (Eq.symm ?_), rfl⟩
  all_goals (unfold W.blankB; rw [Bool.eq_iff_iff]; simp; omega)

theorem sign_any (c : UInt8) (w : World) :
    Calls Tryz.prog 116 #[.int .u8 c.toNat] w fun e w' => e = .returned (.int .i64 (W.signK c)) ∧ w = w' := by
  go_enter Tryz.func116, Tryz.ntmps116
  go_wp2
  all_goals go_ret
  all_goals refine ⟨retI (Eq.symm ?_), rfl⟩
  all_goals simp_all [W.signK]
  all_goals omega

theorem mark_a (s : ByteArray) (h : (s.toList == [105, 110, 97, 99, 116, 105, 118, 101, 58]) = true) : W.markK s.data.toList = 1 := by
  rw [Lib.toList_data] at h; simp only [W.markK, W.inactiveL, h, if_true]
theorem mark_b (s : ByteArray) (h1 : (s.toList == [105, 110, 97, 99, 116, 105, 118, 101, 58]) = false) (h : (s.toList == [112, 114, 111, 116, 101, 99, 116, 58]) = true) : W.markK s.data.toList = 2 := by
  rw [Lib.toList_data] at h h1; unfold W.markK W.inactiveL W.protectL; rw [if_neg (by rw [h1]; simp), if_pos h]
theorem mark_c (s : ByteArray) (h1 : (s.toList == [105, 110, 97, 99, 116, 105, 118, 101, 58]) = false) (h : (s.toList == [112, 114, 111, 116, 101, 99, 116, 58]) = false) : W.markK s.data.toList = 0 := by
  rw [Lib.toList_data] at h h1; unfold W.markK W.inactiveL W.protectL; rw [if_neg (by rw [h1]; simp), if_neg (by rw [h]; simp)]
theorem markBit_any (s : ByteArray) (w : World) :
    Calls Tryz.prog 118 #[.string s] w fun e w' => e = .returned (.int .i64 (W.markK s.data.toList)) ∧ w = w' := by
  go_enter Tryz.func118, Tryz.ntmps118
  go_wp2
  all_goals go_ret
  all_goals refine ⟨retI (Eq.symm ?_), rfl⟩
  all_goals first
    | exact mark_a s (by assumption)
    | exact mark_b s (by assumption) (by assumption)
    | exact mark_c s (by assumption) (by assumption)
theorem mark_is (s : ByteArray) (m : Int) (w : World) (h : W.markK s.data.toList = m) : Calls Tryz.prog 118 #[.string s] w fun e w' => e = .returned (.int .i64 m) ∧ w = w' := by
  rw [← h]; exact markBit_any s w
end Go.Proofs.YtfcikfohmehmkaaGreatDoor

namespace Go.Proofs.YtfcikfohmehmkaaGreatDoor
open Go.RowKit

def TookT (w : World) (k : Nat) (st : W.Step) (e : Ending) (w' : World) : Prop :=
  match st with
  | .tok kd wd b n => e = .returned (.tuple #[tokV ⟨kd, k, wd, b⟩, .int .i64 ((k + n : Nat) : Int), .int .i64 0]) ∧ Below w.heap.size w w'
  | .bad er => e = .returned (.tuple #[zeroTok, .int .i64 0, .int .i64 er]) ∧ Below w.heap.size w w'
  | .skip _ => False

theorem head_drop (s : ByteArray) (k : Nat) (h : k < s.size) : (s.data.toList.drop k).headD 0 = s[k] := by rw [W.drop_at s k h]; rfl
theorem take_ext (s : ByteArray) (k n : Nat) : (s.data.toList.drop k).take n = (s.extract k (k + n)).data.toList := by
  rw [Lib.extract_data]; congr 1; omega
theorem takeD_sign (s : ByteArray) (k : Nat) (h : k < s.size) (hs : W.signK s[k] ≠ 0) : W.takeD (s.data.toList.drop k) = .tok (W.signK s[k]) [] 0 1 := by
  unfold W.takeD; rw [head_drop s k h, if_pos hs]
theorem takeD_none (s : ByteArray) (k : Nat) (h : k < s.size) (hs : W.signK s[k] = 0) (hn : W.scanD (s.data.toList.drop k) = none) : W.takeD (s.data.toList.drop k) = .bad 2 := by
  unfold W.takeD; rw [head_drop s k h, if_neg (by simp [hs]), hn]
theorem takeD_mark (s : ByteArray) (k n : Nat) (h : k < s.size) (hs : W.signK s[k] = 0) (hn : W.scanD (s.data.toList.drop k) = some n) {m : Int} (hm : W.markK (s.extract k (k + n)).data.toList = m) (hm0 : m ≠ 0) : W.takeD (s.data.toList.drop k) = .tok 5 [] m n := by
  rw [← take_ext] at hm
  unfold W.takeD; rw [head_drop s k h, if_neg (fun h => h hs), hn]; simp only; rw [hm, if_pos hm0]
theorem takeD_err (s : ByteArray) (k n : Nat) (h : k < s.size) (hs : W.signK s[k] = 0) (hn : W.scanD (s.data.toList.drop k) = some n) (hm : W.markK (s.extract k (k + n)).data.toList = 0) {x : List UInt8} {e : Int} (hu : W.unqL (s.extract k (k + n)).data.toList = (x, e)) (he : e ≠ 0) : W.takeD (s.data.toList.drop k) = .bad e := by
  rw [← take_ext] at hm hu
  unfold W.takeD; rw [head_drop s k h, if_neg (fun h => h hs), hn]; simp only; rw [hm, hu, if_neg (fun h => h rfl), if_pos he]
theorem takeD_name (s : ByteArray) (k n : Nat) (h : k < s.size) (hs : W.signK s[k] = 0) (hn : W.scanD (s.data.toList.drop k) = some n) (hm : W.markK (s.extract k (k + n)).data.toList = 0) {x : List UInt8} (hu : W.unqL (s.extract k (k + n)).data.toList = (x, 0)) : W.takeD (s.data.toList.drop k) = .tok 1 x 0 n := by
  rw [← take_ext] at hm hu
  unfold W.takeD; rw [head_drop s k h, if_neg (fun h => h hs), hn]; simp only; rw [hm, hu, if_neg (fun h => h rfl), if_neg (fun h => h rfl)]
theorem scanL_D (s : ByteArray) (k : Nat) : W.scanL s.data.toList k = (W.scanD (s.data.toList.drop k)).map (· + k) := by
  have h0 : ¬ ((k : Int) < 0) := by omega
  simp only [W.scanL, h0, if_false, Int.toNat_natCast]

theorem blk_cell {w w1 : World} {cs : Array Value} {T : TypeId} (hb : Below (w.alloc (.cells cs T)).heap.size (w.alloc (.cells cs T)) w1) (j : Nat) : w1.cell? ⟨w.heap.size, j, none⟩ = cs[j]? :=
  (hb.cell (p := ⟨w.heap.size, j, none⟩) (by simp)).trans (World.cell?_alloc_mark w cs T (0, 0) j)
theorem blk_free {w w1 : World} {cs : Array Value} {T : TypeId} (hb : Below (w.alloc (.cells cs T)).heap.size (w.alloc (.cells cs T)) w1) (j : Nat) : w1.frozen? ⟨w.heap.size, j, none⟩ = false := by
  rw [hb.frozen (p := ⟨w.heap.size, j, none⟩) (by simp)]
  have : (w.alloc (.cells cs T)).heap[w.heap.size]? = some (.cells cs T (0, 0)) := heap_alloc_new w _
  unfold World.frozen?; simp only [this]; simp

theorem below4 {w w1 : World} {o : Obj} (hb : Below (w.alloc o).heap.size (w.alloc o) w1) (a b c d : Value) : Below w.heap.size w ((((w1.setCell ⟨w.heap.size, 0, none⟩ a).setCell ⟨w.heap.size, 1, none⟩ b).setCell ⟨w.heap.size, 2, none⟩ c).setCell ⟨w.heap.size, 3, none⟩ d) :=
  (((((((Below.refl _ _).alloc (Nat.le_refl _) _).trans (hb.mono (by simp))).setCell (Nat.le_refl _) _).setCell (Nat.le_refl _) _).setCell (Nat.le_refl _) _).setCell (Nat.le_refl _) _)

set_option maxHeartbeats 1000000 in
theorem take_any (s : ByteArray) (k : Nat) (w : World) (hs : s.size ≤ 1099511627776) (hk : k < s.size) :
    Calls Tryz.prog 79 #[.string s, .int .i64 k] w (TookT w k (W.takeD (s.data.toList.drop k))) := by
  by_cases hsg : W.signK s[k] ≠ 0
  · have b1 : (W.signK s[k] != 0) = true := by simp [hsg]
    have HT := Lib.hid (takeD_sign s k hk hsg)
    clear hsg
    go_enter Tryz.func79, Tryz.ntmps79
    go_wp2_with fail
    refine (sign_any _ _).mono ?_
    rintro e w' ⟨rfl, rfl⟩
    go_wp2
    rw [HT.out]
    exact bodyPost_ret (v := .tuple #[tokV ⟨W.signK s[k], k, [], 0⟩, .int .i64 ((k + 1 : Nat) : Int), .int .i64 0]) (by simp [results, Tryz.results79, go_sem, tokV]) rfl ⟨rfl, (Below.refl _ _).alloc (Nat.le_refl _) _⟩
  have hsg0 : W.signK s[k] = 0 := by omega
  have b1 : (W.signK s[k] != 0) = false := by simp [hsg0]
  have HS := Lib.hid hsg0
  clear hsg hsg0
  cases hsc : W.scanD (s.data.toList.drop k) with
  | none =>
    have HT := Lib.hid (takeD_none s k hk HS.out hsc)
    have HL := Lib.hid (show W.scanL s.data.toList k = none by rw [scanL_D, hsc]; rfl)
    clear hsc
    go_enter Tryz.func79, Tryz.ntmps79
    go_wp2_with fail
    refine (sign_any _ _).mono ?_
    rintro e w' ⟨rfl, rfl⟩
    go_wp2_with fail
    refine (scan2_is s k none _ hs HL.out).mono ?_
    rintro e w' ⟨rfl, rfl⟩
    simp only [W.optN, Option.isSome]
    go_wp2
    rw [HT.out]
    exact bodyPost_ret (v := .tuple #[zeroTok, .int .i64 0, .int .i64 2]) (by simp [results, Tryz.results79, go_sem, zeroTok]) rfl ⟨rfl, (Below.refl _ _).alloc (Nat.le_refl _) _⟩
  | some n =>
    have hn := W.scanD_le _ _ hsc
    rw [List.length_drop, ← Lib.size_eq] at hn
    obtain ⟨hn1, hn2⟩ := hn
    have HL := Lib.hid (show W.scanL s.data.toList k = some (k + n) by rw [scanL_D, hsc]; simp; omega)
    have HSC := Lib.hid hsc
    have hes : (s.extract k (k + n)).size ≤ 1099511627776 := by rw [W.rest_size _ _ _ (by omega)]; omega
    clear hsc
    obtain ⟨m, hm⟩ : ∃ m, W.markK (s.extract k (k + n)).data.toList = m := ⟨_, rfl⟩
    have HM := Lib.hid hm
    clear hm
    by_cases hm : m ≠ 0
    · have HT := Lib.hid (takeD_mark s k n hk HS.out HSC.out HM.out hm)
      have b2 : (m != 0) = true := bne_iff_ne.2 hm
      clear hm
      go_enter Tryz.func79, Tryz.ntmps79
      go_wp2_with fail
      refine (sign_any _ _).mono ?_
      rintro e w' ⟨rfl, rfl⟩
      go_wp2_with fail
      refine (scan2_is s k (some (k + n)) _ hs HL.out).mono ?_
      rintro e w' ⟨rfl, rfl⟩
      simp only [W.optN, Option.isSome]
      go_wp2_with fail
      refine (mark_is (s.extract k (k + n)) m _ HM.out).mono ?_
      rintro e w' ⟨rfl, rfl⟩
      go_wp2
      rw [HT.out]
      exact bodyPost_ret (v := .tuple #[tokV ⟨5, k, [], m⟩, .int .i64 ((k + n : Nat) : Int), .int .i64 0]) (by simp [results, Tryz.results79, go_sem, tokV]) rfl ⟨rfl, (Below.refl _ _).alloc (Nat.le_refl _) _⟩
    · obtain rfl : m = 0 := by omega
      obtain ⟨x, er, hu⟩ : ∃ x er, W.unqL (s.extract k (k + n)).data.toList = (x, er) := ⟨_, _, rfl⟩
      clear hm
      by_cases her : er ≠ 0
      · have HT := Lib.hid (takeD_err s k n hk HS.out HSC.out HM.out hu her)
        have b3 : (er != 0) = true := bne_iff_ne.2 her
        have HU := Lib.hid hu
        clear hu her
        go_enter Tryz.func79, Tryz.ntmps79
        go_wp2_with fail
        refine (sign_any _ _).mono ?_
        rintro e w' ⟨rfl, rfl⟩
        go_wp2_with fail
        refine (scan2_is s k (some (k + n)) _ hs HL.out).mono ?_
        rintro e w' ⟨rfl, rfl⟩
        simp only [W.optN, Option.isSome]
        go_wp2_with fail
        refine (mark_is (s.extract k (k + n)) 0 _ HM.out).mono ?_
        rintro e w' ⟨rfl, rfl⟩
        go_wp2_with fail
        refine (unq_is (s.extract k (k + n)) x er _ hes HU.out).mono ?_
        rintro e w1 ⟨rfl, hb1⟩
        have c0 := blk_cell hb1 0
        have c1 := blk_cell hb1 1
        have c2 := blk_cell hb1 2
        have c3 := blk_cell hb1 3
        have f0 := blk_free hb1 0
        have f1 := blk_free hb1 1
        have f2 := blk_free hb1 2
        have f3 := blk_free hb1 3
        simp only [List.getElem?_toArray, List.getElem?_cons_zero, List.getElem?_cons_succ] at c0 c1 c2 c3
        go_wp2
        rw [HT.out]
        exact bodyPost_ret (v := .tuple #[zeroTok, .int .i64 0, .int .i64 er]) (by simp [results, Tryz.results79, go_sem, zeroTok, c0, c1, c2, c3]) rfl ⟨rfl, below4 hb1 _ _ _ _⟩
      · obtain rfl : er = 0 := by omega
        have HT := Lib.hid (takeD_name s k n hk HS.out HSC.out HM.out hu)
        have HU := Lib.hid hu
        clear hu her
        go_enter Tryz.func79, Tryz.ntmps79
        go_wp2_with fail
        refine (sign_any _ _).mono ?_
        rintro e w' ⟨rfl, rfl⟩
        go_wp2_with fail
        refine (scan2_is s k (some (k + n)) _ hs HL.out).mono ?_
        rintro e w' ⟨rfl, rfl⟩
        simp only [W.optN, Option.isSome]
        go_wp2_with fail
        refine (mark_is (s.extract k (k + n)) 0 _ HM.out).mono ?_
        rintro e w' ⟨rfl, rfl⟩
        go_wp2_with fail
        refine (unq_is (s.extract k (k + n)) x 0 _ hes HU.out).mono ?_
        rintro e w1 ⟨rfl, hb1⟩
        have c0 := blk_cell hb1 0
        have c1 := blk_cell hb1 1
        have c2 := blk_cell hb1 2
        have c3 := blk_cell hb1 3
        have f0 := blk_free hb1 0
        have f1 := blk_free hb1 1
        have f2 := blk_free hb1 2
        have f3 := blk_free hb1 3
        simp only [List.getElem?_toArray, List.getElem?_cons_zero, List.getElem?_cons_succ] at c0 c1 c2 c3
        go_wp2
        rw [HT.out]
        exact bodyPost_ret (v := .tuple #[tokV ⟨1, k, x, 0⟩, .int .i64 ((k + n : Nat) : Int), .int .i64 0]) (by simp [results, Tryz.results79, go_sem, tokV, c0, c1, c2, c3]) rfl ⟨rfl, below4 hb1 _ _ _ _⟩
end Go.Proofs.YtfcikfohmehmkaaGreatDoor

namespace Go.Proofs.YtfcikfohmehmkaaGreatDoor
open Go.RowKit

theorem prefix_is (s p : ByteArray) (b : Bool) (w : World) (h : Lib.hasPrefix s.data.toList p.data.toList = b) :
    Calls Tryz.prog 78 #[.string s, .string p] w fun e w' => e = .returned (.bool b) ∧ w = w' := by
  rw [← h]; exact prefix_any s p w
theorem blank_is (c : UInt8) (b : Bool) (w : World) (h : W.blankB c = b) :
    Calls Tryz.prog 77 #[.int .u8 c.toNat] w fun e w' => e = .returned (.bool b) ∧ w = w' := by
  rw [← h]; exact blank_any c w
theorem from_ext (s : ByteArray) (k : Nat) : (s.extract k s.size).data.toList = s.data.toList.drop k := by
  rw [Lib.extract_data]; apply List.take_of_length_le; rw [List.length_drop, ← Lib.size_eq]; omega
theorem take_tok (s : ByteArray) (k : Nat) (w : World) (hs : s.size ≤ 1099511627776) (hk : k < s.size) {kd : Int} {wd : List UInt8} {b : Int} {n : Nat} (h : W.takeD (s.data.toList.drop k) = .tok kd wd b n) :
    Calls Tryz.prog 79 #[.string s, .int .i64 k] w fun e w' => e = .returned (.tuple #[tokV ⟨kd, k, wd, b⟩, .int .i64 ((k + n : Nat) : Int), .int .i64 0]) ∧ Below w.heap.size w w' := by
  have := take_any s k w hs hk
  rw [h] at this
  exact this
theorem take_bad (s : ByteArray) (k : Nat) (w : World) (hs : s.size ≤ 1099511627776) (hk : k < s.size) {er : Int} (h : W.takeD (s.data.toList.drop k) = .bad er) :
    Calls Tryz.prog 79 #[.string s, .int .i64 k] w fun e w' => e = .returned (.tuple #[zeroTok, .int .i64 0, .int .i64 er]) ∧ Below w.heap.size w w' := by
  have := take_any s k w hs hk
  rw [h] at this
  exact this

/-- What All leaves: the tokens in memory of the call's own, the place, the error. -/
def AllS (T : TypeId) (w : World) (r : W.Res) (e : Ending) (w' : World) : Prop :=
  ∃ v, e = .returned (.tuple #[v, .int .i64 (r.place : Int), .int .i64 r.err]) ∧ OwnT T w' w.heap.size v r.toks ∧ Below w.heap.size w w'

theorem line_gt {s : ByteArray} {k j : Nat} {hk : k < s.size} {hj : j < s.size} (h : s[k].toNat = 35) (h2 : s[j].toNat = 10) (h3 : k ≤ j) : k < j := by
  rcases Nat.lt_or_ge k j with hlt | hge
  · exact hlt
  · obtain rfl : k = j := by omega
    omega
theorem own_keep {T : TypeId} {w w1 : World} {base : Nat} {v : Value} {l : List W.Tok} (h : OwnT T w base v l) (hb : Below w.heap.size w w1) : OwnT T w1 base v l := by
  refine ⟨h.1, ?_⟩
  rcases h.2 with hn | ⟨g, cap, cur, rfl, hbg, hgg, rest⟩
  · exact .inl hn
  · refine .inr ⟨g, cap, cur, rfl, hbg, ?_, rest⟩
    rw [hb.block g (Array.getElem?_eq_some_iff.1 hgg).1]
    exact hgg

def RelA (s : ByteArray) (w : World) (g : Nat) (v i : Value) (wr : World) : Prop :=
  ∃ (k : Nat) (acc : List W.Tok), i = .int .i64 k ∧ OwnT 86 wr w.heap.size v acc ∧ Below w.heap.size w wr ∧ W.Reading s k acc ∧ k + g = s.size

set_option maxRecDepth 100000 in
set_option maxHeartbeats 2000000 in
theorem all_any (s : ByteArray) (w : World) (hs : s.size ≤ 1073741824) :
    Calls Tryz.prog 49 #[.string s] w (AllS 86 w (W.lexL 0 s.data.toList)) := by
  go_enter Tryz.func49, Tryz.ntmps49
  go_wp2
  go_step3
  go_wp2
  go_step3
  go_wp2
  go_loopg [5, 6] s.size (fun g v i wr => RelA s w g v i wr)
  case atStart => exact ⟨0, [], rfl, OwnT.nil _ _ _, Below.refl _ _, W.Reading.start s, Nat.zero_add _⟩
  case round =>
    obtain ⟨k, acc, rfl, hown, hb, hR, hg⟩ := hrel
    obtain ⟨go, rfl⟩ : ∃ go : Nat, go = gk := ⟨_, rfl⟩
    obtain ⟨wo, rfl⟩ : ∃ wo : World, wo = wr := ⟨_, rfl⟩
    have hks := hR.1
    have hac := hR.2.1
    have HR := Lib.hid hR
    have HG := Lib.hid hg
    clear hR hg
    have hsz := hb.size
    by_cases hlt : k < s.size
    · cases hbl : W.blankB s[k] with
      | true =>
        have HN := Lib.hid (HR.out.skip (n := 0) hlt (W.gap_blank s k hlt hbl))
        have HB := Lib.hid hbl
        clear hbl
        go_wp2_with fail
        refine (blank_is _ true _ HB.out).mono ?_
        rintro e w' ⟨rfl, rfl⟩
        go_wp2
        go_roundg (s.size - (k + 1))
        case rel => exact ⟨k + 1, acc, by go_num, hown, hb, HN.out, by omega⟩
        case measure => have := HG.out; omega
      | false =>
        have HB := Lib.hid hbl
        clear hbl
        by_cases h35 : s[k].toNat = 35
        · have b35 : ((s[k].toNat : Int) == 35) = true := by simp; omega
          have H35 := Lib.hid h35
          clear h35
          go_wp2_with fail
          refine (blank_is _ false _ HB.out).mono ?_
          rintro e w' ⟨rfl, rfl⟩
          go_wp2
          go_loopg [7] (s.size - k) (fun g i wx => ∃ j : Nat, i = .int .i64 j ∧ k ≤ j ∧ j ≤ s.size ∧ Hid (W.Lined s k j) ∧ Hid (j + g = s.size) ∧ wo = wx)
          case atStart => exact ⟨k, rfl, Nat.le_refl _, hks, W.Lined.start s k hks, (by show _ = _; omega), rfl⟩
          case round =>
            obtain ⟨j, rfl, hkj, hjs, HL, HJ, rfl⟩ := hrel
            by_cases hjl : j < s.size
            · by_cases h10 : s[j].toNat = 10
              · have b10 : ((s[j].toNat : Int) == 10) = true := by simp; omega
                have HK := Lib.hid (line_gt H35.out h10 hkj)
                have HN := Lib.hid (HR.out.line hlt HB.out H35.out hkj (HL.out.stop hjl h10))
                clear h10
                go_wp2
                go_roundg (s.size - j)
                case rel => exact ⟨j, acc, rfl, hown, hb, HN.out, by omega⟩
                case measure => have := HG.out; have := HK.out; omega
              · have b10 : ((s[j].toNat : Int) == 10) = false := by simp; omega
                have HN := Lib.hid (HL.out.next hjl h10)
                clear h10
                go_wp2
                go_roundg (s.size - (j + 1))
                case rel => exact ⟨j + 1, by go_num, by omega, by omega, HN, (by show _ = _; omega), rfl⟩
                case measure => have := HJ.out; omega
            · have HD := Lib.hid ((HR.out.line hlt HB.out H35.out hkj (HL.out.over (by omega))).done (by omega))
              go_wp2
              rw [Exit.noGoto_ret]
              go_ret3
              rw [HD.out]
              exact ⟨_, rfl, hown, hb⟩
        · have b35 : ((s[k].toNat : Int) == 35) = false := by simp; omega
          have H35 := Lib.hid h35
          clear h35
          cases hp : Lib.hasPrefix (s.data.toList.drop k) [47, 42] with
          | true =>
            have hk2 := W.pre2_size s k 47 42 hp
            have HP := Lib.hid hp
            clear hp
            go_wp2_with fail
            refine (blank_is _ false _ HB.out).mono ?_
            rintro e w' ⟨rfl, rfl⟩
            go_wp2_with fail
            refine (prefix_is (s.extract k s.size) ⟨#[47, 42]⟩ true _ (by rw [from_ext]; exact HP.out)).mono ?_
            rintro e w' ⟨rfl, rfl⟩
            go_wp2
            go_loopg [6, 8] (s.size - (k + 2)) (fun g a i wx => ∃ j : Nat, a = .int .i64 k ∧ i = .int .i64 j ∧ k + 2 ≤ j ∧ j ≤ s.size ∧ Hid (W.Starred s (k + 2) j) ∧ Hid (j + g = s.size) ∧ wo = wx)
            case atStart => exact ⟨k + 2, rfl, by go_num, Nat.le_refl _, hk2, W.Starred.start s (k + 2) hk2, (by show _ = _; omega), rfl⟩
            case round =>
              obtain ⟨j, rfl, rfl, hkj, hjs, HL, HJ, rfl⟩ := hrel
              by_cases hjl : j < s.size
              · cases hq : Lib.hasPrefix (s.data.toList.drop j) [42, 47] with
                | true =>
                  have hj2 := W.pre2_size s j 42 47 hq
                  have HN := Lib.hid (HR.out.star hlt HB.out H35.out HP.out hkj (HL.out.stop hq))
                  have HQ := Lib.hid hq
                  clear hq
                  go_wp2_with fail
                  refine (prefix_is (s.extract j s.size) ⟨#[42, 47]⟩ true _ (by rw [from_ext]; exact HQ.out)).mono ?_
                  rintro e w' ⟨rfl, rfl⟩
                  go_wp2
                  go_roundg (s.size - (j + 2))
                  case rel => exact ⟨j + 2, acc, by go_num, hown, hb, HN.out, by omega⟩
                  case measure => have := HG.out; omega
                | false =>
                  have HN := Lib.hid (HL.out.next hjl hq)
                  have HQ := Lib.hid hq
                  clear hq
                  go_wp2_with fail
                  refine (prefix_is (s.extract j s.size) ⟨#[42, 47]⟩ false _ (by rw [from_ext]; exact HQ.out)).mono ?_
                  rintro e w' ⟨rfl, rfl⟩
                  go_wp2
                  go_roundg (s.size - (j + 1))
                  case rel => exact ⟨j + 1, rfl, by go_num, by omega, by omega, HN, (by show _ = _; omega), rfl⟩
                  case measure => have := HJ.out; omega
              · have HD := Lib.hid (HR.out.unstar hlt HB.out H35.out HP.out (HL.out.over (by omega)))
                go_wp2
                rw [Exit.noGoto_ret]
                go_ret3
                rw [HD.out]
                exact ⟨_, rfl, OwnT.nil _ _ _, hb⟩
          | false =>
            have HO := Lib.hid (W.gap_no s k hlt HB.out H35.out hp)
            have HP := Lib.hid hp
            clear hp
            cases ht : W.takeD (s.data.toList.drop k) with
            | skip n => exact absurd ht W.takeD_noskip
            | bad er =>
              have her := W.takeD_bad ht
              have ber : (er != 0) = true := bne_iff_ne.2 her
              have HD := Lib.hid (HR.out.bad hlt HO.out ht)
              have HT := Lib.hid ht
              clear ht her
              go_wp2_with fail
              refine (blank_is _ false _ HB.out).mono ?_
              rintro e w' ⟨rfl, rfl⟩
              go_wp2_with fail
              refine (prefix_is (s.extract k s.size) ⟨#[47, 42]⟩ false _ (by rw [from_ext]; exact HP.out)).mono ?_
              rintro e w' ⟨rfl, rfl⟩
              go_wp2_with fail
              refine (take_bad s k _ (by omega) hlt HT.out).mono ?_
              rintro e w1 ⟨rfl, hb1⟩
              simp only [zeroTok]
              go_wp2
              rw [Exit.noGoto_ret]
              go_ret3
              rw [HD.out]
              exact ⟨_, rfl, OwnT.nil _ _ _, (hb.trans (hb1.mono hsz)).alloc (Nat.le_trans hsz hb1.size) _⟩
            | tok kd wd b n =>
              have hn := W.takeD_tok (W.ne_drop s k hlt) ht
              rw [List.length_drop, ← Lib.size_eq] at hn
              obtain ⟨hn1, hn2⟩ := hn
              have HN := Lib.hid (HR.out.tok hlt HO.out ht)
              have HT := Lib.hid ht
              clear ht
              go_wp2_with fail
              refine (blank_is _ false _ HB.out).mono ?_
              rintro e w' ⟨rfl, rfl⟩
              go_wp2_with fail
              refine (prefix_is (s.extract k s.size) ⟨#[47, 42]⟩ false _ (by rw [from_ext]; exact HP.out)).mono ?_
              rintro e w' ⟨rfl, rfl⟩
              go_wp2_with fail
              refine (take_tok s k _ (by omega) hlt HT.out).mono ?_
              rintro e w1 ⟨rfl, hb1⟩
              simp only [tokV]
              have hs1 := hb1.size
              have hown1 := own_keep hown hb1
              go_wp2_with (at_builtin; refine wpList_appT 79 86 Tryz.underlying79 tok_info _ rfl (.tmp 71) (.tmp 73) rfl w.heap.size u5 acc rfl (OwnT.alloc hown1 _) ⟨kd, k, wd, b⟩ 1 _ rfl (w1.heap.size + 1) (by simp) rfl (by omega) (by simp; omega) ?_; intro v2 w2 hown2 hb2)
              go_roundg (s.size - (k + n))
              case rel => exact ⟨k + n, acc ++ [⟨kd, k, wd, b⟩], by go_num, hown2, ((hb.trans (hb1.mono hsz)).alloc (Nat.le_trans hsz hs1) _).trans hb2, HN.out, by omega⟩
              case measure => have := HG.out; omega
    · have HD := Lib.hid (HR.out.done (by omega))
      go_wp2
      rw [Exit.noGoto_ret]
      go_ret3
      rw [HD.out]
      exact ⟨_, rfl, hown, hb⟩
end Go.Proofs.YtfcikfohmehmkaaGreatDoor

namespace Go.Proofs.YtfcikfohmehmkaaGreatDoor.W

end Go.Proofs.YtfcikfohmehmkaaGreatDoor.W
namespace Go.Proofs.YtfcikfohmehmkaaGreatDoor
open Go.RowKit

end Go.Proofs.YtfcikfohmehmkaaGreatDoor

namespace Go.Proofs.YtfcikfohmehmkaaGreatDoor
open Go.RowKit

def cmpW (a b : List UInt8) : Int := if Op.bytesLess a b = true then -1 else if Op.bytesLess b a = true then 1 else 0
theorem cmpW_self (a : List UInt8) : cmpW a a = 0 := by unfold cmpW; rw [T.less_irr]; rfl
theorem cmpW_zero {a b : List UInt8} : cmpW a b = 0 ↔ a = b := by
  constructor
  · intro h
    unfold cmpW at h
    split at h
    · cases h
    · rename_i h1
      split at h
      · cases h
      · rename_i h2
        rcases T.less_tri a b with h3 | h3 | h3
        · exact absurd h3 h1
        · exact h3
        · exact absurd h3 h2
  · rintro rfl; exact cmpW_self a
end Go.Proofs.YtfcikfohmehmkaaGreatDoor

namespace Go.Proofs.YtfcikfohmehmkaaGreatDoor
open Go.RowKit

theorem Own.empty {α : Type} (E : Elem α) (w : World) : Own E (w.alloc (.cells #[] E.T)) w.heap.size (.slice (some ⟨w.heap.size, 0, none⟩) 0 0) [] :=
  ⟨by simp [cellsG], .inr ⟨w.heap.size, 0, #[], rfl, Nat.le_refl _, heap_alloc_new w _, Nat.le_refl _, by decide, by simp, by simp [cellsG]⟩⟩
section
variable {w w1 : World} {g : Nat} {vf vp : Value} {nm : Bool} {mk : Int}
end

section
variable {w w1 : World} {g : Nat} {vf vp : Value}
end
end Go.Proofs.YtfcikfohmehmkaaGreatDoor

namespace Go.Proofs.YtfcikfohmehmkaaGreatDoor
open Go.RowKit

end Go.Proofs.YtfcikfohmehmkaaGreatDoor

namespace Go.Proofs.YtfcikfohmehmkaaGreatDoor
open Go.RowKit

theorem Own.block {α : Type} {E : Elem α} {w : World} {base : Nat} {A : Option Addr} {n cap : Nat} {l : List α} (h : Own E w base (.slice A n cap) l) (hl : 0 < l.length) : ∃ b, A = some ⟨b, 0, none⟩ ∧ base ≤ b ∧ b < w.heap.size ∧ Holds E w b 0 l := by
  obtain ⟨A2, cap2, e, _, hs⟩ := h.seen
  injection e with e1 e2 e3
  subst e1
  obtain ⟨b, o, e4, hb, hh⟩ := hs hl
  rcases h.2 with ⟨e5, _⟩ | ⟨g, c, cur, e5, hbg, _⟩
  · injection e5 with e5; rw [e5] at e4; cases e4
  · injection e5 with e5
    rw [e5] at e4
    injection e4 with e4
    injection e4 with e6 e7
    subst e6; subst e7
    exact ⟨g, e5, hbg, hb, hh⟩
theorem holds_of_block {α : Type} {E : Elem α} {w w1 : World} {b o : Nat} {l : List α} (h : Holds E w b o l) (e : w1.heap[b]? = w.heap[b]?) : Holds E w1 b o l := by
  intro i hi j u hu
  rw [← h i hi j u hu]
  unfold World.cell?
  simp only [e]
end Go.Proofs.YtfcikfohmehmkaaGreatDoor

namespace Go.Proofs.YtfcikfohmehmkaaGreatDoor
open Go.RowKit

/-- A slice value that reads as l, at an address that may be cut. -/
def VecAt {α : Type} (E : Elem α) (w : World) (v : Value) (l : List α) : Prop :=
  (v = .slice none 0 0 ∧ l = []) ∨ ∃ b o c, v = .slice (some ⟨b, o, none⟩) l.length c ∧ l.length ≤ c ∧ b < w.heap.size ∧ Holds E w b o l
section
variable {α : Type} {E : Elem α} {w w1 : World} {v : Value} {l : List α}
theorem VecAt.nil (E : Elem α) (w : World) : VecAt E w (.slice none 0 0) [] := .inl ⟨rfl, rfl⟩
theorem VecAt.seen (h : VecAt E w v l) : ∃ A c, v = .slice A l.length c ∧ l.length ≤ c ∧ Seen E w A l := by
  rcases h with ⟨h1, h2⟩ | ⟨b, o, c, h1, h2, h3, h4⟩
  · subst h2; exact ⟨none, 0, h1, Nat.le_refl _, Seen.nil⟩
  · exact ⟨_, c, h1, h2, fun _ => ⟨b, o, rfl, h3, h4⟩⟩
theorem VecAt.own {base : Nat} (h : Own E w base v l) : VecAt E w v l := by
  rcases h.2 with ⟨h1, h2⟩ | ⟨g, cap, cur, rfl, hbg, hgg, hnc, hcm, hcs, htk⟩
  · exact .inl ⟨h1, List.eq_nil_of_length_eq_zero h2⟩
  · refine .inr ⟨g, 0, cap, rfl, hnc, (Array.getElem?_eq_some_iff.1 hgg).1, fun i hi j u hu => ?_⟩
    obtain ⟨A, c, e, _, hs⟩ := h.seen
    injection e with e1 e2 e3
    subst e1
    obtain ⟨b2, o2, e4, _, hh⟩ := hs (by omega)
    injection e4 with e4
    injection e4 with e5 e6
    subst e5; subst e6
    exact hh i hi j u hu
end
end Go.Proofs.YtfcikfohmehmkaaGreatDoor

namespace Go.Proofs.YtfcikfohmehmkaaGreatDoor
open Go.RowKit

end Go.Proofs.YtfcikfohmehmkaaGreatDoor
