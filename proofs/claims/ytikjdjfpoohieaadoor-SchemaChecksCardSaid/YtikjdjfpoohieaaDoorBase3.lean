/-
  Plain laws of layer 7 (edit): what is locked; a tree without a part; a part under another word; a mark more or less. Condition: a tree, a path of one of its lines. Plain laws of layer 7 (edit), second part: what the document's answer to each act is; what follows. Condition: a tree. Plain laws of layer 7 (edit), third part: a part of a tree laid where a new line stands is that part put line by line. Condition: trees. Plain laws of layer 8 (diff): the difference of two trees; that it makes the second one of the first; that no path stands twice in it. Condition: trees. Plain laws of layer 8 (diff), second part: no path stands twice in a difference, nor one under one that is gone; what a path that is added is told by; the text of changes. Condition: trees. Plain laws for layer 8's code: a path that is new at its last word alone, added; its mark, set. Condition: trees.
  Plain laws for layer 10: numbers, addresses, prefixes and hardware addresses, and their texts. No conditions.
  Plain laws for layer 11: the texts of thousandths (thoL: what a text means; thoT: the text), each read back. No conditions.
  Plain laws for layer 13: the types of words, what is a statement, the faults of a list of paths, and of the part of it whose first words are kept. No conditions.
  Plain laws for layer 13: the faults of a tree line by line; what stands under a line that is no statement is left out; marks make no difference. No conditions.
  Plain laws for layer 12: the active tree, and what is explicit in it: trees again. No conditions.
  Plain laws for layer 13: the faults of a tree without some parts of Depth 0, of one part alone, and of a tree with one word more. No conditions.
  Slices whose elements are laid in a fixed number of cells (lines, integers, strings): what such a slice holds, kept over whatever leaves old memory as it was; one of the call's own, and what append does to it. Condition: at most 2^40 elements.
  Lines, integers and strings in memory: the cells of each; a []api.Line and a []string that came in, opened. No conditions.
  Several slices of the call's own, each in blocks of its own: append of one to one of them leaves the others as they were. Condition: at most 2^40 elements.
-/
import Derived.Test.YtikjdjfpoohieaaDoorBase2
import Derived.Test.YtikjdjfpoohieaaDoorRows
import Derived.WalkKit
import Derived.WalkSpells
import Derived.WalkLawsBesides
import Derived.Lib.Hide
import Derived.Laws.OwnMore
import Derived.Deep.RegionLaw
import Derived.Deep.Slices
import Derived.Maps.AppendAt

namespace Go.Proofs.YtikjdjfpoohieaaDoor.T

/-- Does a path begin with another one? -/
def pre (p q : Pth) : Prop := q.take p.length = p
instance (p q : Pth) : Decidable (pre p q) := inferInstanceAs (Decidable (q.take p.length = p))
theorem pre_iff {p q : Pth} : pre p q ↔ ∃ s, q = p ++ s := by
  unfold pre
  constructor
  · intro h; exact ⟨q.drop p.length, by rw [← h, List.length_take]; conv => lhs; rw [← List.take_append_drop p.length q]
                                        rw [← h]; simp⟩
  · rintro ⟨s, rfl⟩; exact List.take_left
theorem pre_app (p s : Pth) : pre p (p ++ s) := List.take_left
theorem pre_split {p q : Pth} (h : pre p q) : p ++ q.drop p.length = q := by
  conv => rhs; rw [← List.take_append_drop p.length q]
  rw [h]

/-- A line stands in a part just if its path begins with that of the part. -/
theorem RightN.part_iff {N : Nat} {t : List Ln} (h : RightN N t) {a : Nat} (ha : a < t.length) {i : Nat} (hi : i < t.length) : (a ≤ i ∧ i < endL t a) ↔ pre (pathL t a) (pathL t i) := by
  rw [pre_iff]
  constructor
  · rintro ⟨h1, h2⟩; exact part_prefix ha i i (Nat.le_refl _) h1 h2
  · rintro ⟨s, hs⟩
    obtain ⟨g1, g2, g3, g4⟩ := end_spec t a ha
    have hai : a ≤ i := by
      rcases Nat.lt_or_ge i a with hlt | hge
      · have := h.path_less a hlt ha
        rw [hs] at this
        cases s with
        | nil => rw [List.append_nil, pless_irr] at this; cases this
        | cons w s => have h2 := pless_asymm (pless_more (pathL t a) (w :: s) (by simp)); rw [h2] at this; cases this
      · exact hge
    refine ⟨hai, ?_⟩
    rcases Nat.lt_or_ge i (endL t a) with hlt | hge
    · exact hlt
    · have he : endL t a < t.length := by omega
      have hx : pless (pathL t i) (pathL t (endL t a)) = true := by
        rw [hs]
        refine pless_off _ _ _ (h.path_less _ g1 he) ?_
        rintro ⟨x, hx⟩
        have l1 := h.path_len (endL t a) (endL t a) (Nat.le_refl _) he
        have l2 := h.path_len a a (Nat.le_refl _) ha
        have := g4 he
        rw [hx, List.length_append] at l1
        have hx0 : x = [] := List.eq_nil_of_length_eq_zero (by omega)
        rw [hx0, List.append_nil] at hx
        have := h.path_inj (max (endL t a) a) _ _ (Nat.le_max_left ..) (Nat.le_max_right ..) he ha hx
        omega
      rcases Nat.eq_or_lt_of_le hge with e | hlt
      · rw [e, pless_irr] at hx; cases hx
      · have := pless_trans _ _ _ hx (h.path_less i hlt hi)
        rw [pless_irr] at this; cases this
theorem mem_takeE {t : List Ln} {k : Nat} {x : Pth × Int} : x ∈ (entries t).take k ↔ ∃ i, i < k ∧ i < t.length ∧ x = (pathL t i, (at_ t i).mark) := by
  constructor
  · intro hx
    obtain ⟨i, hi, rfl⟩ := List.getElem_of_mem hx
    rw [List.length_take, entries_len] at hi
    exact ⟨i, by omega, by omega, by rw [List.getElem_take, entries_at t i (by omega)]⟩
  · rintro ⟨i, h1, h2, rfl⟩
    have hl : i < ((entries t).take k).length := by rw [List.length_take, entries_len]; omega
    have e : ((entries t).take k)[i] = (pathL t i, (at_ t i).mark) := by rw [List.getElem_take, entries_at t i h2]
    rw [← e]
    exact List.getElem_mem hl
theorem mem_dropE {t : List Ln} {k : Nat} {x : Pth × Int} : x ∈ (entries t).drop k ↔ ∃ i, k ≤ i ∧ i < t.length ∧ x = (pathL t i, (at_ t i).mark) := by
  constructor
  · intro hx
    obtain ⟨i, hi, rfl⟩ := List.getElem_of_mem hx
    rw [List.length_drop, entries_len] at hi
    exact ⟨k + i, by omega, by omega, by rw [List.getElem_drop, entries_at t (k + i) (by omega)]⟩
  · rintro ⟨i, h1, h2, rfl⟩
    have hl : i - k < ((entries t).drop k).length := by rw [List.length_drop, entries_len]; omega
    have e : ((entries t).drop k)[i - k] = (pathL t i, (at_ t i).mark) := by
      rw [List.getElem_drop, entries_at t (k + (i - k)) (by omega)]
      rw [show k + (i - k) = i by omega]
    rw [← e]
    exact List.getElem_mem hl
/-- A tree without a part: the paths that do not begin with its. -/
theorem RightN.cut_entries {N : Nat} {t : List Ln} (h : RightN N t) {a : Nat} (ha : a < t.length) : RightN N (cutL t a) ∧ ∀ x, x ∈ entries (cutL t a) ↔ x ∈ entries t ∧ ¬ pre (pathL t a) x.1 := by
  obtain ⟨g1, g2, g3, g4⟩ := end_spec t a ha
  have hmem : ∀ x, x ∈ (entries t).take a ++ (entries t).drop (endL t a) ↔ x ∈ entries t ∧ ¬ pre (pathL t a) x.1 := by
    intro x
    rw [List.mem_append, mem_takeE, mem_dropE]
    constructor
    · rintro (⟨i, h1, h2, rfl⟩ | ⟨i, h1, h2, rfl⟩)
      · exact ⟨(mem_entries t _ _).2 ⟨i, h2, rfl, rfl⟩, fun e => by have := (h.part_iff ha h2).2 e; omega⟩
      · exact ⟨(mem_entries t _ _).2 ⟨i, h2, rfl, rfl⟩, fun e => by have := (h.part_iff ha h2).2 e; omega⟩
    · rintro ⟨h1, h2⟩
      obtain ⟨i, hi, e1, e2⟩ := (mem_entries t x.1 x.2).1 h1
      have hn : ¬ (a ≤ i ∧ i < endL t a) := fun e => h2 (by rw [← e1]; exact (h.part_iff ha hi).1 e)
      have ex : x = (pathL t i, (at_ t i).mark) := by rw [e1, e2]
      rcases Nat.lt_or_ge i a with h3 | h3
      · exact .inl ⟨i, h3, hi, ex⟩
      · exact .inr ⟨i, by omega, hi, ex⟩
  have hg := h.good
  have hG : GoodP N ((entries t).take a ++ (entries t).drop (endL t a)) := by
    have hs := (sorted_iff _).1 hg.sorted
    refine ⟨?_, ?_, fun x hx => hg.ne x ((hmem x).1 hx).1, fun x hx => hg.deep x ((hmem x).1 hx).1, fun x hx => hg.long x ((hmem x).1 hx).1, fun x hx => hg.mark x ((hmem x).1 hx).1, fun x hx q w e hq => ?_⟩
    · have := hg.len
      rw [entries_len] at this
      rw [List.length_append, List.length_take, List.length_drop, entries_len]
      omega
    · rw [sorted_iff, List.pairwise_append]
      refine ⟨hs.sublist (List.take_sublist _ _), hs.sublist (List.drop_sublist _ _), fun x hx y hy => ?_⟩
      obtain ⟨i, h1, h2, rfl⟩ := mem_takeE.1 hx
      obtain ⟨j, h3, h4, rfl⟩ := mem_dropE.1 hy
      exact h.path_less j (by omega) h4
    · obtain ⟨h1, h2⟩ := (hmem x).1 hx
      obtain ⟨m, hm⟩ := hg.closed x h1 q w e hq
      refine ⟨m, (hmem _).2 ⟨hm, fun hp => h2 ?_⟩⟩
      obtain ⟨s, hs⟩ := pre_iff.1 hp
      rw [e]
      exact pre_iff.2 ⟨s ++ [w], by rw [← List.append_assoc, ← hs]⟩
  have e : ofP ((entries t).take a ++ (entries t).drop (endL t a)) = cutL t a := by
    have e1 := h.ofP_entries
    unfold ofP at e1 ⊢
    rw [List.map_append, List.map_take, List.map_drop, e1]; rfl
  rw [← e]
  exact ⟨hG.right, fun x => by rw [hG.entries]; exact hmem x⟩

/-- A path under another last word. -/
def newP (p : Pth) (w : List UInt8) (q : Pth) : Pth := p.dropLast ++ [w] ++ q.drop p.length
/-- A part that stands under another word, too. -/
structure Copied (t : List Ln) (p : Pth) (w : List UInt8) (u : List Ln) : Prop where
  right : RightT u
  mem : ∀ x, x ∈ entries u ↔ x ∈ entries t ∨ ∃ y ∈ entries t, pre p y.1 ∧ x = (newP p w y.1, y.2)
/-- A part that stands under another word. -/
structure Moved (t : List Ln) (p : Pth) (w : List UInt8) (u : List Ln) : Prop where
  right : RightT u
  len : u.length = t.length
  mem : ∀ x, x ∈ entries u ↔ (x ∈ entries t ∧ ¬ pre p x.1) ∨ ∃ y ∈ entries t, pre p y.1 ∧ x = (newP p w y.1, y.2)
end Go.Proofs.YtikjdjfpoohieaaDoor.T

namespace Go.Proofs.YtikjdjfpoohieaaDoor.T

theorem pre_trans {p q r : Pth} (h1 : pre p q) (h2 : pre q r) : pre p r := by
  obtain ⟨s, rfl⟩ := pre_iff.1 h1
  obtain ⟨x, rfl⟩ := pre_iff.1 h2
  exact pre_iff.2 ⟨s ++ x, by rw [List.append_assoc]⟩
theorem pre_len {p q : Pth} (h : pre p q) : p.length ≤ q.length := by
  obtain ⟨s, rfl⟩ := pre_iff.1 h
  rw [List.length_append]; omega
/-- The same entries: the same tree. -/
theorem Moved.same {t u v : List Ln} {p : Pth} {w : List UInt8} (a : Moved t p w u) (b : Moved t p w v) : u = v := RightN.ext a.right b.right fun x => by rw [a.mem x, b.mem x]
theorem Copied.same {t u v : List Ln} {p : Pth} {w : List UInt8} (a : Copied t p w u) (b : Copied t p w v) : u = v := RightN.ext a.right b.right fun x => by rw [a.mem x, b.mem x]
theorem newP_self {p : Pth} (_hp : p ≠ []) (w : List UInt8) (q : Pth) : pre (p.dropLast ++ [w]) (newP p w q) := by
  unfold newP; exact pre_app _ _
theorem newP_back {p : Pth} (hp : p ≠ []) (w : List UInt8) {q : Pth} (h : pre p q) : newP (p.dropLast ++ [w]) (p.getLastD []) (newP p w q) = q := by
  unfold newP
  rw [List.dropLast_concat]
  have e : (p.dropLast ++ [w] ++ q.drop p.length).drop (p.dropLast ++ [w]).length = q.drop p.length := List.drop_left
  rw [e]
  obtain ⟨r, v, er⟩ := snoc_of hp
  have e2 : p.dropLast ++ [p.getLastD []] = p := by rw [er, List.dropLast_concat, last_snoc]
  rw [e2, pre_split h]
/-- No path of the tree begins with a path that isn't there. -/
theorem RightN.none_pre {N : Nat} {t : List Ln} (h : RightN N t) {p : Pth} (hp : p ≠ []) (hno : ∀ i, i < t.length → pathL t i ≠ p) {x : Pth × Int} (hx : x ∈ entries t) : ¬ pre p x.1 := by
  intro hpre
  obtain ⟨i, hi, e, _⟩ := (mem_entries t x.1 x.2).1 hx
  obtain ⟨k, hk, ek⟩ := h.path_take i i p.length (Nat.le_refl _) hi (List.length_pos_iff.2 hp) (by rw [e]; exact pre_len hpre)
  exact hno k hk (by rw [ek, e]; exact hpre)
/-- A part that is moved, and moved back. -/
theorem Moved.back {t u : List Ln} (h : RightT t) {p : Pth} (hp : p ≠ []) {w : List UInt8} (hno : ∀ i, i < t.length → pathL t i ≠ p.dropLast ++ [w]) (m : Moved t p w u) : Moved u (p.dropLast ++ [w]) (p.getLastD []) t := by
  have hq : p.dropLast ++ [w] ≠ [] := by simp
  refine ⟨h, m.len.symm, fun x => ?_⟩
  constructor
  · intro hx
    by_cases hpx : pre p x.1
    · refine .inr ⟨(newP p w x.1, x.2), (m.mem _).2 (.inr ⟨x, hx, hpx, rfl⟩), newP_self hp w _, ?_⟩
      rw [newP_back hp w hpx]
    · exact .inl ⟨(m.mem x).2 (.inl ⟨hx, hpx⟩), h.none_pre hq hno hx⟩
  · rintro (⟨hx, hn⟩ | ⟨y, hy, hpy, rfl⟩)
    · rcases (m.mem x).1 hx with ⟨h1, _⟩ | ⟨y, hy, hpy, rfl⟩
      · exact h1
      · exact absurd (newP_self hp w y.1) hn
    · rcases (m.mem y).1 hy with ⟨h1, _⟩ | ⟨z, hz, hpz, rfl⟩
      · exact absurd hpy (h.none_pre hq hno h1)
      · show (newP _ _ (newP p w z.1), z.2) ∈ entries t
        rw [newP_back hp w hpz]
        exact hz
/-- A part that is copied, and its copy cut off. -/
theorem Copied.back {t u : List Ln} (h : RightT t) {p : Pth} (hp : p ≠ []) {w : List UInt8} (hno : ∀ i, i < t.length → pathL t i ≠ p.dropLast ++ [w]) (m : Copied t p w u) {b : Nat} (hb : b < u.length) (eb : pathL u b = p.dropLast ++ [w]) : cutL u b = t := by
  have hq : p.dropLast ++ [w] ≠ [] := by simp
  obtain ⟨c1, c2⟩ := m.right.cut_entries hb
  refine RightN.ext c1 h fun x => ?_
  rw [c2 x, eb, m.mem x]
  constructor
  · rintro ⟨h1 | ⟨y, hy, hpy, rfl⟩, hn⟩
    · exact h1
    · exact absurd (newP_self hp w y.1) hn
  · intro hx
    exact ⟨.inl hx, h.none_pre hq hno hx⟩
/-- Is the path of one of its lines, or of one above, Protect? -/
def Kept (t : List Ln) (p : Pth) (n : Nat) : Prop := ∃ k m, 1 ≤ k ∧ k ≤ n ∧ (p.take k, m) ∈ entries t ∧ 1 < m
theorem Kept.mono {t : List Ln} {p : Pth} {n m : Nat} (h : Kept t p n) (hnm : n ≤ m) : Kept t p m := by
  obtain ⟨k, b, h1, h2, h3⟩ := h
  exact ⟨k, b, h1, by omega, h3⟩
theorem Kept.pre {t : List Ln} {p q : Pth} (hp : pre p q) {n : Nat} (hn : n ≤ p.length) : Kept t p n ↔ Kept t q n := by
  have e : ∀ k, k ≤ n → p.take k = q.take k := by
    intro k hk
    obtain ⟨s, rfl⟩ := pre_iff.1 hp
    rw [List.take_append, show k - p.length = 0 by omega, List.take_zero, List.append_nil]
  constructor
  · rintro ⟨k, b, h1, h2, h3, h4⟩; exact ⟨k, b, h1, h2, by rw [← e k h2]; exact h3, h4⟩
  · rintro ⟨k, b, h1, h2, h3, h4⟩; exact ⟨k, b, h1, h2, by rw [e k h2]; exact h3, h4⟩
end Go.Proofs.YtikjdjfpoohieaaDoor.T

namespace Go.Proofs.YtikjdjfpoohieaaDoor.T
end Go.Proofs.YtikjdjfpoohieaaDoor.T

namespace Go.Proofs.YtikjdjfpoohieaaDoor.T

theorem Sorted.lt {l : List (Pth × Int)} (h : Sorted l) {i k : Nat} (hik : i < k) (hk : k < l.length) : pless (l[i]'(by omega)).1 l[k].1 = true := h i k hk hik
end Go.Proofs.YtikjdjfpoohieaaDoor.T

namespace Go.Proofs.YtikjdjfpoohieaaDoor.T

/-- A change. -/
structure Chg where
  kind : Int
  path : Pth
  mark : Int
/-- Is there a line of that path? -/
def isIn (t : List Ln) (p : Pth) : Prop := ∃ i, i < t.length ∧ pathL t i = p
def inB (t : List Ln) (p : Pth) : Bool := decide (0 ≤ findI t p)
theorem RightN.in_pre {N : Nat} {t : List Ln} (h : RightN N t) {p q : Pth} (hp : p ≠ []) (hq : isIn t q) (hpq : pre p q) : isIn t p := by
  obtain ⟨i, hi, e⟩ := hq
  obtain ⟨k, hk, ek⟩ := h.path_take i i p.length (Nat.le_refl _) hi (List.length_pos_iff.2 hp) (by rw [e]; exact pre_len hpq)
  exact ⟨k, hk, by rw [ek, e]; exact hpq⟩
/-- A change that can be made. -/
def OneOk (t : List Ln) (c : Chg) (u : List Ln) : Prop :=
  (0 ≤ c.mark ∧ c.mark ≤ 3) ∧ ((c.kind = 1 ∧ ∃ i, i < t.length ∧ pathL t i = c.path ∧ u = cutL t i) ∨
  (c.kind = 2 ∧ t.length < 200 ∧ ∃ up w, c.path = up ++ [w] ∧ Open t up ∧ (∀ i, i < t.length → pathL t i ≠ up ++ [w]) ∧ (∀ x ∈ up ++ [w], x.length ≤ 40) ∧ (up ++ [w]).length ≤ 16 ∧ u = putL t up w c.mark) ∨
  (c.kind = 3 ∧ ∃ i, i < t.length ∧ pathL t i = c.path ∧ u = S.setM t i c.mark))
/-- Changes that can be made, one behind the other. -/
def RunOk : List Ln → List Chg → List Ln → Prop
  | t, [], u => t = u
  | t, c :: l, u => ∃ v, OneOk t c v ∧ RunOk v l u
theorem run_app {t u v : List Ln} {l m : List Chg} (h1 : RunOk t l u) (h2 : RunOk u m v) : RunOk t (l ++ m) v := by
  induction l generalizing t with
  | nil => cases h1; exact h2
  | cons c l ih =>
    obtain ⟨x, hx, hr⟩ := h1
    exact ⟨x, hx, ih hr⟩
theorem run_snoc {t u v : List Ln} {l : List Chg} {c : Chg} (h1 : RunOk t l u) (h2 : OneOk u c v) : RunOk t (l ++ [c]) v := run_app h1 ⟨v, h2, rfl⟩
theorem OneOk.right {t u : List Ln} {c : Chg} (h : OneOk t c u) (hR : RightT t) : RightT u := by
  obtain ⟨hm, ⟨_, i, hi, _, rfl⟩ | ⟨_, hl, up, w, _, ho, hn, hw, hd, rfl⟩ | ⟨_, i, hi, _, rfl⟩⟩ := h
  · exact (hR.cut_entries hi).1
  · exact (hR.putL ho hn hl (by rw [List.length_append, List.length_singleton] at hd; omega) (hw w (by simp)) hm).1
  · exact S.RightT.setM hR hi hm
theorem RunOk.right {t u : List Ln} {l : List Chg} (h : RunOk t l u) (hR : RightT t) : RightT u := by
  induction l generalizing t with
  | nil => cases h; exact hR
  | cons c l ih =>
    obtain ⟨x, hx, hr⟩ := h
    exact ih hr (hx.right hR)

end Go.Proofs.YtikjdjfpoohieaaDoor.T

namespace Go.Proofs.YtikjdjfpoohieaaDoor.T

/-- The digits of a number. -/
def decL (n : Nat) : List UInt8 := if n < 10 then [UInt8.ofNat (48 + n)] else decL (n / 10) ++ [UInt8.ofNat (48 + n % 10)]
termination_by n
decreasing_by omega
theorem decL_small {n : Nat} (h : n < 10) : decL n = [UInt8.ofNat (48 + n)] := by rw [decL, if_pos h]
theorem decL_big {n : Nat} (h : 10 ≤ n) : decL n = decL (n / 10) ++ [UInt8.ofNat (48 + n % 10)] := by rw [decL, if_neg (by omega)]
theorem decL_len : ∀ (k n : Nat), n < 10 ^ (k + 1) → (decL n).length ≤ k + 1
  | 0, n, h => by rw [decL_small (by simpa using h)]; simp
  | k + 1, n, h => by
    rcases Nat.lt_or_ge n 10 with h1 | h1
    · rw [decL_small h1]; simp
    · rw [decL_big h1, List.length_append, List.length_singleton]
      have := decL_len k (n / 10) (by rw [Nat.pow_succ] at h; omega)
      omega
end Go.Proofs.YtikjdjfpoohieaaDoor.T

namespace Go.Proofs.YtikjdjfpoohieaaDoor
namespace T
open Go

end T
end Go.Proofs.YtikjdjfpoohieaaDoor

namespace Go.Proofs.YtikjdjfpoohieaaDoor
namespace N
open T (decL decL_small decL_big decL_len)

/-- A digit of base 10? -/
def digB (c : UInt8) : Bool := decide (48 ≤ c.toNat) && decide (c.toNat ≤ 57)
def valL (s : List UInt8) : Nat := s.foldl (fun n c => 10 * n + (c.toNat - 48)) 0
/-- The number of which a text is the text; -1: there is none. -/
def numL (s : List UInt8) : Int := if s = [] ∨ 10 < s.length ∨ (s.head? = some 48 ∧ 1 < s.length) ∨ s.all digB = false then -1 else (valL s : Nat)
theorem val_snoc (s : List UInt8) (c : UInt8) : valL (s ++ [c]) = 10 * valL s + (c.toNat - 48) := by unfold valL; rw [List.foldl_append]; rfl
theorem dec_ne (n : Nat) : decL n ≠ [] := by
  by_cases h : n < 10
  · rw [decL_small h]; simp
  · rw [decL_big (by omega)]; simp
theorem dig_of (d : Nat) (h : d < 10) : (UInt8.ofNat (48 + d)).toNat = 48 + d := by rw [UInt8.toNat_ofNat']; omega
theorem digB_of (d : Nat) (h : d < 10) : digB (UInt8.ofNat (48 + d)) = true := by
  unfold digB
  rw [dig_of d h, decide_eq_true (by omega), decide_eq_true (by omega)]; rfl
theorem val_dec (n : Nat) : valL (decL n) = n := by
  induction n using Nat.strongRecOn with
  | _ n ih =>
    by_cases h : n < 10
    · rw [decL_small h]
      show 10 * 0 + ((UInt8.ofNat (48 + n)).toNat - 48) = n
      rw [dig_of n h]; omega
    · rw [decL_big (by omega), val_snoc, ih (n / 10) (by omega), dig_of _ (by omega)]; omega
theorem dec_dig (n : Nat) : ∀ c ∈ decL n, digB c = true := by
  induction n using Nat.strongRecOn with
  | _ n ih =>
    by_cases h : n < 10
    · rw [decL_small h]
      intro c hc
      rw [List.mem_singleton.1 hc]; exact digB_of n h
    · rw [decL_big (by omega)]
      intro c hc
      rcases List.mem_append.1 hc with hc | hc
      · exact ih (n / 10) (by omega) c hc
      · rw [List.mem_singleton.1 hc]; exact digB_of _ (by omega)
theorem head_app {α : Type} {a b : List α} (h : a ≠ []) : (a ++ b).head? = a.head? := by
  cases a with
  | nil => exact absurd rfl h
  | cons x r => rfl
theorem dec_head (n : Nat) (h0 : 1 ≤ n) : (decL n).head? ≠ some 48 := by
  induction n using Nat.strongRecOn with
  | _ n ih =>
    by_cases h : n < 10
    · rw [decL_small h]
      intro e
      have e2 : (UInt8.ofNat (48 + n)).toNat = 48 := by injection e with e; rw [e]; rfl
      rw [dig_of n h] at e2; omega
    · rw [decL_big (by omega), head_app (dec_ne _)]
      exact ih (n / 10) (by omega) (by omega)
theorem dec_one (n : Nat) (h : (decL n).head? = some 48) : (decL n).length = 1 := by
  by_cases h0 : 1 ≤ n
  · exact absurd h (dec_head n h0)
  · obtain rfl : n = 0 := by omega
    rw [decL_small (by omega)]; rfl
theorem snoc_cases (s : List UInt8) (h : s ≠ []) : ∃ r c, s = r ++ [c] := ⟨s.dropLast, s.getLast h, (List.dropLast_concat_getLast h).symm⟩
theorem val_pos (s : List UInt8) (hd : s.all digB = true) (h : s ≠ []) (h0 : s.head? ≠ some 48) : 1 ≤ valL s := by
  obtain ⟨n, hn⟩ : ∃ n, s.length = n := ⟨_, rfl⟩
  induction n generalizing s with
  | zero => exact absurd (List.eq_nil_of_length_eq_zero hn) h
  | succ n ih =>
    obtain ⟨r, c, rfl⟩ := snoc_cases s h
    rw [val_snoc]
    by_cases hr : r = []
    · subst hr
      have hc : digB c = true := List.all_eq_true.1 hd c (by simp)
      unfold digB at hc
      rw [Bool.and_eq_true, decide_eq_true_eq, decide_eq_true_eq] at hc
      have : c.toNat ≠ 48 := fun e => h0 (by show some c = some 48; rw [show c = 48 from UInt8.toNat_inj.1 e])
      omega
    · rw [List.length_append, List.length_singleton] at hn
      have := ih r (List.all_eq_true.2 fun x hx => List.all_eq_true.1 hd x (List.mem_append_left _ hx)) hr (by rw [head_app hr] at h0; exact h0) (by omega)
      omega
theorem dec_val (s : List UInt8) (hd : s.all digB = true) (h : s ≠ []) (h0 : s.length = 1 ∨ s.head? ≠ some 48) : decL (valL s) = s := by
  obtain ⟨n, hn⟩ : ∃ n, s.length = n := ⟨_, rfl⟩
  induction n generalizing s with
  | zero => exact absurd (List.eq_nil_of_length_eq_zero hn) h
  | succ n ih =>
    obtain ⟨r, c, rfl⟩ := snoc_cases s h
    have hc : digB c = true := List.all_eq_true.1 hd c (by simp)
    have hc2 := hc
    unfold digB at hc2
    rw [Bool.and_eq_true, decide_eq_true_eq, decide_eq_true_eq] at hc2
    have hcc : UInt8.ofNat (48 + (c.toNat - 48)) = c := by rw [show 48 + (c.toNat - 48) = c.toNat by omega, UInt8.ofNat_toNat]
    rw [val_snoc]
    by_cases hr : r = []
    · subst hr
      show decL (10 * 0 + (c.toNat - 48)) = [c]
      rw [decL_small (by omega), show 10 * 0 + (c.toNat - 48) = c.toNat - 48 by omega, hcc]
    · rw [List.length_append, List.length_singleton] at hn h0
      have hrl : 1 ≤ r.length := List.length_pos_iff.2 hr
      have hdr : r.all digB = true := List.all_eq_true.2 fun x hx => List.all_eq_true.1 hd x (List.mem_append_left _ hx)
      have hh : r.head? ≠ some 48 := by
        rcases h0 with h0 | h0
        · omega
        · rwa [head_app hr] at h0
      have h1 := val_pos r hdr hr hh
      rw [decL_big (by omega), show (10 * valL r + (c.toNat - 48)) / 10 = valL r by omega, show (10 * valL r + (c.toNat - 48)) % 10 = c.toNat - 48 by omega, hcc, ih r hdr hr (.inr hh) (by omega)]
theorem val_lt (s : List UInt8) (hd : s.all digB = true) : ∀ k, s.length ≤ k → valL s < 10 ^ k := by
  intro k
  induction k generalizing s with
  | zero =>
    intro h
    have e : s = [] := List.eq_nil_of_length_eq_zero (by omega)
    subst e
    show 0 < 1
    omega
  | succ k ih =>
    intro h
    by_cases hs : s = []
    · subst hs; exact Nat.pow_pos (by omega)
    · obtain ⟨r, c, rfl⟩ := snoc_cases s hs
      have hc : digB c = true := List.all_eq_true.1 hd c (by simp)
      unfold digB at hc
      rw [Bool.and_eq_true, decide_eq_true_eq, decide_eq_true_eq] at hc
      rw [List.length_append, List.length_singleton] at h
      have := ih r (List.all_eq_true.2 fun x hx => List.all_eq_true.1 hd x (List.mem_append_left _ hx)) (by omega)
      rw [val_snoc, Nat.pow_succ]
      omega
theorem num_cases (s : List UInt8) : numL s = -1 ∨ (∃ n : Nat, numL s = n ∧ n < 10000000000 ∧ decL n = s) := by
  by_cases h : s = [] ∨ 10 < s.length ∨ (s.head? = some 48 ∧ 1 < s.length) ∨ s.all digB = false
  · left; unfold numL; rw [if_pos h]
  · right
    refine ⟨valL s, by unfold numL; rw [if_neg h], ?_, ?_⟩
    · have hd : s.all digB = true := by
        cases e : s.all digB with
        | true => rfl
        | false => exact absurd (.inr (.inr (.inr e))) h
      have := val_lt s hd 10 (by
        rcases Nat.lt_or_ge 10 s.length with h1 | h1
        · exact absurd (.inr (.inl h1)) h
        · exact h1)
      omega
    · have hne : s ≠ [] := fun e => h (.inl e)
      have hl := List.length_pos_iff.2 hne
      refine dec_val s ?_ hne ?_
      · cases e : s.all digB with
        | true => rfl
        | false => exact absurd (.inr (.inr (.inr e))) h
      · by_cases h1 : s.length = 1
        · exact .inl h1
        · exact .inr fun e => h (.inr (.inr (.inl ⟨e, by omega⟩)))
theorem num_ge (s : List UInt8) : -1 ≤ numL s ∧ numL s < 10000000000 := by
  rcases num_cases s with h | ⟨n, h, h2, _⟩ <;> omega
-- PARTS
/-- The parts of a text, at each of a byte. -/
def splitL (c : UInt8) : List UInt8 → List (List UInt8)
  | [] => [[]]
  | x :: r => if x = c then [] :: splitL c r else match splitL c r with
    | [] => [[x]]
    | y :: ys => (x :: y) :: ys
theorem split_cons (c x : UInt8) (r : List UInt8) : splitL c (x :: r) = if x = c then [] :: splitL c r else match splitL c r with | [] => [[x]] | y :: ys => (x :: y) :: ys := rfl
theorem split_ne (c : UInt8) (s : List UInt8) : splitL c s ≠ [] := by
  cases s with
  | nil => simp [splitL]
  | cons x r =>
    rw [split_cons]
    by_cases h : x = c
    · rw [if_pos h]; simp
    · rw [if_neg h]
      cases e : splitL c r <;> simp
theorem split_at {c : UInt8} {a : List UInt8} (h : c ∉ a) (b : List UInt8) : splitL c (a ++ c :: b) = a :: splitL c b := by
  induction a with
  | nil => show splitL c (c :: b) = _; rw [split_cons, if_pos rfl]
  | cons x r ih =>
    have hx : x ≠ c := fun e => h (by rw [e]; exact List.mem_cons_self ..)
    have := ih fun hm => h (List.mem_cons_of_mem _ hm)
    show splitL c (x :: (r ++ c :: b)) = _
    rw [split_cons, if_neg hx, this]
theorem split_one {c : UInt8} {a : List UInt8} (h : c ∉ a) : splitL c a = [a] := by
  induction a with
  | nil => rfl
  | cons x r ih =>
    have hx : x ≠ c := fun e => h (by rw [e]; exact List.mem_cons_self ..)
    rw [split_cons, if_neg hx, ih fun hm => h (List.mem_cons_of_mem _ hm)]
/-- Parts, joined with a byte between two. -/
def joinL (c : UInt8) : List (List UInt8) → List UInt8
  | [] => []
  | [a] => a
  | a :: b :: r => a ++ c :: joinL c (b :: r)
theorem join_split (c : UInt8) (s : List UInt8) : joinL c (splitL c s) = s := by
  induction s with
  | nil => rfl
  | cons x r ih =>
    rw [split_cons]
    by_cases h : x = c
    · rw [if_pos h]
      cases e : splitL c r with
      | nil => exact absurd e (split_ne c r)
      | cons y ys =>
        rw [e] at ih
        show [] ++ c :: joinL c (y :: ys) = _
        rw [ih, h]; rfl
    · rw [if_neg h]
      cases e : splitL c r with
      | nil => exact absurd e (split_ne c r)
      | cons y ys =>
        rw [e] at ih
        cases ys with
        | nil => show x :: y = _; rw [← ih]; rfl
        | cons z zs => show x :: y ++ c :: joinL c (z :: zs) = _; rw [← ih]; rfl
-- ADDRESSES
def octL (s : List UInt8) : Int := if numL s < 0 ∨ 255 < numL s then -1 else numL s
/-- The address of a text; -1: there is none. -/
def ipL (s : List UInt8) : Int := match splitL 46 s with
  | [a, b, c, d] => if octL a < 0 ∨ octL b < 0 ∨ octL c < 0 ∨ octL d < 0 then -1 else 16777216 * octL a + 65536 * octL b + 256 * octL c + octL d
  | _ => -1
/-- The text of an address. -/
def ipT (n : Nat) : List UInt8 := decL (n / 16777216) ++ 46 :: (decL (n / 65536 % 256) ++ 46 :: (decL (n / 256 % 256) ++ 46 :: decL (n % 256)))
theorem oct_cases (s : List UInt8) : octL s = -1 ∨ (∃ n : Nat, octL s = n ∧ n < 256 ∧ decL n = s) := by
  unfold octL
  rcases num_cases s with h | ⟨n, h, h2, h3⟩
  · left; rw [h]; rfl
  · by_cases h4 : n < 256
    · exact .inr ⟨n, by rw [h, if_neg (by omega)], h4, h3⟩
    · left; rw [h, if_pos (by omega)]
theorem ip_cases (s : List UInt8) : ipL s = -1 ∨ (∃ n : Nat, ipL s = n ∧ n < 4294967296 ∧ ipT n = s) := by
  unfold ipL
  split
  · rename_i a b c d e
    rcases oct_cases a with ha | ⟨na, ha, ha2, ha3⟩
    · left; rw [if_pos (.inl (by omega))]
    · rcases oct_cases b with hb | ⟨nb, hb, hb2, hb3⟩
      · left; rw [if_pos (.inr (.inl (by omega)))]
      · rcases oct_cases c with hc | ⟨nc, hc, hc2, hc3⟩
        · left; rw [if_pos (.inr (.inr (.inl (by omega))))]
        · rcases oct_cases d with hd | ⟨nd, hd, hd2, hd3⟩
          · left; rw [if_pos (.inr (.inr (.inr (by omega))))]
          · right
            refine ⟨16777216 * na + 65536 * nb + 256 * nc + nd, by rw [if_neg (by omega), ha, hb, hc, hd]; omega, by omega, ?_⟩
            have hj := join_split 46 s
            rw [e] at hj
            unfold ipT
            rw [show (16777216 * na + 65536 * nb + 256 * nc + nd) / 16777216 = na by omega, show (16777216 * na + 65536 * nb + 256 * nc + nd) / 65536 % 256 = nb by omega, show (16777216 * na + 65536 * nb + 256 * nc + nd) / 256 % 256 = nc by omega, show (16777216 * na + 65536 * nb + 256 * nc + nd) % 256 = nd by omega, ha3, hb3, hc3, hd3]
            exact hj
  · exact .inl rfl
-- PREFIXES
/-- Is it a prefix? -/
def rightB (n bits : Int) : Bool := decide (0 ≤ n) && decide (n < 4294967296) && decide (0 ≤ bits) && decide (bits ≤ 32) && decide (n % (2 ^ (32 - bits).toNat : Nat) = 0)
/-- The prefix of a text; (-1, 0): there is none. -/
def prefL (s : List UInt8) : Int × Int := match splitL 47 s with
  | [a, b] => if rightB (ipL a) (numL b) = true then (ipL a, numL b) else (-1, 0)
  | _ => (-1, 0)
def prefT (n b : Nat) : List UInt8 := ipT n ++ 47 :: decL b
theorem pref_cases (s : List UInt8) : prefL s = (-1, 0) ∨ (∃ n b : Nat, prefL s = ((n : Int), (b : Int)) ∧ rightB n b = true ∧ n < 4294967296 ∧ b ≤ 32 ∧ prefT n b = s) := by
  unfold prefL
  split
  · rename_i a c e
    by_cases h : rightB (ipL a) (numL c) = true
    · rw [if_pos h]
      have h2 := h
      unfold rightB at h2
      simp only [Bool.and_eq_true, decide_eq_true_eq] at h2
      obtain ⟨⟨⟨⟨h0, hn⟩, h1⟩, hb⟩, _⟩ := h2
      rcases ip_cases a with ha | ⟨n, ha, ha2, ha3⟩
      · omega
      · rcases num_cases c with hc | ⟨b, hc, hc2, hc3⟩
        · omega
        · right
          refine ⟨n, b, by rw [ha, hc], by rw [ha, hc] at h; exact h, ha2, by omega, ?_⟩
          have hj := join_split 47 s
          rw [e] at hj
          unfold prefT
          rw [ha3, hc3]
          exact hj
    · rw [if_neg h]; exact .inl rfl
  · exact .inl rfl
-- HARDWARE ADDRESSES
/-- A digit's value of base 16; -1: it is none. -/
def hexV (c : UInt8) : Int := if 48 ≤ c.toNat ∧ c.toNat ≤ 57 then (c.toNat : Int) - 48 else if 97 ≤ c.toNat ∧ c.toNat ≤ 102 then (c.toNat : Int) - 87 else -1
def hexC (n : Nat) : UInt8 := if n < 10 then UInt8.ofNat (48 + n) else UInt8.ofNat (87 + n)
def pairV : List UInt8 → Int
  | [a, b] => if hexV a < 0 ∨ hexV b < 0 then -1 else 16 * hexV a + hexV b
  | _ => -1
def pairT (n : Nat) : List UInt8 := [hexC (n / 16), hexC (n % 16)]
theorem hexC_nat (n : Nat) (h : n < 16) : (hexC n).toNat = if n < 10 then 48 + n else 87 + n := by
  unfold hexC
  by_cases h1 : n < 10
  · rw [if_pos h1, if_pos h1, UInt8.toNat_ofNat']; omega
  · rw [if_neg h1, if_neg h1, UInt8.toNat_ofNat']; omega
theorem hexV_C (n : Nat) (h : n < 16) : hexV (hexC n) = n := by
  unfold hexV
  rw [hexC_nat n h]
  by_cases h1 : n < 10
  · rw [if_pos h1, if_pos (by omega)]; omega
  · rw [if_neg h1, if_neg (by omega), if_pos (by omega)]; omega
theorem hex_cases (c : UInt8) : hexV c = -1 ∨ (∃ n : Nat, hexV c = n ∧ n < 16 ∧ hexC n = c) := by
  unfold hexV
  by_cases h : 48 ≤ c.toNat ∧ c.toNat ≤ 57
  · rw [if_pos h]
    refine .inr ⟨c.toNat - 48, by omega, by omega, ?_⟩
    unfold hexC
    rw [if_pos (by omega), show 48 + (c.toNat - 48) = c.toNat by omega, UInt8.ofNat_toNat]
  · rw [if_neg h]
    by_cases h2 : 97 ≤ c.toNat ∧ c.toNat ≤ 102
    · rw [if_pos h2]
      refine .inr ⟨c.toNat - 87, by omega, by omega, ?_⟩
      unfold hexC
      rw [if_neg (by omega), show 87 + (c.toNat - 87) = c.toNat by omega, UInt8.ofNat_toNat]
    · rw [if_neg h2]; exact .inl rfl
theorem pair_text (n : Nat) (h : n < 256) : pairV (pairT n) = n := by
  show (if hexV (hexC (n / 16)) < 0 ∨ hexV (hexC (n % 16)) < 0 then (-1 : Int) else 16 * hexV (hexC (n / 16)) + hexV (hexC (n % 16))) = _
  rw [hexV_C _ (by omega), hexV_C _ (by omega), if_neg (by omega)]; omega
theorem pair_cases (s : List UInt8) : pairV s = -1 ∨ (∃ n : Nat, pairV s = n ∧ n < 256 ∧ pairT n = s) := by
  unfold pairV
  split
  · rename_i a b
    rcases hex_cases a with ha | ⟨x, ha, ha2, ha3⟩
    · left; rw [if_pos (.inl (by omega))]
    · rcases hex_cases b with hb | ⟨y, hb, hb2, hb3⟩
      · left; rw [if_pos (.inr (by omega))]
      · refine .inr ⟨16 * x + y, by rw [if_neg (by omega), ha, hb]; omega, by omega, ?_⟩
        unfold pairT
        rw [show (16 * x + y) / 16 = x by omega, show (16 * x + y) % 16 = y by omega, ha3, hb3]
  · exact .inl rfl
theorem pair_no (n : Nat) (h : n < 256) : (58 : UInt8) ∉ pairT n := by
  unfold pairT
  intro hm
  have key : ∀ d, d < 16 → (58 : UInt8) ≠ hexC d := by
    intro d hd e
    have := hexC_nat d hd
    rw [← e] at this
    have e2 : (58 : UInt8).toNat = 58 := rfl
    rw [e2] at this
    split at this <;> omega
  rcases List.mem_cons.1 hm with hm | hm
  · exact key _ (by omega) hm
  · exact key _ (by omega) (List.mem_singleton.1 hm)
/-- The hardware address of a text; -1: there is none. -/
def macL (s : List UInt8) : Int := match splitL 58 s with
  | [a, b, c, d, e, f] => if pairV a < 0 ∨ pairV b < 0 ∨ pairV c < 0 ∨ pairV d < 0 ∨ pairV e < 0 ∨ pairV f < 0 then -1 else 1099511627776 * pairV a + 4294967296 * pairV b + 16777216 * pairV c + 65536 * pairV d + 256 * pairV e + pairV f
  | _ => -1
def macT (n : Nat) : List UInt8 := pairT (n / 1099511627776 % 256) ++ 58 :: (pairT (n / 4294967296 % 256) ++ 58 :: (pairT (n / 16777216 % 256) ++ 58 :: (pairT (n / 65536 % 256) ++ 58 :: (pairT (n / 256 % 256) ++ 58 :: pairT (n % 256)))))
theorem mac_cases (s : List UInt8) : macL s = -1 ∨ (∃ n : Nat, macL s = n ∧ n < 281474976710656 ∧ macT n = s) := by
  unfold macL
  split
  · rename_i a b c d e f he
    rcases pair_cases a with ha | ⟨na, ha, ha2, ha3⟩
    · left; rw [if_pos (by omega)]
    rcases pair_cases b with hb | ⟨nb, hb, hb2, hb3⟩
    · left; rw [if_pos (by omega)]
    rcases pair_cases c with hc | ⟨nc, hc, hc2, hc3⟩
    · left; rw [if_pos (by omega)]
    rcases pair_cases d with hd | ⟨nd, hd, hd2, hd3⟩
    · left; rw [if_pos (by omega)]
    rcases pair_cases e with hx | ⟨ne, hx, hx2, hx3⟩
    · left; rw [if_pos (by omega)]
    rcases pair_cases f with hf | ⟨nf, hf, hf2, hf3⟩
    · left; rw [if_pos (by omega)]
    right
    refine ⟨1099511627776 * na + 4294967296 * nb + 16777216 * nc + 65536 * nd + 256 * ne + nf, by rw [if_neg (by omega), ha, hb, hc, hd, hx, hf]; omega, by omega, ?_⟩
    have hj := join_split 58 s
    rw [he] at hj
    unfold macT
    rw [show (1099511627776 * na + 4294967296 * nb + 16777216 * nc + 65536 * nd + 256 * ne + nf) / 1099511627776 % 256 = na by omega, show (1099511627776 * na + 4294967296 * nb + 16777216 * nc + 65536 * nd + 256 * ne + nf) / 4294967296 % 256 = nb by omega, show (1099511627776 * na + 4294967296 * nb + 16777216 * nc + 65536 * nd + 256 * ne + nf) / 16777216 % 256 = nc by omega, show (1099511627776 * na + 4294967296 * nb + 16777216 * nc + 65536 * nd + 256 * ne + nf) / 65536 % 256 = nd by omega, show (1099511627776 * na + 4294967296 * nb + 16777216 * nc + 65536 * nd + 256 * ne + nf) / 256 % 256 = ne by omega, show (1099511627776 * na + 4294967296 * nb + 16777216 * nc + 65536 * nd + 256 * ne + nf) % 256 = nf by omega, ha3, hb3, hc3, hd3, hx3, hf3]
    exact hj
  · exact .inl rfl
-- WHAT IS IN A PREFIX
def inB (n bits ip : Int) : Bool := rightB n bits && decide (0 ≤ ip) && decide (ip < 4294967296) && decide (ip / (2 ^ (32 - bits).toNat : Nat) = n / (2 ^ (32 - bits).toNat : Nat))
theorem pow_pos2 (k : Nat) : 0 < 2 ^ k := Nat.pow_pos (by omega)
-- ALONG THE PARTS
def accL (f : List UInt8 → Int) (l : List (List UInt8)) : Int := l.foldl (fun n x => 256 * n + f x) 0
theorem acc_snoc (f : List UInt8 → Int) (l : List (List UInt8)) (x : List UInt8) : accL f (l ++ [x]) = 256 * accL f l + f x := by unfold accL; rw [List.foldl_append]; rfl
theorem ip_len {s : List UInt8} {L : List (List UInt8)} (h : splitL 46 s = L) (hl : L.length ≠ 4) : ipL s = -1 := by
  unfold ipL
  rw [h]
  split
  · rename_i a b c d; exact absurd rfl hl
  · rfl
theorem ip_bad {s : List UInt8} {L : List (List UInt8)} (h : splitL 46 s = L) {x : List UInt8} (hx : x ∈ L) (hb : octL x < 0) : ipL s = -1 := by
  unfold ipL
  rw [h]
  split
  · rename_i a b c d
    rw [if_pos]
    simp only [List.mem_cons, List.not_mem_nil, or_false] at hx
    rcases hx with rfl | rfl | rfl | rfl
    · exact .inl hb
    · exact .inr (.inl hb)
    · exact .inr (.inr (.inl hb))
    · exact .inr (.inr (.inr hb))
  · rfl
theorem ip_good {s : List UInt8} {L : List (List UInt8)} (h : splitL 46 s = L) (hl : L.length = 4) (hg : ∀ x ∈ L, 0 ≤ octL x) : ipL s = accL octL L := by
  unfold ipL
  rw [h]
  match L, hl with
  | [a, b, c, d], _ =>
    have ha := hg a (by simp)
    have hb := hg b (by simp)
    have hc := hg c (by simp)
    have hd := hg d (by simp)
    show (if octL a < 0 ∨ octL b < 0 ∨ octL c < 0 ∨ octL d < 0 then (-1 : Int) else _) = _
    rw [if_neg (by omega)]
    show _ = 256 * (256 * (256 * (256 * 0 + octL a) + octL b) + octL c) + octL d
    omega
theorem mac_len {s : List UInt8} {L : List (List UInt8)} (h : splitL 58 s = L) (hl : L.length ≠ 6) : macL s = -1 := by
  unfold macL
  rw [h]
  split
  · rename_i a b c d e f; exact absurd rfl hl
  · rfl
theorem mac_bad {s : List UInt8} {L : List (List UInt8)} (h : splitL 58 s = L) {x : List UInt8} (hx : x ∈ L) (hb : pairV x < 0) : macL s = -1 := by
  unfold macL
  rw [h]
  split
  · rename_i a b c d e f
    rw [if_pos]
    simp only [List.mem_cons, List.not_mem_nil, or_false] at hx
    rcases hx with rfl | rfl | rfl | rfl | rfl | rfl
    · exact .inl hb
    · exact .inr (.inl hb)
    · exact .inr (.inr (.inl hb))
    · exact .inr (.inr (.inr (.inl hb)))
    · exact .inr (.inr (.inr (.inr (.inl hb))))
    · exact .inr (.inr (.inr (.inr (.inr hb))))
  · rfl
theorem mac_good {s : List UInt8} {L : List (List UInt8)} (h : splitL 58 s = L) (hl : L.length = 6) (hg : ∀ x ∈ L, 0 ≤ pairV x) : macL s = accL pairV L := by
  unfold macL
  rw [h]
  match L, hl with
  | [a, b, c, d, e, f], _ =>
    have ha := hg a (by simp)
    have hb := hg b (by simp)
    have hc := hg c (by simp)
    have hd := hg d (by simp)
    have he := hg e (by simp)
    have hf := hg f (by simp)
    show (if pairV a < 0 ∨ pairV b < 0 ∨ pairV c < 0 ∨ pairV d < 0 ∨ pairV e < 0 ∨ pairV f < 0 then (-1 : Int) else _) = _
    rw [if_neg (by omega)]
    show _ = 256 * (256 * (256 * (256 * (256 * (256 * 0 + pairV a) + pairV b) + pairV c) + pairV d) + pairV e) + pairV f
    omega
theorem oct_range (x : List UInt8) : -1 ≤ octL x ∧ octL x ≤ 255 := by
  rcases oct_cases x with h | ⟨n, h, h2, _⟩ <;> omega
theorem pair_range (x : List UInt8) : -1 ≤ pairV x ∧ pairV x ≤ 255 := by
  rcases pair_cases x with h | ⟨n, h, h2, _⟩ <;> omega
theorem acc_range (f : List UInt8 → Int) (hf : ∀ x, f x ≤ 255) : ∀ (k : Nat) (l : List (List UInt8)), l.length ≤ k → (∀ x ∈ l, 0 ≤ f x) → 0 ≤ accL f l ∧ accL f l < ((256 ^ k : Nat) : Int) := by
  intro k
  induction k with
  | zero =>
    intro l hl _
    have e : l = [] := List.eq_nil_of_length_eq_zero (by omega)
    subst e
    exact ⟨Int.le_refl _, by show (0 : Int) < 1; omega⟩
  | succ k ih =>
    intro l hl hg
    by_cases h : l = []
    · subst h
      have : 0 < 256 ^ (k + 1) := Nat.pow_pos (by omega)
      exact ⟨Int.le_refl _, by show (0 : Int) < _; omega⟩
    · obtain ⟨r, c, rfl⟩ : ∃ r c, l = r ++ [c] := ⟨l.dropLast, l.getLast h, (List.dropLast_concat_getLast h).symm⟩
      rw [List.length_append, List.length_singleton] at hl
      obtain ⟨h1, h2⟩ := ih r (by omega) fun x hx => hg x (List.mem_append_left _ hx)
      have h3 := hg c (by simp)
      have h4 := hf c
      rw [acc_snoc, Nat.pow_succ]
      exact ⟨by omega, by omega⟩
-- CUTTING AT A BYTE, STEP BY STEP
/-- The parts so far, where the part at hand begins, how far it is read. -/
def CutAt (c : UInt8) (s : List UInt8) (L : List (List UInt8)) (f i : Nat) : Prop := splitL c s = L ++ splitL c (s.drop f) ∧ c ∉ (s.drop f).take (i - f) ∧ f ≤ i
theorem cut_start (c : UInt8) (s : List UInt8) : CutAt c s [] 0 0 := ⟨rfl, by simp, Nat.le_refl _⟩
theorem cut_other {c : UInt8} {s : List UInt8} {L : List (List UInt8)} {f i : Nat} (h : CutAt c s L f i) (hi : i < s.length) (hne : s[i] ≠ c) : CutAt c s L f (i + 1) := by
  obtain ⟨h1, h2, h3⟩ := h
  refine ⟨h1, ?_, by omega⟩
  have hlt : i - f < (s.drop f).length := by rw [List.length_drop]; omega
  rw [show i + 1 - f = (i - f) + 1 by omega, List.take_succ_eq_append_getElem hlt, List.mem_append, List.mem_singleton]
  rintro (e | e)
  · exact h2 e
  · rw [List.getElem_drop] at e
    exact hne (by rw [e]; congr 1; omega)
theorem cut_here {c : UInt8} {s : List UInt8} {L : List (List UInt8)} {f i : Nat} (h : CutAt c s L f i) (hi : i < s.length) (he : s[i] = c) : CutAt c s (L ++ [(s.drop f).take (i - f)]) (i + 1) (i + 1) := by
  obtain ⟨h1, h2, h3⟩ := h
  have hd : s.drop f = (s.drop f).take (i - f) ++ c :: s.drop (i + 1) := by
    conv => lhs; rw [← List.take_append_drop (i - f) (s.drop f)]
    rw [List.drop_drop, show f + (i - f) = i by omega, List.drop_eq_getElem_cons hi, he]
  refine ⟨?_, by simp, Nat.le_refl _⟩
  rw [h1]
  conv => lhs; rw [hd]
  rw [split_at h2, List.append_assoc]; rfl
theorem cut_end {c : UInt8} {s : List UInt8} {L : List (List UInt8)} {f i : Nat} (h : CutAt c s L f i) (hi : i = s.length) : splitL c s = L ++ [(s.drop f).take (i - f)] := by
  obtain ⟨h1, h2, h3⟩ := h
  have e : (s.drop f).take (i - f) = s.drop f := List.take_of_length_le (by rw [List.length_drop]; omega)
  rw [e] at h2 ⊢
  rw [h1, split_one h2]
end N
end Go.Proofs.YtikjdjfpoohieaaDoor

namespace Go.Proofs.YtikjdjfpoohieaaDoor
namespace F
open T (decL decL_small decL_big decL_len)
open N (digB valL val_snoc dig_of digB_of val_dec dec_dig dec_ne dec_head dec_one dec_val val_lt)
set_option linter.unusedVariables false

/-- Digits ahead of the point: 1 to 6, the first one not 0, but for 0 itself. -/
def intOk (a : List UInt8) : Bool := !a.isEmpty && decide (a.length ≤ 6) && !(decide (a.head? = some 48) && decide (1 < a.length))
/-- Nothing, or a point and 1 to 3 digits, the last one not 0. -/
def fracOk : List UInt8 → Bool
  | [] => true
  | c :: f => decide (c = 46) && !f.isEmpty && decide (f.getLast? ≠ some 48) && decide (f.length ≤ 3) && f.all digB
/-- The thousandths of which a text, without its sign, is the text. -/
def thoL (s : List UInt8) : Option Nat := if (intOk (s.takeWhile digB) && fracOk (s.dropWhile digB)) = true then some (valL (s.takeWhile digB ++ (s.dropWhile digB).tail) * 10 ^ (3 - (s.dropWhile digB).tail.length)) else none
def digC (n : Nat) : UInt8 := UInt8.ofNat (48 + n)
/-- The digits behind the point. -/
def fracT (k : Nat) : List UInt8 := if k % 100 = 0 then [digC (k / 100)] else if k % 10 = 0 then [digC (k / 100), digC (k / 10 % 10)] else [digC (k / 100), digC (k / 10 % 10), digC (k % 10)]
/-- The text of thousandths. -/
def thoT (n : Nat) : List UInt8 := decL (n / 1000) ++ if n % 1000 = 0 then [] else 46 :: fracT (n % 1000)
theorem digC_nat {n : Nat} (h : n < 10) : (digC n).toNat = 48 + n := dig_of n h
theorem digC_B {n : Nat} (h : n < 10) : digB (digC n) = true := digB_of n h
theorem digC_ne {n : Nat} (h : n < 10) (h0 : n ≠ 0) : digC n ≠ 48 := fun e => by
  have := digC_nat h
  rw [e] at this
  have e2 : (48 : UInt8).toNat = 48 := rfl
  omega
theorem digC_of {c : UInt8} (h : digB c = true) : ∃ d, d < 10 ∧ c = digC d ∧ c.toNat - 48 = d := by
  unfold digB at h
  simp only [Bool.and_eq_true, decide_eq_true_eq] at h
  refine ⟨c.toNat - 48, by omega, ?_, rfl⟩
  unfold digC
  rw [show 48 + (c.toNat - 48) = c.toNat by omega]
  exact (UInt8.ofNat_toNat).symm
theorem take_digs {a r : List UInt8} (ha : ∀ c ∈ a, digB c = true) (hr : r = [] ∨ ∃ c f, r = c :: f ∧ digB c = false) : (a ++ r).takeWhile digB = a ∧ (a ++ r).dropWhile digB = r := by
  rw [List.takeWhile_append_of_pos ha, List.dropWhile_append_of_pos ha]
  rcases hr with rfl | ⟨c, f, rfl, hc⟩
  · simp
  · rw [List.takeWhile_cons, List.dropWhile_cons, hc]; simp
theorem tho_is {a r : List UInt8} (ha : ∀ c ∈ a, digB c = true) (hr : r = [] ∨ ∃ c f, r = c :: f ∧ digB c = false) : thoL (a ++ r) = if (intOk a && fracOk r) = true then some (valL (a ++ r.tail) * 10 ^ (3 - r.tail.length)) else none := by
  obtain ⟨h1, h2⟩ := take_digs ha hr
  unfold thoL
  rw [h1, h2]
theorem frac_three (k : Nat) : (k % 100 = 0 ∧ fracT k = [digC (k / 100)]) ∨ (k % 100 ≠ 0 ∧ k % 10 = 0 ∧ fracT k = [digC (k / 100), digC (k / 10 % 10)]) ∨ (k % 10 ≠ 0 ∧ fracT k = [digC (k / 100), digC (k / 10 % 10), digC (k % 10)]) := by
  unfold fracT
  by_cases h1 : k % 100 = 0
  · exact .inl ⟨h1, if_pos h1⟩
  · rw [if_neg h1]
    by_cases h2 : k % 10 = 0
    · exact .inr (.inl ⟨h1, h2, if_pos h2⟩)
    · exact .inr (.inr ⟨h2, if_neg h2⟩)
theorem frac_dig {k : Nat} (hk : k < 1000) (h0 : k ≠ 0) : fracOk (46 :: fracT k) = true := by
  rcases frac_three k with ⟨h, e⟩ | ⟨h, h', e⟩ | ⟨h, e⟩
  · have h1 := digC_B (n := k / 100) (by omega)
    have h2 := digC_ne (n := k / 100) (by omega) (by omega)
    rw [e]; simp [fracOk, h1, h2]
  · have h1 := digC_B (n := k / 100) (by omega)
    have h3 := digC_B (n := k / 10 % 10) (by omega)
    have h2 := digC_ne (n := k / 10 % 10) (by omega) (by omega)
    rw [e]; simp [fracOk, h1, h2, h3]
  · have h1 := digC_B (n := k / 100) (by omega)
    have h3 := digC_B (n := k / 10 % 10) (by omega)
    have h4 := digC_B (n := k % 10) (by omega)
    have h2 := digC_ne (n := k % 10) (by omega) (by omega)
    rw [e]; simp [fracOk, h1, h2, h3, h4]
theorem frac_val (a : List UInt8) {k : Nat} (hk : k < 1000) : valL (a ++ fracT k) * 10 ^ (3 - (fracT k).length) = valL a * 1000 + k := by
  unfold fracT
  split
  · rw [val_snoc, digC_nat (by omega)]
    show (10 * valL a + (48 + k / 100 - 48)) * 10 ^ 2 = _
    omega
  · split
    · rw [show a ++ [digC (k / 100), digC (k / 10 % 10)] = (a ++ [digC (k / 100)]) ++ [digC (k / 10 % 10)] by simp, val_snoc, val_snoc, digC_nat (by omega), digC_nat (by omega)]
      show (10 * (10 * valL a + (48 + k / 100 - 48)) + (48 + k / 10 % 10 - 48)) * 10 ^ 1 = _
      omega
    · rw [show a ++ [digC (k / 100), digC (k / 10 % 10), digC (k % 10)] = ((a ++ [digC (k / 100)]) ++ [digC (k / 10 % 10)]) ++ [digC (k % 10)] by simp, val_snoc, val_snoc, val_snoc, digC_nat (by omega), digC_nat (by omega), digC_nat (by omega)]
      show (10 * (10 * (10 * valL a + (48 + k / 100 - 48)) + (48 + k / 10 % 10 - 48)) + (48 + k % 10 - 48)) * 10 ^ 0 = _
      omega
theorem int_dec {n : Nat} (h : n < 1000000) : intOk (decL n) = true := by
  have h1 : (decL n).isEmpty = false := by have := dec_ne n; cases hd : decL n with | nil => exact absurd hd this | cons => rfl
  have h2 := decL_len 5 n h
  unfold intOk
  rw [h1, decide_eq_true h2]
  by_cases h3 : (decL n).head? = some 48
  · have := dec_one n h3
    rw [decide_eq_false (show ¬ 1 < (decL n).length by omega)]; simp
  · rw [decide_eq_false h3]; rfl
/-- The text of thousandths is read as they are. -/
theorem tho_text {n : Nat} (h : n < 1000000000) : thoL (thoT n) = some n := by
  unfold thoT
  split
  · rename_i h0
    rw [tho_is (dec_dig _) (.inl rfl), int_dec (by omega)]
    show some (valL (decL (n / 1000) ++ []) * 10 ^ 3) = _
    rw [List.append_nil, val_dec]
    congr 1
    omega
  · rename_i h0
    rw [tho_is (dec_dig _) (.inr ⟨46, _, rfl, by decide⟩), int_dec (by omega), frac_dig (Nat.mod_lt _ (by omega)) h0]
    show some (valL (decL (n / 1000) ++ fracT (n % 1000)) * 10 ^ (3 - (fracT (n % 1000)).length)) = _
    rw [frac_val _ (Nat.mod_lt _ (by omega)), val_dec]
    congr 1
    omega
theorem frac_cases {f : List UInt8} (h : fracOk (46 :: f) = true) : ∃ k, k < 1000 ∧ k ≠ 0 ∧ fracT k = f := by
  unfold fracOk at h
  simp only [Bool.and_eq_true, decide_eq_true_eq, Bool.not_eq_true', ne_eq] at h
  obtain ⟨⟨⟨⟨_, h1⟩, h2⟩, h3⟩, h4⟩ := h
  have hall : ∀ c ∈ f, digB c = true := List.all_eq_true.1 h4
  match f, h1, h2, h3, hall with
  | [], h1, _, _, _ => cases h1
  | [x], _, h2, _, hall =>
    obtain ⟨d, hd, rfl, _⟩ := digC_of (hall x (by simp))
    have h0 : d ≠ 0 := fun e => h2 (by rw [e]; rfl)
    refine ⟨d * 100, by omega, by omega, ?_⟩
    unfold fracT
    rw [if_pos (by omega), show d * 100 / 100 = d by omega]
  | [x, y], _, h2, _, hall =>
    obtain ⟨d, hd, rfl, _⟩ := digC_of (hall x (by simp))
    obtain ⟨e, he, rfl, _⟩ := digC_of (hall y (by simp))
    have h0 : e ≠ 0 := fun k => h2 (by rw [k]; rfl)
    refine ⟨d * 100 + e * 10, by omega, by omega, ?_⟩
    unfold fracT
    rw [if_neg (by omega), if_pos (by omega), show (d * 100 + e * 10) / 100 = d by omega, show (d * 100 + e * 10) / 10 % 10 = e by omega]
  | [x, y, z], _, h2, _, hall =>
    obtain ⟨d, hd, rfl, _⟩ := digC_of (hall x (by simp))
    obtain ⟨e, he, rfl, _⟩ := digC_of (hall y (by simp))
    obtain ⟨g, hg, rfl, _⟩ := digC_of (hall z (by simp))
    have h0 : g ≠ 0 := fun k => h2 (by rw [k]; rfl)
    refine ⟨d * 100 + e * 10 + g, by omega, by omega, ?_⟩
    unfold fracT
    rw [if_neg (by omega), if_neg (by omega), show (d * 100 + e * 10 + g) / 100 = d by omega, show (d * 100 + e * 10 + g) / 10 % 10 = e by omega, show (d * 100 + e * 10 + g) % 10 = g by omega]
  | x :: y :: z :: u :: r, _, _, h3, _ => simp at h3
/-- What is read of a text has that text. -/
theorem tho_cases (s : List UInt8) : thoL s = none ∨ ∃ n, n < 1000000000 ∧ thoL s = some n ∧ thoT n = s := by
  cases hc : intOk (s.takeWhile digB) && fracOk (s.dropWhile digB) with
  | false => left; unfold thoL; rw [hc]; rfl
  | true =>
    right
    obtain ⟨h1, h2⟩ := Bool.and_eq_true_iff.1 hc
    obtain ⟨a, ha⟩ : ∃ a, s.takeWhile digB = a := ⟨_, rfl⟩
    obtain ⟨r, hr⟩ : ∃ r, s.dropWhile digB = r := ⟨_, rfl⟩
    have hs : s = a ++ r := by rw [← ha, ← hr, List.takeWhile_append_dropWhile]
    rw [ha] at h1
    rw [hr] at h2
    have hd : a.all digB = true := by rw [← ha]; exact List.all_takeWhile
    unfold intOk at h1
    simp only [Bool.and_eq_true, decide_eq_true_eq, Bool.not_eq_true', Bool.and_eq_false_iff, decide_eq_false_iff_not] at h1
    obtain ⟨⟨h3, h4⟩, h5⟩ := h1
    have hne : a ≠ [] := fun e => by rw [e] at h3; cases h3
    have hlen : 0 < a.length := List.length_pos_iff.2 hne
    have hdec : decL (valL a) = a := dec_val a hd hne (by rcases h5 with h5 | h5 <;> first | exact .inr h5 | exact .inl (by omega))
    have hv := val_lt a hd 6 h4
    have hv6 : valL a < 1000000 := hv
    cases r with
    | nil =>
      have hT : thoT (valL a * 1000) = s := by
        unfold thoT
        rw [if_pos (by omega), show valL a * 1000 / 1000 = valL a by omega, hdec, hs]
      exact ⟨valL a * 1000, by omega, by rw [← hT]; exact tho_text (by omega), hT⟩
    | cons c f =>
      have hc46 : c = 46 := by
        unfold fracOk at h2
        simp only [Bool.and_eq_true, decide_eq_true_eq] at h2
        exact h2.1.1.1.1
      subst hc46
      obtain ⟨k, hk, hk0, hf⟩ := frac_cases h2
      have hT : thoT (valL a * 1000 + k) = s := by
        unfold thoT
        rw [show (valL a * 1000 + k) % 1000 = k by omega, if_neg hk0, show (valL a * 1000 + k) / 1000 = valL a by omega, hdec, hf, hs]
      exact ⟨valL a * 1000 + k, by omega, by rw [← hT]; exact tho_text (by omega), hT⟩
end F
end Go.Proofs.YtikjdjfpoohieaaDoor

namespace Go.Proofs.YtikjdjfpoohieaaDoor.C
set_option linter.unusedVariables false
open T (Pth pless)

abbrev Wd := List UInt8
def wHosts : Wd := [104, 111, 115, 116, 115]
def wVnis : Wd := [118, 110, 105, 115]
def wBindings : Wd := [98, 105, 110, 100, 105, 110, 103, 115]
def wRoutes : Wd := [114, 111, 117, 116, 101, 115]
def wPolicy : Wd := [112, 111, 108, 105, 99, 121]
def wIp : Wd := [105, 112]
def wMac : Wd := [109, 97, 99]
def wSubnet : Wd := [115, 117, 98, 110, 101, 116]
def wHost : Wd := [104, 111, 115, 116]
def wVni : Wd := [118, 110, 105]
def wVia : Wd := [118, 105, 97]
def wMetric : Wd := [109, 101, 116, 114, 105, 99]
def wAction : Wd := [97, 99, 116, 105, 111, 110]
def wFrom : Wd := [102, 114, 111, 109]
def wTo : Wd := [116, 111]
def wPermit : Wd := [112, 101, 114, 109, 105, 116]
def wDeny : Wd := [100, 101, 110, 121]
def kName : Wd := 36 :: [110, 97, 109, 101]
def kIp : Wd := 36 :: wIp
def kPrefix : Wd := 36 :: [112, 114, 101, 102, 105, 120]
def kMac : Wd := 36 :: wMac
def kVni : Wd := 36 :: wVni
def kNum : Wd := 36 :: [110, 117, 109]
def kMetric : Wd := 36 :: wMetric
def kAction : Wd := 36 :: wAction
/-- A byte of a name? -/
def okC (c : UInt8) : Bool := (decide (97 ≤ c.toNat) && decide (c.toNat ≤ 122)) || N.digB c || decide (c.toNat = 45)
def nameB : Wd → Bool
  | [] => false
  | c :: r => decide (97 ≤ c.toNat) && decide (c.toNat ≤ 122) && decide (r.length < 16) && r.all okC
/-- Is a text a metric's? -/
def readB (s : Wd) : Bool := decide (s = [110, 97, 110]) || decide (s = [105, 110, 102]) || decide (s = [45, 105, 110, 102]) || (if s.head? = some 45 then (F.thoL s.tail).isSome else (F.thoL s).isSome)
def typeB (k w : Wd) : Bool :=
  if k = kName then nameB w else if k = kIp then decide (0 ≤ N.ipL w) else if k = kPrefix then decide (0 ≤ (N.prefL w).1) else if k = kMac then decide (0 ≤ N.macL w)
  else if k = kVni then decide (1 ≤ N.numL w) && decide (N.numL w ≤ 16777215) else if k = kNum then decide (1 ≤ N.numL w) && decide (N.numL w ≤ 1000)
  else if k = kMetric then readB w else if k = kAction then decide (w = wPermit) || decide (w = wDeny) else false
def secondW (a : Wd) : Wd := if a = wHosts then kName else if a = wVnis then kVni else if a = wBindings then kIp else if a = wRoutes then kPrefix else if a = wPolicy then kNum else []
/-- Two words with a blank between. -/
def key (a w : Wd) : Wd := a ++ 32 :: w
/-- The type behind a third word, whether it holds one, whether it is needed. -/
def thirdK (k : Wd) : Wd × Bool × Bool :=
  if k = key wHosts wIp then (kIp, true, true) else if k = key wHosts wMac then (kMac, true, false) else if k = key wHosts wVnis then (kVni, false, false) else if k = key wVnis wSubnet then (kPrefix, true, true)
  else if k = key wBindings wHost ∨ k = key wRoutes wVia then (kName, true, true) else if k = key wBindings wMac then (kMac, true, true) else if k = key wBindings wVni then (kVni, true, true)
  else if k = key wRoutes wMetric then (kMetric, true, false) else if k = key wPolicy wAction then (kAction, true, true) else if k = key wPolicy wFrom ∨ k = key wPolicy wTo then (kPrefix, true, false) else ([], false, false)
def needsW (a : Wd) : List Wd := if a = wHosts then [wIp] else if a = wVnis then [wSubnet] else if a = wBindings then [wHost, wMac, wVni] else if a = wRoutes then [wVia] else if a = wPolicy then [wAction] else []
/-- The error's number of a path as such; 0: it is a statement, if it is one without its last word. -/
def knownP : Pth → Int
  | [] => 3
  | [a] => if secondW a = [] then 3 else 0
  | [a, b] => if typeB (secondW a) b = true then 0 else 2
  | [a, _, c] => if (thirdK (key a c)).1 = [] then 3 else 0
  | [a, _, c, d] => if typeB (thirdK (key a c)).1 d = true then 0 else 2
  | _ => 3
/-- Does a path stand just under another one? -/
def isKid (p q : Pth) : Bool := decide (q ≠ [] ∧ q.dropLast = p)
def kidsP (P : List Pth) (p : Pth) : List Pth := P.filter (isKid p)
def hasP (P : List Pth) (p : Pth) (w : Wd) : Bool := decide (p ++ [w] ∈ kidsP P p)
def sameAd (x : Wd) : Pth → Bool
  | [a, b, c, d] => decide (a = wHosts) && nameB b && decide (c = wIp) && decide (d = x)
  | _ => false
def twiceP (P : List Pth) (p : Pth) (w : Wd) : Bool := P.any fun q => pless q p && sameAd w q
def outP (P : List Pth) (ip v : Wd) : Bool := match kidsP P [wVnis, v, wSubnet] with
  | [] => false
  | q :: _ => decide (0 ≤ (N.prefL (q.getLastD [])).1) && !N.inB (N.prefL (q.getLastD [])).1 (N.prefL (q.getLastD [])).2 (N.ipL ip)
def meantP (P : List Pth) : Pth → Bool
  | [a, b, c, d] => if key a c = key wHosts wIp then twiceP P [a, b, c, d] d
    else if key a c = key wBindings wHost ∨ key a c = key wRoutes wVia then !decide ([wHosts, d] ∈ P)
    else if key a c = key wHosts wVnis then !decide ([wVnis, d] ∈ P)
    else if key a c = key wBindings wVni then (!decide ([wVnis, d] ∈ P)) || outP P b d else false
  | _ => false
/-- The faults of one path. -/
def faultsP (P : List Pth) (p : Pth) : List (Pth × Int) :=
  if knownP p ≠ 0 then [(p, knownP p)] else match p with
    | [a, b] => ((needsW a).filter fun w => !hasP P [a, b] w).map fun w => ([a, b] ++ [w], 1)
    | [a, b, c] => if (thirdK (key a c)).2.1 = true then (if (kidsP P [a, b, c]).length = 0 then [([a, b, c], 1)] else if 1 < (kidsP P [a, b, c]).length then [([a, b, c], 4)] else []) else []
    | [a, b, c, d] => if meantP P [a, b, c, d] = true then [([a, b, c, d], 7)] else []
    | _ => []
/-- Is each beginning of a path a statement? -/
def liveP (p : Pth) : Bool := (List.range p.length).all fun k => decide (k = 0) || decide (knownP (p.take k) = 0)
def atP (P : List Pth) (p : Pth) : List (Pth × Int) := if liveP p = true then faultsP P p else []
def checkP (P : List Pth) : List (Pth × Int) := P.flatMap (atP P)
def pths (t : List T.Ln) : List Pth := (List.range t.length).map (T.pathL t)
/-- Is a path's first word kept? -/
def keepH (k : Wd → Bool) : Pth → Bool
  | [] => false
  | a :: _ => k a
def keepP (k : Wd → Bool) (P : List Pth) : List Pth := P.filter (keepH k)
/-- Not what a statement means. -/
def formB (x : Pth × Int) : Bool := decide (x.2 ≠ 7)

theorem flat_same {α β : Type} {f g : α → List β} : ∀ {l : List α}, (∀ x ∈ l, f x = g x) → l.flatMap f = l.flatMap g
  | [], _ => rfl
  | x :: l, h => by
    rw [List.flatMap_cons, List.flatMap_cons, h x List.mem_cons_self, flat_same fun y hy => h y (List.mem_cons_of_mem _ hy)]
theorem kid_head {p q : Pth} {a : Wd} {r : Pth} (hp : p = a :: r) (h : isKid p q = true) : ∃ s, q = a :: s := by
  unfold isKid at h
  obtain ⟨h1, h2⟩ := of_decide_eq_true h
  subst hp
  cases q with
  | nil => exact absurd rfl h1
  | cons x s => cases s with
    | nil => simp at h2
    | cons y s => simp at h2; exact ⟨_, by rw [h2.1]⟩
theorem kids_keep (k : Wd → Bool) (P : List Pth) {p : Pth} {a : Wd} {r : Pth} (hp : p = a :: r) (hk : k a = true) : kidsP (keepP k P) p = kidsP P p := by
  unfold kidsP keepP
  rw [List.filter_filter]
  refine List.filter_congr fun q _ => ?_
  cases h : isKid p q with
  | false => rfl
  | true =>
    obtain ⟨s, rfl⟩ := kid_head hp h
    simp [keepH, hk]
theorem mem_keep (k : Wd → Bool) (P : List Pth) {a : Wd} {r : Pth} (hk : k a = true) : a :: r ∈ keepP k P ↔ a :: r ∈ P := by
  unfold keepP
  rw [List.mem_filter]
  exact ⟨fun h => h.1, fun h => ⟨h, by simp [keepH, hk]⟩⟩
theorem sameAd_head {x : Wd} {q : Pth} (h : sameAd x q = true) : ∃ r, q = wHosts :: r := by
  unfold sameAd at h
  split at h
  · simp only [Bool.and_eq_true, decide_eq_true_eq] at h
    exact ⟨_, by rw [h.1.1.1]⟩
  · cases h
theorem twice_keep (k : Wd → Bool) (P : List Pth) (p : Pth) (x : Wd) (hk : k wHosts = true) : twiceP (keepP k P) p x = twiceP P p x := by
  unfold twiceP keepP
  rw [List.any_filter]
  congr 1
  funext q
  cases h : sameAd x q with
  | false => simp
  | true =>
    obtain ⟨r, rfl⟩ := sameAd_head h
    simp [keepH, hk]
theorem out_keep (k : Wd → Bool) (P : List Pth) (b d : Wd) (hk : k wVnis = true) : outP (keepP k P) b d = outP P b d := by
  unfold outP
  rw [kids_keep k P rfl hk]
theorem meant_keep (k : Wd → Bool) (P : List Pth) (p : Pth) (hh : k wHosts = true) (hv : k wVnis = true) : meantP (keepP k P) p = meantP P p := by
  unfold meantP
  split
  · simp only [twice_keep k P _ _ hh, out_keep k P _ _ hv, mem_keep k P hh, mem_keep k P hv]
  · rfl
theorem has_keep (k : Wd → Bool) (P : List Pth) {p : Pth} {a : Wd} {r : Pth} (w : Wd) (hp : p = a :: r) (hk : k a = true) : hasP (keepP k P) p w = hasP P p w := by
  unfold hasP
  rw [kids_keep k P hp hk]
/-- With hosts and vnis kept, what is wrong with a path that is kept is the same. -/
theorem faults_keep (k : Wd → Bool) (P : List Pth) {p : Pth} {a : Wd} {r : Pth} (hp : p = a :: r) (hk : k a = true) (hh : k wHosts = true) (hv : k wVnis = true) : faultsP (keepP k P) p = faultsP P p := by
  unfold faultsP
  split
  · rfl
  · split
    · injection hp with h1 h2
      subst h1; subst h2
      simp only [has_keep k P _ rfl hk]
    · injection hp with h1 h2
      subst h1; subst h2
      simp only [kids_keep k P rfl hk]
    · simp only [meant_keep k P _ hh hv]
    · rfl
/-- But for what a statement means, what is wrong with a path that is kept is the same. -/
theorem form_keep (k : Wd → Bool) (P : List Pth) {p : Pth} {a : Wd} {r : Pth} (hp : p = a :: r) (hk : k a = true) : (faultsP (keepP k P) p).filter formB = (faultsP P p).filter formB := by
  unfold faultsP
  split
  · rfl
  · split
    · injection hp with h1 h2
      subst h1; subst h2
      simp only [has_keep k P _ rfl hk]
    · injection hp with h1 h2
      subst h1; subst h2
      simp only [kids_keep k P rfl hk]
    · have e : ∀ b : Bool, ∀ x : Pth, List.filter formB (if b = true then [(x, (7 : Int))] else []) = [] := fun b x => by
        cases b with
        | false => rfl
        | true => rfl
      rw [e, e]
    · rfl
theorem keep_head {k : Wd → Bool} {P : List Pth} {p : Pth} (h : p ∈ keepP k P) : p ∈ P ∧ ∃ a r, p = a :: r ∧ k a = true := by
  unfold keepP at h
  obtain ⟨h1, h2⟩ := List.mem_filter.1 h
  cases p with
  | nil => cases h2
  | cons a r => exact ⟨h1, a, r, rfl, h2⟩
/-- A part without others: its faults are those of the whole at its paths. -/
theorem check_keep (k : Wd → Bool) (P : List Pth) (hh : k wHosts = true) (hv : k wVnis = true) : checkP (keepP k P) = (keepP k P).flatMap (atP P) := by
  unfold checkP
  refine flat_same ?_
  intro p hp
  obtain ⟨_, a, r, e, hk⟩ := keep_head hp
  unfold atP
  rw [faults_keep k P e hk hh hv]
theorem check_none {k : Wd → Bool} {P : List Pth} (hh : k wHosts = true) (hv : k wVnis = true) (h : checkP P = []) : checkP (keepP k P) = [] := by
  rw [check_keep k P hh hv]
  unfold checkP at h
  rw [List.flatMap_eq_nil_iff] at h ⊢
  exact fun p hp => h p (keep_head hp).1
/-- But for what a statement means, a part's faults are those of the whole at its paths. -/
theorem check_form (k : Wd → Bool) (P : List Pth) : (checkP (keepP k P)).filter formB = (keepP k P).flatMap (fun p => (atP P p).filter formB) := by
  unfold checkP
  rw [List.filter_flatMap]
  refine flat_same ?_
  intro p hp
  obtain ⟨_, a, r, e, hk⟩ := keep_head hp
  unfold atP
  split
  · exact form_keep k P e hk
  · rfl
/-- A fault's path is a path, or one with a word more. -/
theorem fault_path {P : List Pth} {x : Pth × Int} (h : x ∈ checkP P) : x.1 ∈ P ∨ (x.2 = 1 ∧ x.1 ≠ [] ∧ x.1.dropLast ∈ P) := by
  unfold checkP at h
  obtain ⟨p, hp, hx⟩ := List.mem_flatMap.1 h
  unfold atP at hx
  split at hx
  · unfold faultsP at hx
    split at hx
    · rw [List.mem_singleton] at hx
      subst hx
      exact .inl hp
    · split at hx
      · obtain ⟨w, _, rfl⟩ := List.mem_map.1 hx
        exact .inr ⟨rfl, by simp, by simpa using hp⟩
      · split at hx
        · split at hx
          · rw [List.mem_singleton] at hx; subst hx; exact .inl hp
          · split at hx
            · rw [List.mem_singleton] at hx; subst hx; exact .inl hp
            · cases hx
        · cases hx
      · split at hx
        · rw [List.mem_singleton] at hx; subst hx; exact .inl hp
        · cases hx
      · cases hx
  · cases hx
end Go.Proofs.YtikjdjfpoohieaaDoor.C

namespace Go.Proofs.YtikjdjfpoohieaaDoor.C
set_option linter.unusedVariables false
open T (Pth pless RightN RightT pathL endL kidsL underL pathI wd dp at_ Ln pre isIn)

theorem pths_len (t : List Ln) : (pths t).length = t.length := by unfold pths; rw [List.length_map, List.length_range]
theorem pths_at (t : List Ln) {i : Nat} (hi : i < t.length) : (pths t)[i]'(by rw [pths_len]; exact hi) = pathL t i := by
  unfold pths
  rw [List.getElem_map, List.getElem_range]
theorem mem_pths {t : List Ln} {p : Pth} : p ∈ pths t ↔ isIn t p := by
  unfold pths isIn
  rw [List.mem_map]
  exact ⟨fun ⟨k, h, e⟩ => ⟨k, List.mem_range.1 h, e⟩, fun ⟨k, h, e⟩ => ⟨k, List.mem_range.2 h, e⟩⟩
theorem dropLast_path (t : List Ln) (k : Nat) : (pathL t k).dropLast = pathI t (underL t k) := by rw [T.path_under, List.dropLast_concat]
theorem kid_iff {N : Nat} {t : List Ln} (h : RightN N t) {i k : Nat} (hi : i < t.length) (hk : k < t.length) : isKid (pathL t i) (pathL t k) = (underL t k == (i : Int)) := by
  have hu := T.under_lt t k
  unfold isKid
  rw [dropLast_path, Bool.eq_iff_iff, decide_eq_true_eq, beq_iff_eq]
  constructor
  · rintro ⟨_, e⟩
    rw [← T.pathI_nat t i] at e
    exact h.pathI_inj ⟨hu.1, by omega⟩ ⟨by omega, by omega⟩ e
  · intro e
    exact ⟨T.path_ne, by rw [e, T.pathI_nat]⟩
theorem kids_pths {N : Nat} {t : List Ln} (h : RightN N t) {i : Nat} (hi : i < t.length) : kidsP (pths t) (pathL t i) = (kidsL t i).map (pathL t) := by
  unfold kidsP pths kidsL
  rw [List.filter_map]
  congr 1
  exact List.filter_congr fun k hk => kid_iff h hi (List.mem_range.1 hk)
theorem kids_count {N : Nat} {t : List Ln} (h : RightN N t) {i : Nat} (hi : i < t.length) : (kidsP (pths t) (pathL t i)).length = (kidsL t i).length := by rw [kids_pths h hi, List.length_map]
theorem kid_path {t : List Ln} {i k : Nat} (hk : k ∈ kidsL t i) : pathL t k = pathL t i ++ [wd t k] := by
  rw [T.path_under t k, ((T.mem_kids t i k).1 hk).2, T.pathI_nat]
theorem has_pths {N : Nat} {t : List Ln} (h : RightN N t) {i : Nat} (hi : i < t.length) (w : Wd) : hasP (pths t) (pathL t i) w = (kidsL t i).any fun k => wd t k == w := by
  unfold hasP
  rw [kids_pths h hi, Bool.eq_iff_iff, decide_eq_true_eq, List.mem_map, List.any_eq_true]
  constructor
  · rintro ⟨k, hk, e⟩
    rw [kid_path hk] at e
    have := List.append_cancel_left e
    exact ⟨k, hk, by rw [beq_iff_eq]; injection this⟩
  · rintro ⟨k, hk, e⟩
    exact ⟨k, hk, by rw [kid_path hk, beq_iff_eq.1 e]⟩
theorem kids_off {N : Nat} {t : List Ln} (h : RightN N t) {p : Pth} (hp : p ≠ []) (hno : ¬ isIn t p) : kidsP (pths t) p = [] := by
  unfold kidsP
  rw [List.filter_eq_nil_iff]
  intro q hq hk
  obtain ⟨k, hkl, rfl⟩ := mem_pths.1 hq
  unfold isKid at hk
  obtain ⟨_, e⟩ := of_decide_eq_true hk
  rw [dropLast_path] at e
  have hu := T.under_lt t k
  by_cases h0 : underL t k < 0
  · rw [show underL t k = -1 by omega, T.pathI_none] at e
    exact hp e.symm
  · obtain ⟨j, hj⟩ := Int.eq_ofNat_of_zero_le (show 0 ≤ underL t k by omega)
    rw [hj, T.pathI_nat] at e
    exact hno ⟨j, by omega, e⟩
def checkTo (t : List Ln) (i : Nat) : List (Pth × Int) := ((pths t).take i).flatMap (atP (pths t))
theorem check_full (t : List Ln) : checkTo t t.length = checkP (pths t) := by
  unfold checkTo checkP
  rw [List.take_of_length_le (by rw [pths_len]; exact Nat.le_refl _)]
theorem check_none0 (t : List Ln) : checkTo t 0 = [] := rfl
theorem check_step {t : List Ln} {i : Nat} (hi : i < t.length) : checkTo t (i + 1) = checkTo t i ++ atP (pths t) (pathL t i) := by
  unfold checkTo
  rw [List.take_succ_eq_append_getElem (by rw [pths_len]; exact hi), List.flatMap_append, pths_at t hi]
  simp
/-- A path under one that is no statement is left out. -/
theorem dead_under {P : List Pth} {p q : Pth} (hp : p ≠ []) (hk : knownP p ≠ 0) (hq : q ≠ []) : atP P (p ++ q) = [] := by
  unfold atP
  rw [if_neg]
  intro h
  unfold liveP at h
  rw [List.all_eq_true] at h
  have hl := List.length_pos_iff.2 hp
  have hl2 := List.length_pos_iff.2 hq
  have := h p.length (List.mem_range.2 (by rw [List.length_append]; omega))
  rw [List.take_left] at this
  simp only [Bool.or_eq_true, decide_eq_true_eq] at this
  rcases this with h | h
  · omega
  · exact hk h
theorem check_skip {N : Nat} {t : List Ln} (h : RightN N t) {i : Nat} (hi : i < t.length) (hk : knownP (pathL t i) ≠ 0) : ∀ d, i + 1 + d ≤ endL t i → checkTo t (i + 1 + d) = checkTo t (i + 1)
  | 0, _ => rfl
  | d + 1, hd => by
    have he := T.end_spec t i hi
    rw [show i + 1 + (d + 1) = (i + 1 + d) + 1 by omega, check_step (by omega), check_skip h hi hk d (by omega)]
    obtain ⟨r, hr⟩ := T.part_prefix hi (i + 1 + d) (i + 1 + d) (Nat.le_refl _) (by omega) (by omega)
    have hne : r ≠ [] := by
      intro e
      rw [e, List.append_nil] at hr
      have := h.path_inj (i + 1 + d + i) (i + 1 + d) i (by omega) (by omega) (by omega) hi hr
      omega
    rw [hr, dead_under T.path_ne hk hne, List.append_nil]
theorem check_end {N : Nat} {t : List Ln} (h : RightN N t) {i : Nat} (hi : i < t.length) (hk : knownP (pathL t i) ≠ 0) : checkTo t (endL t i) = checkTo t i ++ atP (pths t) (pathL t i) := by
  have he := T.end_spec t i hi
  have := check_skip h hi hk (endL t i - (i + 1)) (by omega)
  rw [show i + 1 + (endL t i - (i + 1)) = endL t i by omega] at this
  rw [this, check_step hi]
/-- All lines ahead that are no statement end there. -/
def Going (t : List Ln) (i : Nat) : Prop := ∀ j, j < i → knownP (pathL t j) ≠ 0 → endL t j ≤ i
theorem Going.start (t : List Ln) : Going t 0 := fun j hj => absurd hj (Nat.not_lt_zero j)
theorem Going.next {t : List Ln} {i : Nat} (g : Going t i) (hk : knownP (pathL t i) = 0) : Going t (i + 1) := fun j hj hn => by
  by_cases h : j < i
  · exact Nat.le_succ_of_le (g j h hn)
  · obtain rfl : j = i := by omega
    exact absurd hk hn
theorem Going.skip {N : Nat} {t : List Ln} (h : RightN N t) {i : Nat} (hi : i < t.length) (g : Going t i) : Going t (endL t i) := fun j hj hn => by
  have he := T.end_spec t i hi
  by_cases h1 : j < i
  · have := g j h1 hn; omega
  · have hjl : j < t.length := by omega
    have hej := T.end_spec t j hjl
    apply Nat.le_of_not_lt
    intro hlt
    have p1 := (h.part_iff hi hjl).1 ⟨by omega, hj⟩
    have p2 := (h.part_iff hjl (show endL t i < t.length by omega)).1 ⟨by omega, hlt⟩
    have : i ≤ endL t i ∧ endL t i < endL t i := (h.part_iff hi (show endL t i < t.length by omega)).2 (T.pre_trans p1 p2)
    omega
theorem Going.live {N : Nat} {t : List Ln} (h : RightN N t) {i : Nat} (hi : i < t.length) (g : Going t i) : liveP (pathL t i) = true := by
  unfold liveP
  rw [List.all_eq_true]
  intro k hk
  have hk := List.mem_range.1 hk
  by_cases h0 : k = 0
  · simp [h0]
  · obtain ⟨j, hj, e⟩ := h.path_take (i) i k (Nat.le_refl _) hi (by omega) (by omega)
    have hpre := (h.part_iff hj hi).2 (T.pre_iff.2 ⟨(pathL t i).drop k, by rw [e, List.take_append_drop]⟩)
    have hji : j < i := by
      rcases Nat.lt_or_ge j i with h1 | h1
      · exact h1
      · obtain rfl : j = i := by omega
        have := congrArg List.length e
        rw [List.length_take] at this
        omega
    rw [← e]
    have : knownP (pathL t j) = 0 := Decidable.byContradiction fun hn => by
      have := g j hji hn
      omega
    simp [this]
end Go.Proofs.YtikjdjfpoohieaaDoor.C

namespace Go.Proofs.YtikjdjfpoohieaaDoor.T
set_option linter.unusedVariables false

theorem sorted_pair (l : List (Pth × Int)) : Sorted l ↔ l.Pairwise fun a b => pless a.1 b.1 = true := by
  constructor
  · intro h
    exact List.pairwise_iff_getElem.2 fun i j hi hj hij => h i j hj hij
  · intro h i k hk hik
    exact List.pairwise_iff_getElem.1 h i k (by omega) hk hik
/-- Some of a good list's paths, with the beginnings of each, and other marks: a good list. -/
theorem GoodP.some {N : Nat} {l : List (Pth × Int)} (h : GoodP N l) (f : Pth × Int → Bool) (g : Pth × Int → Int) (hg : ∀ x ∈ l, 0 ≤ g x ∧ g x ≤ 3) (hc : ∀ x ∈ l, f x = true → ∀ y ∈ l, pre y.1 x.1 → f y = true) : GoodP N ((l.filter f).map fun x => (x.1, g x)) := by
  have back : ∀ x ∈ (l.filter f).map (fun x => (x.1, g x)), ∃ y ∈ l, f y = true ∧ x = (y.1, g y) := fun x hx => by
    obtain ⟨y, hy, e⟩ := List.mem_map.1 hx
    obtain ⟨h1, h2⟩ := List.mem_filter.1 hy
    exact ⟨y, h1, h2, e.symm⟩
  refine ⟨?_, ?_, fun x hx => ?_, fun x hx => ?_, fun x hx => ?_, fun x hx => ?_, fun x hx q w e hq => ?_⟩
  · rw [List.length_map]; exact Nat.le_trans (List.length_filter_le _ _) h.len
  · rw [sorted_pair, List.pairwise_map]
    exact ((sorted_pair l).1 h.sorted).filter _
  · obtain ⟨y, hy, _, rfl⟩ := back x hx; exact h.ne y hy
  · obtain ⟨y, hy, _, rfl⟩ := back x hx; exact h.deep y hy
  · obtain ⟨y, hy, _, rfl⟩ := back x hx; exact h.long y hy
  · obtain ⟨y, hy, _, rfl⟩ := back x hx; exact hg y hy
  · obtain ⟨y, hy, hf, rfl⟩ := back x hx
    obtain ⟨m, hm⟩ := h.closed y hy q w e hq
    have hp : pre q y.1 := by rw [show y.1 = q ++ [w] from e]; exact pre_app _ _
    exact ⟨g (q, m), List.mem_map.2 ⟨(q, m), List.mem_filter.2 ⟨hm, hc y hy hf (q, m) hm hp⟩, rfl⟩⟩
end Go.Proofs.YtikjdjfpoohieaaDoor.T

namespace Go.Proofs.YtikjdjfpoohieaaDoor.C
set_option linter.unusedVariables false
open T (Pth pless RightN RightT GoodP pathL endL kidsL underL pathI wd dp at_ Ln pre isIn)

theorem pths_entries (t : List Ln) : pths t = (T.entries t).map (·.1) := by
  unfold pths T.entries
  rw [List.map_map]
  rfl
theorem pths_ofP {N : Nat} {l : List (Pth × Int)} (h : GoodP N l) : pths (T.ofP l) = l.map (·.1) := by rw [pths_entries, h.entries]
/-- The lines whose path's first word is kept, of the first i. -/
def keepTo (k : Wd → Bool) (t : List Ln) (i : Nat) : List Ln := ((List.range i).filter fun j => keepH k (pathL t j)).map (at_ t)
def keepL (k : Wd → Bool) (t : List Ln) : List Ln := keepTo k t t.length
theorem keep_next (k : Wd → Bool) (t : List Ln) (i : Nat) : keepTo k t (i + 1) = keepTo k t i ++ if keepH k (pathL t i) = true then [at_ t i] else [] := by
  unfold keepTo
  rw [List.range_succ, List.filter_append, List.map_append]
  congr 1
  cases h : keepH k (pathL t i) with
  | false => simp [List.filter, h]
  | true => simp [List.filter, h]
theorem at_lnOf {N : Nat} {t : List Ln} (h : RightN N t) {j : Nat} (hj : j < t.length) : T.lnOf (pathL t j, (at_ t j).mark) = at_ t j := by
  have h1 := T.ofP_at (T.entries t) j (by rw [T.entries_len]; exact hj)
  rw [h.ofP_entries, T.entries_at t j hj] at h1
  exact h1.symm
theorem keep_ofP {N : Nat} {t : List Ln} (h : RightN N t) (k : Wd → Bool) : keepL k t = T.ofP ((T.entries t).filter fun x => keepH k x.1) := by
  unfold keepL keepTo T.ofP T.entries
  rw [List.filter_map, List.map_map]
  refine List.map_congr_left fun j hj => ?_
  exact (at_lnOf h (List.mem_range.1 (List.mem_filter.1 hj).1)).symm
theorem pre_keep {k : Wd → Bool} {p q : Pth} (hp : p ≠ []) (h : pre p q) (hk : keepH k q = true) : keepH k p = true := by
  obtain ⟨s, rfl⟩ := T.pre_iff.1 h
  cases p with
  | nil => exact absurd rfl hp
  | cons a r => exact hk
theorem keep_good {N : Nat} {t : List Ln} (h : RightN N t) (k : Wd → Bool) : GoodP N ((T.entries t).filter fun x => keepH k x.1) := by
  have := h.good.some (fun x => keepH k x.1) (fun x => x.2) (fun x hx => by
      obtain ⟨i, hi, e1, e2⟩ := (T.mem_entries t x.1 x.2).1 hx
      rw [← e2]; exact h.mark i hi) (fun x hx hf y hy hp => by
      obtain ⟨i, hi, e1, _⟩ := (T.mem_entries t y.1 y.2).1 hy
      exact pre_keep (by rw [← e1]; exact T.path_ne) hp hf)
  rwa [show (fun x : Pth × Int => (x.1, x.2)) = id from rfl, List.map_id] at this
theorem keep_right {N : Nat} {t : List Ln} (h : RightN N t) (k : Wd → Bool) : RightN N (keepL k t) := by
  rw [keep_ofP h]
  exact (keep_good h k).right
theorem keep_pths {N : Nat} {t : List Ln} (h : RightN N t) (k : Wd → Bool) : pths (keepL k t) = keepP k (pths t) := by
  rw [keep_ofP h, pths_ofP (keep_good h k), pths_entries t]
  unfold keepP
  rw [List.filter_map]
  rfl
theorem range_seg (m : Nat) : ∀ (n e : Nat), m ≤ e → e ≤ n → (List.range n).filter (fun i => decide (m ≤ i ∧ i < e)) = (List.range (e - m)).map (m + ·)
  | 0, e, h1, h2 => by
    obtain rfl : e = 0 := by omega
    simp
  | n + 1, e, h1, h2 => by
    rw [List.range_succ, List.filter_append]
    by_cases he : e ≤ n
    · rw [range_seg m n e h1 he]
      simp
      omega
    · obtain rfl : e = n + 1 := by omega
      by_cases hm : m ≤ n
      · rw [show (List.range n).filter (fun i => decide (m ≤ i ∧ i < n + 1)) = (List.range n).filter (fun i => decide (m ≤ i ∧ i < n)) from List.filter_congr fun i hi => by
            have := List.mem_range.1 hi
            rw [decide_eq_decide]; omega, range_seg m n n hm (Nat.le_refl _), show n + 1 - m = (n - m) + 1 by omega, List.range_succ, List.map_append]
        congr 1
        simp [hm]
      · obtain rfl : m = n + 1 := by omega
        rw [Nat.sub_self, List.range_zero, List.map_nil, List.append_eq_nil_iff, List.filter_eq_nil_iff, List.filter_eq_nil_iff]
        refine ⟨fun i hi => ?_, fun i hi => ?_⟩ <;> simp
/-- A part's paths are those of the tree with its first word. -/
theorem sub_pths {N : Nat} {t : List Ln} (h : RightN N t) {m : Nat} (hm : m < t.length) (hr : underL t m = -1) : pths (T.subL t m) = keepP (fun a => a == wd t m) (pths t) ∧ pths (T.subL t m) = ((pths t).drop m).take (endL t m - m) := by
  have he := T.end_spec t m hm
  have hd : dp t m = 0 := (h.root_iff hm).1 hr
  have hw : pathL t m = [wd t m] := T.path_root hr
  have h1 : pths (T.subL t m) = ((List.range (endL t m - m)).map (m + ·)).map (pathL t) := by
    unfold pths
    rw [T.sub_len t m hm, List.map_map]
    refine List.map_congr_left fun k hk => ?_
    have hk := List.mem_range.1 hk
    rw [h.sub_path m hm k k (Nat.le_refl _) hk, hd]
    rfl
  constructor
  · rw [h1, ← range_seg m t.length (endL t m) (by omega) he.2.1]
    unfold keepP pths
    rw [List.filter_map]
    congr 1
    refine List.filter_congr fun i hi => ?_
    have hi := List.mem_range.1 hi
    have hp := h.part_iff hm hi
    rw [hw] at hp
    show decide (m ≤ i ∧ i < endL t m) = keepH (fun a => a == wd t m) (pathL t i)
    rw [Bool.eq_iff_iff, decide_eq_true_eq, hp, T.pre_iff]
    cases hq : pathL t i with
    | nil => exact absurd hq T.path_ne
    | cons a r =>
      constructor
      · rintro ⟨s, e⟩
        injection e with e1 e2
        simp [keepH, e1]
      · intro e
        have e : (a == wd t m) = true := e
        rw [beq_iff_eq] at e
        exact ⟨r, by rw [e]; rfl⟩
  · rw [h1]
    refine List.ext_getElem ?_ ?_
    · simp [pths_len]; omega
    · intro i hi hi2
      simp at hi
      rw [List.getElem_map, List.getElem_map, List.getElem_range, List.getElem_take, List.getElem_drop, pths_at t (by omega)]
/-- What is wrong with a part alone, but for what a statement means, is wrong with it in the tree. -/
theorem part_form {N : Nat} {t : List Ln} (h : RightN N t) {m : Nat} (hm : m < t.length) (hr : underL t m = -1) : ((pths t).take (endL t m)).flatMap (fun p => (atP (pths t) p).filter formB) = ((pths t).take m).flatMap (fun p => (atP (pths t) p).filter formB) ++ (checkP (pths (T.subL t m))).filter formB := by
  obtain ⟨h1, h2⟩ := sub_pths h hm hr
  have he := T.end_spec t m hm
  rw [h1, check_form, ← h1, h2, ← List.flatMap_append]
  congr 1
  rw [show endL t m = m + (endL t m - m) by omega, List.take_add]
  congr 3
  omega
theorem whole_form (t : List Ln) : (checkP (pths t)).filter formB = ((pths t).take t.length).flatMap (fun p => (atP (pths t) p).filter formB) := by
  unfold checkP
  rw [List.filter_flatMap, List.take_of_length_le (by rw [pths_len]; exact Nat.le_refl _)]
theorem second_hosts {w : Wd} (h : secondW w = []) : wHosts ≠ w ∧ wVnis ≠ w := by
  constructor
  · intro e; subst e; exact absurd h (by decide)
  · intro e; subst e; exact absurd h (by decide)
/-- A tree with one word more at Depth 0 that is no statement: one fault more. -/
theorem word_split {t : List Ln} (h : RightT t) {w : Wd} (hl : t.length < 200) (hw : w.length ≤ 40) (hs : secondW w = []) (hno : ¬ isIn t [w]) :
    RightT (T.putL t [] w 0) ∧ ∃ A B, checkP (pths (T.putL t [] w 0)) = A ++ ([w], 3) :: B ∧ checkP (pths t) = A ++ B ∧ ∀ x ∈ A ++ B, x.1 ≠ [w] := by
  obtain ⟨hu, hm⟩ := h.putL (p := []) (.inl rfl) (w := w) (m := 0) (fun i hi e => hno ⟨i, hi, e⟩) hl (by decide) hw ⟨by omega, by omega⟩
  refine ⟨hu, ?_⟩
  obtain ⟨u, huu⟩ : ∃ u, T.putL t [] w 0 = u := ⟨_, rfl⟩
  rw [huu] at hu hm ⊢
  obtain ⟨kp, hkp⟩ : ∃ k : Wd → Bool, k = fun a => !(a == w) := ⟨_, rfl⟩
  have hkt : ∀ x ∈ T.entries t, keepH kp x.1 = true := fun x hx => by
    obtain ⟨i, hi, e, _⟩ := (T.mem_entries t x.1 x.2).1 hx
    cases hq : x.1 with
    | nil => rw [hq] at e; exact absurd e T.path_ne
    | cons a r =>
      subst hkp
      show (!(a == w)) = true
      rw [Bool.not_eq_true', beq_eq_false_iff_ne]
      intro e2
      subst e2
      exact hno (h.in_pre (by simp) ⟨i, hi, e.trans hq⟩ (T.pre_iff.2 ⟨r, rfl⟩))
  have hkw : keepH kp [w] = false := by
    subst hkp
    show (!(w == w)) = false
    simp
  have hent : (T.entries u).filter (fun x => keepH kp x.1) = T.entries t := by
    refine T.Sorted.ext ?_ h.sorted fun x => ?_
    · rw [T.sorted_pair]
      exact ((T.sorted_pair _).1 hu.sorted).filter _
    · rw [List.mem_filter, hm x]
      constructor
      · rintro ⟨rfl | k, h2⟩
        · rw [List.nil_append] at h2
          have h2 : keepH kp [w] = true := h2
          rw [hkw] at h2; cases h2
        · exact k
      · intro k
        exact ⟨.inr k, hkt x k⟩
  have hpt : keepP kp (pths u) = pths t := by
    rw [pths_entries u, pths_entries t, ← hent]
    unfold keepP
    rw [List.filter_map]
    rfl
  have hin : [w] ∈ pths u := by
    rw [pths_entries]
    exact List.mem_map.2 ⟨([w], 0), (hm _).2 (.inl rfl), rfl⟩
  obtain ⟨A, B, hAB⟩ := List.append_of_mem hin
  have hnd : ∀ p ∈ A ++ B, keepH kp p = true := by
    intro p hp
    have hpu : p ∈ pths u := by
      rw [hAB]
      rcases List.mem_append.1 hp with k | k
      · exact List.mem_append_left _ k
      · exact List.mem_append_right _ (List.mem_cons_of_mem _ k)
    rw [pths_entries] at hpu
    obtain ⟨x, hx, e⟩ := List.mem_map.1 hpu
    rcases (hm x).1 hx with k | k
    · exfalso
      have hpw : p = [w] := by rw [← e, k]; rfl
      subst hpw
      have hs := (T.sorted_pair _).1 hu.sorted
      have hsp : (pths u).Pairwise fun a b => pless a b = true := by
        rw [pths_entries]
        exact List.pairwise_map.2 hs
      rw [hAB] at hsp
      obtain ⟨_, s2, s3⟩ := List.pairwise_append.1 hsp
      rcases List.mem_append.1 hp with k | k
      · have := s3 _ k _ List.mem_cons_self
        rw [T.pless_irr] at this; cases this
      · have := (List.pairwise_cons.1 s2).1 _ k
        rw [T.pless_irr] at this; cases this
    · rw [← e]; exact hkt x k
  have hpAB : pths t = A ++ B := by
    rw [← hpt, hAB]
    unfold keepP
    rw [List.filter_append, List.filter_cons, if_neg (by rw [hkw]; decide), ← List.filter_append]
    exact List.filter_eq_self.2 hnd
  obtain ⟨n1, n2⟩ := second_hosts hs
  have hh : kp wHosts = true := by subst hkp; simpa using n1
  have hv : kp wVnis = true := by subst hkp; simpa using n2
  have hat : ∀ p ∈ A ++ B, atP (pths u) p = atP (pths t) p := fun p hp => by
    have hk := hnd p hp
    cases p with
    | nil => cases hk
    | cons a r =>
      unfold atP
      rw [← hpt, faults_keep kp (pths u) rfl hk hh hv]
  have h1 : atP (pths u) [w] = [([w], 3)] := by
    have hk : knownP [w] = 3 := by show (if secondW w = [] then (3 : Int) else 0) = 3; rw [if_pos hs]
    unfold atP
    rw [if_pos (by unfold liveP; simp), show faultsP (pths u) [w] = [([w], knownP [w])] from by unfold faultsP; rw [if_pos (by rw [hk]; decide)], hk]
  refine ⟨A.flatMap (atP (pths t)), B.flatMap (atP (pths t)), ?_, ?_, ?_⟩
  · unfold checkP
    rw [hAB] at hat h1 ⊢
    rw [List.flatMap_append, List.flatMap_cons, h1, flat_same fun p hp => hat p (List.mem_append_left _ hp), flat_same fun p hp => hat p (List.mem_append_right _ hp)]
    rfl
  · unfold checkP
    rw [hpAB, List.flatMap_append]
  · intro x hx e
    have hx : x ∈ checkP (pths t) := by
      unfold checkP
      rw [hpAB, List.flatMap_append, ← hpAB]
      exact hx
    rcases fault_path hx with k | ⟨_, _, k⟩
    · rw [e] at k
      exact hno (mem_pths.1 k)
    · rw [e] at k
      obtain ⟨i, _, e2⟩ := mem_pths.1 k
      exact T.path_ne e2
end Go.Proofs.YtikjdjfpoohieaaDoor.C

namespace Go.Proofs.YtikjdjfpoohieaaDoor
open Go.RowKit

/-- How an element is laid: the slice's type, the element's, its cells. -/
structure Elem (α : Type) where
  st : TypeId
  T : TypeId
  sz : Nat
  zero : Value
  by_ : Nat
  C : α → List Value
  hst : Tryd.prog.underlying st = some (.slice T)
  hin : (Tryd.prog.info? T).map (fun i => (i.zero, i.size, i.bytes)) = some (some zero, sz, by_)
  hzs : zero.cells.size = sz
  hsz : 0 < sz
  hby : by_ ≤ 64
  len : ∀ x, (C x).length = sz
  one : ∀ x, ∀ u ∈ C x, u.oneCell' = true

section
variable {α : Type} (E : Elem α)

def cellsG (l : List α) : List Value := l.flatMap E.C
theorem cellsG_append (a b : List α) : cellsG E (a ++ b) = cellsG E a ++ cellsG E b := by simp [cellsG]
theorem cellsG_one (x : α) : cellsG E [x] = E.C x := by simp [cellsG]
theorem cellsG_len (l : List α) : (cellsG E l).length = l.length * E.sz := by
  induction l with
  | nil => simp [cellsG]
  | cons x l ih => simp only [cellsG, List.flatMap_cons, List.length_append, List.length_cons] at ih ⊢; rw [ih, E.len, Nat.succ_mul]; omega
theorem cellsG_onec (l : List α) : ∀ u ∈ cellsG E l, u.oneCell' = true := by
  intro u hu
  obtain ⟨x, _, h⟩ := List.mem_flatMap.1 hu
  exact E.one x u h
theorem cellsG_at (l : List α) (i j : Nat) (hi : i < l.length) (hj : j < E.sz) : (cellsG E l)[i * E.sz + j]? = (E.C l[i])[j]? := by
  induction l generalizing i with
  | nil => simp at hi
  | cons x l ih =>
    have e : cellsG E (x :: l) = E.C x ++ cellsG E l := by simp [cellsG]
    have hl := E.len x
    rw [e]
    match i with
    | 0 => rw [List.getElem?_append_left (by omega)]; simp
    | i + 1 =>
      have hm : (i + 1) * E.sz = i * E.sz + E.sz := Nat.succ_mul ..
      rw [List.getElem?_append_right (by omega)]
      have : (i + 1) * E.sz + j - (E.C x).length = i * E.sz + j := by omega
      rw [this, ih i (by simpa using hi)]; rfl

/-- The cells from the address on hold the elements l. -/
def Holds (w : World) (b o : Nat) (l : List α) : Prop := ∀ i (h : i < l.length) (j : Nat) (u : Value), (E.C l[i])[j]? = some u → w.cell? ⟨b, o + i * E.sz + j, none⟩ = some u
/-- A slice of this address, and of as many elements as l has, reads as l. -/
def Seen (w : World) (A : Option Addr) (l : List α) : Prop := 0 < l.length → ∃ b o, A = some ⟨b, o, none⟩ ∧ b < w.heap.size ∧ Holds E w b o l
variable {E}
theorem Holds.below {w w1 : World} {b o : Nat} {l : List α} (h : Holds E w b o l) (hb : Below w.heap.size w w1) (hlt : b < w.heap.size) : Holds E w1 b o l := by
  intro i hi j u hu
  rw [← h i hi j u hu]
  exact hb.cell (p := ⟨b, o + i * E.sz + j, none⟩) hlt
theorem Seen.below {w w1 : World} {A : Option Addr} {l : List α} (h : Seen E w A l) (hb : Below w.heap.size w w1) : Seen E w1 A l := by
  intro hl
  obtain ⟨b, o, rfl, hlt, hh⟩ := h hl
  exact ⟨b, o, rfl, Nat.lt_of_lt_of_le hlt hb.size, hh.below hb hlt⟩
theorem Seen.nil {w : World} {A : Option Addr} : Seen E w A [] := fun h => absurd h (Nat.lt_irrefl 0)
theorem Holds.drop {w : World} {b o : Nat} {l : List α} (h : Holds E w b o l) (k : Nat) : Holds E w b (o + k * E.sz) (l.drop k) := by
  intro i hi j u hu
  rw [List.length_drop] at hi
  have := h (k + i) (by omega) j u (by rw [← hu]; simp)
  rw [← this, Nat.add_mul]
  congr 2; omega
theorem Holds.take {w : World} {b o : Nat} {l : List α} (h : Holds E w b o l) (k : Nat) : Holds E w b o (l.take k) := by
  intro i hi j u hu
  rw [List.length_take] at hi
  exact h i (by omega) j u (by rw [← hu]; simp)
variable (E)

/-- The slice value v owns the elements l, in blocks from base on. -/
def Own (w : World) (base : Nat) (v : Value) (l : List α) : Prop := w.ownsRow base E.T E.sz v l.length (cellsG E l)
variable {E}
theorem Own.nil (w : World) (base : Nat) : Own E w base (.slice none 0 0) [] := ⟨by simp [cellsG], .inl ⟨rfl, rfl⟩⟩
theorem Own.alloc {w : World} {base : Nat} {v : Value} {l : List α} (h : Own E w base v l) (o : Obj) : Own E (w.alloc o) base v l := World.ownsRow.alloc h o
theorem Own.drew {w : World} {base : Nat} {v : Value} {l : List α} (h : Own E w base v l) : Own E w.drew base v l := h
theorem Own.keep {w w1 : World} {base : Nat} {v : Value} {l : List α} (h : Own E w base v l) (hb : Below w.heap.size w w1) : Own E w1 base v l := by
  refine ⟨h.1, ?_⟩
  rcases h.2 with hn | ⟨g, cap, cur, rfl, hbg, hgg, rest⟩
  · exact .inl hn
  · refine .inr ⟨g, cap, cur, rfl, hbg, ?_, rest⟩
    rw [hb.block g (Array.getElem?_eq_some_iff.1 hgg).1]
    exact hgg
/-- What is owned is seen. -/
theorem Own.seen {w : World} {base : Nat} {v : Value} {l : List α} (h : Own E w base v l) : ∃ A cap, v = .slice A l.length cap ∧ l.length ≤ cap ∧ Seen E w A l := by
  rcases h.2 with ⟨rfl, hn⟩ | ⟨g, cap, cur, rfl, hbg, hgg, hnc, hcm, hcs, htk⟩
  · exact ⟨none, 0, by rw [hn], by omega, fun hl => by omega⟩
  · refine ⟨_, cap, rfl, hnc, fun hl => ⟨g, 0, rfl, (Array.getElem?_eq_some_iff.1 hgg).1, fun i hi j u hu => ?_⟩⟩
    have hj : j < E.sz := by rw [← E.len l[i]]; exact (List.getElem?_eq_some_iff.1 hu).1
    have hm : (i + 1) * E.sz ≤ l.length * E.sz := Nat.mul_le_mul_right _ hi
    rw [Nat.succ_mul] at hm
    rw [Nat.zero_add, World.ownsRow.cellAt h (i * E.sz + j) (by omega), cellsG_at E l i j hi hj, hu]

theorem add_off (b o j : Nat) : (⟨b, o, none⟩ : Addr).add j = ⟨b, o + j, none⟩ := by
  unfold Addr.add
  by_cases h : j = 0
  · subst h; rfl
  · rw [if_neg h]
theorem new_cellsG (T : TypeId) (w : World) (cs : Array Value) (news : List Value) (hcs : cs.toList = news) : ∀ j u, news[j]? = some u → (w.alloc (.cells cs T)).cell? ((⟨w.heap.size, 0, none⟩ : Addr).add j) = some u := by
  intro j u hj
  have e : cs[j]? = some u := by rw [← hj, ← hcs]; simp
  rw [← e, add_off, Nat.zero_add]
  exact World.cell?_alloc_mark w cs T (0, 0) j

/-- append of what is seen elsewhere. -/
theorem wp_appSrc (E : Elem α) {o : Oper} {a : Act} {K : Act → World → Prop} {Q : Exit → Act → World → Prop} (w : World) (s x : Operand)
    (ho : o.op = .call { callee := .builtin .append, args := #[s, x], argTypes := #[E.st, E.st] })
    (base : Nat) (v : Value) (l : List α) (hs : a.eval s = v) (hown : Own E w base v l) (b q : Nat) (l2 : List α) (m cap : Nat) (hm : l2.length = m)
    (hx : a.eval x = .slice (some ⟨b, q, none⟩) m cap) (hc : Holds E w b q l2) (hlen : l.length + m ≤ 1099511627776) (hb : base ≤ w.heap.size)
    (h : ∀ v' w', Own E w' base v' (l ++ l2) → Below base w w' → K (a.put o.dst v') w') : o.wp Tryd.prog a w K Q := by
  obtain ⟨i0, hi0, hz0, hz1, hz2⟩ := info_parts E.hin
  subst hm
  have hby := E.hby
  have hmul : (l.length + l2.length) * E.by_ ≤ 1099511627776 * 64 := Nat.mul_le_mul hlen hby
  refine wp_append_own w s x E.st ho base E.T i0 _ E.sz E.by_ E.hst hi0 hz0 hz1 hz2 E.hzs E.hsz v l.length (cellsG E l) hs hown ⟨b, q, none⟩ l2.length cap (cellsG E l2) hx
    (cellsG_len E l2) (fun j u hu => ?_) (cellsG_onec E _) (by unfold maxLen; omega) (by omega) hb ?_
  · have hj : j < l2.length * E.sz := by rw [← cellsG_len]; exact (List.getElem?_eq_some_iff.1 hu).1
    have hsz := E.hsz
    have hi : j / E.sz < l2.length := Nat.div_lt_of_lt_mul (by rw [Nat.mul_comm]; exact hj)
    have hr : j % E.sz < E.sz := Nat.mod_lt _ hsz
    have e : j / E.sz * E.sz + j % E.sz = j := by rw [Nat.mul_comm]; exact Nat.div_add_mod j E.sz
    rw [← e, cellsG_at E l2 _ _ hi hr] at hu
    have := hc _ hi _ u hu
    rw [show q + j / E.sz * E.sz + j % E.sz = q + j by omega] at this
    rw [add_off]; exact this
  · intro v' w' h1 h2 _
    refine h v' w' ?_ ?_
    · unfold Own; rw [cellsG_append, List.length_append]; exact h1
    · exact Below.grown (Below.refl _ _) h2 hb (fun k hk => (World.ownsRow.lt hown k hk).1)
theorem wp_appNone (E : Elem α) {o : Oper} {a : Act} {K : Act → World → Prop} {Q : Exit → Act → World → Prop} (w : World) (s x : Operand)
    (ho : o.op = .call { callee := .builtin .append, args := #[s, x], argTypes := #[E.st, E.st] })
    (base : Nat) (v : Value) (l : List α) (hs : a.eval s = v) (hown : Own E w base v l) (hx : a.eval x = .slice none 0 0)
    (h : K (a.put o.dst v) w) : o.wp Tryd.prog a w K Q := by
  obtain ⟨i0, hi0, hz0, hz1, hz2⟩ := info_parts E.hin
  have hr := run_append_owned_none (P := Tryd.prog) w base E.st o.type E.T i0 E.sz E.hst hi0 v l.length (cellsG E l) hown
  unfold Oper.wp execOp
  simp only [ho, resolve, invoke, builtin, Sem.run_bind, Sem.run_pure, Result.andThen_ok, List.map_toArray, List.map_cons, List.map_nil, hs, hx, hr]
  exact h
/-- append of one. -/
theorem wp_appG (E : Elem α) {o : Oper} {a : Act} {K : Act → World → Prop} {Q : Exit → Act → World → Prop} (w : World) (s x : Operand)
    (ho : o.op = .call { callee := .builtin .append, args := #[s, x], argTypes := #[E.st, E.st] })
    (base : Nat) (v : Value) (l : List α) (hs : a.eval s = v) (hown : Own E w base v l) (t : α) (cap : Nat) (cs : Array Value) (hcs : cs.toList = E.C t)
    (g : Nat) (hg : w.heap.size = g) (hx : a.eval x = .slice (some ⟨g, 0, none⟩) 1 cap) (hlen : l.length + 1 ≤ 1099511627776) (hb : base ≤ w.heap.size)
    (h : ∀ v' w', Own E w' base v' (l ++ [t]) → Below base w w' → K (a.put o.dst v') w') : o.wp Tryd.prog a (w.alloc (.cells cs E.T)) K Q := by
  subst hg
  refine wp_appSrc E _ s x ho base v l hs (World.ownsRow.alloc hown _) w.heap.size 0 [t] 1 cap rfl hx (fun i hi j u hu => ?_) hlen (by simp; omega) fun v' w' h1 h2 => h v' w' h1 (((Below.refl _ _).alloc hb _).trans h2)
  have hi0 : i = 0 := by simpa using hi
  subst hi0
  have := new_cellsG E.T w cs (E.C t) hcs j u hu
  rw [add_off, Nat.zero_add] at this
  rw [← this]; congr 2; omega
theorem wpList_appG (E : Elem α) {ops : Array Oper} {rest : List Oper} {o : Oper} {a : Act} {Q : Exit → Act → World → Prop} (w : World) (hgd : o.guard = none) (s x : Operand)
    (ho : o.op = .call { callee := .builtin .append, args := #[s, x], argTypes := #[E.st, E.st] })
    (base : Nat) (v : Value) (l : List α) (hs : a.eval s = v) (hown : Own E w base v l) (t : α) (cap : Nat) (cs : Array Value) (hcs : cs.toList = E.C t)
    (g : Nat) (hg : w.heap.size = g) (hx : a.eval x = .slice (some ⟨g, 0, none⟩) 1 cap) (hlen : l.length + 1 ≤ 1099511627776) (hb : base ≤ w.heap.size)
    (h : ∀ v' w', Own E w' base v' (l ++ [t]) → Below base w w' → wpList Tryd.prog ops Q rest (a.put o.dst v') w') : wpList Tryd.prog ops Q (o :: rest) a (w.alloc (.cells cs E.T)) :=
  wpList_plain hgd fun _ hK => wp_appG E w s x ho base v l hs hown t cap cs hcs g hg hx hlen hb fun v' w' h1 h2 => hK _ _ (h v' w' h1 h2)
theorem wpList_appGd (E : Elem α) {ops : Array Oper} {rest : List Oper} {o : Oper} {a : Act} {Q : Exit → Act → World → Prop} (w : World) (hgd : o.guard = none) (s x : Operand)
    (ho : o.op = .call { callee := .builtin .append, args := #[s, x], argTypes := #[E.st, E.st] })
    (base : Nat) (v : Value) (l : List α) (hs : a.eval s = v) (hown : Own E w base v l) (t : α) (cap : Nat) (cs : Array Value) (hcs : cs.toList = E.C t)
    (g : Nat) (hg : w.heap.size = g) (hx : a.eval x = .slice (some ⟨g, 0, none⟩) 1 cap) (hlen : l.length + 1 ≤ 1099511627776) (hb : base ≤ w.heap.size)
    (h : ∀ v' w', Own E w' base v' (l ++ [t]) → Below base w w' → wpList Tryd.prog ops Q rest (a.put o.dst v') w') : wpList Tryd.prog ops Q (o :: rest) a (w.alloc (.cells cs E.T)).drew :=
  wpList_appG E w.drew hgd s x ho base v l hs hown t cap cs hcs g hg hx hlen hb fun v' w' h1 h2 => h v' w' h1 (((Below.refl base w).drew).trans h2)
theorem wpList_appSrc (E : Elem α) {ops : Array Oper} {rest : List Oper} {o : Oper} {a : Act} {Q : Exit → Act → World → Prop} (w : World) (hgd : o.guard = none) (s x : Operand)
    (ho : o.op = .call { callee := .builtin .append, args := #[s, x], argTypes := #[E.st, E.st] })
    (base : Nat) (v : Value) (l : List α) (hs : a.eval s = v) (hown : Own E w base v l) (b q : Nat) (l2 : List α) (m cap : Nat) (hm : l2.length = m)
    (hx : a.eval x = .slice (some ⟨b, q, none⟩) m cap) (hc : Holds E w b q l2) (hlen : l.length + m ≤ 1099511627776) (hb : base ≤ w.heap.size)
    (h : ∀ v' w', Own E w' base v' (l ++ l2) → Below base w w' → wpList Tryd.prog ops Q rest (a.put o.dst v') w') : wpList Tryd.prog ops Q (o :: rest) a w :=
  wpList_plain hgd fun _ hK => wp_appSrc E w s x ho base v l hs hown b q l2 m cap hm hx hc hlen hb fun v' w' h1 h2 => hK _ _ (h v' w' h1 h2)
theorem wpList_appNone (E : Elem α) {ops : Array Oper} {rest : List Oper} {o : Oper} {a : Act} {Q : Exit → Act → World → Prop} (w : World) (hgd : o.guard = none) (s x : Operand)
    (ho : o.op = .call { callee := .builtin .append, args := #[s, x], argTypes := #[E.st, E.st] })
    (base : Nat) (v : Value) (l : List α) (hs : a.eval s = v) (hown : Own E w base v l) (hx : a.eval x = .slice none 0 0)
    (h : wpList Tryd.prog ops Q rest (a.put o.dst v) w) : wpList Tryd.prog ops Q (o :: rest) a w :=
  wpList_plain hgd fun _ hK => wp_appNone E w s x ho base v l hs hown hx (hK _ _ h)
end

/-- A call leaves a slice of the call's own that reads as l. -/
def SawG {α : Type} (E : Elem α) (w : World) (l : List α) (e : Ending) (w' : World) : Prop := ∃ A cap, e = .returned (.slice A l.length cap) ∧ l.length ≤ cap ∧ Seen E w' A l ∧ Below w.heap.size w w'
def TrueS (w : World) (e : Ending) (w' : World) : Prop := e = .returned (.bool true) ∧ Below w.heap.size w w'
def BoolS (w : World) (b : Bool) (e : Ending) (w' : World) : Prop := e = .returned (.bool b) ∧ Below w.heap.size w w'
def IntS (w : World) (n : Int) (e : Ending) (w' : World) : Prop := e = .returned (.int .i64 n) ∧ Below w.heap.size w w'
theorem bthen {a b c : World} (h : Below a.heap.size a b) (k : Below b.heap.size b c) : Below a.heap.size a c := h.trans (k.mono h.size)
end Go.Proofs.YtikjdjfpoohieaaDoor

namespace Go.Proofs.YtikjdjfpoohieaaDoor
open Go.ChangeShapes Go.WideShapes Go.ChangeAt Go.RowKit

/-- A word as the program has it. -/
def sB (l : List UInt8) : ByteArray := ⟨l.toArray⟩
theorem sB_size (l : List UInt8) : (sB l).size = l.length := by simp [sB, ByteArray.size]
theorem sB_data (l : List UInt8) : (sB l).data.toList = l := by simp [sB]
theorem sB_of (s : ByteArray) : sB s.data.toList = s := by simp [sB]
theorem sB_toList (l : List UInt8) : (sB l).toList = l := by rw [ByteArray.toList_eq, sB_data]
theorem sB_eq {a b : List UInt8} (h : a = b) : ((sB a).toList == (sB b).toList) = true := by rw [h]; simp
theorem sB_ne {a b : List UInt8} (h : a ≠ b) : ((sB a).toList == (sB b).toList) = false := by rw [sB_toList, sB_toList]; exact beq_eq_false_iff_ne.2 h
def lnC (x : T.Ln) : List Value := [.int .i64 x.depth, .string (sB x.word), .int .i64 x.mark]
def zeroLn : Value := .agg #[.int .i64 0, .string ⟨#[]⟩, .int .i64 0]
def eL : Elem T.Ln where
  st := 22
  T := 42
  sz := 3
  zero := zeroLn
  by_ := 32
  C := lnC
  hst := Tryd.underlying22
  hin := by kernel_rfl
  hzs := rfl
  hsz := by decide
  hby := by decide
  len := fun _ => rfl
  one := fun x u hu => by simp [lnC] at hu; rcases hu with rfl | rfl | rfl <;> rfl
def eI : Elem Nat where
  st := 47
  T := 3
  sz := 1
  zero := .int .i64 0
  by_ := 8
  C := fun n => [.int .i64 (n : Int)]
  hst := Tryd.underlying47
  hin := by kernel_rfl
  hzs := rfl
  hsz := by decide
  hby := by decide
  len := fun _ => rfl
  one := fun x u hu => by simp at hu; subst hu; rfl
def eS : Elem (List UInt8) where
  st := 34
  T := 9
  sz := 1
  zero := .string ⟨#[]⟩
  by_ := 16
  C := fun s => [.string (sB s)]
  hst := Tryd.underlying34
  hin := by kernel_rfl
  hzs := rfl
  hsz := by decide
  hby := by decide
  len := fun _ => rfl
  one := fun x u hu => by simp at hu; subst hu; rfl

theorem at_get (t : List T.Ln) (i : Nat) (h : i < t.length) : t[i] = T.at_ t i := by
  unfold T.at_ List.getD; rw [List.getElem?_eq_getElem h]; rfl
/-- The three cells of each line. -/
theorem Holds.line {w : World} {b o : Nat} {t : List T.Ln} (h : Holds eL w b o t) {i : Nat} (hi : i < t.length) :
    w.cell? ⟨b, o + i * 3, none⟩ = some (.int .i64 (T.dp t i)) ∧ w.cell? ⟨b, o + i * 3 + 1, none⟩ = some (.string (sB (T.wd t i))) ∧ w.cell? ⟨b, o + i * 3 + 2, none⟩ = some (.int .i64 (T.at_ t i).mark) := by
  have e := at_get t i hi
  refine ⟨h i hi 0 _ ?_, h i hi 1 _ ?_, h i hi 2 _ ?_⟩ <;> rw [e] <;> rfl
theorem Seen.lines {w : World} {A : Option Addr} {t : List T.Ln} (h : Seen eL w A t) (hl : 0 < t.length) : ∃ b o, A = some ⟨b, o, none⟩ ∧ b < w.heap.size ∧ Holds eL w b o t := h hl
theorem Holds.num {w : World} {b o : Nat} {l : List Nat} (h : Holds eI w b o l) {i : Nat} (hi : i < l.length) : w.cell? ⟨b, o + i, none⟩ = some (.int .i64 ((l[i] : Nat) : Int)) := by
  have := h i hi 0 _ rfl
  simpa [eI] using this
theorem Holds.str {w : World} {b o : Nat} {l : List (List UInt8)} (h : Holds eS w b o l) {i : Nat} (hi : i < l.length) : w.cell? ⟨b, o + i, none⟩ = some (.string (sB l[i])) := by
  have := h i hi 0 _ rfl
  simpa [eS] using this

/-- A list of bytes strings that came in. -/
theorem seen_strs {w : World} {A : Option Addr} {n : Nat} {xs : List ByteArray} (h : HoldsS w A n xs) : ∃ l : List (List UInt8), l.length = n ∧ Seen eS w A l := by
  refine ⟨xs.map fun s => s.data.toList, by simp [h.1], fun hl => ?_⟩
  have hn : 0 < n := by simpa [h.1] using hl
  obtain ⟨ad, rfl, hc⟩ := h.2 0 hn
  obtain ⟨b, o, sp⟩ := ad
  have hsp : sp = none := by simpa [Addr.add] using World.cell?_spot hc
  subst hsp
  refine ⟨b, o, rfl, ?_, fun i hi j u hu => ?_⟩
  · have := World.block_lt_of_cell? w _ hc; simpa [Addr.add] using this
  · have hi2 : i < xs.length := by simpa using hi
    obtain ⟨ad, e, hc⟩ := h.2 i (by rw [← h.1]; exact hi2)
    injection e with e
    subst e
    match j, hu with
    | 0, hu =>
      simp only [eS] at hu ⊢
      rw [add_off] at hc
      rw [List.getElem_map, sB_of] at hu
      simp only [List.getElem?_cons_zero, Option.some.injEq] at hu
      rw [← hu, Nat.mul_one, Nat.add_zero, hc]
      simp [List.getD, hi2]
    | j + 1, hu => simp [eS] at hu

theorem Tryd.cellsLn : Tryd.prog.cellsOf 42 = 3 := by kernel_rfl
theorem Tryd.cellsInt : Tryd.prog.cellsOf 3 = 1 := by kernel_rfl
set_option maxRecDepth 100000 in
/-- A []api.Line that came in. -/
theorem open_lines {H : Type} {enc : TypeId × Value → H} {W : World} {base : Nat} {v : Value} {d : DataW H} {p : List MemPlace} (hok : Value.okWide Tryd.prog W .any base 22 v)
    (h : DataW.Trod enc Tryd.prog W 0 (fun _ => true) true 22 v d p) :
    ∃ (A : Option Addr) (c : Nat) (t : List T.Ln), v = .slice A t.length c ∧ t.length ≤ c ∧ Seen eL W A t ∧ t.length ≤ maxLen ∧ ∀ i, i < t.length → -9223372036854775808 ≤ T.dp t i ∧ T.dp t i ≤ 9223372036854775807 ∧ (T.wd t i).length ≤ maxLen := by
  obtain ⟨A, n, c, rfl⟩ := okWide_slice Tryd.underlying22 hok
  obtain ⟨fuel, hf⟩ := h
  rcases Go.Deep.open_slice Tryd.underlying22 hf with ⟨hcs, _⟩ | ⟨a, len, cap, m, k, D, Pl, hcs, _, hl, hm, hmm, _, hx⟩
  · have hc2 : ([Value.slice A n c] : List Value) = [.slice none 0 0] := hcs
    injection hc2 with hc2
    injection hc2 with e1 e2 e3
    subst e1; subst e2; subst e3
    exact ⟨none, 0, [], rfl, Nat.le_refl _, Seen.nil, by unfold maxLen; simp, fun i hi => absurd hi (Nat.not_lt_zero i)⟩
  · have hc2 : ([Value.slice A n c] : List Value) = [.slice (some a) len cap] := hcs
    injection hc2 with hc2
    injection hc2 with e1 e2 e3
    subst e1; subst e2; subst e3
    have hnm : n ≤ m := by rw [hmm]; simp; exact hl
    have each : ∀ i, i < n → ∃ x : T.Ln, (W.cell? (a.add (i * 3)) = some (.int .i64 x.depth) ∧ W.cell? (a.add (i * 3 + 1)) = some (.string (sB x.word)) ∧ W.cell? (a.add (i * 3 + 2)) = some (.int .i64 x.mark)) ∧
        -9223372036854775808 ≤ x.depth ∧ x.depth ≤ 9223372036854775807 ∧ x.word.length ≤ maxLen := by
      intro i hi
      obtain ⟨cs', h1, h2⟩ := hx i (by omega)
      rw [Tryd.cellsLn] at h1
      obtain ⟨_, hlen, hcell⟩ := World.cells?_some h1
      obtain ⟨xs, q, hq, hxy, _, hxl, hff⟩ := DataW.trod_struct Tryd.underlying42 h2
      match xs, hxl, cs', hlen with
      | [y0, y1, y2], _, [v0, v1, v2], _ =>
        have g0 := hff 0 _ rfl
        have g1 := hff 1 _ rfl
        have g2 := hff 2 _ rfl
        simp [Tryd.cellsInt, Tryd.cellsStr] at g0 g1 g2
        obtain ⟨z0, q0, _, w0⟩ := DataW.trod_int Tryd.underlying3 g0
        obtain ⟨z1, q1, _, w1⟩ := DataW.trod_string Tryd.underlying9 g1
        obtain ⟨z2, q2, _, w2⟩ := DataW.trod_int Tryd.underlying3 g2
        simp at q0 q1 q2
        subst q0; subst q1; subst q2
        have e0 := hcell 0 (by omega)
        have e1 := hcell 1 (by omega)
        have e2 := hcell 2 (by omega)
        rw [Go.Deep.add_add] at e0 e1 e2
        have wb := bounds_i64 w0
        refine ⟨⟨z0, z1.data.toList, z2⟩, ⟨by simpa using e0, by rw [sB_of]; simpa using e1, by simpa using e2⟩, wb.1, wb.2, ?_⟩
        rw [← sB_size, sB_of]; exact w1
    haveI : Inhabited T.Ln := ⟨T.L0⟩
    obtain ⟨f, hfx⟩ := Go.Deep.choose_lt each
    have hat : ∀ i, i < n → T.at_ ((List.range n).map f) i = f i := fun i hi => by unfold T.at_; simp [List.getD, hi]
    refine ⟨some a, c, (List.range n).map f, by simp, by simp; exact hl, fun hpos => ?_, by simp; omega, fun i hi => ?_⟩
    · have hn : 0 < n := by simpa using hpos
      obtain ⟨b, o, sp⟩ := a
      have hc0 := (hfx 0 hn).1.1
      have hsp : sp = none := by simpa [Addr.add] using World.cell?_spot hc0
      subst hsp
      refine ⟨b, o, rfl, ?_, fun i hi j u hu => ?_⟩
      · have := World.block_lt_of_cell? W _ hc0; simpa [Addr.add] using this
      · have hin : i < n := by simpa using hi
        obtain ⟨⟨k0, k1, k2⟩, _⟩ := hfx i hin
        rw [add_off] at k0 k1 k2
        have eg : ((List.range n).map f)[i] = f i := by simp
        rw [eg] at hu
        match j, hu with
        | 0, hu => simp [eL, lnC] at hu; subst hu; simpa [eL] using k0
        | 1, hu => simp [eL, lnC] at hu; subst hu; simpa [eL, Nat.add_assoc] using k1
        | 2, hu => simp [eL, lnC] at hu; subst hu; simpa [eL, Nat.add_assoc] using k2
        | j + 3, hu => simp [eL, lnC] at hu
    · have hin : i < n := by simpa using hi
      unfold T.dp T.wd
      rw [hat i hin]
      exact (hfx i hin).2
end Go.Proofs.YtikjdjfpoohieaaDoor

namespace Go.Proofs.YtikjdjfpoohieaaDoor
open Go.RowKit

/-- Two slice values lie in blocks of their own. -/
def Apart (u v : Value) : Prop := ∀ k, u.ownBlock = some k → v.ownBlock ≠ some k
theorem Apart.symm {u v : Value} (h : Apart u v) : Apart v u := fun k hk e => h k e hk
theorem Apart.nil (v : Value) : Apart (.slice none 0 0) v := fun k hk => by simp [Value.ownBlock] at hk
section
variable {α : Type} {E : Elem α}
theorem Own.lt {w : World} {base : Nat} {v : Value} {l : List α} (h : Own E w base v l) : ∀ k, v.ownBlock = some k → base ≤ k ∧ k < w.heap.size := World.ownsRow.lt h
theorem Own.other {w w' : World} {base : Nat} {u v : Value} {l : List α} (h : Own E w base u l) (hg : w.grownBy w' v.ownBlock) (ha : Apart u v) : Own E w' base u l := by
  refine World.ownsRow.kept h hg ?_
  cases hu : u.ownBlock with
  | none => exact .inl rfl
  | some k => exact .inr (fun e => ha k hu e.symm)
theorem Own.stored {w : World} {base b j : Nat} {u : Value} {l : List α} (h : Own E w base u l) (x : Value) (hb : ∀ k, u.ownBlock = some k → k ≠ b) : Own E (w.setCell ⟨b, j, none⟩ x) base u l := by
  refine World.ownsRow.kept h (row := some b) ⟨rfl, rfl, rfl, by simp [World.setCell], fun k _ hk => Below.heap_setCell _ _ _ _ (fun e => hk (by simp [e]))⟩ ?_
  cases hu : u.ownBlock with
  | none => exact .inl rfl
  | some k => exact .inr (fun e => hb k hu (Option.some.inj e))
/-- What an append to v, in the world w, has made. -/
structure Grew (E : Elem α) (w w' : World) (base : Nat) (v v' : Value) (l : List α) : Prop where
  own : Own E w' base v' l
  grown : w.grownBy w' v.ownBlock
  at_ : v'.ownBlock = v.ownBlock ∨ ∃ g, v'.ownBlock = some g ∧ w.heap.size ≤ g
theorem Grew.apart {w w' : World} {base b2 : Nat} {u v v' : Value} {l l2 : List α} (h : Grew E w w' base v v' l) (hu : Own E w b2 u l2) (ha : Apart u v) : Apart u v' := by
  intro k hk e
  have h2 := hu.lt k hk
  rcases h.at_ with h3 | ⟨g, h3, h4⟩
  · rw [h3] at e; exact ha k hk e
  · rw [h3] at e; injection e with e; omega
theorem Grew.below {w w' : World} {base : Nat} {v v' : Value} {l l2 : List α} (h : Grew E w w' base v v' l) (hv : Own E w base v l2) (hb : base ≤ w.heap.size) : Below base w w' :=
  Below.grown (Below.refl _ _) h.grown hb (fun k hk => (hv.lt k hk).1)
theorem Grew.block {w w' : World} {base b : Nat} {v v' : Value} {l : List α} {o : Obj} (h : Grew E w w' base v v' l) (ho : w.heap[b]? = some o) (hne : v.ownBlock ≠ some b) : w'.heap[b]? = some o := by
  rw [h.grown.block b (Array.getElem?_eq_some_iff.1 ho).1 (fun e => hne e.symm)]; exact ho

theorem wpList_app3 (E : Elem α) {ops : Array Oper} {rest : List Oper} {o : Oper} {a : Act} {Q : Exit → Act → World → Prop} (w : World) (hgd : o.guard = none) (s x : Operand)
    (ho : o.op = .call { callee := .builtin .append, args := #[s, x], argTypes := #[E.st, E.st] })
    (base : Nat) (v : Value) (l : List α) (hs : a.eval s = v) (hown : Own E w base v l) (t : α) (cap : Nat) (cs : Array Value) (hcs : cs.toList = E.C t)
    (g : Nat) (hg : w.heap.size = g) (hx : a.eval x = .slice (some ⟨g, 0, none⟩) 1 cap) (hlen : l.length + 1 ≤ 1099511627776) (hb : base ≤ w.heap.size)
    (h : ∀ v' w', Grew E w w' base v v' (l ++ [t]) → wpList Tryd.prog ops Q rest (a.put o.dst v') w') : wpList Tryd.prog ops Q (o :: rest) a (w.alloc (.cells cs E.T)) := by
  subst hg
  obtain ⟨i0, hi0, hz0, hz1, hz2⟩ := info_parts E.hin
  have hby := E.hby
  have hmul : (l.length + 1) * E.by_ ≤ 1099511627776 * 64 := Nat.mul_le_mul hlen hby
  refine Go.wpList_append_own_at (w := w.alloc (.cells cs E.T)) hgd s x E.st ho base E.T i0 _ E.sz E.by_ E.hst hi0 hz0 hz1 hz2 E.hzs E.hsz v l.length (cellsG E l) hs (World.ownsRow.alloc hown _) ⟨w.heap.size, 0, none⟩ 1 cap (cellsG E [t]) hx
    (by rw [cellsG_len]; rfl) (fun j u hu => new_cellsG E.T w cs (E.C t) hcs j u (by rw [← cellsG_one]; exact hu)) (cellsG_onec E _) (by unfold maxLen; omega) (by omega) (by simp; omega) ?_
  intro v' w' h1 h2 _ h3
  refine h v' w' ⟨?_, ⟨h2.os, h2.tape, h2.output, Nat.le_trans (by simp) h2.size, fun k hk hne => ?_⟩, ?_⟩
  · unfold Own; rw [cellsG_append, List.length_append]; exact h1
  · rw [h2.block k (by simp; omega) hne]; exact heap_alloc_old w _ hk
  · rcases h3 with h3 | h3
    · exact .inl h3
    · exact .inr ⟨_, h3, by simp⟩
end
end Go.Proofs.YtikjdjfpoohieaaDoor
