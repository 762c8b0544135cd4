/-
  Plain laws of layer 7 (edit): what is locked; a tree without a part; a part under another word; a mark more or less. Condition: a tree, a path of one of its lines.
  Plain laws of layer 7 (edit), second part: what the document's answer to each act is; what follows. Condition: a tree.
  Plain laws of layer 7 (edit), third part: a part of a tree laid where a new line stands is that part put line by line. Condition: trees.
  Plain laws of layer 8 (diff): the difference of two trees; that it makes the second one of the first; that no path stands twice in it. Condition: trees.
  Plain laws of layer 8 (diff), second part: no path stands twice in a difference, nor one under one that is gone; what a path that is added is told by; the text of changes. Condition: trees.
  Plain laws for layer 8's code: a path that is new at its last word alone, added; its mark, set. Condition: trees.
-/
import Derived.Test.YtkifapbiimlafaaPureL

namespace Go.Proofs.Ytkifapbiimlafaa.T

/-- Does a path begin with another one? -/
def pre (p q : Pth) : Prop := q.take p.length = p
instance (p q : Pth) : Decidable (pre p q) := inferInstanceAs (Decidable (q.take p.length = p))
theorem pre_iff {p q : Pth} : pre p q ↔ ∃ s, q = p ++ s := by
  unfold pre
  constructor
  · intro h; exact ⟨q.drop p.length, by rw [← h, List.length_take]; conv => lhs; rw [← List.take_append_drop p.length q]
                                        rw [← h]; simp⟩
  · rintro ⟨s, rfl⟩; exact List.take_left
theorem pre_refl (p : Pth) : pre p p := List.take_length
theorem pre_app (p s : Pth) : pre p (p ++ s) := List.take_left
theorem pre_split {p q : Pth} (h : pre p q) : p ++ q.drop p.length = q := by
  conv => rhs; rw [← List.take_append_drop p.length q]
  rw [h]

/-- Is a line of the first n words, or fewer, Protect? -/
def keptL (t : List Ln) (p : Pth) : Nat → Bool
  | 0 => false
  | n + 1 => keptL t p n || decide (0 ≤ findI t (p.take (n + 1)) ∧ 1 < (at_ t (findI t (p.take (n + 1))).toNat).mark)
theorem kept_iff {N : Nat} {t : List Ln} (h : RightN N t) (p : Pth) : ∀ n, keptL t p n = true ↔ ∃ k m, 1 ≤ k ∧ k ≤ n ∧ (p.take k, m) ∈ entries t ∧ 1 < m
  | 0 => by
    constructor
    · intro e; cases e
    · rintro ⟨k, m, h1, h2, _⟩; omega
  | n + 1 => by
    unfold keptL
    rw [Bool.or_eq_true, kept_iff h p n, decide_eq_true_eq]
    constructor
    · rintro (⟨k, m, h1, h2, h3, h4⟩ | ⟨h1, h2⟩)
      · exact ⟨k, m, h1, by omega, h3, h4⟩
      · rcases findI_cases t (p.take (n + 1)) with ⟨e, _⟩ | ⟨i, hi, e, ep⟩
        · omega
        · rw [e, Int.toNat_natCast] at h2
          exact ⟨n + 1, _, by omega, Nat.le_refl _, (mem_entries t _ _).2 ⟨i, hi, ep, rfl⟩, h2⟩
    · rintro ⟨k, m, h1, h2, h3, h4⟩
      rcases Nat.lt_or_ge n k with h5 | h5
      · obtain rfl : k = n + 1 := by omega
        obtain ⟨i, hi, ep, em⟩ := (mem_entries t _ _).1 h3
        refine .inr ?_
        rw [findI_some h hi ep, Int.toNat_natCast, em]
        exact ⟨by omega, h4⟩
      · exact .inl ⟨k, m, h1, h5, h3, h4⟩
/-- A line stands in a part just if its path begins with that of the part. -/
theorem RightN.part_iff {N : Nat} {t : List Ln} (h : RightN N t) {a : Nat} (ha : a < t.length) {i : Nat} (hi : i < t.length) : (a ≤ i ∧ i < endL t a) ↔ pre (pathL t a) (pathL t i) := by
  rw [pre_iff]
  constructor
  · rintro ⟨h1, h2⟩; exact part_prefix ha i i (Nat.le_refl _) h1 h2
  · rintro ⟨s, hs⟩
    obtain ⟨g1, g2, g3, g4⟩ := end_spec t a ha
    have hai : a ≤ i := by
      rcases Nat.lt_or_ge i a with hlt | hge
      · have := h.path_less a hlt ha
        rw [hs] at this
        cases s with
        | nil => rw [List.append_nil, pless_irr] at this; cases this
        | cons w s => have h2 := pless_asymm (pless_more (pathL t a) (w :: s) (by simp)); rw [h2] at this; cases this
      · exact hge
    refine ⟨hai, ?_⟩
    rcases Nat.lt_or_ge i (endL t a) with hlt | hge
    · exact hlt
    · have he : endL t a < t.length := by omega
      have hx : pless (pathL t i) (pathL t (endL t a)) = true := by
        rw [hs]
        refine pless_off _ _ _ (h.path_less _ g1 he) ?_
        rintro ⟨x, hx⟩
        have l1 := h.path_len (endL t a) (endL t a) (Nat.le_refl _) he
        have l2 := h.path_len a a (Nat.le_refl _) ha
        have := g4 he
        rw [hx, List.length_append] at l1
        have hx0 : x = [] := List.eq_nil_of_length_eq_zero (by omega)
        rw [hx0, List.append_nil] at hx
        have := h.path_inj (max (endL t a) a) _ _ (Nat.le_max_left ..) (Nat.le_max_right ..) he ha hx
        omega
      rcases Nat.eq_or_lt_of_le hge with e | hlt
      · rw [e, pless_irr] at hx; cases hx
      · have := pless_trans _ _ _ hx (h.path_less i hlt hi)
        rw [pless_irr] at this; cases this
theorem mem_takeE {t : List Ln} {k : Nat} {x : Pth × Int} : x ∈ (entries t).take k ↔ ∃ i, i < k ∧ i < t.length ∧ x = (pathL t i, (at_ t i).mark) := by
  constructor
  · intro hx
    obtain ⟨i, hi, rfl⟩ := List.getElem_of_mem hx
    rw [List.length_take, entries_len] at hi
    exact ⟨i, by omega, by omega, by rw [List.getElem_take, entries_at t i (by omega)]⟩
  · rintro ⟨i, h1, h2, rfl⟩
    have hl : i < ((entries t).take k).length := by rw [List.length_take, entries_len]; omega
    have e : ((entries t).take k)[i] = (pathL t i, (at_ t i).mark) := by rw [List.getElem_take, entries_at t i h2]
    rw [← e]
    exact List.getElem_mem hl
theorem mem_dropE {t : List Ln} {k : Nat} {x : Pth × Int} : x ∈ (entries t).drop k ↔ ∃ i, k ≤ i ∧ i < t.length ∧ x = (pathL t i, (at_ t i).mark) := by
  constructor
  · intro hx
    obtain ⟨i, hi, rfl⟩ := List.getElem_of_mem hx
    rw [List.length_drop, entries_len] at hi
    exact ⟨k + i, by omega, by omega, by rw [List.getElem_drop, entries_at t (k + i) (by omega)]⟩
  · rintro ⟨i, h1, h2, rfl⟩
    have hl : i - k < ((entries t).drop k).length := by rw [List.length_drop, entries_len]; omega
    have e : ((entries t).drop k)[i - k] = (pathL t i, (at_ t i).mark) := by
      rw [List.getElem_drop, entries_at t (k + (i - k)) (by omega)]
      rw [show k + (i - k) = i by omega]
    rw [← e]
    exact List.getElem_mem hl
/-- A tree without a part: the paths that do not begin with its. -/
theorem RightN.cut_entries {N : Nat} {t : List Ln} (h : RightN N t) {a : Nat} (ha : a < t.length) : RightN N (cutL t a) ∧ ∀ x, x ∈ entries (cutL t a) ↔ x ∈ entries t ∧ ¬ pre (pathL t a) x.1 := by
  obtain ⟨g1, g2, g3, g4⟩ := end_spec t a ha
  have hmem : ∀ x, x ∈ (entries t).take a ++ (entries t).drop (endL t a) ↔ x ∈ entries t ∧ ¬ pre (pathL t a) x.1 := by
    intro x
    rw [List.mem_append, mem_takeE, mem_dropE]
    constructor
    · rintro (⟨i, h1, h2, rfl⟩ | ⟨i, h1, h2, rfl⟩)
      · exact ⟨(mem_entries t _ _).2 ⟨i, h2, rfl, rfl⟩, fun e => by have := (h.part_iff ha h2).2 e; omega⟩
      · exact ⟨(mem_entries t _ _).2 ⟨i, h2, rfl, rfl⟩, fun e => by have := (h.part_iff ha h2).2 e; omega⟩
    · rintro ⟨h1, h2⟩
      obtain ⟨i, hi, e1, e2⟩ := (mem_entries t x.1 x.2).1 h1
      have hn : ¬ (a ≤ i ∧ i < endL t a) := fun e => h2 (by rw [← e1]; exact (h.part_iff ha hi).1 e)
      have ex : x = (pathL t i, (at_ t i).mark) := by rw [e1, e2]
      rcases Nat.lt_or_ge i a with h3 | h3
      · exact .inl ⟨i, h3, hi, ex⟩
      · exact .inr ⟨i, by omega, hi, ex⟩
  have hg := h.good
  have hG : GoodP N ((entries t).take a ++ (entries t).drop (endL t a)) := by
    have hs := (sorted_iff _).1 hg.sorted
    refine ⟨?_, ?_, fun x hx => hg.ne x ((hmem x).1 hx).1, fun x hx => hg.deep x ((hmem x).1 hx).1, fun x hx => hg.long x ((hmem x).1 hx).1, fun x hx => hg.mark x ((hmem x).1 hx).1, fun x hx q w e hq => ?_⟩
    · have := hg.len
      rw [entries_len] at this
      rw [List.length_append, List.length_take, List.length_drop, entries_len]
      omega
    · rw [sorted_iff, List.pairwise_append]
      refine ⟨hs.sublist (List.take_sublist _ _), hs.sublist (List.drop_sublist _ _), fun x hx y hy => ?_⟩
      obtain ⟨i, h1, h2, rfl⟩ := mem_takeE.1 hx
      obtain ⟨j, h3, h4, rfl⟩ := mem_dropE.1 hy
      exact h.path_less j (by omega) h4
    · obtain ⟨h1, h2⟩ := (hmem x).1 hx
      obtain ⟨m, hm⟩ := hg.closed x h1 q w e hq
      refine ⟨m, (hmem _).2 ⟨hm, fun hp => h2 ?_⟩⟩
      obtain ⟨s, hs⟩ := pre_iff.1 hp
      rw [e]
      exact pre_iff.2 ⟨s ++ [w], by rw [← List.append_assoc, ← hs]⟩
  have e : ofP ((entries t).take a ++ (entries t).drop (endL t a)) = cutL t a := by
    have e1 := h.ofP_entries
    unfold ofP at e1 ⊢
    rw [List.map_append, List.map_take, List.map_drop, e1]; rfl
  rw [← e]
  exact ⟨hG.right, fun x => by rw [hG.entries]; exact hmem x⟩

/-- The lines of a part, put under a base, one by one. -/
def putStep (base : Pth) (u : List Ln) (x : Pth × Int) : List Ln := putL u (base ++ x.1).dropLast ((base ++ x.1).getLastD []) x.2
def putAll (base : Pth) (u : List Ln) (s : List (Pth × Int)) : List Ln := s.foldl (putStep base) u
theorem putAll_next (base : Pth) (u : List Ln) (s : List (Pth × Int)) (k : Nat) (h : k < s.length) : putAll base u (s.take (k + 1)) = putStep base (putAll base u (s.take k)) s[k] := by
  unfold putAll
  rw [List.take_succ_eq_append_getElem h, List.foldl_append]; rfl
/-- Paths that begin in a part, parents first. -/
structure PartOk (base : Pth) (s : List (Pth × Int)) : Prop where
  up : ∀ k (h : k < s.length), s[k].1 = [] ∨ ∃ j, ∃ _ : j < k, (s[j]'(by omega)).1 = s[k].1.dropLast
  inj : ∀ j k (_ : j < k) (h : k < s.length), (s[j]'(by omega)).1 ≠ s[k].1
  deep : ∀ x ∈ s, base.length + x.1.length ≤ 16
  long : ∀ x ∈ s, ∀ w ∈ x.1, w.length ≤ 40
  mark : ∀ x ∈ s, 0 ≤ x.2 ∧ x.2 ≤ 3
theorem put_part {N : Nat} {u : List Ln} (h : RightN N u) {up : Pth} {w : List UInt8} (hw : w.length ≤ 40) (hop : Open u up) (hno : ∀ i, i < u.length → pathL u i ≠ up ++ [w]) {s : List (Pth × Int)} (hs : PartOk (up ++ [w]) s) (hN : u.length + s.length ≤ N) :
    ∀ k, k ≤ s.length → RightN N (putAll (up ++ [w]) u (s.take k)) ∧ (putAll (up ++ [w]) u (s.take k)).length = u.length + k ∧ ∀ x, x ∈ entries (putAll (up ++ [w]) u (s.take k)) ↔ x ∈ entries u ∨ ∃ j, ∃ _ : j < k, ∃ hjs : j < s.length, x = (up ++ [w] ++ s[j].1, s[j].2)
  | 0, _ => ⟨h, rfl, fun x => ⟨.inl, fun hx => by
      rcases hx with hx | ⟨j, hj, _⟩
      · exact hx
      · omega⟩⟩
  | k + 1, hk => by
    obtain ⟨r1, r2, r3⟩ := put_part h hw hop hno hs hN k (by omega)
    have hks : k < s.length := by omega
    have hmem := List.getElem_mem hks
    rw [putAll_next _ _ _ _ hks]
    unfold putStep
    have hpath : (up ++ [w] ++ s[k].1).dropLast ++ [(up ++ [w] ++ s[k].1).getLastD []] = up ++ [w] ++ s[k].1 := by
      obtain ⟨q, v, e⟩ := snoc_of (p := up ++ [w] ++ s[k].1) (by simp)
      rw [e, List.dropLast_concat, last_snoc]
    have hbase : ∀ i, i < u.length → ∀ r, pathL u i ≠ up ++ [w] ++ r := by
      intro i hi r e
      obtain ⟨m, hm, em⟩ := h.path_take i i (up ++ [w]).length (Nat.le_refl _) hi (by simp) (by rw [e]; simp)
      exact hno m hm (by rw [em, e, List.take_left])
    have hopen : Open (putAll (up ++ [w]) u (s.take k)) (up ++ [w] ++ s[k].1).dropLast := by
      rcases hs.up k hks with e | ⟨j, hjk, e⟩
      · rw [e, List.append_nil, List.dropLast_concat]
        rcases hop with h0 | ⟨i, hi, ei⟩
        · exact .inl h0
        · obtain ⟨i2, h2, e2, _⟩ := (mem_entries _ _ _).1 ((r3 (up, (at_ u i).mark)).2 (.inl ((mem_entries u _ _).2 ⟨i, hi, ei, rfl⟩)))
          exact .inr ⟨i2, h2, e2⟩
      · by_cases hz : s[k].1 = []
        · exact absurd (by rw [hz] at e; exact e.trans (by rw [hz]; rfl)) (hs.inj j k hjk hks)
        · rw [List.dropLast_append_of_ne_nil hz, ← e]
          obtain ⟨i2, h2, e2, _⟩ := (mem_entries _ _ _).1 ((r3 (up ++ [w] ++ (s[j]'(by omega)).1, (s[j]'(by omega)).2)).2 (.inr ⟨j, hjk, by omega, rfl⟩))
          exact .inr ⟨i2, h2, e2⟩
    have hnew : ∀ i, i < (putAll (up ++ [w]) u (s.take k)).length → pathL (putAll (up ++ [w]) u (s.take k)) i ≠ (up ++ [w] ++ s[k].1).dropLast ++ [(up ++ [w] ++ s[k].1).getLastD []] := by
      intro i hi e
      rw [hpath] at e
      rcases (r3 _).1 ((mem_entries _ _ _).2 ⟨i, hi, e, rfl⟩) with hm | ⟨j, hj, hjs, e2⟩
      · obtain ⟨i2, h2, e2, _⟩ := (mem_entries u _ _).1 hm
        exact hbase i2 h2 _ e2
      · injection e2 with e2 _
        exact hs.inj j k hj hks (List.append_cancel_left e2).symm
    have hdeep := hs.deep _ hmem
    have hlast : ((up ++ [w] ++ s[k].1).getLastD []).length ≤ 40 := by
      by_cases hz : s[k].1 = []
      · rw [hz, List.append_nil, last_snoc]; exact hw
      · obtain ⟨q, v, e⟩ := snoc_of hz
        have hv : v.length ≤ 40 := hs.long _ hmem v (by rw [e]; simp)
        rw [e, ← List.append_assoc, last_snoc]; exact hv
    obtain ⟨q1, q2⟩ := r1.putL hopen hnew (by omega) (by rw [List.length_dropLast, List.length_append]; simp only [List.length_append, List.length_singleton] at hdeep ⊢; omega) hlast (hs.mark _ hmem)
    refine ⟨q1, by rw [putL_len]; omega, fun x => ?_⟩
    rw [q2 x, hpath, r3 x]
    constructor
    · rintro (e | e | ⟨j, hj, hjs, e⟩)
      · exact .inr ⟨k, by omega, hks, e⟩
      · exact .inl e
      · exact .inr ⟨j, by omega, hjs, e⟩
    · rintro (e | ⟨j, hj, hjs, e⟩)
      · exact .inr (.inl e)
      · by_cases hjk : j = k
        · subst hjk; exact .inl e
        · exact .inr (.inr ⟨j, by omega, hjs, e⟩)

/-- A part, as it stands below its line. -/
def partE (t : List Ln) (a : Nat) : List (Pth × Int) := (((entries t).drop a).take (endL t a - a)).map fun x => (x.1.drop (pathL t a).length, x.2)
theorem part_len {t : List Ln} {a : Nat} (ha : a < t.length) : (partE t a).length = endL t a - a := by
  have := (end_spec t a ha).2.1
  unfold partE; rw [List.length_map, List.length_take, List.length_drop, entries_len]; omega
theorem part_at {t : List Ln} {a k : Nat} (ha : a < t.length) (hk : k < (partE t a).length) : (partE t a)[k] = ((pathL t (a + k)).drop (pathL t a).length, (at_ t (a + k)).mark) := by
  have h1 := part_len ha
  have := (end_spec t a ha).2.1
  have e : (partE t a)[k]? = some ((pathL t (a + k)).drop (pathL t a).length, (at_ t (a + k)).mark) := by
    unfold partE
    rw [List.getElem?_map, List.getElem?_take_of_lt (by omega), List.getElem?_drop, List.getElem?_eq_getElem (by rw [entries_len]; omega), entries_at t (a + k) (by omega)]; rfl
  rw [List.getElem?_eq_getElem hk] at e
  exact Option.some.inj e
theorem mem_part {N : Nat} {t : List Ln} (h : RightN N t) {a : Nat} (ha : a < t.length) (x : Pth × Int) : x ∈ partE t a ↔ ∃ y ∈ entries t, pre (pathL t a) y.1 ∧ x = (y.1.drop (pathL t a).length, y.2) := by
  have hl := part_len ha
  have he := (end_spec t a ha).2.1
  constructor
  · intro hx
    obtain ⟨k, hk, rfl⟩ := List.getElem_of_mem hx
    rw [part_at ha hk]
    exact ⟨_, (mem_entries t _ _).2 ⟨a + k, by omega, rfl, rfl⟩, (h.part_iff ha (by omega)).1 ⟨by omega, by omega⟩, rfl⟩
  · rintro ⟨y, hy, hp, rfl⟩
    obtain ⟨i, hi, e1, e2⟩ := (mem_entries t y.1 y.2).1 hy
    rw [← e1] at hp
    obtain ⟨h1, h2⟩ := (h.part_iff ha hi).2 hp
    have hk : i - a < (partE t a).length := by omega
    have e := part_at ha hk
    rw [show a + (i - a) = i by omega, e1, e2] at e
    rw [← e]
    exact List.getElem_mem hk
theorem RightN.part_ok {N : Nat} {t : List Ln} (h : RightN N t) {a : Nat} (ha : a < t.length) {base : Pth} (hb : base.length = (pathL t a).length) : PartOk base (partE t a) := by
  have hl := part_len ha
  obtain ⟨g1, he, _⟩ := end_spec t a ha
  have hpre : ∀ k, k < (partE t a).length → pre (pathL t a) (pathL t (a + k)) := fun k hk => (h.part_iff ha (by omega)).1 ⟨by omega, by omega⟩
  refine ⟨fun k hk => ?_, fun j k hjk hk e => ?_, fun x hx => ?_, fun x hx w hw => ?_, fun x hx => ?_⟩
  · rw [part_at ha hk]
    have hs := pre_split (hpre k hk)
    show (pathL t (a + k)).drop (pathL t a).length = [] ∨ _
    by_cases hz : (pathL t (a + k)).drop (pathL t a).length = []
    · exact .inl hz
    · refine .inr ?_
      obtain ⟨r, v, er⟩ := snoc_of hz
      rw [er] at hs
      have hlen : 0 < (pathL t a ++ r).length := by have := List.length_pos_iff.2 (path_ne (t := t) (i := a)); rw [List.length_append]; omega
      obtain ⟨m, hm, em⟩ := h.path_take (a + k) (a + k) (pathL t a ++ r).length (Nat.le_refl _) (by omega) hlen (by rw [← hs]; simp)
      have em2 : pathL t m = pathL t a ++ r := by rw [em, ← hs, ← List.append_assoc, List.take_left]
      have hin := (h.part_iff ha hm).2 (by rw [em2]; exact pre_app _ _)
      have hmk : m < a + k := by
        rcases Nat.lt_or_ge m (a + k) with h1 | h1
        · exact h1
        · rcases Nat.eq_or_lt_of_le h1 with h2 | h2
          · rw [← h2, ← hs] at em2
            have := congrArg List.length em2
            simp at this
          · have := h.path_less m h2 hm
            rw [em2, ← hs, ← List.append_assoc] at this
            rw [pless_asymm (pless_more _ [v] (by simp))] at this
            cases this
      refine ⟨m - a, by omega, ?_⟩
      rw [part_at ha (show m - a < _ by omega), er, List.dropLast_concat]
      show (pathL t (a + (m - a))).drop _ = r
      rw [show a + (m - a) = m by omega, em2, List.drop_left]
  · rw [part_at ha hk, part_at ha (by omega)] at e
    have e2 : (pathL t (a + j)).drop (pathL t a).length = (pathL t (a + k)).drop (pathL t a).length := e
    have e3 : pathL t (a + j) = pathL t (a + k) := by rw [← pre_split (hpre k hk), ← e2, pre_split (hpre j (by omega))]
    have := h.path_inj (a + k) (a + j) (a + k) (by omega) (Nat.le_refl _) (by omega) (by omega) e3
    omega
  · obtain ⟨k, hk, rfl⟩ := List.getElem_of_mem hx
    rw [part_at ha hk]
    have h1 := h.path_len (a + k) (a + k) (Nat.le_refl _) (by omega)
    have h2 := h.deep (a + k) (by omega)
    show base.length + ((pathL t (a + k)).drop (pathL t a).length).length ≤ 16
    rw [hb, List.length_drop]
    have h3 := congrArg List.length (pre_split (hpre k hk))
    rw [List.length_append, List.length_drop] at h3
    omega
  · obtain ⟨k, hk, rfl⟩ := List.getElem_of_mem hx
    rw [part_at ha hk] at hw
    exact S.RightN.path_long h (a + k) (a + k) (Nat.le_refl _) (by omega) w (List.mem_of_mem_drop hw)
  · obtain ⟨k, hk, rfl⟩ := List.getElem_of_mem hx
    rw [part_at ha hk]
    exact h.mark (a + k) (by omega)
/-- A path under another last word. -/
def newP (p : Pth) (w : List UInt8) (q : Pth) : Pth := p.dropLast ++ [w] ++ q.drop p.length
/-- A part that stands under another word, too. -/
structure Copied (t : List Ln) (p : Pth) (w : List UInt8) (u : List Ln) : Prop where
  right : RightT u
  mem : ∀ x, x ∈ entries u ↔ x ∈ entries t ∨ ∃ y ∈ entries t, pre p y.1 ∧ x = (newP p w y.1, y.2)
/-- A part that stands under another word. -/
structure Moved (t : List Ln) (p : Pth) (w : List UInt8) (u : List Ln) : Prop where
  right : RightT u
  len : u.length = t.length
  mem : ∀ x, x ∈ entries u ↔ (x ∈ entries t ∧ ¬ pre p x.1) ∨ ∃ y ∈ entries t, pre p y.1 ∧ x = (newP p w y.1, y.2)
theorem path_up {t : List Ln} {N : Nat} (h : RightN N t) {a : Nat} (ha : a < t.length) : Open t (pathL t a).dropLast := by
  obtain ⟨q, v, e⟩ := snoc_of (path_ne (t := t) (i := a))
  rw [e, List.dropLast_concat]
  by_cases hq : q = []
  · exact .inl hq
  · obtain ⟨k, hk, ek⟩ := h.path_take a a q.length (Nat.le_refl _) ha (List.length_pos_iff.2 hq) (by rw [e]; simp)
    exact .inr ⟨k, hk, by rw [ek, e, List.take_left]⟩
theorem newP_len {p : Pth} (hp : p ≠ []) (w : List UInt8) : (p.dropLast ++ [w]).length = p.length := by
  have := List.length_pos_iff.2 hp
  rw [List.length_append, List.length_dropLast]; simp; omega
theorem copied_is {t : List Ln} (h : RightT t) {a : Nat} (ha : a < t.length) {w : List UInt8} (hw : w.length ≤ 40) (hno : ∀ i, i < t.length → pathL t i ≠ (pathL t a).dropLast ++ [w]) (h200 : t.length + (endL t a - a) ≤ 200) :
    Copied t (pathL t a) w (putAll ((pathL t a).dropLast ++ [w]) t (partE t a)) := by
  have hl := part_len ha
  obtain ⟨r1, r2, r3⟩ := put_part h hw (path_up h ha) hno (h.part_ok ha (newP_len path_ne w)) (by omega) (partE t a).length (Nat.le_refl _)
  rw [List.take_length] at r1 r2 r3
  refine ⟨r1, fun x => ?_⟩
  rw [r3 x]
  have key : (∃ j, ∃ _ : j < (partE t a).length, ∃ hjs : j < (partE t a).length, x = ((pathL t a).dropLast ++ [w] ++ (partE t a)[j].1, (partE t a)[j].2)) ↔ ∃ y ∈ entries t, pre (pathL t a) y.1 ∧ x = (newP (pathL t a) w y.1, y.2) := by
    constructor
    · rintro ⟨j, _, hjs, rfl⟩
      obtain ⟨y, hy, hp, e⟩ := (mem_part h ha _).1 (List.getElem_mem hjs)
      exact ⟨y, hy, hp, by rw [e]; rfl⟩
    · rintro ⟨y, hy, hp, rfl⟩
      obtain ⟨j, hj, e⟩ := List.getElem_of_mem ((mem_part h ha (y.1.drop (pathL t a).length, y.2)).2 ⟨y, hy, hp, rfl⟩)
      exact ⟨j, hj, hj, by rw [e]; rfl⟩
  rw [key]
theorem moved_is {t : List Ln} (h : RightT t) {a : Nat} (ha : a < t.length) {w : List UInt8} (hw : w.length ≤ 40) (hno : ∀ i, i < t.length → pathL t i ≠ (pathL t a).dropLast ++ [w]) :
    Moved t (pathL t a) w (putAll ((pathL t a).dropLast ++ [w]) (cutL t a) (partE t a)) := by
  have hl := part_len ha
  obtain ⟨g1, g2, _⟩ := end_spec t a ha
  obtain ⟨c1, c2⟩ := h.cut_entries ha
  have hcl := cut_len t a ha
  have h200 := h.len
  have hop : Open (cutL t a) (pathL t a).dropLast := by
    rcases path_up h ha with h0 | ⟨i, hi, e⟩
    · exact .inl h0
    · refine .inr ?_
      obtain ⟨k, hk, ek, _⟩ := (mem_entries _ _ _).1 ((c2 ((pathL t a).dropLast, (at_ t i).mark)).2 ⟨(mem_entries t _ _).2 ⟨i, hi, e, rfl⟩, fun hp => by
        have := congrArg List.length hp
        have hne := List.length_pos_iff.2 (path_ne (t := t) (i := a))
        rw [List.length_take, List.length_dropLast] at this
        omega⟩)
      exact ⟨k, hk, ek⟩
  have hno2 : ∀ i, i < (cutL t a).length → pathL (cutL t a) i ≠ (pathL t a).dropLast ++ [w] := by
    intro i hi e
    obtain ⟨h1, _⟩ := (c2 _).1 ((mem_entries _ _ _).2 ⟨i, hi, e, rfl⟩)
    obtain ⟨k, hk, ek, _⟩ := (mem_entries t _ _).1 h1
    exact hno k hk ek
  obtain ⟨r1, r2, r3⟩ := put_part c1 hw hop hno2 (h.part_ok ha (newP_len path_ne w)) (by omega) (partE t a).length (Nat.le_refl _)
  rw [List.take_length] at r1 r2 r3
  refine ⟨r1, by omega, fun x => ?_⟩
  rw [r3 x, c2 x]
  have key : (∃ j, ∃ _ : j < (partE t a).length, ∃ hjs : j < (partE t a).length, x = ((pathL t a).dropLast ++ [w] ++ (partE t a)[j].1, (partE t a)[j].2)) ↔ ∃ y ∈ entries t, pre (pathL t a) y.1 ∧ x = (newP (pathL t a) w y.1, y.2) := by
    constructor
    · rintro ⟨j, _, hjs, rfl⟩
      obtain ⟨y, hy, hp, e⟩ := (mem_part h ha _).1 (List.getElem_mem hjs)
      exact ⟨y, hy, hp, by rw [e]; rfl⟩
    · rintro ⟨y, hy, hp, rfl⟩
      obtain ⟨j, hj, e⟩ := List.getElem_of_mem ((mem_part h ha (y.1.drop (pathL t a).length, y.2)).2 ⟨y, hy, hp, rfl⟩)
      exact ⟨j, hj, hj, by rw [e]; rfl⟩
  rw [key]
/-- A line's mark, set. -/
theorem mark_entries {N : Nat} {t : List Ln} (h : RightN N t) {a : Nat} (ha : a < t.length) (m : Int) (x : Pth × Int) : x ∈ entries (S.setM t a m) ↔ (x ∈ entries t ∧ x.1 ≠ pathL t a) ∨ x = (pathL t a, m) := by
  constructor
  · intro hx
    obtain ⟨i, hi, e1, e2⟩ := (mem_entries _ x.1 x.2).1 hx
    rw [S.setM_len] at hi
    rw [S.setM_path t a m i ha] at e1
    rw [S.setM_at t a m i ha] at e2
    by_cases hia : i = a
    · rw [if_pos hia] at e2
      subst hia
      exact .inr (Prod.ext e1.symm e2.symm)
    · rw [if_neg hia] at e2
      refine .inl ⟨(mem_entries t x.1 x.2).2 ⟨i, hi, e1, e2⟩, fun e => hia ?_⟩
      exact h.path_inj (max i a) i a (Nat.le_max_left ..) (Nat.le_max_right ..) hi ha (by rw [e1, e])
  · rintro (⟨h1, h2⟩ | rfl)
    · obtain ⟨i, hi, e1, e2⟩ := (mem_entries t x.1 x.2).1 h1
      have hia : i ≠ a := fun e => h2 (by rw [← e1, e])
      exact (mem_entries _ x.1 x.2).2 ⟨i, by rw [S.setM_len]; exact hi, by rw [S.setM_path t a m i ha]; exact e1, by rw [S.setM_at t a m i ha, if_neg hia]; exact e2⟩
    · exact (mem_entries _ _ _).2 ⟨a, by rw [S.setM_len]; exact ha, S.setM_path t a m a ha, by rw [S.setM_at t a m a ha, if_pos rfl]⟩
end Go.Proofs.Ytkifapbiimlafaa.T

namespace Go.Proofs.Ytkifapbiimlafaa.T

theorem pre_trans {p q r : Pth} (h1 : pre p q) (h2 : pre q r) : pre p r := by
  obtain ⟨s, rfl⟩ := pre_iff.1 h1
  obtain ⟨x, rfl⟩ := pre_iff.1 h2
  exact pre_iff.2 ⟨s ++ x, by rw [List.append_assoc]⟩
theorem pre_len {p q : Pth} (h : pre p q) : p.length ≤ q.length := by
  obtain ⟨s, rfl⟩ := pre_iff.1 h
  rw [List.length_append]; omega
theorem pre_take {p q : Pth} {k : Nat} (h : pre p q) (hk : p.length ≤ k) : pre p (q.take k) := by
  unfold pre at h ⊢
  rw [List.take_take, Nat.min_eq_left hk, h]
theorem pre_two {p q r : Pth} (h1 : pre p r) (h2 : pre q r) (hl : p.length ≤ q.length) : pre p q := by
  unfold pre at h1 h2 ⊢
  rw [← h2, List.take_take, Nat.min_eq_left hl, h1]
/-- The same entries: the same tree. -/
theorem Moved.same {t u v : List Ln} {p : Pth} {w : List UInt8} (a : Moved t p w u) (b : Moved t p w v) : u = v := RightN.ext a.right b.right fun x => by rw [a.mem x, b.mem x]
theorem Copied.same {t u v : List Ln} {p : Pth} {w : List UInt8} (a : Copied t p w u) (b : Copied t p w v) : u = v := RightN.ext a.right b.right fun x => by rw [a.mem x, b.mem x]
theorem newP_self {p : Pth} (_hp : p ≠ []) (w : List UInt8) (q : Pth) : pre (p.dropLast ++ [w]) (newP p w q) := by
  unfold newP; exact pre_app _ _
theorem newP_back {p : Pth} (hp : p ≠ []) (w : List UInt8) {q : Pth} (h : pre p q) : newP (p.dropLast ++ [w]) (p.getLastD []) (newP p w q) = q := by
  unfold newP
  rw [List.dropLast_concat]
  have e : (p.dropLast ++ [w] ++ q.drop p.length).drop (p.dropLast ++ [w]).length = q.drop p.length := List.drop_left
  rw [e]
  obtain ⟨r, v, er⟩ := snoc_of hp
  have e2 : p.dropLast ++ [p.getLastD []] = p := by rw [er, List.dropLast_concat, last_snoc]
  rw [e2, pre_split h]
theorem newP_inj {p : Pth} {w : List UInt8} {q r : Pth} (hq : pre p q) (hr : pre p r) (e : newP p w q = newP p w r) : q = r := by
  unfold newP at e
  rw [← pre_split hq, ← pre_split hr, List.append_cancel_left e]
/-- No path of the tree begins with a path that isn't there. -/
theorem RightN.none_pre {N : Nat} {t : List Ln} (h : RightN N t) {p : Pth} (hp : p ≠ []) (hno : ∀ i, i < t.length → pathL t i ≠ p) {x : Pth × Int} (hx : x ∈ entries t) : ¬ pre p x.1 := by
  intro hpre
  obtain ⟨i, hi, e, _⟩ := (mem_entries t x.1 x.2).1 hx
  obtain ⟨k, hk, ek⟩ := h.path_take i i p.length (Nat.le_refl _) hi (List.length_pos_iff.2 hp) (by rw [e]; exact pre_len hpre)
  exact hno k hk (by rw [ek, e]; exact hpre)
/-- A part that is moved, and moved back. -/
theorem Moved.back {t u : List Ln} (h : RightT t) {p : Pth} (hp : p ≠ []) {w : List UInt8} (hno : ∀ i, i < t.length → pathL t i ≠ p.dropLast ++ [w]) (m : Moved t p w u) : Moved u (p.dropLast ++ [w]) (p.getLastD []) t := by
  have hq : p.dropLast ++ [w] ≠ [] := by simp
  refine ⟨h, m.len.symm, fun x => ?_⟩
  constructor
  · intro hx
    by_cases hpx : pre p x.1
    · refine .inr ⟨(newP p w x.1, x.2), (m.mem _).2 (.inr ⟨x, hx, hpx, rfl⟩), newP_self hp w _, ?_⟩
      rw [newP_back hp w hpx]
    · exact .inl ⟨(m.mem x).2 (.inl ⟨hx, hpx⟩), h.none_pre hq hno hx⟩
  · rintro (⟨hx, hn⟩ | ⟨y, hy, hpy, rfl⟩)
    · rcases (m.mem x).1 hx with ⟨h1, _⟩ | ⟨y, hy, hpy, rfl⟩
      · exact h1
      · exact absurd (newP_self hp w y.1) hn
    · rcases (m.mem y).1 hy with ⟨h1, _⟩ | ⟨z, hz, hpz, rfl⟩
      · exact absurd hpy (h.none_pre hq hno h1)
      · show (newP _ _ (newP p w z.1), z.2) ∈ entries t
        rw [newP_back hp w hpz]
        exact hz
/-- A part that is copied, and its copy cut off. -/
theorem Copied.back {t u : List Ln} (h : RightT t) {p : Pth} (hp : p ≠ []) {w : List UInt8} (hno : ∀ i, i < t.length → pathL t i ≠ p.dropLast ++ [w]) (m : Copied t p w u) {b : Nat} (hb : b < u.length) (eb : pathL u b = p.dropLast ++ [w]) : cutL u b = t := by
  have hq : p.dropLast ++ [w] ≠ [] := by simp
  obtain ⟨c1, c2⟩ := m.right.cut_entries hb
  refine RightN.ext c1 h fun x => ?_
  rw [c2 x, eb, m.mem x]
  constructor
  · rintro ⟨h1 | ⟨y, hy, hpy, rfl⟩, hn⟩
    · exact h1
    · exact absurd (newP_self hp w y.1) hn
  · intro hx
    exact ⟨.inl hx, h.none_pre hq hno hx⟩
/-- Is the path of one of its lines, or of one above, Protect? -/
def Kept (t : List Ln) (p : Pth) (n : Nat) : Prop := ∃ k m, 1 ≤ k ∧ k ≤ n ∧ (p.take k, m) ∈ entries t ∧ 1 < m
/-- Is any line of the part Protect, or the path locked? -/
def Shut (t : List Ln) (p : Pth) : Prop := Kept t p p.length ∨ ∃ x ∈ entries t, pre p x.1 ∧ 1 < x.2
theorem Kept.mono {t : List Ln} {p : Pth} {n m : Nat} (h : Kept t p n) (hnm : n ≤ m) : Kept t p m := by
  obtain ⟨k, b, h1, h2, h3⟩ := h
  exact ⟨k, b, h1, by omega, h3⟩
theorem Kept.pre {t : List Ln} {p q : Pth} (hp : pre p q) {n : Nat} (hn : n ≤ p.length) : Kept t p n ↔ Kept t q n := by
  have e : ∀ k, k ≤ n → p.take k = q.take k := by
    intro k hk
    obtain ⟨s, rfl⟩ := pre_iff.1 hp
    rw [List.take_append, show k - p.length = 0 by omega, List.take_zero, List.append_nil]
  constructor
  · rintro ⟨k, b, h1, h2, h3, h4⟩; exact ⟨k, b, h1, h2, by rw [← e k h2]; exact h3, h4⟩
  · rintro ⟨k, b, h1, h2, h3, h4⟩; exact ⟨k, b, h1, h2, by rw [e k h2]; exact h3, h4⟩
/-- What is locked isn't in a part that is not shut. -/
theorem kept_free {t : List Ln} {p q : Pth} (hs : ¬ Shut t p) (hpq : pre p q) : ¬ Kept t q q.length := by
  rintro ⟨k, b, h1, h2, h3, h4⟩
  rcases Nat.lt_or_ge k p.length with hk | hk
  · exact hs (.inl ((Kept.pre hpq (Nat.le_refl _)).2 ⟨k, b, h1, by omega, h3, h4⟩))
  · exact hs (.inr ⟨_, h3, pre_take hpq hk, h4⟩)
end Go.Proofs.Ytkifapbiimlafaa.T

namespace Go.Proofs.Ytkifapbiimlafaa.T
/-- Where the next line of a part goes there is a line above it. -/
theorem put_open {N : Nat} {u : List Ln} (h : RightN N u) {up : Pth} {w : List UInt8} (hw : w.length ≤ 40) (hop : Open u up) (hno : ∀ i, i < u.length → pathL u i ≠ up ++ [w]) {s : List (Pth × Int)} (hs : PartOk (up ++ [w]) s) (hN : u.length + s.length ≤ N) {k : Nat} (hks : k < s.length) :
    Open (putAll (up ++ [w]) u (s.take k)) (up ++ [w] ++ s[k].1).dropLast := by
  obtain ⟨r1, r2, r3⟩ := put_part h hw hop hno hs hN k (by omega)
  rcases hs.up k hks with e | ⟨j, hjk, e⟩
  · rw [e, List.append_nil, List.dropLast_concat]
    rcases hop with h0 | ⟨i, hi, ei⟩
    · exact .inl h0
    · obtain ⟨i2, h2, e2, _⟩ := (mem_entries _ _ _).1 ((r3 (up, (at_ u i).mark)).2 (.inl ((mem_entries u _ _).2 ⟨i, hi, ei, rfl⟩)))
      exact .inr ⟨i2, h2, e2⟩
  · by_cases hz : s[k].1 = []
    · exact absurd (by rw [hz] at e; exact e.trans (by rw [hz]; rfl)) (hs.inj j k hjk hks)
    · rw [List.dropLast_append_of_ne_nil hz, ← e]
      obtain ⟨i2, h2, e2, _⟩ := (mem_entries _ _ _).1 ((r3 (up ++ [w] ++ (s[j]'(by omega)).1, (s[j]'(by omega)).2)).2 (.inr ⟨j, hjk, by omega, rfl⟩))
      exact .inr ⟨i2, h2, e2⟩
/-- A part's own paths, as the document's answer takes them. -/
theorem RightN.part_sub {N : Nat} {t : List Ln} (h : RightN N t) {a : Nat} (ha : a < t.length) {k : Nat} (hk : k < (partE t a).length) : (partE t a)[k] = ((pathL (subL t a) k).drop 1, (at_ (subL t a) k).mark) := by
  have hl := part_len ha
  obtain ⟨g1, g2, _⟩ := end_spec t a ha
  have h1 := h.path_len a a (Nat.le_refl _) ha
  have h2 := h.deep a ha
  rw [part_at ha hk, h.sub_path a ha k k (Nat.le_refl _) (by omega), List.drop_drop, sub_at t a k ha (by omega)]
  rw [show (dp t a).toNat + 1 = (pathL t a).length by omega]
end Go.Proofs.Ytkifapbiimlafaa.T

namespace Go.Proofs.Ytkifapbiimlafaa.T

theorem Sorted.lt {l : List (Pth × Int)} (h : Sorted l) {i k : Nat} (hik : i < k) (hk : k < l.length) : pless (l[i]'(by omega)).1 l[k].1 = true := h i k hk hik
theorem pairwise_split {α : Type} {R : α → α → Prop} {l : List α} (h : l.Pairwise R) (i : Nat) (hi : i < l.length) : (l.take i).Pairwise R ∧ (l.drop (i + 1)).Pairwise R ∧ (∀ y ∈ l.take i, R y l[i]) ∧ (∀ y ∈ l.drop (i + 1), R l[i] y) ∧ ∀ y ∈ l.take i, ∀ z ∈ l.drop (i + 1), R y z := by
  have e : l = l.take i ++ l[i] :: l.drop (i + 1) := by
    rw [List.getElem_cons_drop, List.take_append_drop]
  have h2 := h
  rw [e, List.pairwise_append, List.pairwise_cons] at h2
  obtain ⟨a, ⟨b, c⟩, d⟩ := h2
  exact ⟨a, c, fun y hy => d y hy _ (List.mem_cons_self ..), b, fun y hy z hz => d y hy z (List.mem_cons_of_mem _ hz)⟩
/-- The part's paths, under a base, in order. -/
theorem part_sorted {N : Nat} {t : List Ln} (h : RightN N t) {a : Nat} (ha : a < t.length) (base : Pth) : ((partE t a).map fun x => (base ++ x.1, x.2)).Pairwise fun x y => pless x.1 y.1 = true := by
  have hl := part_len ha
  obtain ⟨g1, g2, _⟩ := end_spec t a ha
  rw [← sorted_iff]
  intro i k hk hik
  rw [List.length_map] at hk
  rw [List.getElem_map, List.getElem_map]
  show pless (base ++ _) (base ++ _) = true
  rw [pless_app, part_at ha hk, part_at ha (show i < (partE t a).length by omega)]
  have h1 := h.path_less (i := a + i) (a + k) (by omega) (by omega)
  have p1 := (h.part_iff ha (show a + i < t.length by omega)).1 ⟨by omega, by omega⟩
  have p2 := (h.part_iff ha (show a + k < t.length by omega)).1 ⟨by omega, by omega⟩
  rw [← pre_split p1, ← pre_split p2, pless_app] at h1
  exact h1
theorem part_zero {t : List Ln} {a : Nat} (ha : a < t.length) (hl : 0 < (partE t a).length) : (partE t a)[0] = ([], (at_ t a).mark) := by
  rw [part_at ha hl, Nat.add_zero, List.drop_length]
/-- A line of a part, as a path's line. -/
theorem part_line {N : Nat} {t : List Ln} (h : RightN N t) {a : Nat} (ha : a < t.length) {base : Pth} (hb : base.length = (pathL t a).length) {k : Nat} (hk : k < (partE t a).length) (h0 : 0 < k) : lnOf (base ++ (partE t a)[k].1, (partE t a)[k].2) = at_ t (a + k) := by
  have hl := part_len ha
  obtain ⟨g1, g2, _⟩ := end_spec t a ha
  have hak : a + k < t.length := by omega
  rw [part_at ha hk]
  have p2 := (h.part_iff ha hak).1 ⟨by omega, by omega⟩
  have e := pre_split p2
  have hlen := h.path_len (a + k) (a + k) (Nat.le_refl _) hak
  obtain ⟨s, hs⟩ : ∃ s, (pathL t (a + k)).drop (pathL t a).length = s := ⟨_, rfl⟩
  rw [hs] at e ⊢
  have hne : s ≠ [] := by
    intro e0
    rw [e0, List.append_nil] at e
    have := h.path_inj (a + k) a (a + k) (by omega) (Nat.le_refl _) ha hak e
    omega
  obtain ⟨q, v, eq⟩ := snoc_of hne
  have hw : wd t (a + k) = v := by
    have e2 := path_under t (a + k)
    rw [← e, eq, ← List.append_assoc] at e2
    exact (List.append_inj_right' e2 rfl |> fun h => by injection h with h _; exact h.symm)
  unfold lnOf
  show (⟨((base ++ s).length : Int) - 1, (base ++ s).getLastD [], _⟩ : Ln) = _
  have hd : dp t (a + k) = ((base ++ s).length : Int) - 1 := by
    rw [← e, List.length_append] at hlen
    rw [List.length_append, hb]; omega
  rw [← hd, eq, ← List.append_assoc, last_snoc, ← hw]
  unfold dp wd
  rfl
/-- A part, laid where a line stands that is new. -/
theorem lay_part {N N2 M : Nat} {t u G : List Ln} (ht : RightN N2 t) {a : Nat} (ha : a < t.length) (hu : RightN N u) {up : Pth} {w : List UInt8} (hw : w.length ≤ 40) (hop : Open u up) (hno : ∀ i, i < u.length → pathL u i ≠ up ++ [w]) (hb : (up ++ [w]).length = (pathL t a).length) (hN : u.length + (endL t a - a) ≤ N)
    (hG : RightN M G) (hmem : ∀ x, x ∈ entries G ↔ x ∈ entries u ∨ x = (up ++ [w], 0)) {i : Nat} (hi : i < G.length) (hpi : pathL G i = up ++ [w]) :
    putAll (up ++ [w]) u (partE t a) = G.take i ++ (⟨dp G i, wd G i, (at_ t a).mark⟩ :: ((t.drop (a + 1)).take (endL t a - (a + 1)) ++ G.drop (i + 1))) := by
  have hl := part_len ha
  obtain ⟨g1, g2, _⟩ := end_spec t a ha
  obtain ⟨r1, r2, r3⟩ := put_part hu hw hop hno (ht.part_ok ha hb) (by omega) (partE t a).length (Nat.le_refl _)
  rw [List.take_length] at r1 r2 r3
  have hiE : i < (entries G).length := by rw [entries_len]; exact hi
  have eI : (entries G)[i] = (up ++ [w], (at_ G i).mark) := by rw [entries_at G i hi, hpi]
  have hsG := (sorted_iff _).1 hG.sorted
  obtain ⟨s1, s2, s3, s4, s5⟩ := pairwise_split hsG i hiE
  rw [eI] at s3 s4
  -- the paths, in order
  have hnopre : ∀ z ∈ (entries G).drop (i + 1), ¬ ∃ x, z.1 = up ++ [w] ++ x := by
    rintro z hz ⟨x, e⟩
    have hzG := List.mem_of_mem_drop hz
    rcases (hmem z).1 hzG with h1 | rfl
    · exact hu.none_pre (by simp) hno h1 (pre_iff.2 ⟨x, e⟩)
    · have := s4 _ hz
      rw [pless_irr] at this
      cases this
  have hL : ((entries G).take i ++ (((partE t a).map fun x => (up ++ [w] ++ x.1, x.2)) ++ (entries G).drop (i + 1))).Pairwise fun x y => pless x.1 y.1 = true := by
    rw [List.pairwise_append, List.pairwise_append]
    refine ⟨s1, ⟨part_sorted ht ha _, s2, ?_⟩, ?_⟩
    · intro y hy z hz
      obtain ⟨x, hx, rfl⟩ := List.mem_map.1 hy
      exact pless_off _ _ _ (s4 z hz) (hnopre z hz)
    · intro y hy z hz
      rcases List.mem_append.1 hz with hz | hz
      · obtain ⟨x, hx, rfl⟩ := List.mem_map.1 hz
        by_cases h0 : x.1 = []
        · show pless y.1 (up ++ [w] ++ x.1) = true
          rw [h0, List.append_nil]; exact s3 y hy
        · exact pless_trans _ _ _ (s3 y hy) (pless_more _ _ h0)
      · exact s5 y hy z hz
  have hE : entries (putAll (up ++ [w]) u (partE t a)) = (entries G).take i ++ (((partE t a).map fun x => (up ++ [w] ++ x.1, x.2)) ++ (entries G).drop (i + 1)) := by
    refine Sorted.ext r1.sorted ((sorted_iff _).2 hL) fun x => ?_
    rw [r3 x, List.mem_append, List.mem_append]
    have hsplit : x ∈ entries G ↔ x ∈ (entries G).take i ∨ x = (entries G)[i] ∨ x ∈ (entries G).drop (i + 1) := by
      conv => lhs; rw [← List.take_append_drop i (entries G), ← List.getElem_cons_drop (as := entries G) hiE]
      rw [List.mem_append, List.mem_cons]
    constructor
    · rintro (h1 | ⟨j, _, hjs, rfl⟩)
      · rcases hsplit.1 ((hmem x).2 (.inl h1)) with h2 | h2 | h2
        · exact .inl h2
        · rw [eI] at h2
          subst h2
          obtain ⟨k, hk, e, _⟩ := (mem_entries u _ _).1 h1
          exact absurd e (hno k hk)
        · exact .inr (.inr h2)
      · exact .inr (.inl (List.mem_map.2 ⟨_, List.getElem_mem hjs, rfl⟩))
    · have hold : ∀ y, y ∈ entries G → y.1 ≠ up ++ [w] → y ∈ entries u := by
        intro y hy hne
        rcases (hmem y).1 hy with h1 | rfl
        · exact h1
        · exact absurd rfl hne
      rintro (h1 | h1 | h1)
      · refine .inl (hold x (List.mem_of_mem_take h1) fun e => ?_)
        have := s3 x h1
        rw [e, pless_irr] at this; cases this
      · obtain ⟨y, hy, rfl⟩ := List.mem_map.1 h1
        obtain ⟨j, hj, rfl⟩ := List.getElem_of_mem hy
        exact .inr ⟨j, hj, hj, rfl⟩
      · refine .inl (hold x (List.mem_of_mem_drop h1) fun e => ?_)
        have := s4 x h1
        rw [e, pless_irr] at this; cases this
  rw [← r1.ofP_entries, hE]
  have eG := hG.ofP_entries
  have e1 : ofP ((entries G).take i) = G.take i := by
    conv => rhs; rw [← eG]
    unfold ofP; rw [List.map_take]
  have e2 : ofP ((entries G).drop (i + 1)) = G.drop (i + 1) := by
    conv => rhs; rw [← eG]
    unfold ofP; rw [List.map_drop]
  have e3 : ofP ((partE t a).map fun x => (up ++ [w] ++ x.1, x.2)) = ⟨dp G i, wd G i, (at_ t a).mark⟩ :: (t.drop (a + 1)).take (endL t a - (a + 1)) := by
    have hpl : 0 < (partE t a).length := by omega
    apply List.ext_getElem
    · rw [ofP_len, List.length_map, List.length_cons, List.length_take, List.length_drop]; omega
    · intro k h1 h2
      rw [ofP_len, List.length_map] at h1
      have e4 : (ofP ((partE t a).map fun x => (up ++ [w] ++ x.1, x.2)))[k]'(by rw [ofP_len, List.length_map]; exact h1) = lnOf (up ++ [w] ++ (partE t a)[k].1, (partE t a)[k].2) := by
        unfold ofP; simp
      rw [e4]
      cases k with
      | zero =>
        rw [part_zero ha hpl, List.append_nil, List.getElem_cons_zero]
        unfold lnOf
        have hlen := hG.path_len i i (Nat.le_refl _) hi
        rw [hpi] at hlen
        have hwd : wd G i = w := by
          have e5 := path_under G i
          rw [hpi] at e5
          exact (List.append_inj_right' e5 rfl |> fun h => by injection h with h _; exact h.symm)
        show (⟨((up ++ [w]).length : Int) - 1, (up ++ [w]).getLastD [], _⟩ : Ln) = _
        rw [last_snoc, hwd, hlen]
        congr 1
        omega
      | succ k =>
        rw [part_line ht ha hb h1 (by omega), List.getElem_cons_succ, List.getElem_take, List.getElem_drop]
        unfold at_ List.getD
        rw [show a + (k + 1) = a + 1 + k by omega, List.getElem?_eq_getElem (by omega)]
        rfl
  unfold ofP at e1 e2 e3 ⊢
  rw [List.map_append, List.map_append, e1, e2, e3, List.cons_append]
/-- A path's line, added to a tree that has the line above it. -/
theorem add_new {t : List Ln} (h : RightT t) {up : Pth} {w : List UInt8} (hp : (up ++ [w]).length ≤ 16) (hw : ∀ x ∈ up ++ [w], x.length ≤ 40) (hop : Open t up) (hno : ∀ i, i < t.length → pathL t i ≠ up ++ [w]) :
    RightN 216 (addL t (up ++ [w])) ∧ (addL t (up ++ [w])).length ≤ t.length + 1 ∧ (∀ x, x ∈ entries (addL t (up ++ [w])) ↔ x ∈ entries t ∨ x = (up ++ [w], 0)) ∧ ∃ i, i < (addL t (up ++ [w])).length ∧ pathL (addL t (up ++ [w])) i = up ++ [w] := by
  have ha := add_is h hp hw
  have hup : ∀ j, j < up.length → ∃ i, i < t.length ∧ pathL t i = (up ++ [w]).take (j + 1) := by
    intro j hj
    rcases hop with h0 | ⟨k, hk, e⟩
    · rw [h0] at hj; simp at hj
    · obtain ⟨i, hi, e2⟩ := h.path_take k k (j + 1) (Nat.le_refl _) hk (by omega) (by rw [e]; omega)
      exact ⟨i, hi, by rw [e2, e, List.take_append, show j + 1 - up.length = 0 by omega, List.take_zero, List.append_nil]⟩
  have hm : ∀ x, x ∈ entries (addL t (up ++ [w])) ↔ x ∈ entries t ∨ x = (up ++ [w], 0) := by
    intro x
    rw [ha.mem x]
    constructor
    · rintro (h1 | ⟨j, hj, e, hn⟩)
      · exact .inl h1
      · rw [List.length_append, List.length_singleton] at hj
        rcases Nat.lt_or_ge j up.length with hj2 | hj2
        · obtain ⟨i, hi, e2⟩ := hup j hj2
          exact absurd e2 (hn i hi)
        · refine .inr ?_
          rw [e, List.take_of_length_le (by rw [List.length_append, List.length_singleton]; omega)]
    · rintro (h1 | e)
      · exact .inl h1
      · refine .inr ⟨up.length, by rw [List.length_append, List.length_singleton]; omega, ?_, ?_⟩
        · rw [e, List.take_of_length_le (by rw [List.length_append, List.length_singleton]; omega)]
        · intro i hi
          rw [List.take_of_length_le (by rw [List.length_append, List.length_singleton]; omega)]
          exact hno i hi
  refine ⟨ha.right, ?_, hm, add_there h hp hw (by simp)⟩
  have hk : up.length ≤ knownN t (up ++ [w]) (up ++ [w]).length := by
    rcases Nat.lt_or_ge (knownN t (up ++ [w]) (up ++ [w]).length) up.length with hlt | hge
    · obtain ⟨i, hi, e⟩ := hup (up.length - 1) (by omega)
      exact absurd e (known_no t (up ++ [w]) (up ++ [w]).length (up.length - 1 + 1) (by omega) (by rw [List.length_append]; omega) i hi)
    · exact hge
  have := add_len h hp hw
  rw [List.length_append, List.length_singleton] at this hk
  omega
end Go.Proofs.Ytkifapbiimlafaa.T

namespace Go.Proofs.Ytkifapbiimlafaa.T

/-- A change. -/
structure Chg where
  kind : Int
  path : Pth
  mark : Int
/-- Is there a line of that path? -/
def isIn (t : List Ln) (p : Pth) : Prop := ∃ i, i < t.length ∧ pathL t i = p
def inB (t : List Ln) (p : Pth) : Bool := decide (0 ≤ findI t p)
theorem inB_yes {t : List Ln} {p : Pth} : inB t p = true ↔ isIn t p := by
  unfold inB
  rcases findI_cases t p with ⟨e, h⟩ | ⟨i, hi, e, h⟩
  · rw [e]; exact ⟨fun h2 => by simp at h2, fun ⟨i, hi, e2⟩ => absurd e2 (h i hi)⟩
  · rw [e]; exact ⟨fun _ => ⟨i, hi, h⟩, fun _ => by simp⟩
theorem inB_no {t : List Ln} {p : Pth} : inB t p = false ↔ ¬ isIn t p := by rw [← inB_yes]; cases inB t p <;> simp
theorem isIn_entries {t : List Ln} {p : Pth} : isIn t p ↔ ∃ m, (p, m) ∈ entries t := by
  constructor
  · rintro ⟨i, hi, e⟩; exact ⟨_, (mem_entries t p _).2 ⟨i, hi, e, rfl⟩⟩
  · rintro ⟨m, hm⟩; obtain ⟨i, hi, e, _⟩ := (mem_entries t p m).1 hm; exact ⟨i, hi, e⟩
theorem isIn_of {t : List Ln} {x : Pth × Int} (h : x ∈ entries t) : isIn t x.1 := isIn_entries.2 ⟨x.2, h⟩
/-- The mark of the line of a path. -/
def markOf (t : List Ln) (p : Pth) : Int := (at_ t (findI t p).toNat).mark
theorem RightN.mark_of {N : Nat} {t : List Ln} (h : RightN N t) {x : Pth × Int} (hx : x ∈ entries t) : markOf t x.1 = x.2 := by
  obtain ⟨i, hi, e, em⟩ := (mem_entries t x.1 x.2).1 hx
  unfold markOf
  rw [findI_some h hi e, Int.toNat_natCast, em]
theorem RightN.one_mark {N : Nat} {t : List Ln} (h : RightN N t) {p : Pth} {m n : Int} (hm : (p, m) ∈ entries t) (hn : (p, n) ∈ entries t) : m = n := (h.mark_of hm).symm.trans (h.mark_of hn)
theorem RightN.in_pre {N : Nat} {t : List Ln} (h : RightN N t) {p q : Pth} (hp : p ≠ []) (hq : isIn t q) (hpq : pre p q) : isIn t p := by
  obtain ⟨i, hi, e⟩ := hq
  obtain ⟨k, hk, ek⟩ := h.path_take i i p.length (Nat.le_refl _) hi (List.length_pos_iff.2 hp) (by rw [e]; exact pre_len hpq)
  exact ⟨k, hk, by rw [ek, e]; exact hpq⟩
theorem RightN.in_ne {t : List Ln} {p : Pth} (h : isIn t p) : p ≠ [] := by
  obtain ⟨i, _, e⟩ := h
  rw [← e]; exact path_ne

/-- The three parts of a difference. -/
def goneB (b : List Ln) (p : Pth) : Bool := !(inB b p) && (decide (p.dropLast = []) || inB b p.dropLast)
def goneL (b : List Ln) (l : List (Pth × Int)) : List Chg := (l.filter fun x => goneB b x.1).map fun x => ⟨1, x.1, 0⟩
def addsL (a : List Ln) (l : List (Pth × Int)) : List Chg := (l.filter fun x => !(inB a x.1)).map fun x => ⟨2, x.1, x.2⟩
def markB (a : List Ln) (x : Pth × Int) : Bool := inB a x.1 && (markOf a x.1 != x.2)
def marksL (a : List Ln) (l : List (Pth × Int)) : List Chg := (l.filter fun x => markB a x).map fun x => ⟨3, x.1, x.2⟩
def diffL (a b : List Ln) : List Chg := goneL b (entries a) ++ addsL a (entries b) ++ marksL a (entries b)
theorem goneL_next (b : List Ln) (l : List (Pth × Int)) (x : Pth × Int) : goneL b (l ++ [x]) = goneL b l ++ if goneB b x.1 = true then [⟨1, x.1, 0⟩] else [] := by
  unfold goneL
  rw [List.filter_append, List.map_append, List.filter_cons, List.filter_nil]
  cases goneB b x.1 <;> simp
theorem addsL_next (a : List Ln) (l : List (Pth × Int)) (x : Pth × Int) : addsL a (l ++ [x]) = addsL a l ++ if inB a x.1 = false then [⟨2, x.1, x.2⟩] else [] := by
  unfold addsL
  rw [List.filter_append, List.map_append, List.filter_cons, List.filter_nil]
  cases inB a x.1 <;> simp
theorem marksL_next (a : List Ln) (l : List (Pth × Int)) (x : Pth × Int) : marksL a (l ++ [x]) = marksL a l ++ if markB a x = true then [⟨3, x.1, x.2⟩] else [] := by
  unfold marksL
  rw [List.filter_append, List.map_append, List.filter_cons, List.filter_nil]
  cases markB a x <;> simp

/-- A change that can be made. -/
def OneOk (t : List Ln) (c : Chg) (u : List Ln) : Prop :=
  (0 ≤ c.mark ∧ c.mark ≤ 3) ∧ ((c.kind = 1 ∧ ∃ i, i < t.length ∧ pathL t i = c.path ∧ u = cutL t i) ∨
  (c.kind = 2 ∧ t.length < 200 ∧ ∃ up w, c.path = up ++ [w] ∧ Open t up ∧ (∀ i, i < t.length → pathL t i ≠ up ++ [w]) ∧ (∀ x ∈ up ++ [w], x.length ≤ 40) ∧ (up ++ [w]).length ≤ 16 ∧ u = putL t up w c.mark) ∨
  (c.kind = 3 ∧ ∃ i, i < t.length ∧ pathL t i = c.path ∧ u = S.setM t i c.mark))
/-- Changes that can be made, one behind the other. -/
def RunOk : List Ln → List Chg → List Ln → Prop
  | t, [], u => t = u
  | t, c :: l, u => ∃ v, OneOk t c v ∧ RunOk v l u
theorem run_app {t u v : List Ln} {l m : List Chg} (h1 : RunOk t l u) (h2 : RunOk u m v) : RunOk t (l ++ m) v := by
  induction l generalizing t with
  | nil => cases h1; exact h2
  | cons c l ih =>
    obtain ⟨x, hx, hr⟩ := h1
    exact ⟨x, hx, ih hr⟩
theorem run_snoc {t u v : List Ln} {l : List Chg} {c : Chg} (h1 : RunOk t l u) (h2 : OneOk u c v) : RunOk t (l ++ [c]) v := run_app h1 ⟨v, h2, rfl⟩
theorem OneOk.right {t u : List Ln} {c : Chg} (h : OneOk t c u) (hR : RightT t) : RightT u := by
  obtain ⟨hm, ⟨_, i, hi, _, rfl⟩ | ⟨_, hl, up, w, _, ho, hn, hw, hd, rfl⟩ | ⟨_, i, hi, _, rfl⟩⟩ := h
  · exact (hR.cut_entries hi).1
  · exact (hR.putL ho hn hl (by rw [List.length_append, List.length_singleton] at hd; omega) (hw w (by simp)) hm).1
  · exact S.RightT.setM hR hi hm
theorem RunOk.right {t u : List Ln} {l : List Chg} (h : RunOk t l u) (hR : RightT t) : RightT u := by
  induction l generalizing t with
  | nil => cases h; exact hR
  | cons c l ih =>
    obtain ⟨x, hx, hr⟩ := h
    exact ih hr (hx.right hR)

/-- What is gone goes first, from above. -/
theorem run_gone {a b : List Ln} (ha : RightT a) (hb : RightT b) : ∀ k, k ≤ (entries a).length → ∃ t, RunOk a (goneL b ((entries a).take k)) t ∧ RightT t ∧ ∀ x, x ∈ entries t ↔ x ∈ entries a ∧ ∀ y ∈ (entries a).take k, goneB b y.1 = true → ¬ pre y.1 x.1
  | 0, _ => ⟨a, rfl, ha, fun x => ⟨fun h => ⟨h, fun y hy => by simp at hy⟩, fun h => h.1⟩⟩
  | k + 1, hk => by
    obtain ⟨t, h1, h2, h3⟩ := run_gone ha hb k (by omega)
    have hkl : k < (entries a).length := by omega
    obtain ⟨z, hz⟩ : ∃ z, (entries a)[k] = z := ⟨_, rfl⟩
    have hza : z ∈ entries a := hz ▸ List.getElem_mem hkl
    rw [List.take_succ_eq_append_getElem hkl, hz, goneL_next]
    cases hg : goneB b z.1 with
    | false =>
      refine ⟨t, by rw [if_neg (by simp), List.append_nil]; exact h1, h2, fun x => ?_⟩
      rw [h3 x]
      constructor
      · rintro ⟨e1, e2⟩
        refine ⟨e1, fun y hy hgy => ?_⟩
        rcases List.mem_append.1 hy with hy | hy
        · exact e2 y hy hgy
        · rw [List.mem_singleton.1 hy, hg] at hgy; cases hgy
      · rintro ⟨e1, e2⟩
        exact ⟨e1, fun y hy => e2 y (List.mem_append_left _ hy)⟩
    | true =>
      have hgz := hg
      unfold goneB at hgz
      rw [Bool.and_eq_true, Bool.or_eq_true, Bool.not_eq_true', decide_eq_true_eq, inB_no, inB_yes] at hgz
      have hzt : z ∈ entries t := (h3 z).2 ⟨hza, fun y hy hgy hp => by
        obtain ⟨j, hj, ej⟩ := List.getElem_of_mem hy
        rw [List.length_take] at hj
        rw [List.getElem_take] at ej
        have hya : y ∈ entries a := List.mem_of_mem_take hy
        have hyne : y.1 ≠ [] := RightN.in_ne (isIn_of hya)
        unfold goneB at hgy
        rw [Bool.and_eq_true, Bool.not_eq_true', inB_no] at hgy
        by_cases he : y.1 = z.1
        · have hs := (sorted_iff _).1 ha.sorted
          have := ha.sorted j k hkl (by omega)
          rw [ej, hz, he, pless_irr] at this
          cases this
        · -- it is a beginning of the line above
          have hl : y.1.length < z.1.length := by
            rcases Nat.lt_or_ge y.1.length z.1.length with h | h
            · exact h
            · have := hp
              unfold pre at this
              rw [List.take_of_length_le h] at this
              exact absurd this.symm he
          have hpd : pre y.1 z.1.dropLast := by
            rw [List.dropLast_eq_take]
            exact pre_take hp (by omega)
          rcases hgz.2 with h0 | h0
          · have := pre_len hpd
            rw [h0] at this
            exact hyne (List.eq_nil_of_length_eq_zero (by simpa using this))
          · exact hgy.1 (hb.in_pre hyne h0 hpd)⟩
      obtain ⟨i, hi, ei, _⟩ := (mem_entries t z.1 z.2).1 hzt
      obtain ⟨c1, c2⟩ := h2.cut_entries hi
      refine ⟨cutL t i, ?_, c1, fun x => ?_⟩
      · rw [if_pos rfl]
        exact run_snoc h1 ⟨⟨Int.le_refl _, (by omega : (0 : Int) ≤ 3)⟩, .inl ⟨rfl, i, hi, ei, rfl⟩⟩
      · rw [c2 x, ei, h3 x]
        constructor
        · rintro ⟨⟨e1, e2⟩, e3⟩
          refine ⟨e1, fun y hy hgy => ?_⟩
          rcases List.mem_append.1 hy with hy | hy
          · exact e2 y hy hgy
          · rw [List.mem_singleton.1 hy]; exact e3
        · rintro ⟨e1, e2⟩
          exact ⟨⟨e1, fun y hy => e2 y (List.mem_append_left _ hy)⟩, e2 z (List.mem_append_right _ (by simp)) hg⟩
/-- What is left is what both have. -/
theorem gone_left {a b : List Ln} (ha : RightT a) (hb : RightT b) (x : Pth × Int) : (x ∈ entries a ∧ ∀ y ∈ entries a, goneB b y.1 = true → ¬ pre y.1 x.1) ↔ x ∈ entries a ∧ isIn b x.1 := by
  constructor
  · rintro ⟨h1, h2⟩
    refine ⟨h1, Classical.byContradiction fun hno => ?_⟩
    -- the shortest beginning that isn't there
    have key : ∀ n, n ≤ x.1.length → (n = 0 ∨ isIn b (x.1.take n)) := by
      intro n
      induction n with
      | zero => intro _; exact .inl rfl
      | succ n ih =>
        intro hn
        refine .inr (Classical.byContradiction fun hno2 => ?_)
        obtain ⟨i, hi, ei⟩ := isIn_of h1
        obtain ⟨k, hk, ek⟩ := ha.path_take i i (n + 1) (Nat.le_refl _) hi (by omega) (by rw [ei]; exact hn)
        rw [ei] at ek
        refine h2 (x.1.take (n + 1), (at_ a k).mark) ((mem_entries a _ _).2 ⟨k, hk, ek, rfl⟩) ?_ ?_
        · unfold goneB
          rw [Bool.and_eq_true, Bool.or_eq_true, Bool.not_eq_true', decide_eq_true_eq, inB_no, inB_yes]
          refine ⟨hno2, ?_⟩
          have hd : (x.1.take (n + 1)).dropLast = x.1.take n := by
            rw [List.dropLast_eq_take, List.length_take, List.take_take]
            congr 1; omega
          rw [hd]
          rcases ih (by omega) with h0 | h0
          · left; rw [h0]; rfl
          · exact .inr h0
        · show (x.1.take (x.1.take (n + 1)).length) = x.1.take (n + 1)
          rw [List.length_take]
          congr 1; omega
    rcases key x.1.length (Nat.le_refl _) with h0 | h0
    · exact RightN.in_ne (isIn_of h1) (List.eq_nil_of_length_eq_zero h0)
    · rw [List.take_length] at h0; exact hno h0
  · rintro ⟨h1, h2⟩
    refine ⟨h1, fun y hy hg hp => ?_⟩
    unfold goneB at hg
    rw [Bool.and_eq_true, Bool.not_eq_true', inB_no] at hg
    exact hg.1 (hb.in_pre (RightN.in_ne (isIn_of hy)) h2 hp)
/-- Fewer paths, fewer lines. -/
theorem fewer {N M : Nat} {t b : List Ln} (ht : RightN N t) (hb : RightN M b) (h : ∀ p, isIn t p → isIn b p) : t.length ≤ b.length := by
  have h1 := S.sorted_sub (entries (bareT b)) (entries (bareT t)) (bare_right ht).sorted (bare_right hb).sorted (fun x hx => by
    obtain ⟨i, hi, e, em⟩ := (mem_entries _ x.1 x.2).1 hx
    rw [bare_len] at hi
    rw [bare_path] at e
    rw [bare_at] at em
    obtain ⟨k, hk, ek⟩ := h x.1 ⟨i, hi, e⟩
    exact (mem_entries _ x.1 x.2).2 ⟨k, by rw [bare_len]; exact hk, by rw [bare_path]; exact ek, by rw [bare_at]; exact em⟩)
  rw [entries_len, entries_len, bare_len, bare_len] at h1
  exact h1
/-- Then what is new, each below what is there. -/
theorem run_adds {a b t : List Ln} (hb : RightT b) (ht : RightT t) (hm : ∀ x, x ∈ entries t ↔ x ∈ entries a ∧ isIn b x.1) : ∀ k, k ≤ (entries b).length → ∃ u, RunOk t (addsL a ((entries b).take k)) u ∧ RightT u ∧ ∀ x, x ∈ entries u ↔ x ∈ entries t ∨ (x ∈ (entries b).take k ∧ ¬ isIn a x.1)
  | 0, _ => ⟨t, rfl, ht, fun x => ⟨.inl, fun h => by
      rcases h with h | ⟨h, _⟩
      · exact h
      · simp at h⟩⟩
  | k + 1, hk => by
    obtain ⟨u, h1, h2, h3⟩ := run_adds hb ht hm k (by omega)
    have hkl : k < (entries b).length := by omega
    obtain ⟨z, hz⟩ : ∃ z, (entries b)[k] = z := ⟨_, rfl⟩
    have hzb : z ∈ entries b := hz ▸ List.getElem_mem hkl
    rw [List.take_succ_eq_append_getElem hkl, hz, addsL_next]
    cases hg : inB a z.1 with
    | true =>
      refine ⟨u, by rw [if_neg (by simp), List.append_nil]; exact h1, h2, fun x => ?_⟩
      rw [h3 x, List.mem_append, List.mem_singleton]
      constructor
      · rintro (e | ⟨e1, e2⟩)
        · exact .inl e
        · exact .inr ⟨.inl e1, e2⟩
      · rintro (e | ⟨e1 | e1, e2⟩)
        · exact .inl e
        · exact .inr ⟨e1, e2⟩
        · rw [e1] at e2; exact absurd (inB_yes.1 hg) e2
    | false =>
      have hza := inB_no.1 hg
      have hkb : k < b.length := by rw [entries_len] at hkl; exact hkl
      have ez : z = (pathL b k, (at_ b k).mark) := by rw [← hz, entries_at b k hkb]
      obtain ⟨up, w, ep⟩ := snoc_of (RightN.in_ne (isIn_of hzb))
      have hno : ∀ i, i < u.length → pathL u i ≠ up ++ [w] := by
        intro i hi e
        rcases (h3 (pathL u i, (at_ u i).mark)).1 ((mem_entries u _ _).2 ⟨i, hi, rfl, rfl⟩) with h | ⟨h, _⟩
        · exact hza (by rw [ep, ← e]; exact isIn_of ((hm _).1 h).1)
        · obtain ⟨j, hj, ej⟩ := List.getElem_of_mem h
          rw [List.length_take] at hj
          rw [List.getElem_take] at ej
          have := hb.sorted j k hkl (by omega)
          rw [ej, hz, ep] at this
          have e2 : (pathL u i, (at_ u i).mark).1 = up ++ [w] := e
          rw [e2, pless_irr] at this
          cases this
      have hop : Open u up := by
        by_cases h0 : up = []
        · exact .inl h0
        · have hup : isIn b up := hb.in_pre h0 (isIn_of hzb) (by rw [ep]; exact pre_app _ _)
          obtain ⟨j, hj, ej⟩ := hup
          by_cases hia : isIn a up
          · obtain ⟨m, hm2⟩ := isIn_entries.1 hia
            obtain ⟨i, hi, e, _⟩ := (mem_entries u up m).1 ((h3 (up, m)).2 (.inl ((hm (up, m)).2 ⟨hm2, ⟨j, hj, ej⟩⟩)))
            exact .inr ⟨i, hi, e⟩
          · have hjk : j < k := by
              rcases Nat.lt_trichotomy j k with h | h | h
              · exact h
              · rw [h] at ej
                have e3 : z.1 = up := by rw [ez]; exact ej
                rw [ep] at e3
                have := congrArg List.length e3
                simp at this
              · have h5 := hb.path_less (i := k) j h hj
                have e3 : pathL b k = up ++ [w] := by rw [← ep, ez]
                rw [e3, ej] at h5
                have h6 := pless_more up [w] (by simp)
                rw [pless_asymm h6] at h5
                cases h5
            have hmem : (up, (at_ b j).mark) ∈ (entries b).take k := by
              rw [List.mem_take_iff_getElem]
              refine ⟨j, by rw [entries_len]; omega, ?_⟩
              rw [entries_at b j hj, ej]
            obtain ⟨i, hi, e, _⟩ := (mem_entries u up _).1 ((h3 (up, (at_ b j).mark)).2 (.inr ⟨hmem, hia⟩))
            exact .inr ⟨i, hi, e⟩
      have hdeep := S.RightN.path_deep hb hkb
      have hlong := S.RightN.path_long hb k k (Nat.le_refl _) hkb
      have e3 : pathL b k = up ++ [w] := by rw [← ep, ez]
      rw [e3] at hdeep hlong
      have hmk := hb.mark k hkb
      have ezm : z.2 = (at_ b k).mark := by rw [ez]
      have hdl : up.length < 16 := by rw [List.length_append, List.length_singleton] at hdeep; omega
      have hu201 : RightN 201 u := h2.mono (by have := h2.len; omega)
      obtain ⟨p1, p2⟩ := hu201.putL (m := z.2) hop hno (by have := h2.len; omega) hdl (hlong w (by simp)) (by rw [ezm]; exact hmk)
      have hlen : (putL u up w z.2).length ≤ b.length := fewer p1 hb (fun p hp => by
        obtain ⟨m, hm2⟩ := isIn_entries.1 hp
        rcases (p2 (p, m)).1 hm2 with e | e
        · have e4 : p = up ++ [w] := congrArg Prod.fst e
          rw [e4, ← ep]; exact isIn_of hzb
        · rcases (h3 (p, m)).1 e with h | ⟨h, _⟩
          · exact ((hm _).1 h).2
          · exact isIn_of (x := (p, m)) (List.mem_of_mem_take h))
      rw [putL_len] at hlen
      have hb200 := hb.len
      refine ⟨putL u up w z.2, ?_, p1.mono (by rw [putL_len]; omega), fun x => ?_⟩
      · rw [if_pos rfl]
        exact run_snoc h1 ⟨by show 0 ≤ z.2 ∧ z.2 ≤ 3; rw [ezm]; exact hmk, .inr (.inl ⟨rfl, by omega, up, w, ep, hop, hno, hlong, hdeep.2, rfl⟩)⟩
      · rw [p2 x, h3 x, List.mem_append, List.mem_singleton, ← ep]
        constructor
        · rintro (e | e | ⟨e1, e2⟩)
          · have e4 : x = z := e
            exact .inr ⟨.inr e4, by rw [e4]; exact hza⟩
          · exact .inl e
          · exact .inr ⟨.inl e1, e2⟩
        · rintro (e | ⟨e1 | e1, e2⟩)
          · exact .inr (.inl e)
          · exact .inr (.inr ⟨e1, e2⟩)
          · exact .inl e1
/-- Then the marks. -/
theorem run_marks {a b t : List Ln} (ha : RightT a) (hb : RightT b) (ht : RightT t) (hm : ∀ x, x ∈ entries t ↔ (x ∈ entries a ∧ isIn b x.1) ∨ (x ∈ entries b ∧ ¬ isIn a x.1)) : ∀ k, k ≤ (entries b).length → ∃ u, RunOk t (marksL a ((entries b).take k)) u ∧ RightT u ∧ ∀ x, x ∈ entries u ↔ x ∈ (entries b).take k ∨ (x ∈ entries t ∧ ∀ y ∈ (entries b).take k, y.1 ≠ x.1)
  | 0, _ => ⟨t, rfl, ht, fun x => ⟨fun h => .inr ⟨h, fun y hy => by simp at hy⟩, fun h => by
      rcases h with h | h
      · simp at h
      · exact h.1⟩⟩
  | k + 1, hk => by
    obtain ⟨u, h1, h2, h3⟩ := run_marks ha hb ht hm k (by omega)
    have hkl : k < (entries b).length := by omega
    have hkb : k < b.length := by rw [entries_len] at hkl; exact hkl
    obtain ⟨z, hz⟩ : ∃ z, (entries b)[k] = z := ⟨_, rfl⟩
    have hzb : z ∈ entries b := hz ▸ List.getElem_mem hkl
    have hnew : ∀ y ∈ (entries b).take k, y.1 ≠ z.1 := by
      intro y hy e
      obtain ⟨j, hj, ej⟩ := List.getElem_of_mem hy
      rw [List.length_take] at hj
      rw [List.getElem_take] at ej
      have := hb.sorted j k hkl (by omega)
      rw [ej, hz, e, pless_irr] at this
      cases this
    rw [List.take_succ_eq_append_getElem hkl, hz, marksL_next]
    cases hg : markB a z with
    | false =>
      -- it has its mark
      have hzt : z ∈ entries t := by
        refine (hm z).2 ?_
        by_cases hia : isIn a z.1
        · refine .inl ⟨?_, isIn_of hzb⟩
          unfold markB at hg
          rw [inB_yes.2 hia, Bool.true_and, bne_eq_false_iff_eq] at hg
          obtain ⟨m, hm2⟩ := isIn_entries.1 hia
          have := ha.mark_of hm2
          rw [hg] at this
          have e : m = z.2 := this.symm
          rw [e] at hm2
          exact hm2
        · exact .inr ⟨hzb, hia⟩
      refine ⟨u, by rw [if_neg (by simp), List.append_nil]; exact h1, h2, fun x => ?_⟩
      rw [h3 x, List.mem_append, List.mem_singleton]
      constructor
      · rintro (e | ⟨e1, e2⟩)
        · exact .inl (.inl e)
        · by_cases he : x.1 = z.1
          · have e4 : x = z := Prod.ext he (by
              have : (z.1, x.2) ∈ entries t := by rw [← he]; exact e1
              exact ht.one_mark this hzt)
            exact .inl (.inr e4)
          · refine .inr ⟨e1, fun y hy => ?_⟩
            rcases List.mem_append.1 hy with hy | hy
            · exact e2 y hy
            · rw [List.mem_singleton.1 hy]; exact fun e => he e.symm
      · rintro ((e | e) | ⟨e1, e2⟩)
        · exact .inl e
        · rw [e]; exact .inr ⟨hzt, hnew⟩
        · exact .inr ⟨e1, fun y hy => e2 y (List.mem_append_left _ hy)⟩
    | true =>
      unfold markB at hg
      rw [Bool.and_eq_true, inB_yes] at hg
      obtain ⟨m, hm2⟩ := isIn_entries.1 hg.1
      have hzu : (z.1, m) ∈ entries u := (h3 _).2 (.inr ⟨(hm (z.1, m)).2 (.inl ⟨hm2, (isIn_of hzb : isIn b z.1)⟩), hnew⟩)
      obtain ⟨i, hi, ei, _⟩ := (mem_entries u z.1 m).1 hzu
      have hmk := hb.mark k hkb
      have ezm : z.2 = (at_ b k).mark := by rw [← hz, entries_at b k hkb]
      refine ⟨S.setM u i z.2, ?_, S.RightT.setM h2 hi (by rw [ezm]; exact hmk), fun x => ?_⟩
      · rw [if_pos rfl]
        exact run_snoc h1 ⟨by show 0 ≤ z.2 ∧ z.2 ≤ 3; rw [ezm]; exact hmk, .inr (.inr ⟨rfl, i, hi, ei, rfl⟩)⟩
      · rw [mark_entries h2 hi, ei, h3 x, List.mem_append, List.mem_singleton]
        constructor
        · rintro (⟨e | ⟨e1, e2⟩, e3⟩ | e)
          · exact .inl (.inl e)
          · refine .inr ⟨e1, fun y hy => ?_⟩
            rcases List.mem_append.1 hy with hy | hy
            · exact e2 y hy
            · rw [List.mem_singleton.1 hy]; exact fun e => e3 e.symm
          · exact .inl (.inr e)
        · rintro ((e | e) | ⟨e1, e2⟩)
          · exact .inl ⟨.inl e, hnew x e⟩
          · exact .inr e
          · exact .inl ⟨.inr ⟨e1, fun y hy => e2 y (List.mem_append_left _ hy)⟩, fun e => e2 z (List.mem_append_right _ (by simp)) e.symm⟩
/-- The first tree, with the difference applied, is the second one. -/
theorem diff_runs {a b : List Ln} (ha : RightT a) (hb : RightT b) : RunOk a (diffL a b) b := by
  obtain ⟨t, g1, g2, g3⟩ := run_gone ha hb (entries a).length (Nat.le_refl _)
  rw [List.take_length] at g1 g3
  have g4 : ∀ x, x ∈ entries t ↔ x ∈ entries a ∧ isIn b x.1 := fun x => by rw [g3 x, gone_left ha hb x]
  obtain ⟨u, a1, a2, a3⟩ := run_adds hb g2 g4 (entries b).length (Nat.le_refl _)
  rw [List.take_length] at a1 a3
  have a4 : ∀ x, x ∈ entries u ↔ (x ∈ entries a ∧ isIn b x.1) ∨ (x ∈ entries b ∧ ¬ isIn a x.1) := fun x => by rw [a3 x, g4 x]
  obtain ⟨v, m1, m2, m3⟩ := run_marks ha hb a2 a4 (entries b).length (Nat.le_refl _)
  rw [List.take_length] at m1 m3
  have e : v = b := RightN.ext m2 hb fun x => by
    rw [m3 x]
    constructor
    · rintro (h | ⟨h1, h2⟩)
      · exact h
      · rcases (a4 x).1 h1 with ⟨_, h⟩ | ⟨h, _⟩
        · obtain ⟨m, hm⟩ := isIn_entries.1 h
          exact absurd rfl (h2 (x.1, m) hm)
        · exact h
    · exact .inl
  rw [e] at m1
  exact run_app (run_app g1 a1) m1
/-- There is none just between equal trees. -/
theorem diff_none {a b : List Ln} (ha : RightT a) (hb : RightT b) : diffL a b = [] ↔ a = b := by
  constructor
  · intro h
    have := diff_runs ha hb
    rw [h] at this
    exact this
  · rintro rfl
    have h1 : goneL a (entries a) = [] := by
      unfold goneL
      rw [List.filter_eq_nil_iff.2 fun x hx => by unfold goneB; rw [inB_yes.2 (isIn_of hx)]; simp]
      rfl
    have h2 : addsL a (entries a) = [] := by
      unfold addsL
      rw [List.filter_eq_nil_iff.2 fun x hx => by rw [inB_yes.2 (isIn_of hx)]; simp]
      rfl
    have h3 : marksL a (entries a) = [] := by
      unfold marksL
      rw [List.filter_eq_nil_iff.2 fun x hx => by unfold markB; rw [ha.mark_of hx]; simp]
      rfl
    unfold diffL
    rw [h1, h2, h3]; rfl
end Go.Proofs.Ytkifapbiimlafaa.T

namespace Go.Proofs.Ytkifapbiimlafaa.T

theorem mem_gone {b : List Ln} {l : List (Pth × Int)} {c : Chg} : c ∈ goneL b l ↔ ∃ x ∈ l, goneB b x.1 = true ∧ c = ⟨1, x.1, 0⟩ := by
  unfold goneL
  rw [List.mem_map]
  constructor
  · rintro ⟨x, hx, rfl⟩
    obtain ⟨h1, h2⟩ := List.mem_filter.1 hx
    exact ⟨x, h1, h2, rfl⟩
  · rintro ⟨x, h1, h2, rfl⟩
    exact ⟨x, List.mem_filter.2 ⟨h1, h2⟩, rfl⟩
theorem mem_adds {a : List Ln} {l : List (Pth × Int)} {c : Chg} : c ∈ addsL a l ↔ ∃ x ∈ l, ¬ isIn a x.1 ∧ c = ⟨2, x.1, x.2⟩ := by
  unfold addsL
  rw [List.mem_map]
  constructor
  · rintro ⟨x, hx, rfl⟩
    obtain ⟨h1, h2⟩ := List.mem_filter.1 hx
    exact ⟨x, h1, inB_no.1 (by simpa using h2), rfl⟩
  · rintro ⟨x, h1, h2, rfl⟩
    exact ⟨x, List.mem_filter.2 ⟨h1, by rw [inB_no.2 h2]; rfl⟩, rfl⟩
theorem mem_marks {a : List Ln} {l : List (Pth × Int)} {c : Chg} : c ∈ marksL a l ↔ ∃ x ∈ l, markB a x = true ∧ c = ⟨3, x.1, x.2⟩ := by
  unfold marksL
  rw [List.mem_map]
  constructor
  · rintro ⟨x, hx, rfl⟩
    obtain ⟨h1, h2⟩ := List.mem_filter.1 hx
    exact ⟨x, h1, h2, rfl⟩
  · rintro ⟨x, h1, h2, rfl⟩
    exact ⟨x, List.mem_filter.2 ⟨h1, h2⟩, rfl⟩
theorem gone_no {b : List Ln} {p : Pth} (h : goneB b p = true) : ¬ isIn b p := by
  unfold goneB at h
  rw [Bool.and_eq_true, Bool.not_eq_true', inB_no] at h
  exact h.1
theorem mark_in {a : List Ln} {x : Pth × Int} (h : markB a x = true) : isIn a x.1 := by
  unfold markB at h
  rw [Bool.and_eq_true, inB_yes] at h
  exact h.1
/-- Paths of a part of a tree's lines are unlike. -/
theorem paths_apart {N : Nat} {t : List Ln} (h : RightN N t) (f : Pth × Int → Bool) (g : Pth × Int → Chg) (hg : ∀ x, (g x).path = x.1) : (((entries t).filter f).map g).Pairwise fun x y => x.path ≠ y.path := by
  rw [List.pairwise_map]
  refine List.Pairwise.imp ?_ (((sorted_iff _).1 h.sorted).filter f)
  intro x y hxy e
  rw [hg, hg] at e
  rw [e, pless_irr] at hxy
  cases hxy
/-- No path stands twice. -/
theorem diff_apart {a b : List Ln} (ha : RightT a) (hb : RightT b) : (diffL a b).Pairwise fun x y => x.path ≠ y.path := by
  unfold diffL
  rw [List.pairwise_append, List.pairwise_append]
  refine ⟨⟨paths_apart ha _ _ fun _ => rfl, paths_apart hb _ _ fun _ => rfl, ?_⟩, paths_apart hb _ _ fun _ => rfl, ?_⟩
  · intro x hx y hy e
    obtain ⟨u, hu, hg, rfl⟩ := mem_gone.1 hx
    obtain ⟨v, hv, hg2, rfl⟩ := mem_adds.1 hy
    have e2 : u.1 = v.1 := e
    exact gone_no hg (by rw [e2]; exact isIn_of hv)
  · intro x hx y hy e
    obtain ⟨v, hv, hg2, rfl⟩ := mem_marks.1 hy
    rcases List.mem_append.1 hx with hx | hx
    · obtain ⟨u, hu, hg, rfl⟩ := mem_gone.1 hx
      have e2 : u.1 = v.1 := e
      exact gone_no hg (by rw [e2]; exact isIn_of hv)
    · obtain ⟨u, hu, hg, rfl⟩ := mem_adds.1 hx
      have e2 : u.1 = v.1 := e
      exact hg (by rw [e2]; exact mark_in hg2)
/-- None stands under one that is gone. -/
theorem diff_under {a b : List Ln} (_ha : RightT a) (hb : RightT b) {x y : Chg} (hx : x ∈ diffL a b) (hy : y ∈ diffL a b) (hk : x.kind = 1) (hp : pre x.path y.path) : x.path = y.path := by
  unfold diffL at hx hy
  rw [List.mem_append, List.mem_append] at hx hy
  rcases hx with (hx | hx) | hx
  · obtain ⟨u, hu, hg, rfl⟩ := mem_gone.1 hx
    have hp2 : pre u.1 y.path := hp
    show u.1 = y.path
    have hune : u.1 ≠ [] := RightN.in_ne (isIn_of hu)
    rcases hy with (hy | hy) | hy
    · obtain ⟨v, hv, hg2, rfl⟩ := mem_gone.1 hy
      have hp3 : pre u.1 v.1 := hp2
      show u.1 = v.1
      refine Classical.byContradiction fun hne => ?_
      have hl : u.1.length < v.1.length := by
        rcases Nat.lt_or_ge u.1.length v.1.length with h | h
        · exact h
        · have := hp3
          unfold pre at this
          rw [List.take_of_length_le h] at this
          exact absurd this.symm hne
      have hpd : pre u.1 v.1.dropLast := by
        rw [List.dropLast_eq_take]
        exact pre_take hp3 (by omega)
      unfold goneB at hg2
      rw [Bool.and_eq_true, Bool.or_eq_true, Bool.not_eq_true', decide_eq_true_eq, inB_no, inB_yes] at hg2
      rcases hg2.2 with h0 | h0
      · have := pre_len hpd
        rw [h0] at this
        exact hune (List.eq_nil_of_length_eq_zero (by simpa using this))
      · exact gone_no hg (hb.in_pre hune h0 hpd)
    · obtain ⟨v, hv, _, rfl⟩ := mem_adds.1 hy
      exact absurd (hb.in_pre hune (isIn_of hv) hp2) (gone_no hg)
    · obtain ⟨v, hv, _, rfl⟩ := mem_marks.1 hy
      exact absurd (hb.in_pre hune (isIn_of hv) hp2) (gone_no hg)
  · obtain ⟨u, hu, hg, rfl⟩ := mem_adds.1 hx
    exact absurd (show (2 : Int) = 1 from hk) (by decide)
  · obtain ⟨u, hu, hg, rfl⟩ := mem_marks.1 hx
    exact absurd (show (3 : Int) = 1 from hk) (by decide)
theorem filter_two {α : Type} (f g : α → Bool) (h : ∀ x, f x = true → g x = false) : ∀ l : List α, (l.filter f).length + (l.filter g).length ≤ l.length
  | [] => Nat.le_refl _
  | x :: l => by
    have ih := filter_two f g h l
    rw [List.filter_cons, List.filter_cons, List.length_cons]
    have hx := h x
    cases hf : f x <;> cases hg : g x
    · simp; omega
    · simp; omega
    · simp; omega
    · rw [hx hf] at hg; cases hg
theorem diff_len (a b : List Ln) : (diffL a b).length ≤ a.length + b.length := by
  unfold diffL goneL addsL marksL
  rw [List.length_append, List.length_append, List.length_map, List.length_map, List.length_map]
  have h1 := List.length_filter_le (fun x => goneB b x.1) (entries a)
  have h2 := filter_two (fun x : Pth × Int => !(inB a x.1)) (fun x => markB a x) (fun x hx => by
    unfold markB
    simp at hx
    rw [hx]; rfl) (entries b)
  rw [entries_len] at h1 h2
  omega
/-- A change's path and mark are good ones. -/
theorem diff_good {a b : List Ln} (ha : RightT a) (hb : RightT b) {c : Chg} (hc : c ∈ diffL a b) : (1 ≤ c.kind ∧ c.kind ≤ 3) ∧ (0 ≤ c.mark ∧ c.mark ≤ 3) ∧ (0 < c.path.length ∧ c.path.length ≤ 16) ∧ ∀ w ∈ c.path, w.length ≤ 40 := by
  have good : ∀ {t : List Ln}, RightT t → ∀ {x : Pth × Int}, x ∈ entries t → (0 ≤ x.2 ∧ x.2 ≤ 3) ∧ (0 < x.1.length ∧ x.1.length ≤ 16) ∧ ∀ w ∈ x.1, w.length ≤ 40 := by
    intro t ht x hx
    obtain ⟨i, hi, e, em⟩ := (mem_entries t x.1 x.2).1 hx
    rw [← e, ← em]
    exact ⟨ht.mark i hi, S.RightN.path_deep ht hi, S.RightN.path_long ht i i (Nat.le_refl _) hi⟩
  unfold diffL at hc
  rw [List.mem_append, List.mem_append] at hc
  rcases hc with (hc | hc) | hc
  · obtain ⟨u, hu, _, rfl⟩ := mem_gone.1 hc
    have := good ha hu
    exact ⟨(by decide : (1 : Int) ≤ 1 ∧ (1 : Int) ≤ 3), (by decide : (0 : Int) ≤ 0 ∧ (0 : Int) ≤ 3), this.2⟩
  · obtain ⟨u, hu, _, rfl⟩ := mem_adds.1 hc
    exact ⟨(by decide : (1 : Int) ≤ 2 ∧ (2 : Int) ≤ 3), good hb hu⟩
  · obtain ⟨u, hu, _, rfl⟩ := mem_marks.1 hc
    exact ⟨(by decide : (1 : Int) ≤ 3 ∧ (3 : Int) ≤ 3), good hb hu⟩
/-- A path that is added is told by as many Adds as lines are new. -/
theorem diff_step {t : List Ln} (h : RightT t) {p : Pth} (hp : p.length ≤ 16) (hw : ∀ w ∈ p, w.length ≤ 40) (h200 : (addL t p).length ≤ 200) :
    ∃ n, n ≤ p.length ∧ (addL t p).length = t.length + (p.length - n) ∧ diffL t (addL t p) = (List.range (p.length - n)).map fun i => ⟨2, p.take (n + i + 1), 0⟩ := by
  have hR := add_right h hp hw h200
  have hm := (add_is h hp hw).mem
  have hin : ∀ q, isIn t q → isIn (addL t p) q := fun q hq => by
    obtain ⟨m, hm2⟩ := isIn_entries.1 hq
    exact isIn_of ((hm (q, m)).2 (.inl hm2))
  have hgone : goneL (addL t p) (entries t) = [] := by
    unfold goneL
    rw [List.filter_eq_nil_iff.2 fun x hx => by unfold goneB; rw [inB_yes.2 (hin _ (isIn_of hx))]; simp]
    rfl
  have hmarks : marksL t (entries (addL t p)) = [] := by
    unfold marksL
    rw [List.filter_eq_nil_iff.2 fun x hx => by
      unfold markB
      rcases (hm x).1 hx with h1 | ⟨j, _, rfl, h2⟩
      · rw [h.mark_of h1]; simp
      · rw [inB_no.2 fun ⟨i, hi, e⟩ => h2 i hi e]; simp]
    rfl
  have hle := known_le t p p.length
  refine ⟨knownN t p p.length, hle, add_len h hp hw, ?_⟩
  unfold diffL
  rw [hgone, hmarks, List.nil_append, List.append_nil]
  rcases Nat.eq_or_lt_of_le hle with e | hlt
  · rw [e, Nat.sub_self, add_known h hp hw e]
    unfold addsL
    rw [List.filter_eq_nil_iff.2 fun x hx => by rw [inB_yes.2 (isIn_of hx)]; simp]
    rfl
  · obtain ⟨q1, q2⟩ := add_placed h hp hw rfl hlt rfl
    obtain ⟨n, hn⟩ : ∃ n, knownN t p p.length = n := ⟨_, rfl⟩
    rw [hn] at q1 q2 hlt ⊢
    have ho := known_open t p p.length
    have hno := known_no t p p.length
    rw [hn] at ho hno
    obtain ⟨hu, hpi⟩ := ho.up h
    have hq := take_next p n hlt
    obtain ⟨_, r2, r3⟩ := h.place hu (w := p.getD n []) (fun c hc hcu e => by
      refine hno (n + 1) (by omega) (by omega) c hc ?_
      rw [path_under t c, hcu, hpi, e, hq])
    rw [hpi, hq] at r2 r3
    have hg := fresh_good h hp hw q1 ho r2 r3 (p.length - n) (by omega)
    obtain ⟨P, hP⟩ : ∃ P, placeTo t (p.getD n []) (findI t (p.take n) + 1).toNat (kidsL t (findI t (p.take n))) = P := ⟨_, rfl⟩
    rw [hP] at q1 q2 hg
    have e : addL t p = ofP ((entries t).take P ++ freshP p n (p.length - n) ++ (entries t).drop P) := by
      rw [← q2, ← ofP_fresh p n (p.length - n) (by omega)]
      have e1 := h.ofP_entries
      unfold ofP at e1 ⊢
      rw [List.map_append, List.map_append, List.map_take, List.map_drop, e1]
    rw [e, hg.entries]
    have f1 : ∀ l : List (Pth × Int), (∀ x ∈ l, x ∈ entries t) → addsL t l = [] := by
      intro l hl
      unfold addsL
      rw [List.filter_eq_nil_iff.2 fun x hx => by rw [inB_yes.2 (isIn_of (hl x hx))]; simp]
      rfl
    have f2 : addsL t (freshP p n (p.length - n)) = (List.range (p.length - n)).map fun i => ⟨2, p.take (n + i + 1), 0⟩ := by
      unfold addsL
      rw [List.filter_eq_self.2 fun x hx => by
        obtain ⟨j, hj, rfl⟩ := (mem_fresh ..).1 hx
        rw [inB_no.2 fun ⟨i, hi, e⟩ => hno (n + j + 1) (by omega) (by omega) i hi e]; rfl]
      unfold freshP
      rw [List.map_map]
      rfl
    have f3 : ∀ l m : List (Pth × Int), addsL t (l ++ m) = addsL t l ++ addsL t m := by
      intro l m
      unfold addsL
      rw [List.filter_append, List.map_append]
    rw [f3, f3, f1 _ fun x hx => List.mem_of_mem_take hx, f1 _ fun x hx => List.mem_of_mem_drop hx, f2, List.nil_append, List.append_nil]

/-- The digits of a number. -/
def decL (n : Nat) : List UInt8 := if n < 10 then [UInt8.ofNat (48 + n)] else decL (n / 10) ++ [UInt8.ofNat (48 + n % 10)]
termination_by n
decreasing_by omega
theorem decL_small {n : Nat} (h : n < 10) : decL n = [UInt8.ofNat (48 + n)] := by rw [decL, if_pos h]
theorem decL_big {n : Nat} (h : 10 ≤ n) : decL n = decL (n / 10) ++ [UInt8.ofNat (48 + n % 10)] := by rw [decL, if_neg (by omega)]
theorem decL_len : ∀ (k n : Nat), n < 10 ^ (k + 1) → (decL n).length ≤ k + 1
  | 0, n, h => by rw [decL_small (by simpa using h)]; simp
  | k + 1, n, h => by
    rcases Nat.lt_or_ge n 10 with h1 | h1
    · rw [decL_small h1]; simp
    · rw [decL_big h1, List.length_append, List.length_singleton]
      have := decL_len k (n / 10) (by rw [Nat.pow_succ] at h; omega)
      omega
/-- The text of a change, of changes. -/
def signD (k : Int) : UInt8 := if k = 1 then 45 else if k = 2 then 43 else if k = 3 then 33 else 63
def wordD (w : List UInt8) : List UInt8 := if w.length ≤ 40 then W.quoteL w else []
def wordsD (p : Pth) : List UInt8 := p.flatMap fun w => 32 :: wordD w
def toldD (c : Chg) : Bool := decide (c.kind < 1) || decide (2 < c.kind) || (c.kind == 2 && c.mark != 0)
def rowD (c : Chg) : List UInt8 := signD c.kind :: wordsD c.path ++ (if toldD c = true then [32, 40] ++ decL c.mark.toNat ++ [41] else []) ++ [10]
def textD (l : List Chg) : List UInt8 := l.flatMap rowD
theorem wordsD_snoc (p : Pth) (w : List UInt8) : wordsD (p ++ [w]) = wordsD p ++ 32 :: wordD w := by simp [wordsD]
theorem textD_snoc (l : List Chg) (c : Chg) : textD (l ++ [c]) = textD l ++ rowD c := by simp [textD]
theorem wordD_len (w : List UInt8) : (wordD w).length ≤ 162 := by
  unfold wordD
  by_cases h : w.length ≤ 40
  · rw [if_pos h]
    have := (W.quote_len w).2
    omega
  · rw [if_neg h]; simp
theorem wordsD_len (p : Pth) : (wordsD p).length ≤ 163 * p.length := by
  induction p with
  | nil => simp [wordsD]
  | cons w p ih =>
    have e : wordsD (w :: p) = 32 :: wordD w ++ wordsD p := by simp [wordsD]
    have := wordD_len w
    rw [e, List.length_append, List.length_cons, List.length_cons]
    omega
end Go.Proofs.Ytkifapbiimlafaa.T

namespace Go.Proofs.Ytkifapbiimlafaa
namespace T
open Go

theorem add_put {t : List Ln} (h : RightT t) {up : Pth} {w : List UInt8} (ho : Open t up) (hn : ∀ i, i < t.length → pathL t i ≠ up ++ [w]) : addL t (up ++ [w]) = putL t up w 0 := by
  have key : ∀ n, n ≤ up.length → addTo t (up ++ [w]) n = t := by
    intro n
    induction n with
    | zero => intro _; rfl
    | succ n ih =>
      intro hl
      have e := ih (by omega)
      show (if findI (addTo t (up ++ [w]) n) ((up ++ [w]).take (n + 1)) < 0 then putL (addTo t (up ++ [w]) n) ((up ++ [w]).take n) ((up ++ [w]).getD n []) 0 else addTo t (up ++ [w]) n) = t
      rw [e, if_neg]
      rw [List.take_append_of_le_length hl]
      rcases ho with rfl | ⟨i, hi, ei⟩
      · simp at hl
      · obtain ⟨k, hk, ek⟩ := h.path_take i i (n + 1) (Nat.le_refl _) hi (by omega) (by rw [ei]; exact hl)
        rw [ei] at ek
        rw [findI_some h hk ek]; omega
  unfold addL
  rw [List.length_append, List.length_singleton]
  show (if findI (addTo t (up ++ [w]) up.length) ((up ++ [w]).take (up.length + 1)) < 0 then putL (addTo t (up ++ [w]) up.length) ((up ++ [w]).take up.length) ((up ++ [w]).getD up.length []) 0 else addTo t (up ++ [w]) up.length) = _
  rw [key _ (Nat.le_refl _), List.take_of_length_le (show (up ++ [w]).length ≤ up.length + 1 by simp), List.take_left, findI_none hn, if_pos (by omega)]
  congr 1
  simp [List.getD]
theorem put_mark {t : List Ln} (h : RightT t) {up : Pth} {w : List UInt8} (ho : Open t up) (hn : ∀ i, i < t.length → pathL t i ≠ up ++ [w]) (h200 : t.length < 200) (hdeep : up.length < 16) (hw : w.length ≤ 40) {m : Int} (hm : 0 ≤ m ∧ m ≤ 3)
    {i : Nat} (hi : i < (T.putL t up w 0).length) (hp : pathL (T.putL t up w 0) i = up ++ [w]) : S.setM (T.putL t up w 0) i m = T.putL t up w m := by
  obtain ⟨a1, a2⟩ := h.putL (m := 0) ho hn h200 hdeep hw ⟨by omega, by omega⟩
  obtain ⟨b1, b2⟩ := h.putL (m := m) ho hn h200 hdeep hw hm
  refine (S.RightT.setM a1 hi hm).ext b1 fun x => ?_
  rw [mark_entries a1 hi m x, hp, a2 x, b2 x]
  constructor
  · rintro (⟨h1 | h1, h2⟩ | h1)
    · subst h1; exact absurd rfl h2
    · exact .inr h1
    · exact .inl h1
  · rintro (h1 | h1)
    · exact .inr h1
    · refine .inl ⟨.inr h1, fun e => ?_⟩
      obtain ⟨k, hk, ek⟩ := isIn_of h1
      exact hn k hk (ek.trans e)
end T
end Go.Proofs.Ytkifapbiimlafaa
