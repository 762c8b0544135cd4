/-
  Plain laws of layer 7 (edit): what is locked; a tree without a part; a part under another word; a mark more or less. Condition: a tree, a path of one of its lines.
-/
import Derived.Test.YtgjnafnmdieniaaDoorPureL

namespace Go.Proofs.YtgjnafnmdieniaaDoor.T

/-- Does a path begin with another one? -/
def pre (p q : Pth) : Prop := q.take p.length = p
instance (p q : Pth) : Decidable (pre p q) := inferInstanceAs (Decidable (q.take p.length = p))
theorem pre_iff {p q : Pth} : pre p q ↔ ∃ s, q = p ++ s := by
  unfold pre
  constructor
  · intro h; exact ⟨q.drop p.length, by rw [← h, List.length_take]; conv => lhs; rw [← List.take_append_drop p.length q]
                                        rw [← h]; simp⟩
  · rintro ⟨s, rfl⟩; exact List.take_left
theorem pre_refl (p : Pth) : pre p p := List.take_length
theorem pre_app (p s : Pth) : pre p (p ++ s) := List.take_left
theorem pre_split {p q : Pth} (h : pre p q) : p ++ q.drop p.length = q := by
  conv => rhs; rw [← List.take_append_drop p.length q]
  rw [h]

/-- Is a line of the first n words, or fewer, Protect? -/
def keptL (t : List Ln) (p : Pth) : Nat → Bool
  | 0 => false
  | n + 1 => keptL t p n || decide (0 ≤ findI t (p.take (n + 1)) ∧ 1 < (at_ t (findI t (p.take (n + 1))).toNat).mark)
theorem kept_iff {N : Nat} {t : List Ln} (h : RightN N t) (p : Pth) : ∀ n, keptL t p n = true ↔ ∃ k m, 1 ≤ k ∧ k ≤ n ∧ (p.take k, m) ∈ entries t ∧ 1 < m
  | 0 => by
    constructor
    · intro e; cases e
    · rintro ⟨k, m, h1, h2, _⟩; omega
  | n + 1 => by
    unfold keptL
    rw [Bool.or_eq_true, kept_iff h p n, decide_eq_true_eq]
    constructor
    · rintro (⟨k, m, h1, h2, h3, h4⟩ | ⟨h1, h2⟩)
      · exact ⟨k, m, h1, by omega, h3, h4⟩
      · rcases findI_cases t (p.take (n + 1)) with ⟨e, _⟩ | ⟨i, hi, e, ep⟩
        · omega
        · rw [e, Int.toNat_natCast] at h2
          exact ⟨n + 1, _, by omega, Nat.le_refl _, (mem_entries t _ _).2 ⟨i, hi, ep, rfl⟩, h2⟩
    · rintro ⟨k, m, h1, h2, h3, h4⟩
      rcases Nat.lt_or_ge n k with h5 | h5
      · obtain rfl : k = n + 1 := by omega
        obtain ⟨i, hi, ep, em⟩ := (mem_entries t _ _).1 h3
        refine .inr ?_
        rw [findI_some h hi ep, Int.toNat_natCast, em]
        exact ⟨by omega, h4⟩
      · exact .inl ⟨k, m, h1, h5, h3, h4⟩
/-- A line stands in a part just if its path begins with that of the part. -/
theorem RightN.part_iff {N : Nat} {t : List Ln} (h : RightN N t) {a : Nat} (ha : a < t.length) {i : Nat} (hi : i < t.length) : (a ≤ i ∧ i < endL t a) ↔ pre (pathL t a) (pathL t i) := by
  rw [pre_iff]
  constructor
  · rintro ⟨h1, h2⟩; exact part_prefix ha i i (Nat.le_refl _) h1 h2
  · rintro ⟨s, hs⟩
    obtain ⟨g1, g2, g3, g4⟩ := end_spec t a ha
    have hai : a ≤ i := by
      rcases Nat.lt_or_ge i a with hlt | hge
      · have := h.path_less a hlt ha
        rw [hs] at this
        cases s with
        | nil => rw [List.append_nil, pless_irr] at this; cases this
        | cons w s => have h2 := pless_asymm (pless_more (pathL t a) (w :: s) (by simp)); rw [h2] at this; cases this
      · exact hge
    refine ⟨hai, ?_⟩
    rcases Nat.lt_or_ge i (endL t a) with hlt | hge
    · exact hlt
    · have he : endL t a < t.length := by omega
      have hx : pless (pathL t i) (pathL t (endL t a)) = true := by
        rw [hs]
        refine pless_off _ _ _ (h.path_less _ g1 he) ?_
        rintro ⟨x, hx⟩
        have l1 := h.path_len (endL t a) (endL t a) (Nat.le_refl _) he
        have l2 := h.path_len a a (Nat.le_refl _) ha
        have := g4 he
        rw [hx, List.length_append] at l1
        have hx0 : x = [] := List.eq_nil_of_length_eq_zero (by omega)
        rw [hx0, List.append_nil] at hx
        have := h.path_inj (max (endL t a) a) _ _ (Nat.le_max_left ..) (Nat.le_max_right ..) he ha hx
        omega
      rcases Nat.eq_or_lt_of_le hge with e | hlt
      · rw [e, pless_irr] at hx; cases hx
      · have := pless_trans _ _ _ hx (h.path_less i hlt hi)
        rw [pless_irr] at this; cases this
theorem mem_takeE {t : List Ln} {k : Nat} {x : Pth × Int} : x ∈ (entries t).take k ↔ ∃ i, i < k ∧ i < t.length ∧ x = (pathL t i, (at_ t i).mark) := by
  constructor
  · intro hx
    obtain ⟨i, hi, rfl⟩ := List.getElem_of_mem hx
    rw [List.length_take, entries_len] at hi
    exact ⟨i, by omega, by omega, by rw [List.getElem_take, entries_at t i (by omega)]⟩
  · rintro ⟨i, h1, h2, rfl⟩
    have hl : i < ((entries t).take k).length := by rw [List.length_take, entries_len]; omega
    have e : ((entries t).take k)[i] = (pathL t i, (at_ t i).mark) := by rw [List.getElem_take, entries_at t i h2]
    rw [← e]
    exact List.getElem_mem hl
theorem mem_dropE {t : List Ln} {k : Nat} {x : Pth × Int} : x ∈ (entries t).drop k ↔ ∃ i, k ≤ i ∧ i < t.length ∧ x = (pathL t i, (at_ t i).mark) := by
  constructor
  · intro hx
    obtain ⟨i, hi, rfl⟩ := List.getElem_of_mem hx
    rw [List.length_drop, entries_len] at hi
    exact ⟨k + i, by omega, by omega, by rw [List.getElem_drop, entries_at t (k + i) (by omega)]⟩
  · rintro ⟨i, h1, h2, rfl⟩
    have hl : i - k < ((entries t).drop k).length := by rw [List.length_drop, entries_len]; omega
    have e : ((entries t).drop k)[i - k] = (pathL t i, (at_ t i).mark) := by
      rw [List.getElem_drop, entries_at t (k + (i - k)) (by omega)]
      rw [show k + (i - k) = i by omega]
    rw [← e]
    exact List.getElem_mem hl
/-- A tree without a part: the paths that do not begin with its. -/
theorem RightN.cut_entries {N : Nat} {t : List Ln} (h : RightN N t) {a : Nat} (ha : a < t.length) : RightN N (cutL t a) ∧ ∀ x, x ∈ entries (cutL t a) ↔ x ∈ entries t ∧ ¬ pre (pathL t a) x.1 := by
  obtain ⟨g1, g2, g3, g4⟩ := end_spec t a ha
  have hmem : ∀ x, x ∈ (entries t).take a ++ (entries t).drop (endL t a) ↔ x ∈ entries t ∧ ¬ pre (pathL t a) x.1 := by
    intro x
    rw [List.mem_append, mem_takeE, mem_dropE]
    constructor
    · rintro (⟨i, h1, h2, rfl⟩ | ⟨i, h1, h2, rfl⟩)
      · exact ⟨(mem_entries t _ _).2 ⟨i, h2, rfl, rfl⟩, fun e => by have := (h.part_iff ha h2).2 e; omega⟩
      · exact ⟨(mem_entries t _ _).2 ⟨i, h2, rfl, rfl⟩, fun e => by have := (h.part_iff ha h2).2 e; omega⟩
    · rintro ⟨h1, h2⟩
      obtain ⟨i, hi, e1, e2⟩ := (mem_entries t x.1 x.2).1 h1
      have hn : ¬ (a ≤ i ∧ i < endL t a) := fun e => h2 (by rw [← e1]; exact (h.part_iff ha hi).1 e)
      have ex : x = (pathL t i, (at_ t i).mark) := by rw [e1, e2]
      rcases Nat.lt_or_ge i a with h3 | h3
      · exact .inl ⟨i, h3, hi, ex⟩
      · exact .inr ⟨i, by omega, hi, ex⟩
  have hg := h.good
  have hG : GoodP N ((entries t).take a ++ (entries t).drop (endL t a)) := by
    have hs := (sorted_iff _).1 hg.sorted
    refine ⟨?_, ?_, fun x hx => hg.ne x ((hmem x).1 hx).1, fun x hx => hg.deep x ((hmem x).1 hx).1, fun x hx => hg.long x ((hmem x).1 hx).1, fun x hx => hg.mark x ((hmem x).1 hx).1, fun x hx q w e hq => ?_⟩
    · have := hg.len
      rw [entries_len] at this
      rw [List.length_append, List.length_take, List.length_drop, entries_len]
      omega
    · rw [sorted_iff, List.pairwise_append]
      refine ⟨hs.sublist (List.take_sublist _ _), hs.sublist (List.drop_sublist _ _), fun x hx y hy => ?_⟩
      obtain ⟨i, h1, h2, rfl⟩ := mem_takeE.1 hx
      obtain ⟨j, h3, h4, rfl⟩ := mem_dropE.1 hy
      exact h.path_less j (by omega) h4
    · obtain ⟨h1, h2⟩ := (hmem x).1 hx
      obtain ⟨m, hm⟩ := hg.closed x h1 q w e hq
      refine ⟨m, (hmem _).2 ⟨hm, fun hp => h2 ?_⟩⟩
      obtain ⟨s, hs⟩ := pre_iff.1 hp
      rw [e]
      exact pre_iff.2 ⟨s ++ [w], by rw [← List.append_assoc, ← hs]⟩
  have e : ofP ((entries t).take a ++ (entries t).drop (endL t a)) = cutL t a := by
    have e1 := h.ofP_entries
    unfold ofP at e1 ⊢
    rw [List.map_append, List.map_take, List.map_drop, e1]; rfl
  rw [← e]
  exact ⟨hG.right, fun x => by rw [hG.entries]; exact hmem x⟩

/-- The lines of a part, put under a base, one by one. -/
def putStep (base : Pth) (u : List Ln) (x : Pth × Int) : List Ln := putL u (base ++ x.1).dropLast ((base ++ x.1).getLastD []) x.2
def putAll (base : Pth) (u : List Ln) (s : List (Pth × Int)) : List Ln := s.foldl (putStep base) u
theorem putAll_next (base : Pth) (u : List Ln) (s : List (Pth × Int)) (k : Nat) (h : k < s.length) : putAll base u (s.take (k + 1)) = putStep base (putAll base u (s.take k)) s[k] := by
  unfold putAll
  rw [List.take_succ_eq_append_getElem h, List.foldl_append]; rfl
/-- Paths that begin in a part, parents first. -/
structure PartOk (base : Pth) (s : List (Pth × Int)) : Prop where
  up : ∀ k (h : k < s.length), s[k].1 = [] ∨ ∃ j, ∃ _ : j < k, (s[j]'(by omega)).1 = s[k].1.dropLast
  inj : ∀ j k (_ : j < k) (h : k < s.length), (s[j]'(by omega)).1 ≠ s[k].1
  deep : ∀ x ∈ s, base.length + x.1.length ≤ 16
  long : ∀ x ∈ s, ∀ w ∈ x.1, w.length ≤ 40
  mark : ∀ x ∈ s, 0 ≤ x.2 ∧ x.2 ≤ 3
theorem put_part {N : Nat} {u : List Ln} (h : RightN N u) {up : Pth} {w : List UInt8} (hw : w.length ≤ 40) (hop : Open u up) (hno : ∀ i, i < u.length → pathL u i ≠ up ++ [w]) {s : List (Pth × Int)} (hs : PartOk (up ++ [w]) s) (hN : u.length + s.length ≤ N) :
    ∀ k, k ≤ s.length → RightN N (putAll (up ++ [w]) u (s.take k)) ∧ (putAll (up ++ [w]) u (s.take k)).length = u.length + k ∧ ∀ x, x ∈ entries (putAll (up ++ [w]) u (s.take k)) ↔ x ∈ entries u ∨ ∃ j, ∃ _ : j < k, ∃ hjs : j < s.length, x = (up ++ [w] ++ s[j].1, s[j].2)
  | 0, _ => ⟨h, rfl, fun x => ⟨.inl, fun hx => by
      rcases hx with hx | ⟨j, hj, _⟩
      · exact hx
      · omega⟩⟩
  | k + 1, hk => by
    obtain ⟨r1, r2, r3⟩ := put_part h hw hop hno hs hN k (by omega)
    have hks : k < s.length := by omega
    have hmem := List.getElem_mem hks
    rw [putAll_next _ _ _ _ hks]
    unfold putStep
    have hpath : (up ++ [w] ++ s[k].1).dropLast ++ [(up ++ [w] ++ s[k].1).getLastD []] = up ++ [w] ++ s[k].1 := by
      obtain ⟨q, v, e⟩ := snoc_of (p := up ++ [w] ++ s[k].1) (by simp)
      rw [e, List.dropLast_concat, last_snoc]
    have hbase : ∀ i, i < u.length → ∀ r, pathL u i ≠ up ++ [w] ++ r := by
      intro i hi r e
      obtain ⟨m, hm, em⟩ := h.path_take i i (up ++ [w]).length (Nat.le_refl _) hi (by simp) (by rw [e]; simp)
      exact hno m hm (by rw [em, e, List.take_left])
    have hopen : Open (putAll (up ++ [w]) u (s.take k)) (up ++ [w] ++ s[k].1).dropLast := by
      rcases hs.up k hks with e | ⟨j, hjk, e⟩
      · rw [e, List.append_nil, List.dropLast_concat]
        rcases hop with h0 | ⟨i, hi, ei⟩
        · exact .inl h0
        · obtain ⟨i2, h2, e2, _⟩ := (mem_entries _ _ _).1 ((r3 (up, (at_ u i).mark)).2 (.inl ((mem_entries u _ _).2 ⟨i, hi, ei, rfl⟩)))
          exact .inr ⟨i2, h2, e2⟩
      · by_cases hz : s[k].1 = []
        · exact absurd (by rw [hz] at e; exact e.trans (by rw [hz]; rfl)) (hs.inj j k hjk hks)
        · rw [List.dropLast_append_of_ne_nil hz, ← e]
          obtain ⟨i2, h2, e2, _⟩ := (mem_entries _ _ _).1 ((r3 (up ++ [w] ++ (s[j]'(by omega)).1, (s[j]'(by omega)).2)).2 (.inr ⟨j, hjk, by omega, rfl⟩))
          exact .inr ⟨i2, h2, e2⟩
    have hnew : ∀ i, i < (putAll (up ++ [w]) u (s.take k)).length → pathL (putAll (up ++ [w]) u (s.take k)) i ≠ (up ++ [w] ++ s[k].1).dropLast ++ [(up ++ [w] ++ s[k].1).getLastD []] := by
      intro i hi e
      rw [hpath] at e
      rcases (r3 _).1 ((mem_entries _ _ _).2 ⟨i, hi, e, rfl⟩) with hm | ⟨j, hj, hjs, e2⟩
      · obtain ⟨i2, h2, e2, _⟩ := (mem_entries u _ _).1 hm
        exact hbase i2 h2 _ e2
      · injection e2 with e2 _
        exact hs.inj j k hj hks (List.append_cancel_left e2).symm
    have hdeep := hs.deep _ hmem
    have hlast : ((up ++ [w] ++ s[k].1).getLastD []).length ≤ 40 := by
      by_cases hz : s[k].1 = []
      · rw [hz, List.append_nil, last_snoc]; exact hw
      · obtain ⟨q, v, e⟩ := snoc_of hz
        have hv : v.length ≤ 40 := hs.long _ hmem v (by rw [e]; simp)
        rw [e, ← List.append_assoc, last_snoc]; exact hv
    obtain ⟨q1, q2⟩ := r1.putL hopen hnew (by omega) (by rw [List.length_dropLast, List.length_append]; simp only [List.length_append, List.length_singleton] at hdeep ⊢; omega) hlast (hs.mark _ hmem)
    refine ⟨q1, by rw [putL_len]; omega, fun x => ?_⟩
    rw [q2 x, hpath, r3 x]
    constructor
    · rintro (e | e | ⟨j, hj, hjs, e⟩)
      · exact .inr ⟨k, by omega, hks, e⟩
      · exact .inl e
      · exact .inr ⟨j, by omega, hjs, e⟩
    · rintro (e | ⟨j, hj, hjs, e⟩)
      · exact .inr (.inl e)
      · by_cases hjk : j = k
        · subst hjk; exact .inl e
        · exact .inr (.inr ⟨j, by omega, hjs, e⟩)

/-- A part, as it stands below its line. -/
def partE (t : List Ln) (a : Nat) : List (Pth × Int) := (((entries t).drop a).take (endL t a - a)).map fun x => (x.1.drop (pathL t a).length, x.2)
theorem part_len {t : List Ln} {a : Nat} (ha : a < t.length) : (partE t a).length = endL t a - a := by
  have := (end_spec t a ha).2.1
  unfold partE; rw [List.length_map, List.length_take, List.length_drop, entries_len]; omega
theorem part_at {t : List Ln} {a k : Nat} (ha : a < t.length) (hk : k < (partE t a).length) : (partE t a)[k] = ((pathL t (a + k)).drop (pathL t a).length, (at_ t (a + k)).mark) := by
  have h1 := part_len ha
  have := (end_spec t a ha).2.1
  have e : (partE t a)[k]? = some ((pathL t (a + k)).drop (pathL t a).length, (at_ t (a + k)).mark) := by
    unfold partE
    rw [List.getElem?_map, List.getElem?_take_of_lt (by omega), List.getElem?_drop, List.getElem?_eq_getElem (by rw [entries_len]; omega), entries_at t (a + k) (by omega)]; rfl
  rw [List.getElem?_eq_getElem hk] at e
  exact Option.some.inj e
theorem mem_part {N : Nat} {t : List Ln} (h : RightN N t) {a : Nat} (ha : a < t.length) (x : Pth × Int) : x ∈ partE t a ↔ ∃ y ∈ entries t, pre (pathL t a) y.1 ∧ x = (y.1.drop (pathL t a).length, y.2) := by
  have hl := part_len ha
  have he := (end_spec t a ha).2.1
  constructor
  · intro hx
    obtain ⟨k, hk, rfl⟩ := List.getElem_of_mem hx
    rw [part_at ha hk]
    exact ⟨_, (mem_entries t _ _).2 ⟨a + k, by omega, rfl, rfl⟩, (h.part_iff ha (by omega)).1 ⟨by omega, by omega⟩, rfl⟩
  · rintro ⟨y, hy, hp, rfl⟩
    obtain ⟨i, hi, e1, e2⟩ := (mem_entries t y.1 y.2).1 hy
    rw [← e1] at hp
    obtain ⟨h1, h2⟩ := (h.part_iff ha hi).2 hp
    have hk : i - a < (partE t a).length := by omega
    have e := part_at ha hk
    rw [show a + (i - a) = i by omega, e1, e2] at e
    rw [← e]
    exact List.getElem_mem hk
theorem RightN.part_ok {N : Nat} {t : List Ln} (h : RightN N t) {a : Nat} (ha : a < t.length) {base : Pth} (hb : base.length = (pathL t a).length) : PartOk base (partE t a) := by
  have hl := part_len ha
  obtain ⟨g1, he, _⟩ := end_spec t a ha
  have hpre : ∀ k, k < (partE t a).length → pre (pathL t a) (pathL t (a + k)) := fun k hk => (h.part_iff ha (by omega)).1 ⟨by omega, by omega⟩
  refine ⟨fun k hk => ?_, fun j k hjk hk e => ?_, fun x hx => ?_, fun x hx w hw => ?_, fun x hx => ?_⟩
  · rw [part_at ha hk]
    have hs := pre_split (hpre k hk)
    show (pathL t (a + k)).drop (pathL t a).length = [] ∨ _
    by_cases hz : (pathL t (a + k)).drop (pathL t a).length = []
    · exact .inl hz
    · refine .inr ?_
      obtain ⟨r, v, er⟩ := snoc_of hz
      rw [er] at hs
      have hlen : 0 < (pathL t a ++ r).length := by have := List.length_pos_iff.2 (path_ne (t := t) (i := a)); rw [List.length_append]; omega
      obtain ⟨m, hm, em⟩ := h.path_take (a + k) (a + k) (pathL t a ++ r).length (Nat.le_refl _) (by omega) hlen (by rw [← hs]; simp)
      have em2 : pathL t m = pathL t a ++ r := by rw [em, ← hs, ← List.append_assoc, List.take_left]
      have hin := (h.part_iff ha hm).2 (by rw [em2]; exact pre_app _ _)
      have hmk : m < a + k := by
        rcases Nat.lt_or_ge m (a + k) with h1 | h1
        · exact h1
        · rcases Nat.eq_or_lt_of_le h1 with h2 | h2
          · rw [← h2, ← hs] at em2
            have := congrArg List.length em2
            simp at this
          · have := h.path_less m h2 hm
            rw [em2, ← hs, ← List.append_assoc] at this
            rw [pless_asymm (pless_more _ [v] (by simp))] at this
            cases this
      refine ⟨m - a, by omega, ?_⟩
      rw [part_at ha (show m - a < _ by omega), er, List.dropLast_concat]
      show (pathL t (a + (m - a))).drop _ = r
      rw [show a + (m - a) = m by omega, em2, List.drop_left]
  · rw [part_at ha hk, part_at ha (by omega)] at e
    have e2 : (pathL t (a + j)).drop (pathL t a).length = (pathL t (a + k)).drop (pathL t a).length := e
    have e3 : pathL t (a + j) = pathL t (a + k) := by rw [← pre_split (hpre k hk), ← e2, pre_split (hpre j (by omega))]
    have := h.path_inj (a + k) (a + j) (a + k) (by omega) (Nat.le_refl _) (by omega) (by omega) e3
    omega
  · obtain ⟨k, hk, rfl⟩ := List.getElem_of_mem hx
    rw [part_at ha hk]
    have h1 := h.path_len (a + k) (a + k) (Nat.le_refl _) (by omega)
    have h2 := h.deep (a + k) (by omega)
    show base.length + ((pathL t (a + k)).drop (pathL t a).length).length ≤ 16
    rw [hb, List.length_drop]
    have h3 := congrArg List.length (pre_split (hpre k hk))
    rw [List.length_append, List.length_drop] at h3
    omega
  · obtain ⟨k, hk, rfl⟩ := List.getElem_of_mem hx
    rw [part_at ha hk] at hw
    exact S.RightN.path_long h (a + k) (a + k) (Nat.le_refl _) (by omega) w (List.mem_of_mem_drop hw)
  · obtain ⟨k, hk, rfl⟩ := List.getElem_of_mem hx
    rw [part_at ha hk]
    exact h.mark (a + k) (by omega)
/-- A path under another last word. -/
def newP (p : Pth) (w : List UInt8) (q : Pth) : Pth := p.dropLast ++ [w] ++ q.drop p.length
/-- A part that stands under another word, too. -/
structure Copied (t : List Ln) (p : Pth) (w : List UInt8) (u : List Ln) : Prop where
  right : RightT u
  mem : ∀ x, x ∈ entries u ↔ x ∈ entries t ∨ ∃ y ∈ entries t, pre p y.1 ∧ x = (newP p w y.1, y.2)
/-- A part that stands under another word. -/
structure Moved (t : List Ln) (p : Pth) (w : List UInt8) (u : List Ln) : Prop where
  right : RightT u
  len : u.length = t.length
  mem : ∀ x, x ∈ entries u ↔ (x ∈ entries t ∧ ¬ pre p x.1) ∨ ∃ y ∈ entries t, pre p y.1 ∧ x = (newP p w y.1, y.2)
theorem path_up {t : List Ln} {N : Nat} (h : RightN N t) {a : Nat} (ha : a < t.length) : Open t (pathL t a).dropLast := by
  obtain ⟨q, v, e⟩ := snoc_of (path_ne (t := t) (i := a))
  rw [e, List.dropLast_concat]
  by_cases hq : q = []
  · exact .inl hq
  · obtain ⟨k, hk, ek⟩ := h.path_take a a q.length (Nat.le_refl _) ha (List.length_pos_iff.2 hq) (by rw [e]; simp)
    exact .inr ⟨k, hk, by rw [ek, e, List.take_left]⟩
theorem newP_len {p : Pth} (hp : p ≠ []) (w : List UInt8) : (p.dropLast ++ [w]).length = p.length := by
  have := List.length_pos_iff.2 hp
  rw [List.length_append, List.length_dropLast]; simp; omega
theorem copied_is {t : List Ln} (h : RightT t) {a : Nat} (ha : a < t.length) {w : List UInt8} (hw : w.length ≤ 40) (hno : ∀ i, i < t.length → pathL t i ≠ (pathL t a).dropLast ++ [w]) (h200 : t.length + (endL t a - a) ≤ 200) :
    Copied t (pathL t a) w (putAll ((pathL t a).dropLast ++ [w]) t (partE t a)) := by
  have hl := part_len ha
  obtain ⟨r1, r2, r3⟩ := put_part h hw (path_up h ha) hno (h.part_ok ha (newP_len path_ne w)) (by omega) (partE t a).length (Nat.le_refl _)
  rw [List.take_length] at r1 r2 r3
  refine ⟨r1, fun x => ?_⟩
  rw [r3 x]
  have key : (∃ j, ∃ _ : j < (partE t a).length, ∃ hjs : j < (partE t a).length, x = ((pathL t a).dropLast ++ [w] ++ (partE t a)[j].1, (partE t a)[j].2)) ↔ ∃ y ∈ entries t, pre (pathL t a) y.1 ∧ x = (newP (pathL t a) w y.1, y.2) := by
    constructor
    · rintro ⟨j, _, hjs, rfl⟩
      obtain ⟨y, hy, hp, e⟩ := (mem_part h ha _).1 (List.getElem_mem hjs)
      exact ⟨y, hy, hp, by rw [e]; rfl⟩
    · rintro ⟨y, hy, hp, rfl⟩
      obtain ⟨j, hj, e⟩ := List.getElem_of_mem ((mem_part h ha (y.1.drop (pathL t a).length, y.2)).2 ⟨y, hy, hp, rfl⟩)
      exact ⟨j, hj, hj, by rw [e]; rfl⟩
  rw [key]
theorem moved_is {t : List Ln} (h : RightT t) {a : Nat} (ha : a < t.length) {w : List UInt8} (hw : w.length ≤ 40) (hno : ∀ i, i < t.length → pathL t i ≠ (pathL t a).dropLast ++ [w]) :
    Moved t (pathL t a) w (putAll ((pathL t a).dropLast ++ [w]) (cutL t a) (partE t a)) := by
  have hl := part_len ha
  obtain ⟨g1, g2, _⟩ := end_spec t a ha
  obtain ⟨c1, c2⟩ := h.cut_entries ha
  have hcl := cut_len t a ha
  have h200 := h.len
  have hop : Open (cutL t a) (pathL t a).dropLast := by
    rcases path_up h ha with h0 | ⟨i, hi, e⟩
    · exact .inl h0
    · refine .inr ?_
      obtain ⟨k, hk, ek, _⟩ := (mem_entries _ _ _).1 ((c2 ((pathL t a).dropLast, (at_ t i).mark)).2 ⟨(mem_entries t _ _).2 ⟨i, hi, e, rfl⟩, fun hp => by
        have := congrArg List.length hp
        have hne := List.length_pos_iff.2 (path_ne (t := t) (i := a))
        rw [List.length_take, List.length_dropLast] at this
        omega⟩)
      exact ⟨k, hk, ek⟩
  have hno2 : ∀ i, i < (cutL t a).length → pathL (cutL t a) i ≠ (pathL t a).dropLast ++ [w] := by
    intro i hi e
    obtain ⟨h1, _⟩ := (c2 _).1 ((mem_entries _ _ _).2 ⟨i, hi, e, rfl⟩)
    obtain ⟨k, hk, ek, _⟩ := (mem_entries t _ _).1 h1
    exact hno k hk ek
  obtain ⟨r1, r2, r3⟩ := put_part c1 hw hop hno2 (h.part_ok ha (newP_len path_ne w)) (by omega) (partE t a).length (Nat.le_refl _)
  rw [List.take_length] at r1 r2 r3
  refine ⟨r1, by omega, fun x => ?_⟩
  rw [r3 x, c2 x]
  have key : (∃ j, ∃ _ : j < (partE t a).length, ∃ hjs : j < (partE t a).length, x = ((pathL t a).dropLast ++ [w] ++ (partE t a)[j].1, (partE t a)[j].2)) ↔ ∃ y ∈ entries t, pre (pathL t a) y.1 ∧ x = (newP (pathL t a) w y.1, y.2) := by
    constructor
    · rintro ⟨j, _, hjs, rfl⟩
      obtain ⟨y, hy, hp, e⟩ := (mem_part h ha _).1 (List.getElem_mem hjs)
      exact ⟨y, hy, hp, by rw [e]; rfl⟩
    · rintro ⟨y, hy, hp, rfl⟩
      obtain ⟨j, hj, e⟩ := List.getElem_of_mem ((mem_part h ha (y.1.drop (pathL t a).length, y.2)).2 ⟨y, hy, hp, rfl⟩)
      exact ⟨j, hj, hj, by rw [e]; rfl⟩
  rw [key]
/-- A line's mark, set. -/
theorem mark_entries {N : Nat} {t : List Ln} (h : RightN N t) {a : Nat} (ha : a < t.length) (m : Int) (x : Pth × Int) : x ∈ entries (S.setM t a m) ↔ (x ∈ entries t ∧ x.1 ≠ pathL t a) ∨ x = (pathL t a, m) := by
  constructor
  · intro hx
    obtain ⟨i, hi, e1, e2⟩ := (mem_entries _ x.1 x.2).1 hx
    rw [S.setM_len] at hi
    rw [S.setM_path t a m i ha] at e1
    rw [S.setM_at t a m i ha] at e2
    by_cases hia : i = a
    · rw [if_pos hia] at e2
      subst hia
      exact .inr (Prod.ext e1.symm e2.symm)
    · rw [if_neg hia] at e2
      refine .inl ⟨(mem_entries t x.1 x.2).2 ⟨i, hi, e1, e2⟩, fun e => hia ?_⟩
      exact h.path_inj (max i a) i a (Nat.le_max_left ..) (Nat.le_max_right ..) hi ha (by rw [e1, e])
  · rintro (⟨h1, h2⟩ | rfl)
    · obtain ⟨i, hi, e1, e2⟩ := (mem_entries t x.1 x.2).1 h1
      have hia : i ≠ a := fun e => h2 (by rw [← e1, e])
      exact (mem_entries _ x.1 x.2).2 ⟨i, by rw [S.setM_len]; exact hi, by rw [S.setM_path t a m i ha]; exact e1, by rw [S.setM_at t a m i ha, if_neg hia]; exact e2⟩
    · exact (mem_entries _ _ _).2 ⟨a, by rw [S.setM_len]; exact ha, S.setM_path t a m a ha, by rw [S.setM_at t a m a ha, if_pos rfl]⟩
end Go.Proofs.YtgjnafnmdieniaaDoor.T
