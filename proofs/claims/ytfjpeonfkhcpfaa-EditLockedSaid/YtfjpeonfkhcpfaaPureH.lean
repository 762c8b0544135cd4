/-
  Plain laws of layer 7 (edit), third part: a part of a tree laid where a new line stands is that part put line by line. Condition: trees.
-/
import Derived.Test.YtfjpeonfkhcpfaaPureG

namespace Go.Proofs.Ytfjpeonfkhcpfaa.T

theorem Sorted.lt {l : List (Pth × Int)} (h : Sorted l) {i k : Nat} (hik : i < k) (hk : k < l.length) : pless (l[i]'(by omega)).1 l[k].1 = true := h i k hk hik
theorem pairwise_split {α : Type} {R : α → α → Prop} {l : List α} (h : l.Pairwise R) (i : Nat) (hi : i < l.length) : (l.take i).Pairwise R ∧ (l.drop (i + 1)).Pairwise R ∧ (∀ y ∈ l.take i, R y l[i]) ∧ (∀ y ∈ l.drop (i + 1), R l[i] y) ∧ ∀ y ∈ l.take i, ∀ z ∈ l.drop (i + 1), R y z := by
  have e : l = l.take i ++ l[i] :: l.drop (i + 1) := by
    rw [List.getElem_cons_drop, List.take_append_drop]
  have h2 := h
  rw [e, List.pairwise_append, List.pairwise_cons] at h2
  obtain ⟨a, ⟨b, c⟩, d⟩ := h2
  exact ⟨a, c, fun y hy => d y hy _ (List.mem_cons_self ..), b, fun y hy z hz => d y hy z (List.mem_cons_of_mem _ hz)⟩
/-- The part's paths, under a base, in order. -/
theorem part_sorted {N : Nat} {t : List Ln} (h : RightN N t) {a : Nat} (ha : a < t.length) (base : Pth) : ((partE t a).map fun x => (base ++ x.1, x.2)).Pairwise fun x y => pless x.1 y.1 = true := by
  have hl := part_len ha
  obtain ⟨g1, g2, _⟩ := end_spec t a ha
  rw [← sorted_iff]
  intro i k hk hik
  rw [List.length_map] at hk
  rw [List.getElem_map, List.getElem_map]
  show pless (base ++ _) (base ++ _) = true
  rw [pless_app, part_at ha hk, part_at ha (show i < (partE t a).length by omega)]
  have h1 := h.path_less (i := a + i) (a + k) (by omega) (by omega)
  have p1 := (h.part_iff ha (show a + i < t.length by omega)).1 ⟨by omega, by omega⟩
  have p2 := (h.part_iff ha (show a + k < t.length by omega)).1 ⟨by omega, by omega⟩
  rw [← pre_split p1, ← pre_split p2, pless_app] at h1
  exact h1
theorem part_zero {t : List Ln} {a : Nat} (ha : a < t.length) (hl : 0 < (partE t a).length) : (partE t a)[0] = ([], (at_ t a).mark) := by
  rw [part_at ha hl, Nat.add_zero, List.drop_length]
/-- A line of a part, as a path's line. -/
theorem part_line {N : Nat} {t : List Ln} (h : RightN N t) {a : Nat} (ha : a < t.length) {base : Pth} (hb : base.length = (pathL t a).length) {k : Nat} (hk : k < (partE t a).length) (h0 : 0 < k) : lnOf (base ++ (partE t a)[k].1, (partE t a)[k].2) = at_ t (a + k) := by
  have hl := part_len ha
  obtain ⟨g1, g2, _⟩ := end_spec t a ha
  have hak : a + k < t.length := by omega
  rw [part_at ha hk]
  have p2 := (h.part_iff ha hak).1 ⟨by omega, by omega⟩
  have e := pre_split p2
  have hlen := h.path_len (a + k) (a + k) (Nat.le_refl _) hak
  obtain ⟨s, hs⟩ : ∃ s, (pathL t (a + k)).drop (pathL t a).length = s := ⟨_, rfl⟩
  rw [hs] at e ⊢
  have hne : s ≠ [] := by
    intro e0
    rw [e0, List.append_nil] at e
    have := h.path_inj (a + k) a (a + k) (by omega) (Nat.le_refl _) ha hak e
    omega
  obtain ⟨q, v, eq⟩ := snoc_of hne
  have hw : wd t (a + k) = v := by
    have e2 := path_under t (a + k)
    rw [← e, eq, ← List.append_assoc] at e2
    exact (List.append_inj_right' e2 rfl |> fun h => by injection h with h _; exact h.symm)
  unfold lnOf
  show (⟨((base ++ s).length : Int) - 1, (base ++ s).getLastD [], _⟩ : Ln) = _
  have hd : dp t (a + k) = ((base ++ s).length : Int) - 1 := by
    rw [← e, List.length_append] at hlen
    rw [List.length_append, hb]; omega
  rw [← hd, eq, ← List.append_assoc, last_snoc, ← hw]
  unfold dp wd
  rfl
/-- A part, laid where a line stands that is new. -/
theorem lay_part {N N2 M : Nat} {t u G : List Ln} (ht : RightN N2 t) {a : Nat} (ha : a < t.length) (hu : RightN N u) {up : Pth} {w : List UInt8} (hw : w.length ≤ 40) (hop : Open u up) (hno : ∀ i, i < u.length → pathL u i ≠ up ++ [w]) (hb : (up ++ [w]).length = (pathL t a).length) (hN : u.length + (endL t a - a) ≤ N)
    (hG : RightN M G) (hmem : ∀ x, x ∈ entries G ↔ x ∈ entries u ∨ x = (up ++ [w], 0)) {i : Nat} (hi : i < G.length) (hpi : pathL G i = up ++ [w]) :
    putAll (up ++ [w]) u (partE t a) = G.take i ++ (⟨dp G i, wd G i, (at_ t a).mark⟩ :: ((t.drop (a + 1)).take (endL t a - (a + 1)) ++ G.drop (i + 1))) := by
  have hl := part_len ha
  obtain ⟨g1, g2, _⟩ := end_spec t a ha
  obtain ⟨r1, r2, r3⟩ := put_part hu hw hop hno (ht.part_ok ha hb) (by omega) (partE t a).length (Nat.le_refl _)
  rw [List.take_length] at r1 r2 r3
  have hiE : i < (entries G).length := by rw [entries_len]; exact hi
  have eI : (entries G)[i] = (up ++ [w], (at_ G i).mark) := by rw [entries_at G i hi, hpi]
  have hsG := (sorted_iff _).1 hG.sorted
  obtain ⟨s1, s2, s3, s4, s5⟩ := pairwise_split hsG i hiE
  rw [eI] at s3 s4
  -- the paths, in order
  have hnopre : ∀ z ∈ (entries G).drop (i + 1), ¬ ∃ x, z.1 = up ++ [w] ++ x := by
    rintro z hz ⟨x, e⟩
    have hzG := List.mem_of_mem_drop hz
    rcases (hmem z).1 hzG with h1 | rfl
    · exact hu.none_pre (by simp) hno h1 (pre_iff.2 ⟨x, e⟩)
    · have := s4 _ hz
      rw [pless_irr] at this
      cases this
  have hL : ((entries G).take i ++ (((partE t a).map fun x => (up ++ [w] ++ x.1, x.2)) ++ (entries G).drop (i + 1))).Pairwise fun x y => pless x.1 y.1 = true := by
    rw [List.pairwise_append, List.pairwise_append]
    refine ⟨s1, ⟨part_sorted ht ha _, s2, ?_⟩, ?_⟩
    · intro y hy z hz
      obtain ⟨x, hx, rfl⟩ := List.mem_map.1 hy
      exact pless_off _ _ _ (s4 z hz) (hnopre z hz)
    · intro y hy z hz
      rcases List.mem_append.1 hz with hz | hz
      · obtain ⟨x, hx, rfl⟩ := List.mem_map.1 hz
        by_cases h0 : x.1 = []
        · show pless y.1 (up ++ [w] ++ x.1) = true
          rw [h0, List.append_nil]; exact s3 y hy
        · exact pless_trans _ _ _ (s3 y hy) (pless_more _ _ h0)
      · exact s5 y hy z hz
  have hE : entries (putAll (up ++ [w]) u (partE t a)) = (entries G).take i ++ (((partE t a).map fun x => (up ++ [w] ++ x.1, x.2)) ++ (entries G).drop (i + 1)) := by
    refine Sorted.ext r1.sorted ((sorted_iff _).2 hL) fun x => ?_
    rw [r3 x, List.mem_append, List.mem_append]
    have hsplit : x ∈ entries G ↔ x ∈ (entries G).take i ∨ x = (entries G)[i] ∨ x ∈ (entries G).drop (i + 1) := by
      conv => lhs; rw [← List.take_append_drop i (entries G), ← List.getElem_cons_drop (as := entries G) hiE]
      rw [List.mem_append, List.mem_cons]
    constructor
    · rintro (h1 | ⟨j, _, hjs, rfl⟩)
      · rcases hsplit.1 ((hmem x).2 (.inl h1)) with h2 | h2 | h2
        · exact .inl h2
        · rw [eI] at h2
          subst h2
          obtain ⟨k, hk, e, _⟩ := (mem_entries u _ _).1 h1
          exact absurd e (hno k hk)
        · exact .inr (.inr h2)
      · exact .inr (.inl (List.mem_map.2 ⟨_, List.getElem_mem hjs, rfl⟩))
    · have hold : ∀ y, y ∈ entries G → y.1 ≠ up ++ [w] → y ∈ entries u := by
        intro y hy hne
        rcases (hmem y).1 hy with h1 | rfl
        · exact h1
        · exact absurd rfl hne
      rintro (h1 | h1 | h1)
      · refine .inl (hold x (List.mem_of_mem_take h1) fun e => ?_)
        have := s3 x h1
        rw [e, pless_irr] at this; cases this
      · obtain ⟨y, hy, rfl⟩ := List.mem_map.1 h1
        obtain ⟨j, hj, rfl⟩ := List.getElem_of_mem hy
        exact .inr ⟨j, hj, hj, rfl⟩
      · refine .inl (hold x (List.mem_of_mem_drop h1) fun e => ?_)
        have := s4 x h1
        rw [e, pless_irr] at this; cases this
  rw [← r1.ofP_entries, hE]
  have eG := hG.ofP_entries
  have e1 : ofP ((entries G).take i) = G.take i := by
    conv => rhs; rw [← eG]
    unfold ofP; rw [List.map_take]
  have e2 : ofP ((entries G).drop (i + 1)) = G.drop (i + 1) := by
    conv => rhs; rw [← eG]
    unfold ofP; rw [List.map_drop]
  have e3 : ofP ((partE t a).map fun x => (up ++ [w] ++ x.1, x.2)) = ⟨dp G i, wd G i, (at_ t a).mark⟩ :: (t.drop (a + 1)).take (endL t a - (a + 1)) := by
    have hpl : 0 < (partE t a).length := by omega
    apply List.ext_getElem
    · rw [ofP_len, List.length_map, List.length_cons, List.length_take, List.length_drop]; omega
    · intro k h1 h2
      rw [ofP_len, List.length_map] at h1
      have e4 : (ofP ((partE t a).map fun x => (up ++ [w] ++ x.1, x.2)))[k]'(by rw [ofP_len, List.length_map]; exact h1) = lnOf (up ++ [w] ++ (partE t a)[k].1, (partE t a)[k].2) := by
        unfold ofP; simp
      rw [e4]
      cases k with
      | zero =>
        rw [part_zero ha hpl, List.append_nil, List.getElem_cons_zero]
        unfold lnOf
        have hlen := hG.path_len i i (Nat.le_refl _) hi
        rw [hpi] at hlen
        have hwd : wd G i = w := by
          have e5 := path_under G i
          rw [hpi] at e5
          exact (List.append_inj_right' e5 rfl |> fun h => by injection h with h _; exact h.symm)
        show (⟨((up ++ [w]).length : Int) - 1, (up ++ [w]).getLastD [], _⟩ : Ln) = _
        rw [last_snoc, hwd, hlen]
        congr 1
        omega
      | succ k =>
        rw [part_line ht ha hb h1 (by omega), List.getElem_cons_succ, List.getElem_take, List.getElem_drop]
        unfold at_ List.getD
        rw [show a + (k + 1) = a + 1 + k by omega, List.getElem?_eq_getElem (by omega)]
        rfl
  unfold ofP at e1 e2 e3 ⊢
  rw [List.map_append, List.map_append, e1, e2, e3, List.cons_append]
/-- A path's line, added to a tree that has the line above it. -/
theorem add_new {t : List Ln} (h : RightT t) {up : Pth} {w : List UInt8} (hp : (up ++ [w]).length ≤ 16) (hw : ∀ x ∈ up ++ [w], x.length ≤ 40) (hop : Open t up) (hno : ∀ i, i < t.length → pathL t i ≠ up ++ [w]) :
    RightN 216 (addL t (up ++ [w])) ∧ (addL t (up ++ [w])).length ≤ t.length + 1 ∧ (∀ x, x ∈ entries (addL t (up ++ [w])) ↔ x ∈ entries t ∨ x = (up ++ [w], 0)) ∧ ∃ i, i < (addL t (up ++ [w])).length ∧ pathL (addL t (up ++ [w])) i = up ++ [w] := by
  have ha := add_is h hp hw
  have hup : ∀ j, j < up.length → ∃ i, i < t.length ∧ pathL t i = (up ++ [w]).take (j + 1) := by
    intro j hj
    rcases hop with h0 | ⟨k, hk, e⟩
    · rw [h0] at hj; simp at hj
    · obtain ⟨i, hi, e2⟩ := h.path_take k k (j + 1) (Nat.le_refl _) hk (by omega) (by rw [e]; omega)
      exact ⟨i, hi, by rw [e2, e, List.take_append, show j + 1 - up.length = 0 by omega, List.take_zero, List.append_nil]⟩
  have hm : ∀ x, x ∈ entries (addL t (up ++ [w])) ↔ x ∈ entries t ∨ x = (up ++ [w], 0) := by
    intro x
    rw [ha.mem x]
    constructor
    · rintro (h1 | ⟨j, hj, e, hn⟩)
      · exact .inl h1
      · rw [List.length_append, List.length_singleton] at hj
        rcases Nat.lt_or_ge j up.length with hj2 | hj2
        · obtain ⟨i, hi, e2⟩ := hup j hj2
          exact absurd e2 (hn i hi)
        · refine .inr ?_
          rw [e, List.take_of_length_le (by rw [List.length_append, List.length_singleton]; omega)]
    · rintro (h1 | e)
      · exact .inl h1
      · refine .inr ⟨up.length, by rw [List.length_append, List.length_singleton]; omega, ?_, ?_⟩
        · rw [e, List.take_of_length_le (by rw [List.length_append, List.length_singleton]; omega)]
        · intro i hi
          rw [List.take_of_length_le (by rw [List.length_append, List.length_singleton]; omega)]
          exact hno i hi
  refine ⟨ha.right, ?_, hm, add_there h hp hw (by simp)⟩
  have hk : up.length ≤ knownN t (up ++ [w]) (up ++ [w]).length := by
    rcases Nat.lt_or_ge (knownN t (up ++ [w]) (up ++ [w]).length) up.length with hlt | hge
    · obtain ⟨i, hi, e⟩ := hup (up.length - 1) (by omega)
      exact absurd e (known_no t (up ++ [w]) (up ++ [w]).length (up.length - 1 + 1) (by omega) (by rw [List.length_append]; omega) i hi)
    · exact hge
  have := add_len h hp hw
  rw [List.length_append, List.length_singleton] at this hk
  omega
end Go.Proofs.Ytfjpeonfkhcpfaa.T
