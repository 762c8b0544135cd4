/-
  Plain laws of layer 9 (merge): the state of a path, how it is decided, which paths conflict, and the tree of those decided as there. Condition: trees.
  Plain laws of layer 9 (merge): sides that have changed parts of unlike first words never conflict; what comes out is the base with both differences applied. Condition: trees.
  Plain laws for the document's merge (layer 9): paths with marks, put one by one, make their tree; which paths are bad, and how many are decided as there, counted along the list. Condition: trees.
-/
import Derived.Test.YtfajfjocpgbmeaaPureQ

namespace Go.Proofs.Ytfajfjocpgbmeaa.T

/-- The state of a path: -1 for absent, else its line's mark. -/
def stO (t : List Ln) (p : Pth) : Int := if inB t p = true then markOf t p else -1
theorem st_no {t : List Ln} {p : Pth} (h : ¬ isIn t p) : stO t p = -1 := by unfold stO; rw [if_neg]; rw [inB_yes]; exact h
theorem RightN.st_at {N : Nat} {t : List Ln} (h : RightN N t) {p : Pth} {m : Int} (hm : (p, m) ∈ entries t) : stO t p = m := by
  unfold stO; rw [if_pos (inB_yes.2 (isIn_of hm))]; exact h.mark_of hm
theorem RightN.entry_mark {N : Nat} {t : List Ln} (h : RightN N t) {x : Pth × Int} (hx : x ∈ entries t) : 0 ≤ x.2 ∧ x.2 ≤ 3 := h.good.mark x hx
theorem RightN.st_mem {N : Nat} {t : List Ln} (h : RightN N t) {p : Pth} (h0 : stO t p ≠ -1) : (p, stO t p) ∈ entries t := by
  by_cases hi : isIn t p
  · obtain ⟨m, hm⟩ := isIn_entries.1 hi
    rw [h.st_at hm]; exact hm
  · exact absurd (st_no hi) h0
theorem RightN.st_bounds {N : Nat} {t : List Ln} (h : RightN N t) (p : Pth) : -1 ≤ stO t p ∧ stO t p ≤ 3 := by
  by_cases hi : isIn t p
  · obtain ⟨m, hm⟩ := isIn_entries.1 hi
    have := h.entry_mark hm
    rw [h.st_at hm]
    simp only at this
    omega
  · rw [st_no hi]; omega
theorem RightN.st_iff {N : Nat} {t : List Ln} (h : RightN N t) {p : Pth} : stO t p = -1 ↔ ¬ isIn t p := by
  refine ⟨fun e hi => ?_, st_no⟩
  obtain ⟨m, hm⟩ := isIn_entries.1 hi
  have := h.entry_mark hm
  rw [h.st_at hm] at e
  simp only at this
  omega
theorem RightN.st_ge {N : Nat} {t : List Ln} (h : RightN N t) {p : Pth} : 0 ≤ stO t p ↔ isIn t p := by
  have h1 := h.st_bounds p
  have h2 := h.st_iff (p := p)
  constructor
  · intro h0; exact Classical.byContradiction fun hn => by have := h2.2 hn; omega
  · intro hi
    have : stO t p ≠ -1 := fun e => h2.1 e hi
    omega
theorem RightN.mem_st {N : Nat} {t : List Ln} (h : RightN N t) {p : Pth} {m : Int} : (p, m) ∈ entries t ↔ stO t p = m ∧ m ≠ -1 := by
  constructor
  · intro hm
    have := h.entry_mark hm
    simp only at this
    exact ⟨h.st_at hm, by omega⟩
  · rintro ⟨rfl, h0⟩; exact h.st_mem h0
/-- Of three states. -/
def dec3 (x y z : Int) : Int := if y = z then y else if y = x then z else if z = x then y else -2
theorem dec3_sides (x y z : Int) : dec3 x y z = dec3 x z y := by
  unfold dec3
  by_cases h1 : y = z
  · subst h1; rfl
  · have h1' : ¬ z = y := fun e => h1 e.symm
    by_cases h2 : y = x
    · by_cases h3 : z = x
      · exact absurd (h2.trans h3.symm) h1
      · simp only [if_neg h1, if_neg h1', if_pos h2, if_neg h3]
    · by_cases h3 : z = x
      · simp only [if_neg h1, if_neg h1', if_neg h2, if_pos h3]
      · simp only [if_neg h1, if_neg h1', if_neg h2, if_neg h3]
theorem dec3_left (x y : Int) : dec3 x y x = y := by
  unfold dec3
  by_cases h1 : y = x
  · rw [if_pos h1]
  · rw [if_neg h1, if_neg h1, if_pos rfl]
theorem dec3_right (x y : Int) : dec3 x x y = y := by rw [dec3_sides, dec3_left]
theorem dec3_same (x y : Int) : dec3 x y y = y := by unfold dec3; rw [if_pos rfl]
theorem dec3_one {x y z : Int} (h : dec3 x y z ≠ -2) : dec3 x y z = y ∨ dec3 x y z = z := by
  unfold dec3 at h ⊢
  by_cases h1 : y = z
  · rw [if_pos h1]; exact .inl rfl
  · rw [if_neg h1] at h ⊢
    by_cases h2 : y = x
    · rw [if_pos h2]; exact .inr rfl
    · rw [if_neg h2] at h ⊢
      by_cases h3 : z = x
      · rw [if_pos h3]; exact .inl rfl
      · rw [if_neg h3] at h; exact absurd rfl h
theorem dec3_again {x y z : Int} (h : dec3 x y z ≠ -2) : dec3 x (dec3 x y z) z = dec3 x y z := by
  unfold dec3 at h ⊢
  by_cases h1 : y = z
  · simp only [h1, if_true]
  · simp only [if_neg h1] at h ⊢
    by_cases h2 : y = x
    · simp only [h2, if_true]
    · simp only [if_neg h2] at h ⊢
      by_cases h3 : z = x
      · simp only [h3, if_true]
        by_cases h4 : y = x
        · exact absurd h4 h2
        · simp only [if_neg h4]
      · simp only [if_neg h3] at h; exact absurd rfl h
def decO (b m t : List Ln) (p : Pth) : Int := dec3 (stO b p) (stO m p) (stO t p)
theorem dec_sides (b m t : List Ln) (p : Pth) : decO b m t p = decO b t m p := dec3_sides _ _ _

/-- A path goes where it belongs, once. -/
def insU (p : Pth) : List Pth → List Pth
  | [] => [p]
  | q :: l => if p = q then q :: l else if pless p q = true then p :: q :: l else q :: insU p l
theorem mem_insU (p q : Pth) : ∀ l : List Pth, q ∈ insU p l ↔ q = p ∨ q ∈ l
  | [] => by simp [insU]
  | r :: l => by
    unfold insU
    by_cases h1 : p = r
    · subst h1; rw [if_pos rfl]; simp
    · rw [if_neg h1]
      by_cases h2 : pless p r = true
      · rw [if_pos h2]; simp
      · rw [if_neg h2, List.mem_cons, mem_insU p q l, List.mem_cons]
        constructor
        · rintro (h | h | h)
          · exact .inr (.inl h)
          · exact .inl h
          · exact .inr (.inr h)
        · rintro (h | h | h)
          · exact .inr (.inl h)
          · exact .inl h
          · exact .inr (.inr h)
/-- Paths in order, each once. -/
def Asc (l : List Pth) : Prop := l.Pairwise fun a b => pless a b = true
theorem asc_insU (p : Pth) : ∀ l : List Pth, Asc l → Asc (insU p l)
  | [], _ => by simp [insU, Asc]
  | r :: l, h => by
    unfold insU
    have h0 := List.pairwise_cons.1 h
    by_cases h1 : p = r
    · rw [if_pos h1]; exact h
    · rw [if_neg h1]
      by_cases h2 : pless p r = true
      · rw [if_pos h2]
        refine List.pairwise_cons.2 ⟨fun x hx => ?_, h⟩
        rcases List.mem_cons.1 hx with rfl | hx
        · exact h2
        · exact pless_trans _ _ _ h2 (h0.1 x hx)
      · rw [if_neg h2]
        refine List.pairwise_cons.2 ⟨fun x hx => ?_, asc_insU p l h0.2⟩
        rcases (mem_insU p x l).1 hx with rfl | hx
        · rcases pless_tri x r with h3 | h3 | h3
          · exact absurd h3 h2
          · exact absurd h3 h1
          · exact h3
        · exact h0.1 x hx
theorem insU_len (p : Pth) : ∀ l : List Pth, (insU p l).length ≤ l.length + 1
  | [] => by simp [insU]
  | r :: l => by
    unfold insU
    by_cases h1 : p = r
    · rw [if_pos h1]; omega
    · rw [if_neg h1]
      by_cases h2 : pless p r = true
      · rw [if_pos h2]; simp
      · rw [if_neg h2]
        have := insU_len p l
        simp only [List.length_cons]
        omega
def addU (l : List Pth) (ps : List Pth) : List Pth := ps.foldl (fun l p => insU p l) l
theorem mem_addU (q : Pth) : ∀ (ps l : List Pth), q ∈ addU l ps ↔ q ∈ l ∨ q ∈ ps
  | [], l => by simp [addU]
  | p :: ps, l => by
    show q ∈ addU (insU p l) ps ↔ _
    rw [mem_addU q ps (insU p l), mem_insU, List.mem_cons]
    constructor
    · rintro ((h | h) | h)
      · exact .inr (.inl h)
      · exact .inl h
      · exact .inr (.inr h)
    · rintro (h | h | h)
      · exact .inl (.inr h)
      · exact .inl (.inl h)
      · exact .inr h
theorem asc_addU : ∀ (ps l : List Pth), Asc l → Asc (addU l ps)
  | [], _, h => h
  | p :: ps, l, h => asc_addU ps (insU p l) (asc_insU p l h)
theorem addU_len : ∀ (ps l : List Pth), (addU l ps).length ≤ l.length + ps.length
  | [], _ => by simp [addU]
  | p :: ps, l => by
    have h1 := addU_len ps (insU p l)
    have h2 := insU_len p l
    show (addU (insU p l) ps).length ≤ _
    simp only [List.length_cons]
    omega
theorem addU_snoc (l ps : List Pth) (p : Pth) : addU l (ps ++ [p]) = insU p (addU l ps) := by unfold addU; rw [List.foldl_append]; rfl
def pathsL (t : List Ln) : List Pth := (entries t).map Prod.fst
theorem mem_paths {t : List Ln} {p : Pth} : p ∈ pathsL t ↔ isIn t p := by
  unfold pathsL
  rw [List.mem_map, isIn_entries]
  constructor
  · rintro ⟨x, hx, rfl⟩; exact ⟨x.2, hx⟩
  · rintro ⟨m, hm⟩; exact ⟨_, hm, rfl⟩
theorem paths_len (t : List Ln) : (pathsL t).length = t.length := by unfold pathsL; rw [List.length_map, entries_len]
/-- The paths of three trees, in order. -/
def allP (b m t : List Ln) : List Pth := addU (addU (addU [] (pathsL b)) (pathsL m)) (pathsL t)
theorem mem_all {b m t : List Ln} {p : Pth} : p ∈ allP b m t ↔ isIn b p ∨ isIn m p ∨ isIn t p := by
  unfold allP
  rw [mem_addU, mem_addU, mem_addU, mem_paths, mem_paths, mem_paths]
  simp only [List.not_mem_nil, false_or]
  constructor
  · rintro ((h | h) | h)
    · exact .inl h
    · exact .inr (.inl h)
    · exact .inr (.inr h)
  · rintro (h | h | h)
    · exact .inl (.inl h)
    · exact .inl (.inr h)
    · exact .inr h
theorem asc_all (b m t : List Ln) : Asc (allP b m t) := asc_addU _ _ (asc_addU _ _ (asc_addU _ _ List.Pairwise.nil))
theorem all_len (b m t : List Ln) : (allP b m t).length ≤ b.length + m.length + t.length := by
  have h1 := addU_len (pathsL t) (addU (addU [] (pathsL b)) (pathsL m))
  have h2 := addU_len (pathsL m) (addU [] (pathsL b))
  have h3 := addU_len (pathsL b) []
  rw [paths_len] at h1 h2 h3
  simp only [List.length_nil] at h3
  unfold allP
  omega
theorem Asc.ext : ∀ {a b : List Pth}, Asc a → Asc b → (∀ x, x ∈ a ↔ x ∈ b) → a = b := by
  intro a b ha hb h
  have key : ∀ l : List Pth, Asc l → Sorted (l.map fun p => (p, (0 : Int))) := fun l hl => by
    rw [sorted_iff, List.pairwise_map]; exact hl
  have := Sorted.ext (key a ha) (key b hb) fun x => by
    simp only [List.mem_map]
    constructor
    · rintro ⟨p, hp, rfl⟩; exact ⟨p, (h p).1 hp, rfl⟩
    · rintro ⟨p, hp, rfl⟩; exact ⟨p, (h p).2 hp, rfl⟩
  have e := congrArg (List.map Prod.fst) this
  rw [List.map_map, List.map_map] at e
  simpa [Function.comp_def] using e
theorem all_sides (b m t : List Ln) : allP b m t = allP b t m := Asc.ext (asc_all _ _ _) (asc_all _ _ _) fun x => by
  rw [mem_all, mem_all]
  constructor
  · rintro (h | h | h)
    · exact .inl h
    · exact .inr (.inr h)
    · exact .inr (.inl h)
  · rintro (h | h | h)
    · exact .inl h
    · exact .inr (.inr h)
    · exact .inr (.inl h)
/-- Does a path conflict? -/
def badB (b m t : List Ln) (p : Pth) : Bool := decide (decO b m t p = -2) || (decide (0 ≤ decO b m t p) && decide (1 < p.length) && decide (decO b m t p.dropLast = -1))
def confL (b m t : List Ln) : List Pth := (allP b m t).filter (badB b m t)
def thereB (b m t : List Ln) (p : Pth) : Bool := decide (0 ≤ decO b m t p)
def decE (b m t : List Ln) : List (Pth × Int) := ((allP b m t).filter (thereB b m t)).map fun p => (p, decO b m t p)
theorem bad_sides (b m t : List Ln) : badB b m t = badB b t m := by
  funext p; unfold badB; rw [dec_sides b m t p, dec_sides b m t p.dropLast]
theorem conf_sides (b m t : List Ln) : confL b m t = confL b t m := by unfold confL; rw [all_sides, bad_sides]
theorem decE_sides (b m t : List Ln) : decE b m t = decE b t m := by
  have h : thereB b m t = thereB b t m := by funext p; unfold thereB; rw [dec_sides]
  unfold decE
  rw [all_sides, h]
  exact List.map_congr_left fun p _ => by rw [dec_sides]
theorem decE_len (b m t : List Ln) : (decE b m t).length ≤ b.length + m.length + t.length := by
  unfold decE
  rw [List.length_map]
  exact Nat.le_trans (List.length_filter_le _ _) (all_len b m t)
theorem decE_sorted (b m t : List Ln) : Sorted (decE b m t) := by
  rw [sorted_iff]
  unfold decE
  rw [List.pairwise_map]
  exact (asc_all b m t).filter _
theorem dec_absent {b m t : List Ln} (hb : RightT b) (hm : RightT m) (ht : RightT t) {p : Pth} (h : ¬ (isIn b p ∨ isIn m p ∨ isIn t p)) : decO b m t p = -1 := by
  unfold decO
  rw [hb.st_iff.2 fun e => h (.inl e), hm.st_iff.2 fun e => h (.inr (.inl e)), ht.st_iff.2 fun e => h (.inr (.inr e))]
  exact dec3_same _ _
theorem mem_decE {b m t : List Ln} (hb : RightT b) (hm : RightT m) (ht : RightT t) {p : Pth} {s : Int} : (p, s) ∈ decE b m t ↔ decO b m t p = s ∧ 0 ≤ s := by
  unfold decE
  rw [List.mem_map]
  constructor
  · rintro ⟨q, hq, e⟩
    injection e with e1 e2
    subst e1
    exact ⟨e2, by rw [← e2]; exact of_decide_eq_true (List.mem_filter.1 hq).2⟩
  · rintro ⟨rfl, h0⟩
    refine ⟨p, List.mem_filter.2 ⟨?_, decide_eq_true h0⟩, rfl⟩
    rw [mem_all]
    exact Classical.byContradiction fun hn => by have := dec_absent hb hm ht hn; omega
theorem no_bad {b m t : List Ln} (hb : RightT b) (hm : RightT m) (ht : RightT t) (hc : confL b m t = []) (p : Pth) : badB b m t p = false := by
  by_cases h : isIn b p ∨ isIn m p ∨ isIn t p
  · have h1 : p ∉ confL b m t := by rw [hc]; simp
    unfold confL at h1
    rw [List.mem_filter] at h1
    cases hbad : badB b m t p with
    | false => rfl
    | true => exact absurd ⟨mem_all.2 h, hbad⟩ h1
  · have := dec_absent hb hm ht h
    unfold badB
    rw [this]
    simp
theorem dec_side {b m t : List Ln} {p : Pth} (h : decO b m t p ≠ -2) : decO b m t p = stO m p ∨ decO b m t p = stO t p := dec3_one h
/-- Where nothing conflicts the paths that are decided as there make a tree. -/
theorem merge_good {b m t : List Ln} (hb : RightT b) (hm : RightT m) (ht : RightT t) (hc : confL b m t = []) (hl : (decE b m t).length ≤ 200) : GoodP 200 (decE b m t) := by
  have side : ∀ x ∈ decE b m t, x ∈ entries m ∨ x ∈ entries t := fun x hx => by
    obtain ⟨h1, h0⟩ := (mem_decE hb hm ht (p := x.1) (s := x.2)).1 hx
    rcases dec_side (b := b) (m := m) (t := t) (p := x.1) (by omega) with h2 | h2
    · exact .inl ((hm.mem_st (p := x.1) (m := x.2)).2 ⟨by rw [← h2, h1], by omega⟩)
    · exact .inr ((ht.mem_st (p := x.1) (m := x.2)).2 ⟨by rw [← h2, h1], by omega⟩)
  have each : ∀ {P : Pth × Int → Prop}, (∀ x ∈ entries m, P x) → (∀ x ∈ entries t, P x) → ∀ x ∈ decE b m t, P x := fun h1 h2 x hx => (side x hx).elim (h1 x) (h2 x)
  refine ⟨hl, decE_sorted b m t, each hm.good.ne ht.good.ne, each hm.good.deep ht.good.deep, each hm.good.long ht.good.long, each hm.good.mark ht.good.mark, fun x hx q w e hq => ?_⟩
  obtain ⟨h1, h0⟩ := (mem_decE hb hm ht (p := x.1) (s := x.2)).1 hx
  have hbad := no_bad hb hm ht hc x.1
  have hbq := no_bad hb hm ht hc q
  have hlen : 1 < x.1.length := by
    rw [e, List.length_append, List.length_singleton]
    have := List.length_pos_iff.2 hq
    omega
  have hd : x.1.dropLast = q := by rw [e, List.dropLast_concat]
  unfold badB at hbad hbq
  rw [hd, h1] at hbad
  simp only [Bool.or_eq_false_iff, Bool.and_eq_false_iff, decide_eq_false_iff_not] at hbad hbq
  have hne : decO b m t q ≠ -1 := by
    rcases hbad.2 with (h | h) | h
    · exact absurd h0 h
    · exact absurd hlen h
    · exact h
  have hn2 : decO b m t q ≠ -2 := hbq.1
  have hge : 0 ≤ decO b m t q := by
    rcases dec_side (b := b) (m := m) (t := t) (p := q) hn2 with h | h
    · have := hm.st_bounds q; omega
    · have := ht.st_bounds q; omega
  exact ⟨_, (mem_decE hb hm ht).2 ⟨rfl, hge⟩⟩
/-- What the document says of three lists of lines. -/
def MergeIs (b m t u : List Ln) (l : List Pth) (er : Int) : Prop :=
  (¬ (RightT b ∧ RightT m ∧ RightT t) ∧ u = [] ∧ l = [] ∧ er = 1) ∨
  ((RightT b ∧ RightT m ∧ RightT t) ∧ ((confL b m t ≠ [] ∧ u = [] ∧ l = confL b m t ∧ er = 8) ∨ (confL b m t = [] ∧ 200 < (decE b m t).length ∧ u = [] ∧ l = [] ∧ er = 5) ∨ (confL b m t = [] ∧ (decE b m t).length ≤ 200 ∧ u = ofP (decE b m t) ∧ l = [] ∧ er = 0)))
theorem merge_is (b m t : List Ln) : ∃ u l er, MergeIs b m t u l er := by
  by_cases h : RightT b ∧ RightT m ∧ RightT t
  · by_cases hc : confL b m t = []
    · by_cases hl : (decE b m t).length ≤ 200
      · exact ⟨_, _, _, .inr ⟨h, .inr (.inr ⟨hc, hl, rfl, rfl, rfl⟩)⟩⟩
      · exact ⟨_, _, _, .inr ⟨h, .inr (.inl ⟨hc, by omega, rfl, rfl, rfl⟩)⟩⟩
    · exact ⟨_, _, _, .inr ⟨h, .inl ⟨hc, rfl, rfl, rfl⟩⟩⟩
  · exact ⟨_, _, _, .inl ⟨h, rfl, rfl, rfl⟩⟩
theorem MergeIs.sides {b m t u : List Ln} {l : List Pth} {er : Int} (h : MergeIs b m t u l er) : MergeIs b t m u l er := by
  unfold MergeIs at h ⊢
  rw [conf_sides b t m, decE_sides b t m]
  rcases h with ⟨h1, h2⟩ | ⟨⟨h1, h2, h3⟩, h4⟩
  · exact .inl ⟨fun h => h1 ⟨h.1, h.2.2, h.2.1⟩, h2⟩
  · exact .inr ⟨⟨h1, h3, h2⟩, h4⟩
theorem MergeIs.zero {b m t u : List Ln} {l : List Pth} (h : MergeIs b m t u l 0) : (RightT b ∧ RightT m ∧ RightT t) ∧ confL b m t = [] ∧ (decE b m t).length ≤ 200 ∧ u = ofP (decE b m t) ∧ l = [] := by
  rcases h with ⟨_, _, _, h⟩ | ⟨h1, ⟨_, _, _, h⟩ | ⟨_, _, _, _, h⟩ | ⟨h2, h3, h4, h5, _⟩⟩
  · cases h
  · cases h
  · cases h
  · exact ⟨h1, h2, h3, h4, h5⟩
theorem MergeIs.err {b m t u : List Ln} {l : List Pth} {er : Int} (h : MergeIs b m t u l er) (h0 : er ≠ 0) : u = [] := by
  rcases h with ⟨_, h, _⟩ | ⟨_, ⟨_, h, _⟩ | ⟨_, _, h, _⟩ | ⟨_, _, _, _, h⟩⟩
  · exact h
  · exact h
  · exact h
  · exact absurd h h0
theorem MergeIs.conf {b m t u : List Ln} {l : List Pth} {er : Int} (h : MergeIs b m t u l er) : er = 8 ↔ l ≠ [] := by
  rcases h with ⟨_, _, h1, h2⟩ | ⟨_, ⟨hc, _, h1, h2⟩ | ⟨_, _, _, h1, h2⟩ | ⟨_, _, _, h1, h2⟩⟩
  · rw [h1, h2]; simp
  · rw [h1, h2]; simpa using hc
  · rw [h1, h2]; simp
  · rw [h1, h2]; simp
theorem MergeIs.right {b m t u : List Ln} {l : List Pth} (h : MergeIs b m t u l 0) : RightT u := by
  obtain ⟨⟨hb, hm, ht⟩, hc, hl, rfl, _⟩ := h.zero
  exact (merge_good hb hm ht hc hl).right
/-- What comes out has the states that are decided. -/
theorem MergeIs.state {b m t u : List Ln} {l : List Pth} (h : MergeIs b m t u l 0) (p : Pth) : decO b m t p ≠ -2 ∧ stO u p = decO b m t p := by
  have hu := h.right
  obtain ⟨⟨hb, hm, ht⟩, hc, hl, rfl, _⟩ := h.zero
  have hg := merge_good hb hm ht hc hl
  have hbad := no_bad hb hm ht hc p
  unfold badB at hbad
  rw [Bool.or_eq_false_iff] at hbad
  have hn2 : decO b m t p ≠ -2 := of_decide_eq_false hbad.1
  refine ⟨hn2, ?_⟩
  by_cases h0 : 0 ≤ decO b m t p
  · exact hu.st_at (by rw [hg.entries]; exact (mem_decE hb hm ht).2 ⟨rfl, h0⟩)
  · have h1 : decO b m t p = -1 := by
      rcases dec_side (b := b) (m := m) (t := t) (p := p) hn2 with h | h
      · have := hm.st_bounds p; omega
      · have := ht.st_bounds p; omega
    rw [h1, hu.st_iff, isIn_entries, hg.entries]
    rintro ⟨x, hx⟩
    have := (mem_decE hb hm ht).1 hx
    omega
/-- Where all is decided as one tree has it that tree comes out. -/
theorem merge_state {b m t s : List Ln} (hb : RightT b) (hm : RightT m) (ht : RightT t) (hs : RightT s) (h : ∀ p, decO b m t p = stO s p) : MergeIs b m t s [] 0 := by
  have hc : confL b m t = [] := by
    unfold confL
    rw [List.filter_eq_nil_iff]
    intro p _ hbad
    unfold badB at hbad
    rw [h p, h p.dropLast, Bool.or_eq_true, Bool.and_eq_true, Bool.and_eq_true, decide_eq_true_iff, decide_eq_true_iff, decide_eq_true_iff, decide_eq_true_iff] at hbad
    rcases hbad with h1 | ⟨⟨h1, h2⟩, h3⟩
    · have := hs.st_bounds p; omega
    · refine hs.st_iff.1 h3 (hs.in_pre (fun e => ?_) (hs.st_ge.1 h1) ?_)
      · have := congrArg List.length e
        rw [List.length_dropLast, List.length_nil] at this
        omega
      · show p.take p.dropLast.length = p.dropLast
        rw [List.length_dropLast, List.dropLast_eq_take]
  have he : decE b m t = entries s := Sorted.ext (decE_sorted b m t) hs.sorted fun x => by
    have h1 := mem_decE hb hm ht (p := x.1) (s := x.2)
    have h2 := hs.mem_st (p := x.1) (m := x.2)
    rw [h x.1] at h1
    have h3 := hs.st_bounds x.1
    constructor
    · intro hx; have := h1.1 hx; exact h2.2 ⟨this.1, by omega⟩
    · intro hx; have := h2.1 hx; exact h1.2 ⟨this.1, by omega⟩
  refine .inr ⟨⟨hb, hm, ht⟩, .inr (.inr ⟨hc, ?_, ?_, rfl, rfl⟩)⟩
  · rw [he, entries_len]; exact hs.len
  · rw [he]; exact hs.ofP_entries.symm
theorem merge_left {b s : List Ln} (hb : RightT b) (hs : RightT s) : MergeIs b s b s [] 0 := merge_state hb hs hb hs fun _ => dec3_left _ _
theorem merge_right {b s : List Ln} (hb : RightT b) (hs : RightT s) : MergeIs b b s s [] 0 := merge_state hb hb hs hs fun _ => dec3_right _ _
theorem merge_both {b s : List Ln} (hb : RightT b) (hs : RightT s) : MergeIs b s s s [] 0 := merge_state hb hs hs hs fun _ => dec3_same _ _
theorem MergeIs.again {b m t u : List Ln} {l : List Pth} (h : MergeIs b m t u l 0) : MergeIs b u t u [] 0 := by
  have hu := h.right
  have hst := h.state
  obtain ⟨⟨hb, hm, ht⟩, _⟩ := h.zero
  refine merge_state hb hu ht hu fun p => ?_
  obtain ⟨h1, h2⟩ := hst p
  rw [h2]
  show dec3 (stO b p) (stO u p) (stO t p) = _
  rw [h2]
  exact dec3_again h1
theorem MergeIs.again2 {b m t u : List Ln} {l : List Pth} (h : MergeIs b m t u l 0) : MergeIs b m u u [] 0 := h.sides.again.sides
/-- Lines of one path and one mark are one. -/
theorem RightN.line_eq {N M : Nat} {t u : List Ln} (ht : RightN N t) (hu : RightN M u) {i j : Nat} (hi : i < t.length) (hj : j < u.length) (hp : pathL t i = pathL u j) (hm : (at_ t i).mark = (at_ u j).mark) : at_ t i = at_ u j := by
  have h1 := ht.path_len i i (Nat.le_refl _) hi
  have h2 := hu.path_len j j (Nat.le_refl _) hj
  have h3 : dp t i = dp u j := by rw [hp] at h1; omega
  have h4 : wd t i = wd u j := by
    have e1 := path_under t i
    have e2 := path_under u j
    rw [hp] at e1
    rw [e1] at e2
    have := congrArg (fun q : Pth => q.getLastD []) e2
    simpa [last_snoc] using this
  unfold dp at h3
  unfold wd at h4
  cases hh : at_ t i with
  | mk d1 w1 m1 =>
    cases hk : at_ u j with
    | mk d2 w2 m2 =>
      rw [hh, hk] at h3 h4 hm
      simp only at h3 h4 hm
      rw [h3, h4, hm]
/-- The line of a path is where it is found. -/
theorem RightN.found_at {N : Nat} {t : List Ln} (h : RightN N t) {p : Pth} {s : Int} (hm : (p, s) ∈ entries t) : ∃ i, i < t.length ∧ findI t p = i ∧ pathL t i = p ∧ (at_ t i).mark = s := by
  obtain ⟨i, hi, e, em⟩ := (mem_entries t p s).1 hm
  exact ⟨i, hi, findI_some h hi e, e, em⟩
/-- Each line of what comes out one side has. -/
theorem MergeIs.line {b m t u : List Ln} {l : List Pth} (h : MergeIs b m t u l 0) {i : Nat} (hi : i < u.length) :
    (∃ j, j < m.length ∧ findI m (pathL u i) = j ∧ at_ m j = at_ u i) ∨ (∃ j, j < t.length ∧ findI t (pathL u i) = j ∧ at_ t j = at_ u i) := by
  have hu := h.right
  obtain ⟨h1, h2⟩ := h.state (pathL u i)
  obtain ⟨⟨hb, hm, ht⟩, _⟩ := h.zero
  have hx : (pathL u i, (at_ u i).mark) ∈ entries u := (mem_entries u _ _).2 ⟨i, hi, rfl, rfl⟩
  have h3 := hu.mem_st.1 hx
  rcases dec_side h1 with h4 | h4
  · obtain ⟨j, hj, e1, e2, e3⟩ := hm.found_at (hm.mem_st.2 ⟨(by rw [← h4, ← h2]; exact h3.1), h3.2⟩)
    exact .inl ⟨j, hj, e1, hm.line_eq hu hj hi e2 e3⟩
  · obtain ⟨j, hj, e1, e2, e3⟩ := ht.found_at (ht.mem_st.2 ⟨(by rw [← h4, ← h2]; exact h3.1), h3.2⟩)
    exact .inr ⟨j, hj, e1, ht.line_eq hu hj hi e2 e3⟩
/-- What both sides have kept is there. -/
theorem MergeIs.kept {b m t u : List Ln} {l : List Pth} (h : MergeIs b m t u l 0) {i j k : Nat} (hi : i < b.length) (hj : j < m.length) (hk : k < t.length) (e1 : findI m (pathL b i) = j) (e2 : findI t (pathL b i) = k) (l1 : at_ m j = at_ b i) (l2 : at_ t k = at_ b i) :
    ∃ c, c < u.length ∧ findI u (pathL b i) = c ∧ at_ u c = at_ b i := by
  have hu := h.right
  obtain ⟨h1, h2⟩ := h.state (pathL b i)
  obtain ⟨⟨hb, hm, ht⟩, _⟩ := h.zero
  have hb1 : stO b (pathL b i) = (at_ b i).mark := hb.st_at ((mem_entries b _ _).2 ⟨i, hi, rfl, rfl⟩)
  have p1 : pathL m j = pathL b i := by
    rcases findI_cases m (pathL b i) with ⟨e, _⟩ | ⟨x, _, e, hx⟩
    · rw [e] at e1; omega
    · have : x = j := by rw [e] at e1; omega
      rw [← this]; exact hx
  have p2 : pathL t k = pathL b i := by
    rcases findI_cases t (pathL b i) with ⟨e, _⟩ | ⟨x, _, e, hx⟩
    · rw [e] at e2; omega
    · have : x = k := by rw [e] at e2; omega
      rw [← this]; exact hx
  have hm1 : stO m (pathL b i) = (at_ b i).mark := hm.st_at ((mem_entries m _ _).2 ⟨j, hj, p1, by rw [l1]⟩)
  have ht1 : stO t (pathL b i) = (at_ b i).mark := ht.st_at ((mem_entries t _ _).2 ⟨k, hk, p2, by rw [l2]⟩)
  have hu1 : stO u (pathL b i) = (at_ b i).mark := by
    rw [h2]; unfold decO; rw [hb1, hm1, ht1]; exact dec3_same _ _
  have hmk := hb.mark i hi
  obtain ⟨c, hc, e3, e4, e5⟩ := hu.found_at (hu.mem_st.2 ⟨hu1, by omega⟩)
  exact ⟨c, hc, e3, hu.line_eq hb hc hi e4 e5⟩
end Go.Proofs.Ytfajfjocpgbmeaa.T

namespace Go.Proofs.Ytfajfjocpgbmeaa.T

theorem head_pre {p q : Pth} (h : pre p q) (hp : p ≠ []) : q.head? = p.head? := by
  obtain ⟨s, rfl⟩ := pre_iff.1 h
  cases p with
  | nil => exact absurd rfl hp
  | cons a p => rfl
theorem head_drop {p : Pth} (h : p.dropLast ≠ []) : p.dropLast.head? = p.head? := by
  have hp : p ≠ [] := fun e => h (by rw [e]; rfl)
  refine (head_pre (p := p.dropLast) (q := p) ?_ h).symm
  show p.take p.dropLast.length = p.dropLast
  rw [List.length_dropLast, List.dropLast_eq_take]
/-- A path of another state stands under a change's first word. -/
theorem changed_head {b m : List Ln} (hb : RightT b) (hm : RightT m) {p : Pth} (h : stO m p ≠ stO b p) : ∃ x ∈ diffL b m, x.path.head? = p.head? := by
  unfold diffL
  by_cases h1 : isIn b p
  · obtain ⟨s, hs⟩ := isIn_entries.1 h1
    by_cases h2 : isIn m p
    · obtain ⟨s2, hs2⟩ := isIn_entries.1 h2
      refine ⟨⟨3, p, s2⟩, List.mem_append.2 (.inr (mem_marks.2 ⟨(p, s2), hs2, ?_, rfl⟩)), rfl⟩
      unfold markB
      rw [hm.st_at hs2, hb.st_at hs] at h
      rw [Bool.and_eq_true, inB_yes]
      exact ⟨h1, by rw [hb.mark_of hs]; simpa using fun e => h e.symm⟩
    · have hno : ¬ ((p, s) ∈ entries b ∧ ∀ y ∈ entries b, goneB m y.1 = true → ¬ pre y.1 p) := fun hx => h2 ((gone_left hb hm (p, s)).1 hx).2
      have : ∃ y ∈ entries b, goneB m y.1 = true ∧ pre y.1 p := Classical.byContradiction fun hn => hno ⟨hs, fun y hy h3 h4 => hn ⟨y, hy, h3, h4⟩⟩
      obtain ⟨y, hy, h3, h4⟩ := this
      exact ⟨⟨1, y.1, 0⟩, List.mem_append.2 (.inl (List.mem_append.2 (.inl (mem_gone.2 ⟨y, hy, h3, rfl⟩)))), (head_pre h4 (hb.good.ne y hy)).symm⟩
  · by_cases h2 : isIn m p
    · obtain ⟨s2, hs2⟩ := isIn_entries.1 h2
      exact ⟨⟨2, p, s2⟩, List.mem_append.2 (.inl (List.mem_append.2 (.inr (mem_adds.2 ⟨(p, s2), hs2, h1, rfl⟩)))), rfl⟩
    · rw [st_no h1, st_no h2] at h; exact absurd rfl h
/-- No first word of one difference is one of the other. -/
def ApartD (b m t : List Ln) : Prop := ∀ x ∈ diffL b m, ∀ y ∈ diffL b t, x.path.head? ≠ y.path.head?
theorem side_of {b m t : List Ln} (hb : RightT b) (hm : RightT m) (ht : RightT t) (h : ApartD b m t) (w : Option (List UInt8)) : (∀ p : Pth, p.head? = w → stO m p = stO b p) ∨ (∀ p : Pth, p.head? = w → stO t p = stO b p) := by
  by_cases h1 : ∃ p : Pth, p.head? = w ∧ stO m p ≠ stO b p
  · obtain ⟨p, hp, hne⟩ := h1
    refine .inr fun q hq => Classical.byContradiction fun hn => ?_
    obtain ⟨x, hx, ex⟩ := changed_head hb hm hne
    obtain ⟨y, hy, ey⟩ := changed_head hb ht hn
    exact h x hx y hy (by rw [ex, ey, hp, hq])
  · exact .inl fun p hp => Classical.byContradiction fun hn => h1 ⟨p, hp, hn⟩
/-- For each first word one side decides. -/
theorem side_dec {b m t : List Ln} (hb : RightT b) (hm : RightT m) (ht : RightT t) (h : ApartD b m t) (w : Option (List UInt8)) : (∀ p : Pth, p.head? = w → stO m p = stO b p ∧ decO b m t p = stO t p) ∨ (∀ p : Pth, p.head? = w → stO t p = stO b p ∧ decO b m t p = stO m p) := by
  rcases side_of hb hm ht h w with h1 | h1
  · exact .inl fun p hp => ⟨h1 p hp, by unfold decO; rw [h1 p hp]; exact dec3_right _ _⟩
  · exact .inr fun p hp => ⟨h1 p hp, by unfold decO; rw [h1 p hp]; exact dec3_left _ _⟩
theorem drop_in {N : Nat} {t : List Ln} (h : RightN N t) {p : Pth} (hi : isIn t p) (hd : p.dropLast ≠ []) : isIn t p.dropLast := h.in_pre hd hi (by
  show p.take p.dropLast.length = p.dropLast
  rw [List.length_dropLast, List.dropLast_eq_take])
theorem apart_conf {b m t : List Ln} (hb : RightT b) (hm : RightT m) (ht : RightT t) (h : ApartD b m t) : confL b m t = [] := by
  unfold confL
  rw [List.filter_eq_nil_iff]
  intro p _ hbad
  unfold badB at hbad
  rw [Bool.or_eq_true, Bool.and_eq_true, Bool.and_eq_true, decide_eq_true_iff, decide_eq_true_iff, decide_eq_true_iff, decide_eq_true_iff] at hbad
  have hdl : 1 < p.length → p.dropLast ≠ [] := fun h1 e => by
    have := congrArg List.length e
    rw [List.length_dropLast, List.length_nil] at this
    omega
  have each : ∀ s : List Ln, RightT s → (∀ q : Pth, q.head? = p.head? → decO b m t q = stO s q) → False := fun s hs hd => by
    rw [hd p rfl] at hbad
    rcases hbad with h1 | ⟨⟨h1, h2⟩, h3⟩
    · have := hs.st_bounds p; omega
    · rw [hd _ (head_drop (hdl h2))] at h3
      exact hs.st_iff.1 h3 (drop_in hs (hs.st_ge.1 h1) (hdl h2))
  rcases side_dec hb hm ht h p.head? with h1 | h1
  · exact each t ht fun q hq => (h1 q hq).2
  · exact each m hm fun q hq => (h1 q hq).2
theorem apart_merge {b m t : List Ln} (hb : RightT b) (hm : RightT m) (ht : RightT t) (h : ApartD b m t) (hl : b.length + m.length + t.length ≤ 200) : ∃ u, MergeIs b m t u [] 0 :=
  ⟨_, .inr ⟨⟨hb, hm, ht⟩, .inr (.inr ⟨apart_conf hb hm ht h, Nat.le_trans (decE_len b m t) hl, rfl, rfl, rfl⟩)⟩⟩
theorem st_in {N M : Nat} {s t : List Ln} (hs : RightN N s) (ht : RightN M t) {p : Pth} (h : stO s p = stO t p) : isIn s p ↔ isIn t p := by rw [← hs.st_ge, ← ht.st_ge, h]
theorem gone_ok {b : List Ln} {p : Pth} : goneB b p = true ↔ ¬ isIn b p ∧ (p.dropLast = [] ∨ isIn b p.dropLast) := by
  unfold goneB
  rw [Bool.and_eq_true, Bool.not_eq_true', inB_no, Bool.or_eq_true, inB_yes, decide_eq_true_iff]
theorem goneL_paths (b : List Ln) (l : List (Pth × Int)) : goneL b l = ((l.map Prod.fst).filter (goneB b)).map fun p => ⟨1, p, 0⟩ := by
  unfold goneL
  rw [List.filter_map, List.map_map]
  rfl
/-- What is left to do for what comes out is what the other side has done. -/
theorem apart_rest {b m t u : List Ln} {l : List Pth} (h : ApartD b m t) (hu : MergeIs b m t u l 0) : diffL m u = diffL b t := by
  have hru := hu.right
  have hst := fun p => (hu.state p).2
  obtain ⟨⟨hb, hm, ht⟩, _⟩ := hu.zero
  have side := fun w => side_dec hb hm ht h w
  -- for each path either the one pair or the other
  have both : ∀ p : Pth, ((stO m p = stO b p ∧ stO u p = stO t p) ∧ (p.dropLast ≠ [] → stO u p.dropLast = stO t p.dropLast)) ∨ (stO t p = stO b p ∧ stO u p = stO m p) := fun p => by
    rcases side p.head? with h1 | h1
    · refine .inl ⟨⟨(h1 p rfl).1, by rw [hst p]; exact (h1 p rfl).2⟩, fun hd => ?_⟩
      rw [hst p.dropLast]; exact (h1 _ (head_drop hd)).2
    · exact .inr ⟨(h1 p rfl).1, by rw [hst p]; exact (h1 p rfl).2⟩
  unfold diffL
  have e1 : goneL u (entries m) = goneL t (entries b) := by
    rw [goneL_paths, goneL_paths]
    congr 1
    have asc : ∀ {s : List Ln} (_ : RightT s) (f : Pth → Bool), Asc (((entries s).map Prod.fst).filter f) := fun hs f => by
      refine List.Pairwise.filter _ ?_
      rw [List.pairwise_map]
      exact (sorted_iff _).1 hs.sorted
    refine Asc.ext (asc hm _) (asc hb _) fun p => ?_
    rw [List.mem_filter, List.mem_filter]
    have hpm : p ∈ (entries m).map Prod.fst ↔ isIn m p := mem_paths
    have hpb : p ∈ (entries b).map Prod.fst ↔ isIn b p := mem_paths
    rw [hpm, hpb, gone_ok, gone_ok]
    rcases both p with ⟨⟨h1, h2⟩, h3⟩ | ⟨h1, h2⟩
    · rw [st_in hm hb h1, st_in hru ht h2]
      by_cases hd : p.dropLast = []
      · simp [hd]
      · rw [st_in hru ht (h3 hd)]
    · rw [st_in hru hm h2, ← st_in ht hb h1]
      constructor
      · rintro ⟨x, y, _⟩; exact absurd x y
      · rintro ⟨x, y, _⟩; exact absurd x y
  have e2 : addsL m (entries u) = addsL b (entries t) := by
    unfold addsL
    congr 1
    have srt : ∀ {s : List Ln} (_ : RightT s) (f : Pth × Int → Bool), Sorted ((entries s).filter f) := fun hs f => by
      rw [sorted_iff]; exact ((sorted_iff _).1 hs.sorted).filter _
    refine Sorted.ext (srt hru _) (srt ht _) fun x => ?_
    rw [List.mem_filter, List.mem_filter, Bool.not_eq_true', Bool.not_eq_true', inB_no, inB_no]
    have hxu := hru.mem_st (p := x.1) (m := x.2)
    have hxt := ht.mem_st (p := x.1) (m := x.2)
    rw [show x ∈ entries u ↔ stO u x.1 = x.2 ∧ x.2 ≠ -1 from hxu, show x ∈ entries t ↔ stO t x.1 = x.2 ∧ x.2 ≠ -1 from hxt]
    rcases both x.1 with ⟨⟨h1, h2⟩, h3⟩ | ⟨h1, h2⟩
    · rw [h2, st_in hm hb h1]
    · rw [h2, h1, ← hm.st_iff, ← hb.st_iff]
      constructor
      · rintro ⟨⟨x1, x2⟩, x3⟩; exact absurd (x1.symm.trans x3) x2
      · rintro ⟨⟨x1, x2⟩, x3⟩; exact absurd (x1.symm.trans x3) x2
  have e3 : marksL m (entries u) = marksL b (entries t) := by
    unfold marksL
    congr 1
    have srt : ∀ {s : List Ln} (_ : RightT s) (f : Pth × Int → Bool), Sorted ((entries s).filter f) := fun hs f => by
      rw [sorted_iff]; exact ((sorted_iff _).1 hs.sorted).filter _
    have mark : ∀ {s : List Ln} (_ : RightT s) (x : Pth × Int), markB s x = true ↔ stO s x.1 ≠ -1 ∧ stO s x.1 ≠ x.2 := fun {s} hs x => by
      unfold markB
      rw [Bool.and_eq_true]
      constructor
      · rintro ⟨h4, h5⟩
        have h6 : stO s x.1 = markOf s x.1 := by unfold stO; rw [if_pos h4]
        refine ⟨fun e => hs.st_iff.1 e (inB_yes.1 h4), ?_⟩
        rw [h6]
        simpa using h5
      · rintro ⟨h4, h5⟩
        have h7 : inB s x.1 = true := by
          cases hh : inB s x.1 with
          | true => rfl
          | false => exact absurd (st_no (inB_no.1 hh)) h4
        have h6 : stO s x.1 = markOf s x.1 := by unfold stO; rw [if_pos h7]
        rw [h6] at h5
        exact ⟨h7, by simpa using h5⟩
    refine Sorted.ext (srt hru _) (srt ht _) fun x => ?_
    rw [List.mem_filter, List.mem_filter, mark hm, mark hb]
    have hxu := hru.mem_st (p := x.1) (m := x.2)
    have hxt := ht.mem_st (p := x.1) (m := x.2)
    rw [show x ∈ entries u ↔ stO u x.1 = x.2 ∧ x.2 ≠ -1 from hxu, show x ∈ entries t ↔ stO t x.1 = x.2 ∧ x.2 ≠ -1 from hxt]
    rcases both x.1 with ⟨⟨h1, h2⟩, h3⟩ | ⟨h1, h2⟩
    · rw [h2, h1]
    · rw [h2, h1]
      constructor
      · rintro ⟨⟨x1, _⟩, _, x4⟩; exact absurd x1 x4
      · rintro ⟨⟨x1, _⟩, _, x4⟩; exact absurd x1 x4
  rw [e1, e2, e3]
/-- The base, with both differences applied. -/
theorem apart_runs {b m t u : List Ln} {l : List Pth} (h : ApartD b m t) (hu : MergeIs b m t u l 0) : RunOk b (diffL b m ++ diffL b t) u := by
  have hru := hu.right
  have hr := apart_rest h hu
  obtain ⟨⟨hb, hm, ht⟩, _⟩ := hu.zero
  exact run_app (diff_runs hb hm) (hr ▸ diff_runs hm hru)
end Go.Proofs.Ytfajfjocpgbmeaa.T

namespace Go.Proofs.Ytfajfjocpgbmeaa
namespace T
open Go

theorem GoodP.taken {N : Nat} {l : List (Pth × Int)} (h : GoodP N l) (k : Nat) : GoodP N (l.take k) := by
  refine ⟨by have := h.len; rw [List.length_take]; omega, fun i j hj hij => by
    rw [List.length_take] at hj
    rw [List.getElem_take, List.getElem_take]
    exact h.sorted i j (by omega) hij, fun x hx => h.ne x (List.mem_of_mem_take hx), fun x hx => h.deep x (List.mem_of_mem_take hx), fun x hx => h.long x (List.mem_of_mem_take hx), fun x hx => h.mark x (List.mem_of_mem_take hx), fun x hx q w e hq => ?_⟩
  obtain ⟨i, hi, ei⟩ := List.mem_iff_getElem.1 hx
  rw [List.length_take] at hi
  rw [List.getElem_take] at ei
  obtain ⟨j, hj, hjl, ej⟩ : ∃ j, ∃ _ : j < i, ∃ hjl : j < l.length, l[j].1 = q := by
    obtain ⟨j, hj, ej, _⟩ := h.parent (i := i) (by omega) (by rw [ei]; exact e) hq
    exact ⟨j, hj, by omega, ej⟩
  refine ⟨l[j].2, List.mem_iff_getElem.2 ⟨j, by rw [List.length_take]; omega, ?_⟩⟩
  rw [List.getElem_take, ← ej]
/-- The next one, put. -/
theorem GoodP.next {N : Nat} {l : List (Pth × Int)} (h : GoodP N l) {k : Nat} (hk : k < l.length) {up : Pth} {w : List UInt8} {m : Int} (e : l[k] = (up ++ [w], m)) :
    Open (ofP (l.take k)) up ∧ putL (ofP (l.take k)) up w m = ofP (l.take (k + 1)) := by
  have h0 := h.taken k
  have h1 := h.taken (k + 1)
  have hsnoc : l.take (k + 1) = l.take k ++ [(up ++ [w], m)] := by rw [List.take_succ_eq_append_getElem hk, e]
  have hmem := List.getElem_mem hk
  rw [e] at hmem
  have hopen : Open (ofP (l.take k)) up := by
    by_cases hu : up = []
    · exact .inl hu
    · right
      obtain ⟨j, hj, ej, _⟩ := h.parent (i := k) hk (by rw [e]) hu
      have hjl : j < (l.take k).length := by rw [List.length_take]; omega
      refine ⟨j, by rw [ofP_len]; exact hjl, ?_⟩
      rw [h0.path j j (Nat.le_refl _) hjl, List.getElem_take]
      exact ej
  have hno : ∀ i, i < (ofP (l.take k)).length → pathL (ofP (l.take k)) i ≠ up ++ [w] := by
    intro i hi ei
    rw [ofP_len] at hi
    rw [h0.path i i (Nat.le_refl _) hi, List.getElem_take] at ei
    rw [List.length_take] at hi
    have hs := h.sorted i k hk (by omega)
    rw [e, ei] at hs
    rw [pless_irr] at hs
    cases hs
  refine ⟨hopen, ?_⟩
  have hlong := h.long _ hmem
  simp only [last_snoc] at hlong
  have hdeep := h.deep _ hmem
  simp only [List.length_append, List.length_singleton] at hdeep
  obtain ⟨p1, p2⟩ := h0.right.putL (m := m) hopen hno (by rw [ofP_len, List.length_take]; have := h.len; omega) (by omega) hlong (h.mark _ hmem)
  refine p1.ext h1.right fun x => ?_
  rw [p2 x, h0.entries, h1.entries, hsnoc, List.mem_append, List.mem_singleton]
  exact Or.comm
/-- How many of some paths are decided as there, and not bad. -/
def cntM (b m t : List Ln) (l : List Pth) : Nat := (l.filter fun p => thereB b m t p && !badB b m t p).length
theorem filter_one {α : Type} (f : α → Bool) (x : α) : [x].filter f = if f x = true then [x] else [] := by
  by_cases h : f x = true
  · rw [if_pos h, List.filter_cons_of_pos h]; rfl
  · rw [if_neg h, List.filter_cons_of_neg h]; rfl
theorem cntM_next (b m t : List Ln) (l : List Pth) (p : Pth) : cntM b m t (l ++ [p]) = cntM b m t l + if (thereB b m t p && !badB b m t p) = true then 1 else 0 := by
  unfold cntM
  rw [List.filter_append, List.length_append, filter_one (fun p => thereB b m t p && !badB b m t p) p]
  congr 1
  by_cases h : (thereB b m t p && !badB b m t p) = true
  · rw [if_pos h, if_pos h]; rfl
  · rw [if_neg h, if_neg h]; rfl
theorem cntM_all {b m t : List Ln} (h : confL b m t = []) : cntM b m t (allP b m t) = (decE b m t).length := by
  unfold cntM decE
  rw [List.length_map]
  congr 1
  refine List.filter_congr fun p hp => ?_
  have hb : badB b m t p = false := by
    cases hx : badB b m t p with
    | false => rfl
    | true =>
      have : p ∈ confL b m t := List.mem_filter.2 ⟨hp, hx⟩
      rw [h] at this
      cases this
  rw [hb]; simp
theorem cntM_le (b m t : List Ln) (l : List Pth) : cntM b m t l ≤ l.length := List.length_filter_le _ _
theorem bad_next (b m t : List Ln) (l : List Pth) (p : Pth) : (l ++ [p]).filter (badB b m t) = l.filter (badB b m t) ++ if badB b m t p = true then [p] else [] := by
  rw [List.filter_append]
  congr 1
  by_cases h : badB b m t p = true
  · rw [if_pos h, List.filter_cons_of_pos h]; rfl
  · rw [if_neg h, List.filter_cons_of_neg h]; rfl
/-- Those decided as there, along the list. -/
def decTo (b m t : List Ln) (l : List Pth) : List (Pth × Int) := (l.filter (thereB b m t)).map fun p => (p, decO b m t p)
theorem decTo_next (b m t : List Ln) (l : List Pth) (p : Pth) : decTo b m t (l ++ [p]) = decTo b m t l ++ if thereB b m t p = true then [(p, decO b m t p)] else [] := by
  unfold decTo
  rw [List.filter_append, List.map_append]
  congr 1
  by_cases h : thereB b m t p = true
  · rw [if_pos h, List.filter_cons_of_pos h]; rfl
  · rw [if_neg h, List.filter_cons_of_neg h]; rfl
theorem decTo_take (b m t : List Ln) {L : List Pth} (hL : L = allP b m t) (k : Nat) : decTo b m t (L.take k) = (decE b m t).take (decTo b m t (L.take k)).length := by
  subst hL
  have e : decE b m t = decTo b m t ((allP b m t).take k) ++ decTo b m t ((allP b m t).drop k) := by
    unfold decTo
    rw [← List.map_append, ← List.filter_append, List.take_append_drop]; rfl
  rw [e, List.take_left]
/-- The next one that is decided as there, put. -/
theorem decTo_put {b m t : List Ln} (good : GoodP 200 (decE b m t)) {L : List Pth} (hL : L = allP b m t) {i : Nat} (hi : i < L.length) {P up : Pth} {w : List UInt8} {r : Int} (hP : L[i] = P) (e : P = up ++ [w]) (hd : decO b m t P = r) (hr : 0 ≤ r) :
    Open (ofP (decTo b m t (L.take i))) up ∧ putL (ofP (decTo b m t (L.take i))) up w r = ofP (decTo b m t (L.take (i + 1))) := by
  have hn : decTo b m t (L.take (i + 1)) = decTo b m t (L.take i) ++ [(P, r)] := by
    rw [List.take_succ_eq_append_getElem hi, hP, decTo_next, if_pos (by unfold thereB; rw [hd]; exact decide_eq_true hr), hd]
  have h1 := decTo_take b m t hL i
  have h2 := decTo_take b m t hL (i + 1)
  obtain ⟨j, hj⟩ : ∃ j, (decTo b m t (L.take i)).length = j := ⟨_, rfl⟩
  have hj2 : (decTo b m t (L.take (i + 1))).length = j + 1 := by rw [hn, List.length_append, hj]; rfl
  rw [hj] at h1
  rw [hj2] at h2
  have hlen := congrArg List.length h2
  rw [hj2, List.length_take] at hlen
  have hjG : j < (decE b m t).length := by omega
  have hat : (decE b m t)[j] = (P, r) := by
    have e1 : (decE b m t).take (j + 1) = (decE b m t).take j ++ [(P, r)] := by rw [← h2, ← h1]; exact hn
    rw [List.take_succ_eq_append_getElem hjG] at e1
    have e2 := List.append_cancel_left e1
    injection e2
  rw [h1, h2]
  exact good.next hjG (by rw [hat, e])
theorem decTo_skip {b m t : List Ln} {L : List Pth} {i : Nat} (hi : i < L.length) {P : Pth} {r : Int} (hP : L[i] = P) (hd : decO b m t P = r) (hr : r < 0) : decTo b m t (L.take (i + 1)) = decTo b m t (L.take i) := by
  rw [List.take_succ_eq_append_getElem hi, hP, decTo_next, if_neg (by unfold thereB; rw [hd, decide_eq_false (by omega)]; simp), List.append_nil]
theorem decTo_right {b m t : List Ln} (good : GoodP 200 (decE b m t)) {L : List Pth} (hL : L = allP b m t) (i : Nat) : RightT (ofP (decTo b m t (L.take i))) := by
  rw [decTo_take b m t hL i]
  exact (good.taken _).right
/-- What a decision can be. -/
theorem dec_cases {b m t : List Ln} (hm : RightT m) (ht : RightT t) (p : Pth) : decO b m t p = -2 ∨ decO b m t p = -1 ∨ (0 ≤ decO b m t p ∧ decO b m t p ≤ 3) := by
  by_cases h : decO b m t p = -2
  · exact .inl h
  · rcases dec_side (b := b) (m := m) (t := t) (p := p) h with e | e
    · have := hm.st_bounds p; omega
    · have := ht.st_bounds p; omega
theorem bad_torn {b m t : List Ln} {p : Pth} (h : decO b m t p = -2) : badB b m t p = true := by unfold badB; rw [h]; rfl
theorem bad_absent {b m t : List Ln} {p : Pth} (h : decO b m t p = -1) : badB b m t p = false := by unfold badB; rw [h]; rfl
theorem bad_there {b m t : List Ln} {p : Pth} {r : Int} (h : decO b m t p = r) (h0 : 0 ≤ r) : badB b m t p = (decide (1 < p.length) && decide (decO b m t p.dropLast = -1)) := by
  unfold badB
  rw [h, decide_eq_false (show ¬ r = -2 by omega), decide_eq_true h0, Bool.false_or, Bool.true_and]
theorem there_yes {b m t : List Ln} {p : Pth} {r : Int} (h : decO b m t p = r) (h0 : 0 ≤ r) : thereB b m t p = true := by unfold thereB; rw [h]; exact decide_eq_true h0
theorem there_no {b m t : List Ln} {p : Pth} {r : Int} (h : decO b m t p = r) (h0 : r < 0) : thereB b m t p = false := by unfold thereB; rw [h]; exact decide_eq_false (by omega)
end T
end Go.Proofs.Ytfajfjocpgbmeaa
