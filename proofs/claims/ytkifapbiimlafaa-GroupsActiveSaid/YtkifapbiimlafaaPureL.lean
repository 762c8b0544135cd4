/-
  Plain laws of layer 6 (lines): a path that is added to a tree. Condition: a path of at most 16 words of at most 40 bytes.
  Plain laws of layer 6 (lines): where a new path's lines go; a tree's commands, as text and as tokens; commands read one by one. Condition: a tree, paths of at most 16 words of at most 40 bytes.
  Plain laws of layer 6 (lines), third part: a tree's commands as text and as tokens; commands that are read one by one; what stands twice. Condition: a tree.
  Plain laws of layer 6 (lines), fourth part: the commands of a tree are read as that tree. Condition: a tree.
-/
import Derived.Test.YtkifapbiimlafaaPureP

namespace Go.Proofs.Ytkifapbiimlafaa.T

theorem RightN.mono {N M : Nat} {t : List Ln} (h : RightN N t) (hM : t.length ≤ M) : RightN M t := ⟨hM, h.deep, h.long, h.mark, h.first, h.step, h.rise⟩
/-- A path's first lines, each where it lacks. -/
def addTo (t : List Ln) (p : Pth) : Nat → List Ln
  | 0 => t
  | n + 1 => if findI (addTo t p n) (p.take (n + 1)) < 0 then putL (addTo t p n) (p.take n) (p.getD n []) 0 else addTo t p n
def addL (t : List Ln) (p : Pth) : List Ln := addTo t p p.length
theorem take_next (p : Pth) (n : Nat) (h : n < p.length) : p.take n ++ [p.getD n []] = p.take (n + 1) := by
  rw [List.take_succ_eq_append_getElem h]
  unfold List.getD
  rw [List.getElem?_eq_getElem h]; rfl
/-- What is there behind n of its words. -/
structure Added (t : List Ln) (p : Pth) (n : Nat) (u : List Ln) : Prop where
  right : RightN 216 u
  len : u.length ≤ t.length + n
  grows : t.length ≤ u.length
  mem : ∀ x, x ∈ entries u ↔ x ∈ entries t ∨ ∃ j, j < n ∧ x = (p.take (j + 1), (0 : Int)) ∧ ∀ i, i < t.length → pathL t i ≠ p.take (j + 1)
theorem Added.has {t : List Ln} {p : Pth} {n : Nat} {u : List Ln} (h : Added t p n u) {j : Nat} (hj : j < n) : ∃ i, i < u.length ∧ pathL u i = p.take (j + 1) := by
  by_cases ht : ∃ i, i < t.length ∧ pathL t i = p.take (j + 1)
  · obtain ⟨i, hi, e⟩ := ht
    obtain ⟨k, hk, e1, _⟩ := (mem_entries u _ _).1 ((h.mem (p.take (j + 1), (at_ t i).mark)).2 (.inl ((mem_entries t _ _).2 ⟨i, hi, e, rfl⟩)))
    exact ⟨k, hk, e1⟩
  · obtain ⟨k, hk, e1, _⟩ := (mem_entries u _ _).1 ((h.mem (p.take (j + 1), 0)).2 (.inr ⟨j, hj, rfl, fun i hi e => ht ⟨i, hi, e⟩⟩))
    exact ⟨k, hk, e1⟩
theorem add_to {t : List Ln} (h : RightT t) {p : Pth} (hp : p.length ≤ 16) (hw : ∀ w ∈ p, w.length ≤ 40) : ∀ n, n ≤ p.length → Added t p n (addTo t p n)
  | 0, _ => ⟨h.mono (by have := h.len; omega), by simp [addTo], Nat.le_refl _, fun x => ⟨.inl, fun hx => by
      rcases hx with hx | ⟨j, hj, _⟩
      · exact hx
      · omega⟩⟩
  | n + 1, hn => by
    have ih := add_to h hp hw n (by omega)
    have hlen := h.len
    unfold addTo
    by_cases hf : findI (addTo t p n) (p.take (n + 1)) < 0
    · rw [if_pos hf]
      have hno : ∀ i, i < (addTo t p n).length → pathL (addTo t p n) i ≠ p.take n ++ [p.getD n []] := by
        rw [take_next p n (by omega)]
        rcases findI_cases (addTo t p n) (p.take (n + 1)) with ⟨_, hno⟩ | ⟨i, _, hi, _⟩
        · exact hno
        · omega
      have hopen : Open (addTo t p n) (p.take n) := by
        cases n with
        | zero => exact .inl (by simp)
        | succ m => exact .inr (ih.has (Nat.lt_succ_self m))
      have hl := ih.len
      have hg := ih.grows
      have hwn : (p.getD n []).length ≤ 40 := by
        unfold List.getD
        rw [List.getElem?_eq_getElem (show n < p.length by omega)]
        exact hw _ (List.getElem_mem _)
      obtain ⟨r1, r2⟩ := ih.right.putL hopen (m := 0) hno (by omega) (by rw [List.length_take]; omega) hwn (by omega)
      rw [take_next p n (by omega)] at r2 hno
      refine ⟨r1, by rw [putL_len]; omega, by rw [putL_len]; omega, fun x => ?_⟩
      rw [r2 x, ih.mem x]
      constructor
      · rintro (e | e | ⟨j, hj, e1, e2⟩)
        · refine .inr ⟨n, by omega, e, fun i hi e2 => ?_⟩
          obtain ⟨k, hk, e3, _⟩ := (mem_entries _ _ _).1 ((ih.mem (p.take (n + 1), (at_ t i).mark)).2 (.inl ((mem_entries t _ _).2 ⟨i, hi, e2, rfl⟩)))
          exact hno k hk e3
        · exact .inl e
        · exact .inr ⟨j, by omega, e1, e2⟩
      · rintro (e | ⟨j, hj, e1, e2⟩)
        · exact .inr (.inl e)
        · by_cases hjn : j = n
          · subst hjn; exact .inl e1
          · exact .inr (.inr ⟨j, by omega, e1, e2⟩)
    · rw [if_neg hf]
      obtain ⟨i0, hi0, e0⟩ : ∃ i, i < (addTo t p n).length ∧ pathL (addTo t p n) i = p.take (n + 1) := by
        rcases findI_cases (addTo t p n) (p.take (n + 1)) with ⟨h1, _⟩ | ⟨i, hi, _, e⟩
        · omega
        · exact ⟨i, hi, e⟩
      have hit : ∃ i, i < t.length ∧ pathL t i = p.take (n + 1) := by
        rcases (ih.mem _).1 ((mem_entries _ _ _).2 ⟨i0, hi0, e0, rfl⟩) with hm | ⟨j, hj, e1, _⟩
        · obtain ⟨i, hi, e, _⟩ := (mem_entries t _ _).1 hm
          exact ⟨i, hi, e⟩
        · injection e1 with e1 _
          have := congrArg List.length e1
          rw [List.length_take, List.length_take] at this
          omega
      have hl := ih.len
      refine ⟨ih.right, by omega, ih.grows, fun x => ?_⟩
      rw [ih.mem x]
      constructor
      · rintro (e | ⟨j, hj, e1, e2⟩)
        · exact .inl e
        · exact .inr ⟨j, by omega, e1, e2⟩
      · rintro (e | ⟨j, hj, e1, e2⟩)
        · exact .inl e
        · by_cases hjn : j = n
          · subst hjn
            obtain ⟨i, hi, e⟩ := hit
            exact absurd e (e2 i hi)
          · exact .inr ⟨j, by omega, e1, e2⟩
/-- A path that is added. -/
theorem add_is {t : List Ln} (h : RightT t) {p : Pth} (hp : p.length ≤ 16) (hw : ∀ w ∈ p, w.length ≤ 40) : Added t p p.length (addL t p) := add_to h hp hw _ (Nat.le_refl _)
theorem add_right {t : List Ln} (h : RightT t) {p : Pth} (hp : p.length ≤ 16) (hw : ∀ w ∈ p, w.length ≤ 40) (h200 : (addL t p).length ≤ 200) : RightT (addL t p) := (add_is h hp hw).right.mono h200
/-- The path is there, and so is what was there. -/
theorem add_there {t : List Ln} (h : RightT t) {p : Pth} (hp : p.length ≤ 16) (hw : ∀ w ∈ p, w.length ≤ 40) (hne : p ≠ []) : ∃ i, i < (addL t p).length ∧ pathL (addL t p) i = p := by
  have hpos := List.length_pos_iff.2 hne
  obtain ⟨i, hi, e⟩ := (add_is h hp hw).has (show p.length - 1 < p.length by omega)
  exact ⟨i, hi, by rw [e, show p.length - 1 + 1 = p.length by omega, List.take_length]⟩
theorem add_keeps {t : List Ln} (h : RightT t) {p : Pth} (hp : p.length ≤ 16) (hw : ∀ w ∈ p, w.length ≤ 40) {i : Nat} (hi : i < t.length) : ∃ k, k < (addL t p).length ∧ pathL (addL t p) k = pathL t i ∧ (at_ (addL t p) k).mark = (at_ t i).mark :=
  (mem_entries _ _ _).1 (((add_is h hp hw).mem _).2 (.inl ((mem_entries t _ _).2 ⟨i, hi, rfl, rfl⟩)))
/-- Added again it changes nothing. -/
theorem add_again {t : List Ln} {p : Pth} (h : ∀ j, j < p.length → ∃ i, i < t.length ∧ pathL t i = p.take (j + 1)) {N : Nat} (hR : RightN N t) : ∀ n, n ≤ p.length → addTo t p n = t
  | 0, _ => rfl
  | n + 1, hn => by
    unfold addTo
    rw [add_again h hR n (by omega)]
    obtain ⟨i, hi, e⟩ := h n (by omega)
    rw [findI_some hR hi e, if_neg (by omega)]
theorem add_twice {t : List Ln} (h : RightT t) {p : Pth} (hp : p.length ≤ 16) (hw : ∀ w ∈ p, w.length ≤ 40) : addL (addL t p) p = addL t p :=
  add_again (fun _ hj => (add_is h hp hw).has hj) (add_is h hp hw).right _ (Nat.le_refl _)
/-- Two paths, added in either order. -/
theorem add_swap {t : List Ln} (h : RightT t) {p q : Pth} (hp : p.length ≤ 16) (hw : ∀ w ∈ p, w.length ≤ 40) (hq : q.length ≤ 16) (hv : ∀ w ∈ q, w.length ≤ 40) (h1 : (addL t p).length ≤ 200) (h2 : (addL t q).length ≤ 200) :
    addL (addL t p) q = addL (addL t q) p := by
  have a := add_is h hp hw
  have b := add_is h hq hv
  have a2 := add_is (add_right h hp hw h1) hq hv
  have b2 := add_is (add_right h hq hv h2) hp hw
  refine RightN.ext a2.right b2.right fun x => ?_
  have key : ∀ {p q : Pth} {u : List Ln}, Added t p p.length u → ∀ x : Pth × Int, (∃ j, j < q.length ∧ x = (q.take (j + 1), (0 : Int)) ∧ ∀ i, i < u.length → pathL u i ≠ q.take (j + 1)) ↔
      (∃ j, j < q.length ∧ x = (q.take (j + 1), (0 : Int)) ∧ ∀ i, i < t.length → pathL t i ≠ q.take (j + 1)) ∧ ¬ ∃ j, j < p.length ∧ x = (p.take (j + 1), (0 : Int)) ∧ ∀ i, i < t.length → pathL t i ≠ p.take (j + 1) := by
    intro p q u ha x
    constructor
    · rintro ⟨j, hj, rfl, hno⟩
      refine ⟨⟨j, hj, rfl, fun i hi e => ?_⟩, ?_⟩
      · obtain ⟨k, hk, e1, _⟩ := (mem_entries _ _ _).1 ((ha.mem (q.take (j + 1), (at_ t i).mark)).2 (.inl ((mem_entries t _ _).2 ⟨i, hi, e, rfl⟩)))
        exact hno k hk e1
      · rintro ⟨k, hk, e, hk2⟩
        obtain ⟨i, hi, e1, _⟩ := (mem_entries _ _ _).1 ((ha.mem (q.take (j + 1), 0)).2 (.inr ⟨k, hk, e, hk2⟩))
        exact hno i hi e1
    · rintro ⟨⟨j, hj, rfl, hno⟩, hnp⟩
      refine ⟨j, hj, rfl, fun i hi e => ?_⟩
      rcases (ha.mem _).1 ((mem_entries _ _ _).2 ⟨i, hi, e, rfl⟩) with hm | ⟨k, hk, e1, e2⟩
      · obtain ⟨i2, hi2, e3, _⟩ := (mem_entries t _ _).1 hm
        exact hno i2 hi2 e3
      · injection e1 with e1 _
        exact hnp ⟨k, hk, by rw [e1], e2⟩
  rw [a2.mem x, b2.mem x, a.mem x, b.mem x, key a x, key b x]
  by_cases hP : ∃ j, j < p.length ∧ x = (p.take (j + 1), (0 : Int)) ∧ ∀ i, i < t.length → pathL t i ≠ p.take (j + 1)
  · by_cases hQ : ∃ j, j < q.length ∧ x = (q.take (j + 1), (0 : Int)) ∧ ∀ i, i < t.length → pathL t i ≠ q.take (j + 1)
    · simp only [hP, hQ] <;> simp
    · simp only [hP, hQ] <;> simp
  · by_cases hQ : ∃ j, j < q.length ∧ x = (q.take (j + 1), (0 : Int)) ∧ ∀ i, i < t.length → pathL t i ≠ q.take (j + 1)
    · simp only [hP, hQ] <;> simp
    · simp only [hP, hQ]
/-- To a tree without marks. -/
theorem add_zero {t : List Ln} (h : RightT t) (z : ∀ x ∈ entries t, x.2 = 0) {p : Pth} (hp : p.length ≤ 16) (hw : ∀ w ∈ p, w.length ≤ 40) : ∀ x, x ∈ entries (addL t p) ↔ x ∈ entries t ∨ ∃ j, j < p.length ∧ x = (p.take (j + 1), (0 : Int)) := by
  intro x
  rw [(add_is h hp hw).mem x]
  constructor
  · rintro (e | ⟨j, hj, e, _⟩)
    · exact .inl e
    · exact .inr ⟨j, hj, e⟩
  · rintro (e | ⟨j, hj, rfl⟩)
    · exact .inl e
    · by_cases ht : ∃ i, i < t.length ∧ pathL t i = p.take (j + 1)
      · obtain ⟨i, hi, e⟩ := ht
        have hm := (mem_entries t (p.take (j + 1)) (at_ t i).mark).2 ⟨i, hi, e, rfl⟩
        have hz := z _ hm
        simp only at hz
        rw [hz] at hm
        exact .inl hm
      · exact .inr ⟨j, hj, rfl, fun i hi e => ht ⟨i, hi, e⟩⟩
/-- A tree of all beginnings of these paths, without marks. -/
structure Built (ps : List Pth) (t : List Ln) : Prop where
  right : RightT t
  mem : ∀ x, x ∈ entries t ↔ ∃ p ∈ ps, ∃ j, j < p.length ∧ x = (p.take (j + 1), (0 : Int))
theorem Built.zero {ps : List Pth} {t : List Ln} (h : Built ps t) : ∀ x ∈ entries t, x.2 = 0 := by
  intro x hx
  obtain ⟨p, _, j, _, rfl⟩ := (h.mem x).1 hx
  rfl
theorem Built.nil : Built [] [] := ⟨⟨by simp, fun i h => by simp at h, fun i h => by simp at h, fun i h => by simp at h, fun h => by simp at h, fun i h => by simp at h, fun i k _ h => by simp at h⟩, fun x => by simp [entries]⟩
theorem Built.add {ps : List Pth} {t : List Ln} (h : Built ps t) {p : Pth} (hp : p.length ≤ 16) (hw : ∀ w ∈ p, w.length ≤ 40) (h200 : (addL t p).length ≤ 200) : Built (ps ++ [p]) (addL t p) := by
  refine ⟨add_right h.right hp hw h200, fun x => ?_⟩
  rw [add_zero h.right h.zero hp hw x, h.mem x]
  constructor
  · rintro (⟨q, hq, e⟩ | e)
    · exact ⟨q, List.mem_append_left _ hq, e⟩
    · exact ⟨p, by simp, e⟩
  · rintro ⟨q, hq, e⟩
    rcases List.mem_append.1 hq with hq | hq
    · exact .inl ⟨q, hq, e⟩
    · rw [List.mem_singleton] at hq
      subst hq
      exact .inr e
/-- The order of the paths changes nothing. -/
theorem Built.same {ps qs : List Pth} {a b : List Ln} (ha : Built ps a) (hb : Built qs b) (h : ∀ p, p ∈ ps ↔ p ∈ qs) : a = b := by
  refine RightN.ext ha.right hb.right fun x => ?_
  rw [ha.mem x, hb.mem x]
  constructor
  · rintro ⟨p, hp, e⟩; exact ⟨p, (h p).1 hp, e⟩
  · rintro ⟨p, hp, e⟩; exact ⟨p, (h p).2 hp, e⟩
/-- Each line's path begins that of a line under which nothing stands. -/
theorem leaf_below (t : List Ln) : ∀ (n i : Nat), t.length - i ≤ n → i < t.length → ∃ k s, k < t.length ∧ leafB t k = true ∧ pathL t k = pathL t i ++ s
  | 0, i, hn, hi => by omega
  | n + 1, i, hn, hi => by
    by_cases hl : leafB t i = true
    · exact ⟨i, [], hi, hl, (List.append_nil _).symm⟩
    · have hk : kidsL t i ≠ [] := fun e => hl ((leaf_iff t i hi).2 e)
      obtain ⟨c, hc⟩ := List.exists_mem_of_ne_nil _ hk
      obtain ⟨hcl, hcu⟩ := (mem_kids t _ c).1 hc
      have hlt := under_lt t c
      obtain ⟨k, s, k1, k2, k3⟩ := leaf_below t n c (by omega) hcl
      refine ⟨k, [wd t c] ++ s, k1, k2, ?_⟩
      rw [k3, path_under t c, hcu, pathI_nat, List.append_assoc]
/-- The tree without its marks. -/
def bareT (t : List Ln) : List Ln := t.map fun x => ⟨x.depth, x.word, 0⟩
/-- The paths of the lines under which nothing stands. -/
def leafPaths (t : List Ln) : List Pth := (leavesL t).map (pathL t)
theorem leaf_built {t : List Ln} (h : RightT t) (x : Pth × Int) : (∃ p ∈ leafPaths t, ∃ j, j < p.length ∧ x = (p.take (j + 1), (0 : Int))) ↔ ∃ i, i < t.length ∧ x = (pathL t i, (0 : Int)) := by
  constructor
  · rintro ⟨p, hp, j, hj, rfl⟩
    obtain ⟨k, hk, rfl⟩ := List.mem_map.1 hp
    have hkl : k < t.length := List.mem_range.1 (List.mem_filter.1 hk).1
    obtain ⟨i, hi, e⟩ := h.path_take k k (j + 1) (Nat.le_refl _) hkl (by omega) (by omega)
    exact ⟨i, hi, by rw [e]⟩
  · rintro ⟨i, hi, rfl⟩
    obtain ⟨k, s, k1, k2, k3⟩ := leaf_below t _ i (Nat.le_refl _) hi
    have hlen : 0 < (pathL t i).length := List.length_pos_iff.2 path_ne
    refine ⟨pathL t k, List.mem_map.2 ⟨k, List.mem_filter.2 ⟨List.mem_range.2 k1, k2⟩, rfl⟩, (pathL t i).length - 1, by rw [k3, List.length_append]; omega, ?_⟩
    rw [k3, show (pathL t i).length - 1 + 1 = (pathL t i).length by omega, List.take_left]
/-- Lines of the same depths and words have the same paths. -/
theorem underF_like {a b : List Ln} (hd : ∀ i, dp a i = dp b i) (d : Int) : ∀ n, underF a d n = underF b d n
  | 0 => rfl
  | n + 1 => by unfold underF; rw [hd n, underF_like hd d n]
theorem pathF_same {a b : List Ln} (hd : ∀ i, dp a i = dp b i) (hw : ∀ i, wd a i = wd b i) : ∀ (f : Nat) (i : Int), pathF a f i = pathF b f i
  | 0, _ => rfl
  | f + 1, i => by
    unfold pathF
    by_cases h : i < 0
    · rw [if_pos h, if_pos h]
    · rw [if_neg h, if_neg h]
      have hu : underL a i.toNat = underL b i.toNat := by unfold underL; rw [hd, underF_like hd]
      rw [hu, hw, pathF_same hd hw f]
theorem pathL_same {a b : List Ln} (hd : ∀ i, dp a i = dp b i) (hw : ∀ i, wd a i = wd b i) (i : Nat) : pathL a i = pathL b i := pathF_same hd hw _ _
theorem RightN.same {N : Nat} {a b : List Ln} (h : RightN N a) (hl : b.length = a.length) (hd : ∀ i, dp b i = dp a i) (hw : ∀ i, wd b i = wd a i) (hm : ∀ i, i < b.length → 0 ≤ (at_ b i).mark ∧ (at_ b i).mark ≤ 3) : RightN N b := by
  refine ⟨by rw [hl]; exact h.len, fun i hi => by rw [hd]; exact h.deep i (by omega), fun i hi => by rw [hw]; exact h.long i (by omega), hm, fun hp => by rw [hd]; exact h.first (by omega), fun i hi => by rw [hd, hd]; exact h.step i (by omega), fun i k hik hk he hj => ?_⟩
  rw [hw, hw]
  refine h.rise i k hik (by omega) (by rw [← hd k, ← hd i]; exact he) fun j h1 h2 => ?_
  have := hj j h1 h2
  rwa [hd, hd] at this
theorem bare_at (t : List Ln) (i : Nat) : at_ (bareT t) i = ⟨dp t i, wd t i, 0⟩ := by
  unfold bareT at_ dp wd at_ List.getD
  rw [List.getElem?_map]
  cases h : t[i]? with
  | none => rfl
  | some x => rfl
theorem bare_len (t : List Ln) : (bareT t).length = t.length := by unfold bareT; rw [List.length_map]
theorem bare_right {N : Nat} {t : List Ln} (h : RightN N t) : RightN N (bareT t) :=
  h.same (bare_len t) (fun i => by unfold dp; rw [bare_at]; rfl) (fun i => by unfold wd; rw [bare_at]; rfl) (fun i _ => by rw [bare_at]; exact ⟨Int.le_refl _, (by omega : (0 : Int) ≤ 3)⟩)
theorem bare_path (t : List Ln) (i : Nat) : pathL (bareT t) i = pathL t i := pathL_same (fun i => by unfold dp; rw [bare_at]; rfl) (fun i => by unfold wd; rw [bare_at]; rfl) i
/-- The leaves' paths, added one by one, make the tree without its marks. -/
theorem built_bare {t : List Ln} (h : RightT t) {u : List Ln} (hu : Built (leafPaths t) u) : u = bareT t := by
  refine RightN.ext hu.right (bare_right h) fun x => ?_
  rw [hu.mem x, leaf_built h x]
  constructor
  · rintro ⟨i, hi, rfl⟩
    exact (mem_entries _ _ _).2 ⟨i, by rw [bare_len]; exact hi, bare_path t i, by rw [bare_at]⟩
  · intro hx
    obtain ⟨i, hi, e1, e2⟩ := (mem_entries _ x.1 x.2).1 hx
    rw [bare_len] at hi
    rw [bare_path] at e1
    rw [bare_at] at e2
    exact ⟨i, hi, by rw [e1]; exact Prod.ext rfl e2.symm⟩
end Go.Proofs.Ytkifapbiimlafaa.T

namespace Go.Proofs.Ytkifapbiimlafaa.T

/-- The lines that a path adds, from its n-th word on. -/
def freshP (p : Pth) (n k : Nat) : List (Pth × Int) := (List.range k).map fun i => (p.take (n + i + 1), (0 : Int))
def freshL (p : Pth) (n k : Nat) : List Ln := (List.range k).map fun i => ⟨((n + i : Nat) : Int), p.getD (n + i) [], 0⟩
theorem freshP_next (p : Pth) (n k : Nat) : freshP p n (k + 1) = freshP p n k ++ [(p.take (n + k + 1), (0 : Int))] := by
  unfold freshP; rw [List.range_succ, List.map_append]; rfl
theorem freshL_next (p : Pth) (n k : Nat) : freshL p n (k + 1) = freshL p n k ++ [⟨((n + k : Nat) : Int), p.getD (n + k) [], 0⟩] := by
  unfold freshL; rw [List.range_succ, List.map_append]; rfl
theorem freshP_len (p : Pth) (n k : Nat) : (freshP p n k).length = k := by unfold freshP; rw [List.length_map, List.length_range]
theorem freshL_len (p : Pth) (n k : Nat) : (freshL p n k).length = k := by unfold freshL; rw [List.length_map, List.length_range]
theorem mem_fresh (p : Pth) (n k : Nat) (x : Pth × Int) : x ∈ freshP p n k ↔ ∃ j, j < k ∧ x = (p.take (n + j + 1), (0 : Int)) := by
  unfold freshP
  rw [List.mem_map]
  constructor
  · rintro ⟨j, hj, e⟩; exact ⟨j, List.mem_range.1 hj, e.symm⟩
  · rintro ⟨j, hj, e⟩; exact ⟨j, List.mem_range.2 hj, e.symm⟩
theorem ofP_fresh (p : Pth) (n k : Nat) (h : n + k ≤ p.length) : ofP (freshP p n k) = freshL p n k := by
  unfold ofP freshP freshL
  rw [List.map_map]
  refine List.map_congr_left fun i hi => ?_
  have hi := List.mem_range.1 hi
  show lnOf (p.take (n + i + 1), 0) = _
  rw [← take_next p (n + i) (by omega)]
  unfold lnOf
  rw [last_snoc]
  congr 1
  simp only [List.length_append, List.length_take, List.length_singleton]
  omega
theorem take_of_take (p : Pth) {a b : Nat} (h : a ≤ b) : (p.take b).take a = p.take a := by rw [List.take_take, Nat.min_eq_left h]
theorem take_more (p : Pth) {a b : Nat} (h : a ≤ b) : p.take b = p.take a ++ (p.take b).drop a := by
  conv => lhs; rw [← List.take_append_drop a (p.take b)]
  rw [take_of_take p h]
theorem pless_take (p : Pth) {a b : Nat} (h : a < b) (hb : b ≤ p.length) : pless (p.take a) (p.take b) = true := by
  rw [take_more p (Nat.le_of_lt h)]
  refine pless_more _ _ fun e => ?_
  have := congrArg List.length e
  rw [List.length_drop, List.length_take, List.length_nil] at this
  omega
theorem take_ne (p : Pth) {a : Nat} (h : 0 < a) (hp : 0 < p.length) : p.take a ≠ [] := by
  intro e
  have := congrArg List.length e
  rw [List.length_take, List.length_nil] at this
  omega
theorem getD_mem (p : Pth) {n : Nat} (h : n < p.length) : p.getD n [] ∈ p := by
  unfold List.getD
  rw [List.getElem?_eq_getElem h]
  exact List.getElem_mem _
theorem fresh_good {t : List Ln} (h : RightT t) {p : Pth} (hp : p.length ≤ 16) (hw : ∀ w ∈ p, w.length ≤ 40) {n P : Nat} (hP : P ≤ t.length) (hopen : Open t (p.take n))
    (hlt : ∀ i, i < P → i < t.length → pless (pathL t i) (p.take (n + 1)) = true) (hgt : ∀ i, P ≤ i → i < t.length → pless (p.take (n + 1)) (pathL t i) = true) :
    ∀ k, n + k ≤ p.length → GoodP 216 ((entries t).take P ++ freshP p n k ++ (entries t).drop P)
  | 0, _ => by
    have hlen := h.len
    have e : (entries t).take P ++ freshP p n 0 ++ (entries t).drop P = entries t := by
      show (entries t).take P ++ [] ++ (entries t).drop P = entries t
      rw [List.append_nil, List.take_append_drop]
    rw [e]
    exact (h.mono (M := 216) (by omega)).good
  | k + 1, hk => by
    have ih := fresh_good h hp hw hP hopen hlt hgt k (by omega)
    have hlen := h.len
    have hA : ((entries t).take P).length = P := by rw [List.length_take, entries_len]; omega
    have hF := freshP_len p n k
    have hAF : ((entries t).take P ++ freshP p n k).length = P + k := by rw [List.length_append, hA, hF]
    have hL : ((entries t).take P ++ freshP p n k ++ (entries t).drop P).length = t.length + k := by
      rw [List.length_append, hAF, List.length_drop, entries_len]; omega
    have e : (entries t).take P ++ freshP p n (k + 1) ++ (entries t).drop P = insP ((entries t).take P ++ freshP p n k ++ (entries t).drop P) (P + k) (p.take (n + k + 1), 0) := by
      unfold insP
      rw [List.take_left' hAF, List.drop_left' hAF, freshP_next]
      simp
    rw [e]
    have hq1 : p.take (n + k + 1) = p.take (n + k) ++ [p.getD (n + k) []] := (take_next p (n + k) (by omega)).symm
    refine ih.ins (by rw [hL]; omega) (fun y hy => ?_) (fun y hy => ?_) (take_ne p (by omega) (by omega)) (by rw [List.length_take]; omega) ?_ ⟨Int.le_refl 0, (by decide : (0 : Int) ≤ 3)⟩ (fun q w e2 hq => ?_)
    · rw [List.take_left' hAF, List.mem_append] at hy
      show pless y.1 (p.take (n + k + 1)) = true
      rcases hy with hy | hy
      · obtain ⟨i, hi, rfl⟩ := List.getElem_of_mem hy
        rw [hA] at hi
        rw [List.getElem_take, entries_at t i (by omega)]
        have h1 := hlt i hi (by omega)
        cases k with
        | zero => exact h1
        | succ k => exact pless_trans _ _ _ h1 (pless_take p (by omega) (by omega))
      · obtain ⟨j, hj, rfl⟩ := (mem_fresh ..).1 hy
        exact pless_take p (by omega) (by omega)
    · rw [List.drop_left' hAF] at hy
      show pless (p.take (n + k + 1)) y.1 = true
      obtain ⟨i, hi, rfl⟩ := List.getElem_of_mem hy
      rw [List.length_drop, entries_len] at hi
      rw [List.getElem_drop, entries_at t (P + i) (by omega)]
      show pless (p.take (n + k + 1)) (pathL t (P + i)) = true
      have h1 := hgt (P + i) (by omega) (by omega)
      rw [take_more p (show n + 1 ≤ n + k + 1 by omega)]
      refine pless_off _ _ _ h1 ?_
      rintro ⟨x, hx⟩
      obtain ⟨m, hm, em⟩ := h.path_take (P + i) (P + i) (n + 1) (Nat.le_refl _) (by omega) (by omega) (by rw [hx, List.length_append, List.length_take]; omega)
      have em2 : pathL t m = p.take (n + 1) := by
        rw [em, hx, List.take_append, List.length_take, Nat.min_eq_left (show n + 1 ≤ p.length by omega), Nat.sub_self, List.take_zero, List.append_nil, take_of_take p (Nat.le_refl _)]
      rcases Nat.lt_or_ge m P with h2 | h2
      · have := hlt m h2 hm; rw [em2, pless_irr] at this; cases this
      · have := hgt m h2 hm; rw [em2, pless_irr] at this; cases this
    · show ((p.take (n + k + 1)).getLastD []).length ≤ 40
      rw [hq1, last_snoc]
      exact hw _ (getD_mem p (by omega))
    · have e3 : p.take (n + k + 1) = q ++ [w] := e2
      rw [hq1] at e3
      obtain ⟨e4, _⟩ := List.append_inj' e3 rfl
      cases k with
      | zero =>
        rw [Nat.add_zero] at e4
        rcases hopen with h0 | ⟨i, hi, ei⟩
        · exact absurd (by rw [← e4]; exact h0) hq
        · refine ⟨(at_ t i).mark, ?_⟩
          have hm := (mem_entries t q _).2 ⟨i, hi, by rw [ei, e4], rfl⟩
          rw [← List.take_append_drop P (entries t), List.mem_append] at hm
          rw [List.mem_append, List.mem_append]
          rcases hm with hm | hm
          · exact .inl (.inl hm)
          · exact .inr hm
      | succ k =>
        refine ⟨0, ?_⟩
        rw [List.mem_append, List.mem_append]
        exact .inl (.inr ((mem_fresh ..).2 ⟨k, by omega, by rw [← e4]; rfl⟩))

/-- A path that is added: its new lines stand in a row, where they belong. -/
theorem add_split {t : List Ln} (h : RightT t) {p : Pth} (hp : p.length ≤ 16) (hw : ∀ w ∈ p, w.length ≤ 40) {n P : Nat} (hn : n ≤ p.length) (hP : P ≤ t.length) (hopen : Open t (p.take n))
    (hno : ∀ m, n < m → m ≤ p.length → ∀ i, i < t.length → pathL t i ≠ p.take m)
    (hlt : n < p.length → ∀ i, i < P → i < t.length → pless (pathL t i) (p.take (n + 1)) = true) (hgt : n < p.length → ∀ i, P ≤ i → i < t.length → pless (p.take (n + 1)) (pathL t i) = true) :
    t.take P ++ freshL p n (p.length - n) ++ t.drop P = addL t p := by
  have hbelow : ∀ j, j < n → ∃ i, i < t.length ∧ pathL t i = p.take (j + 1) := by
    intro j hj
    rcases hopen with h0 | ⟨i, hi, ei⟩
    · have := congrArg List.length h0
      rw [List.length_take, List.length_nil] at this
      omega
    · obtain ⟨k, hk, ek⟩ := h.path_take i i (j + 1) (Nat.le_refl _) hi (by omega) (by rw [ei, List.length_take]; omega)
      exact ⟨k, hk, by rw [ek, ei, take_of_take p (by omega)]⟩
  rcases Nat.eq_or_lt_of_le hn with rfl | hlt2
  · have e : addL t p = t := add_again (fun j hj => hbelow j hj) h _ (Nat.le_refl _)
    rw [e, Nat.sub_self]
    show t.take P ++ [] ++ t.drop P = t
    rw [List.append_nil, List.take_append_drop]
  · have hg := fresh_good h hp hw hP hopen (hlt hlt2) (hgt hlt2) (p.length - n) (by omega)
    have e : ofP ((entries t).take P ++ freshP p n (p.length - n) ++ (entries t).drop P) = t.take P ++ freshL p n (p.length - n) ++ t.drop P := by
      rw [← ofP_fresh p n (p.length - n) (by omega)]
      have e1 := h.ofP_entries
      unfold ofP at e1 ⊢
      rw [List.map_append, List.map_append, List.map_take, List.map_drop, e1]
    rw [← e]
    refine RightN.ext hg.right (add_is h hp hw).right fun x => ?_
    rw [hg.entries, (add_is h hp hw).mem x, List.mem_append, List.mem_append, mem_fresh]
    have hsplit : x ∈ entries t ↔ x ∈ (entries t).take P ∨ x ∈ (entries t).drop P := by rw [← List.mem_append, List.take_append_drop]
    rw [hsplit]
    constructor
    · rintro ((h1 | ⟨j, hj, rfl⟩) | h1)
      · exact .inl (.inl h1)
      · exact .inr ⟨n + j, by omega, rfl, fun i hi => hno (n + j + 1) (by omega) (by omega) i hi⟩
      · exact .inl (.inr h1)
    · rintro ((h1 | h1) | ⟨j, hj, rfl, h1⟩)
      · exact .inl (.inl h1)
      · exact .inr h1
      · rcases Nat.lt_or_ge j n with h2 | h2
        · obtain ⟨i, hi, e⟩ := hbelow j h2
          exact absurd e (h1 i hi)
        · exact .inl (.inr ⟨j - n, by omega, by rw [show n + (j - n) + 1 = j + 1 by omega]⟩)

/-- How many of a path's first lines are there. -/
def knownN (t : List Ln) (p : Pth) : Nat → Nat
  | 0 => 0
  | n + 1 => if findI t (p.take (n + 1)) < 0 then knownN t p n else n + 1
theorem known_le (t : List Ln) (p : Pth) : ∀ n, knownN t p n ≤ n
  | 0 => Nat.le_refl _
  | n + 1 => by
    unfold knownN
    by_cases h : findI t (p.take (n + 1)) < 0
    · rw [if_pos h]; have := known_le t p n; omega
    · rw [if_neg h]; exact Nat.le_refl _
theorem known_open (t : List Ln) (p : Pth) : ∀ n, Open t (p.take (knownN t p n))
  | 0 => .inl (by simp [knownN])
  | n + 1 => by
    unfold knownN
    by_cases h : findI t (p.take (n + 1)) < 0
    · rw [if_pos h]; exact known_open t p n
    · rw [if_neg h]
      rcases findI_cases t (p.take (n + 1)) with ⟨h1, _⟩ | ⟨i, hi, _, e⟩
      · omega
      · exact .inr ⟨i, hi, e⟩
theorem known_no (t : List Ln) (p : Pth) : ∀ n m, knownN t p n < m → m ≤ n → ∀ i, i < t.length → pathL t i ≠ p.take m
  | 0, m, h1, h2 => by omega
  | n + 1, m, h1, h2 => by
    unfold knownN at h1
    by_cases h : findI t (p.take (n + 1)) < 0
    · rw [if_pos h] at h1
      rcases Nat.lt_or_ge n m with h3 | h3
      · obtain rfl : m = n + 1 := by omega
        rcases findI_cases t (p.take (n + 1)) with ⟨_, hno⟩ | ⟨i, hi, hf, _⟩
        · exact hno
        · omega
      · exact known_no t p n m h1 h3
    · rw [if_neg h] at h1; omega

/-- The place of a new line of a word: behind the parts of its lesser siblings. -/
def placeTo (t : List Ln) (w : List UInt8) (z : Nat) (K : List Nat) : Nat := K.foldl (fun a k => if Op.bytesLess (wd t k) w = true then endL t k else a) z
theorem place_next (t : List Ln) (w : List UInt8) (z : Nat) (K : List Nat) (g : Nat) (h : g < K.length) : placeTo t w z (K.take (g + 1)) = if Op.bytesLess (wd t K[g]) w = true then endL t K[g] else placeTo t w z (K.take g) := by
  unfold placeTo
  rw [List.take_succ_eq_append_getElem h, List.foldl_append]; rfl
theorem place_cases (t : List Ln) (w : List UInt8) : ∀ (K : List Nat) (z : Nat), (placeTo t w z K = z ∧ ∀ k ∈ K, Op.bytesLess (wd t k) w = false) ∨ ∃ a k b, K = a ++ k :: b ∧ Op.bytesLess (wd t k) w = true ∧ (∀ x ∈ b, Op.bytesLess (wd t x) w = false) ∧ placeTo t w z K = endL t k
  | [], z => .inl ⟨rfl, fun k hk => by cases hk⟩
  | x :: K, z => by
    have e : placeTo t w z (x :: K) = placeTo t w (if Op.bytesLess (wd t x) w = true then endL t x else z) K := rfl
    rcases place_cases t w K (if Op.bytesLess (wd t x) w = true then endL t x else z) with ⟨h1, h2⟩ | ⟨a, k, b, h1, h2, h3, h4⟩
    · by_cases hx : Op.bytesLess (wd t x) w = true
      · refine .inr ⟨[], x, K, rfl, hx, h2, ?_⟩
        rw [e, h1, if_pos hx]
      · refine .inl ⟨by rw [e, h1, if_neg hx], fun k hk => ?_⟩
        rcases List.mem_cons.1 hk with rfl | hk
        · exact Bool.eq_false_iff.2 hx
        · exact h2 k hk
    · exact .inr ⟨x :: a, k, b, by rw [h1]; rfl, h2, h3, by rw [e, h4]⟩
theorem RightN.kid_in {N : Nat} {t : List Ln} (_h : RightN N t) {up : Int} (hu : -1 ≤ up ∧ up < t.length) {c : Nat} (hc : c < t.length) (e : underL t c = up) : up < c ∧ c < endI t up := by
  have h1 := under_lt t c
  refine ⟨by omega, ?_⟩
  unfold endI
  by_cases h0 : up < 0
  · rw [if_pos h0]; exact hc
  · rw [if_neg h0]
    obtain ⟨n, rfl⟩ := Int.eq_ofNat_of_zero_le (show 0 ≤ up by omega)
    rw [Int.toNat_natCast]
    obtain ⟨g1, g2, g3, g4⟩ := end_spec t n (by omega)
    have hs := under_spec t (dp t c) c
    have e2 : underF t (dp t c) c = (n : Int) := e
    rcases hs with ⟨hs, _⟩ | ⟨k, hk, hs, hd, hall⟩
    · omega
    · obtain rfl : k = n := by omega
      rcases Nat.lt_or_ge c (endL t k) with h2 | h2
      · exact h2
      · have h3 := g4 (by omega)
        rcases Nat.eq_or_lt_of_le h2 with h4 | h4
        · rw [h4] at h3; omega
        · have := hall (endL t k) g1 h4; omega
theorem RightN.kid_next {N : Nat} {t : List Ln} (h : RightN N t) {up : Int} (hu : -1 ≤ up ∧ up < t.length) {k : Nat} (hk : k < t.length) (e : underL t k = up) (hlt : endL t k < endI t up) : underL t (endL t k) = up := by
  obtain ⟨g1, g2, g3, g4⟩ := end_spec t k hk
  obtain ⟨k1, k2⟩ := h.kid_in hu hk e
  have hel : endL t k < t.length := by
    unfold endI at hlt
    by_cases h0 : up < 0
    · rw [if_pos h0] at hlt; exact hlt
    · rw [if_neg h0] at hlt
      have := (end_spec t up.toNat (by omega)).2.1
      omega
  have hdeep : ∀ m : Nat, up < m → m < endI t up → kidD t up ≤ dp t m := by
    intro m h1 h2
    unfold kidD
    unfold endI at h2
    by_cases h0 : up < 0
    · rw [if_pos h0] at h2 ⊢; exact (h.deep m h2).1
    · rw [if_neg h0] at h2 ⊢
      have := (end_spec t up.toNat (by omega)).2.2.1 m (by omega) h2
      omega
  have hD : ∀ n : Nat, n ≤ endI t up → DeepTo t up n := fun n hn m h1 h2 => hdeep m h1 (by omega)
  have hdk := (h.kid_iff hu.1 k1 hk (hD k (by omega))).1 e
  refine (h.kid_iff hu.1 (by omega) hel (hD _ (by omega))).2 ?_
  have h1 := hdeep (endL t k) (by omega) hlt
  have h2 := g4 hel
  omega
theorem RightN.kid_first {N : Nat} {t : List Ln} (_h : RightN N t) {up : Int} (hu : -1 ≤ up ∧ up < t.length) (hlt : (up + 1).toNat < endI t up) : (up + 1).toNat < t.length ∧ underL t (up + 1).toNat = up := by
  unfold endI at hlt
  by_cases h0 : up < 0
  · rw [if_pos h0] at hlt
    obtain rfl : up = -1 := by omega
    refine ⟨hlt, ?_⟩
    have := under_lt t (-1 + 1 : Int).toNat
    have e : (-1 + 1 : Int).toNat = 0 := rfl
    rw [e] at this ⊢
    omega
  · rw [if_neg h0] at hlt
    obtain ⟨n, rfl⟩ := Int.eq_ofNat_of_zero_le (show 0 ≤ up by omega)
    rw [Int.toNat_natCast] at hlt
    have e : ((n : Int) + 1).toNat = n + 1 := by omega
    rw [e] at hlt ⊢
    obtain ⟨g1, g2, g3, g4⟩ := end_spec t n (by omega)
    exact ⟨by omega, under_next t n (g3 (n + 1) (by omega) hlt)⟩
theorem RightN.place_ok {N : Nat} {t : List Ln} (h : RightN N t) {up : Int} (hu : -1 ≤ up ∧ up < t.length) {w : List UInt8} {e : Nat} (he : e ≤ endI t up) (h1 : e < endI t up → e < t.length ∧ underL t e = up ∧ Op.bytesLess w (wd t e) = true)
    (h2 : ∀ c, c < e → c < t.length → underL t c = up → Op.bytesLess (wd t c) w = true) :
    (∀ i, i < e → i < t.length → pless (pathL t i) (pathI t up ++ [w]) = true) ∧ (∀ i, e ≤ i → i < t.length → pless (pathI t up ++ [w]) (pathL t i) = true) := by
  rcases Nat.eq_or_lt_of_le he with rfl | hlt
  · exact h.put_end hu fun c hc hcu => h2 c (h.kid_in hu hc hcu).2 hc hcu
  · obtain ⟨a, b, c⟩ := h1 hlt
    exact h.put_ahead hu a b c fun k hk hku => h2 k hk (by omega) hku
/-- Siblings rise. -/
theorem RightN.kids_rise {N : Nat} {t : List Ln} (h : RightN N t) {up : Int} {a b : Nat} (hab : a < b) (hb : b < t.length) (ea : underL t a = up) (eb : underL t b = up) : Op.bytesLess (wd t a) (wd t b) = true := by
  have := h.path_less b hab hb
  rw [path_under t a, path_under t b, ea, eb, pless_app, pless_cons] at this
  rcases this with this | ⟨_, this⟩
  · exact this
  · simp [pless] at this
theorem endI_le {N : Nat} {t : List Ln} (_h : RightN N t) {up : Int} (hu : -1 ≤ up ∧ up < t.length) : (up + 1).toNat ≤ endI t up ∧ endI t up ≤ t.length := by
  unfold endI
  by_cases h0 : up < 0
  · rw [if_pos h0]; omega
  · rw [if_neg h0]
    obtain ⟨g1, g2, _⟩ := end_spec t up.toNat (by omega)
    omega
/-- The place that is found so is where the line belongs. -/
theorem RightN.place {N : Nat} {t : List Ln} (h : RightN N t) {up : Int} (hu : -1 ≤ up ∧ up < t.length) {w : List UInt8} (hnew : ∀ c, c < t.length → underL t c = up → wd t c ≠ w) :
    placeTo t w (up + 1).toNat (kidsL t up) ≤ t.length ∧ (∀ i, i < placeTo t w (up + 1).toNat (kidsL t up) → i < t.length → pless (pathL t i) (pathI t up ++ [w]) = true) ∧ (∀ i, placeTo t w (up + 1).toNat (kidsL t up) ≤ i → i < t.length → pless (pathI t up ++ [w]) (pathL t i) = true) := by
  obtain ⟨z1, z2⟩ := endI_le h hu
  have tri : ∀ c, c < t.length → underL t c = up → Op.bytesLess (wd t c) w = false → Op.bytesLess w (wd t c) = true := by
    intro c hc hcu hf
    rcases less_tri (wd t c) w with h1 | h1 | h1
    · rw [hf] at h1; cases h1
    · exact absurd h1 (hnew c hc hcu)
    · exact h1
  rcases place_cases t w (kidsL t up) (up + 1).toNat with ⟨e, hall⟩ | ⟨a, k, b, eK, hk, hb, e⟩
  · rw [e]
    refine ⟨by omega, h.place_ok hu z1 (fun hlt => ?_) (fun c hc hcl hcu => ?_)⟩
    · obtain ⟨f1, f2⟩ := h.kid_first hu hlt
      exact ⟨f1, f2, tri _ f1 f2 (hall _ ((mem_kids t _ _).2 ⟨f1, f2⟩))⟩
    · have := h.kid_in hu hcl hcu
      omega
  · have hkm : k ∈ kidsL t up := by rw [eK]; simp
    obtain ⟨k1, k2⟩ := (mem_kids t _ k).1 hkm
    obtain ⟨g1, g2, g3, g4⟩ := end_spec t k k1
    have hend : endL t k ≤ endI t up := by
      unfold endI
      by_cases h0 : up < 0
      · rw [if_pos h0]; exact g2
      · rw [if_neg h0]
        obtain ⟨n, rfl⟩ := Int.eq_ofNat_of_zero_le (show 0 ≤ up by omega)
        rw [Int.toNat_natCast]
        obtain ⟨q1, q2, q3, q4⟩ := end_spec t n (by omega)
        have hin := h.kid_in hu k1 k2
        unfold endI at hin
        rw [if_neg h0, Int.toNat_natCast] at hin
        have hin1 : n < k := by omega
        rcases Nat.lt_or_ge (endL t n) (endL t k) with h3 | h3
        · have a1 := g3 (endL t n) hin.2 h3
          have a2 := q4 (by omega)
          have a3 := q3 k hin1 hin.2
          omega
        · exact h3
    have hsort := kids_sorted t up
    rw [eK] at hsort
    have hbk : ∀ x ∈ b, k < x := (List.pairwise_cons.1 (List.pairwise_append.1 hsort).2.1).1
    have hak : ∀ x ∈ a, x < k := fun x hx => (List.pairwise_append.1 hsort).2.2 x hx k (by simp)
    rw [e]
    refine ⟨g2, h.place_ok hu hend (fun hlt => ?_) (fun c hc hcl hcu => ?_)⟩
    · have hu2 := h.kid_next hu k1 k2 hlt
      have hel : endL t k < t.length := by omega
      refine ⟨hel, hu2, tri _ hel hu2 ?_⟩
      have hm : endL t k ∈ kidsL t up := (mem_kids t _ _).2 ⟨hel, hu2⟩
      rw [eK] at hm
      rcases List.mem_append.1 hm with hm | hm
      · have := hak _ hm; omega
      · rcases List.mem_cons.1 hm with hm | hm
        · omega
        · exact hb _ hm
    · have hm : c ∈ kidsL t up := (mem_kids t _ _).2 ⟨hcl, hcu⟩
      rw [eK] at hm
      rcases List.mem_append.1 hm with hm | hm
      · exact less_trans _ _ _ (h.kids_rise (hak c hm) k1 hcu k2) hk
      · rcases List.mem_cons.1 hm with hm | hm
        · rw [hm]; exact hk
        · have hkc := hbk c hm
          have hdc := g3 c hkc hc
          have d1 := h.kid_in hu k1 k2
          have hs := under_spec t (dp t c) c
          have e2 : underF t (dp t c) c = up := hcu
          rcases hs with ⟨hs, hall⟩ | ⟨x, hx, hs, hd, hall⟩
          · have := hall k hkc; omega
          · have h5 : x < k := by omega
            have := hall k h5 hkc
            omega
/-- What Add makes of a tree and a path, as the code makes it. -/
theorem add_placed {t : List Ln} (h : RightT t) {p : Pth} (hp : p.length ≤ 16) (hw : ∀ w ∈ p, w.length ≤ 40) {n P : Nat} (hn : knownN t p p.length = n) (hlt : n < p.length) (hP : placeTo t (p.getD n []) (findI t (p.take n) + 1).toNat (kidsL t (findI t (p.take n))) = P) :
    P ≤ t.length ∧ t.take P ++ freshL p n (p.length - n) ++ t.drop P = addL t p := by
  subst hn
  have ho := known_open t p p.length
  have hle := known_le t p p.length
  obtain ⟨hu, hpi⟩ := ho.up h
  have hq := take_next p (knownN t p p.length) hlt
  have hno := known_no t p p.length
  obtain ⟨q1, q2, q3⟩ := h.place hu (w := p.getD (knownN t p p.length) []) (fun c hc hcu e => by
    refine hno (knownN t p p.length + 1) (by omega) (by omega) c hc ?_
    rw [path_under t c, hcu, hpi, e, hq])
  rw [hP] at q1 q2 q3
  rw [hpi, hq] at q2 q3
  exact ⟨q1, add_split h hp hw hle q1 ho hno (fun _ => q2) (fun _ => q3)⟩
theorem add_known {t : List Ln} (h : RightT t) {p : Pth} (hp : p.length ≤ 16) (hw : ∀ w ∈ p, w.length ≤ 40) (hn : knownN t p p.length = p.length) : addL t p = t := by
  have ho := known_open t p p.length
  rw [hn] at ho
  have := add_split h hp hw (n := p.length) (P := 0) (Nat.le_refl _) (Nat.zero_le _) ho (fun m h1 h2 => by omega) (fun h1 => by omega) (fun h1 => by omega)
  rw [← this, Nat.sub_self]; rfl
theorem add_len {t : List Ln} (h : RightT t) {p : Pth} (hp : p.length ≤ 16) (hw : ∀ w ∈ p, w.length ≤ 40) : (addL t p).length = t.length + (p.length - knownN t p p.length) := by
  have hle := known_le t p p.length
  rcases Nat.eq_or_lt_of_le hle with e | hlt
  · rw [add_known h hp hw e, e, Nat.sub_self]; rfl
  · obtain ⟨q1, q2⟩ := add_placed h hp hw rfl hlt rfl
    rw [← q2, List.length_append, List.length_append, freshL_len, List.length_take, List.length_drop]
    omega
end Go.Proofs.Ytkifapbiimlafaa.T

namespace Go.Proofs.Ytkifapbiimlafaa.S
open T (Ln Pth at_ dp wd RightT RightN pathL pathI underL findI entries addL leavesL leafPaths bareT)
open W (Tok Res lexL signK quoteL blankB stops)

def setW : List UInt8 := [115, 101, 116]
def deW : List UInt8 := [100, 101, 97, 99, 116, 105, 118, 97, 116, 101]
def prW : List UInt8 := [112, 114, 111, 116, 101, 99, 116]
def beginsB (w : List UInt8) : Bool := decide (w = setW ∨ w = deW ∨ w = prW)
/-- A path's words, as a command has them. -/
def wordsT (p : Pth) : List UInt8 := p.flatMap fun w => 32 :: quoteL w
def cmdT (v : List UInt8) (p : Pth) : List UInt8 := v ++ wordsT p ++ [59, 10]
def setsT (t : List Ln) (l : List Nat) : List UInt8 := l.flatMap fun i => cmdT setW (pathL t i)
def markC (t : List Ln) (i : Nat) : List UInt8 := (if (at_ t i).mark % 2 = 1 then cmdT deW (pathL t i) else []) ++ (if 1 < (at_ t i).mark then cmdT prW (pathL t i) else [])
def marksT (t : List Ln) (k : Nat) : List UInt8 := (List.range k).flatMap (markC t)
/-- A tree's commands. -/
def cmdsT (t : List Ln) : List UInt8 := setsT t (leavesL t) ++ marksT t t.length
theorem wordsT_snoc (p : Pth) (w : List UInt8) : wordsT (p ++ [w]) = wordsT p ++ 32 :: quoteL w := by simp [wordsT]
theorem setsT_snoc (t : List Ln) (l : List Nat) (i : Nat) : setsT t (l ++ [i]) = setsT t l ++ cmdT setW (pathL t i) := by simp [setsT]
theorem marksT_next (t : List Ln) (k : Nat) : marksT t (k + 1) = marksT t k ++ markC t k := by unfold marksT; rw [List.range_succ, List.flatMap_append]; simp
theorem wordsT_len (p : Pth) (h : ∀ w ∈ p, w.length ≤ 40) : (wordsT p).length ≤ 163 * p.length := by
  induction p with
  | nil => simp [wordsT]
  | cons w p ih =>
    have h1 := ih fun x hx => h x (List.mem_cons_of_mem _ hx)
    have h2 := h w (List.mem_cons_self ..)
    have h3 := (W.quote_len w).2
    have e : wordsT (w :: p) = 32 :: quoteL w ++ wordsT p := rfl
    rw [e, List.length_append, List.length_cons, List.length_cons]
    omega
theorem RightN.path_long {N : Nat} {t : List Ln} (h : RightN N t) : ∀ (n i : Nat), i ≤ n → i < t.length → ∀ w ∈ pathL t i, w.length ≤ 40
  | n, i, hin, hi, w, hw => by
    obtain ⟨k, hk, rfl⟩ := List.getElem_of_mem hw
    obtain ⟨j, hj, e⟩ := h.path_take i i (k + 1) (Nat.le_refl _) hi (by omega) (by omega)
    have e2 : pathL t j = (pathL t i).take k ++ [(pathL t i)[k]] := by rw [e, List.take_succ_eq_append_getElem hk]
    rw [T.path_under t j] at e2
    obtain ⟨_, e3⟩ := List.append_inj' e2 rfl
    have e4 : wd t j = (pathL t i)[k] := by simpa using e3
    rw [← e4]
    exact h.long j hj
theorem RightN.path_deep {N : Nat} {t : List Ln} (h : RightN N t) {i : Nat} (hi : i < t.length) : 0 < (pathL t i).length ∧ (pathL t i).length ≤ 16 := by
  have h1 := h.path_len i i (Nat.le_refl _) hi
  have h2 := h.deep i hi
  omega
theorem cmdT_len (v : List UInt8) (p : Pth) (hv : v.length ≤ 10) (hp : p.length ≤ 16) (h : ∀ w ∈ p, w.length ≤ 40) : (cmdT v p).length ≤ 3000 := by
  have h1 := wordsT_len p h
  unfold cmdT
  rw [List.length_append, List.length_append]
  simp only [List.length_cons, List.length_nil]
  omega
theorem sets_len {t : List Ln} (h : RightT t) : ∀ l : List Nat, (∀ i ∈ l, i < t.length) → (setsT t l).length ≤ 3000 * l.length
  | [], _ => by simp [setsT]
  | i :: l, hl => by
    have ih := sets_len h l fun j hj => hl j (List.mem_cons_of_mem _ hj)
    have hi := hl i (List.mem_cons_self ..)
    have h1 := cmdT_len setW (pathL t i) (by decide) (RightN.path_deep h hi).2 (RightN.path_long h i i (Nat.le_refl _) hi)
    have e : setsT t (i :: l) = cmdT setW (pathL t i) ++ setsT t l := rfl
    rw [e, List.length_append, List.length_cons]
    omega
theorem marks_len {t : List Ln} (h : RightT t) : ∀ k, k ≤ t.length → (marksT t k).length ≤ 6000 * k
  | 0, _ => by simp [marksT]
  | k + 1, hk => by
    have ih := marks_len h k (by omega)
    have h1 := cmdT_len deW (pathL t k) (by decide) (RightN.path_deep h (i := k) (by omega)).2 (RightN.path_long h k k (Nat.le_refl _) (by omega))
    have h2 := cmdT_len prW (pathL t k) (by decide) (RightN.path_deep h (i := k) (by omega)).2 (RightN.path_long h k k (Nat.le_refl _) (by omega))
    have h3 : (markC t k).length ≤ 6000 := by
      unfold markC
      rw [List.length_append]
      by_cases a : (at_ t k).mark % 2 = 1 <;> by_cases b : 1 < (at_ t k).mark <;> simp only [a, b, if_true, if_false, List.length_nil] <;> omega
    rw [marksT_next, List.length_append]
    omega

/-! ### rows -/
theorem tens_cmd (v : List UInt8) (p : Pth) (hv : Quiet v) : tens (cmdT v p) = 1 := by
  have hq : Quiet (v ++ wordsT p ++ [59]) := by
    refine (hv.app ?_).app ?_
    · intro b hb
      obtain ⟨w, _, hb⟩ := List.mem_flatMap.1 hb
      rcases List.mem_cons.1 hb with rfl | hb
      · decide
      · exact W.quote_bytes w b hb
    · intro b hb
      rw [List.mem_singleton] at hb
      subst hb; decide
  have e : cmdT v p = (v ++ wordsT p ++ [59]) ++ [10] := by unfold cmdT; simp
  rw [e, tens_app, tens_quiet hq]; rfl
theorem quiet_set : Quiet setW := by unfold Quiet setW; decide
theorem quiet_de : Quiet deW := by unfold Quiet deW; decide
theorem quiet_pr : Quiet prW := by unfold Quiet prW; decide
theorem tens_sets (t : List Ln) (l : List Nat) : tens (setsT t l) = l.length := by
  induction l with
  | nil => rfl
  | cons i l ih =>
    have e : setsT t (i :: l) = cmdT setW (pathL t i) ++ setsT t l := rfl
    rw [e, tens_app, tens_cmd _ _ quiet_set, ih, List.length_cons]; omega
/-- How many marks the first lines have. -/
def markN (t : List Ln) : Nat → Nat
  | 0 => 0
  | k + 1 => markN t k + ((at_ t k).mark % 2 + (at_ t k).mark / 2).toNat
theorem tens_marks {t : List Ln} (h : RightT t) : ∀ k, k ≤ t.length → tens (marksT t k) = markN t k
  | 0, _ => rfl
  | k + 1, hk => by
    have hm := h.mark k (by omega)
    rw [marksT_next, tens_app, tens_marks h k (by omega)]
    show _ = markN t k + _
    congr 1
    unfold markC
    rw [tens_app]
    by_cases a : (at_ t k).mark % 2 = 1
    · rw [if_pos a, tens_cmd _ _ quiet_de]
      by_cases b : 1 < (at_ t k).mark
      · rw [if_pos b, tens_cmd _ _ quiet_pr]; omega
      · rw [if_neg b]
        show 1 + 0 = _
        omega
    · rw [if_neg a]
      by_cases b : 1 < (at_ t k).mark
      · rw [if_pos b, tens_cmd _ _ quiet_pr]
        show 0 + 1 = _
        omega
      · rw [if_neg b]
        show 0 + 0 = _
        omega
theorem tens_cmds {t : List Ln} (h : RightT t) : tens (cmdsT t) = (leavesL t).length + markN t t.length := by
  unfold cmdsT; rw [tens_app, tens_sets, tens_marks h _ (Nat.le_refl _)]

/-! ### commands read -/
inductive RRes where
  | ok (t : List Ln)
  | bad (p : Nat) (e : Int)
/-- How many tokens the command in front takes, or where it cannot go on. -/
def sizeT (n : Nat) : Nat → List Tok → Nat ⊕ (Nat × Int)
  | _, [] => .inr (n, 2)
  | i, k :: l =>
    if k.kind = 4 ∧ 1 < i then .inl (i + 1)
    else if k.kind ≠ 1 ∨ (i = 0 ∧ beginsB k.word = false) then .inr (k.pos, 2)
    else if 16 < i then .inr (k.pos, 6)
    else sizeT n (i + 1) l
def bitOf (v : List UInt8) : Int := if v = deW then 1 else 2
def orM (m b : Int) : Int := if hasBit m b = true then m else m + b
def doT (t : List Ln) (v : List UInt8) (p : Pth) : List Ln ⊕ Int :=
  if v = setW then (if (addL t p).length ≤ 200 then .inl (addL t p) else .inr 5)
  else if findI t p < 0 then .inr 3
  else .inl (setM t (findI t p).toNat (orM (at_ t (findI t p).toNat).mark (bitOf v)))
def pathOf (l : List Tok) (m : Nat) : Pth := ((l.take (m - 1)).drop 1).map Tok.word
def readF (n : Nat) : Nat → List Ln → List Tok → RRes
  | 0, t, _ => .ok t
  | _ + 1, t, [] => .ok t
  | f + 1, t, k :: l =>
    match sizeT n 0 (k :: l) with
    | .inr x => .bad x.1 x.2
    | .inl m =>
      match doT t k.word (pathOf (k :: l) m) with
      | .inr e => .bad k.pos e
      | .inl u => readF n f u ((k :: l).drop m)
/-- What a text of commands says. -/
def readL (s : List UInt8) : RRes := match lexL 0 s with | .bad p e => .bad p e | .ok a => readF s.length a.length [] a

abbrev Cmd := List UInt8 × Pth
def cmdK (c : Cmd) : List Trip := (1, c.1, 0) :: (c.2.map fun w => ((1, w, 0) : Trip)) ++ [(4, [], 0)]
structure GoodC (c : Cmd) : Prop where
  verb : beginsB c.1 = true
  ne : c.2 ≠ []
  deep : c.2.length ≤ 16
  long : ∀ w ∈ c.2, w.length ≤ 40
def runC (t : List Ln) : List Cmd → Option (List Ln)
  | [] => some t
  | c :: cs => match doT t c.1 c.2 with | .inl u => runC u cs | .inr _ => none
theorem runC_app : ∀ (a b : List Cmd) (t : List Ln), runC t (a ++ b) = (runC t a).bind fun u => runC u b
  | [], b, t => rfl
  | c :: a, b, t => by
    have e1 : runC t (c :: a ++ b) = (match doT t c.1 c.2 with | .inl u => runC u (a ++ b) | .inr _ => none) := rfl
    have e2 : runC t (c :: a) = (match doT t c.1 c.2 with | .inl u => runC u a | .inr _ => none) := rfl
    rw [e1, e2]
    cases doT t c.1 c.2 with
    | inl u => exact runC_app a b u
    | inr e => rfl

theorem size_words (n : Nat) : ∀ (p : Pth) (i : Nat) (l : List Tok) (r : List Trip), l.map strip = (p.map fun w => ((1, w, 0) : Trip)) ++ (4, [], 0) :: r → 1 ≤ i → 1 < i + p.length → i + p.length ≤ 17 → sizeT n i l = .inl (i + p.length + 1)
  | [], i, [], r, h, _, _, _ => by simp at h
  | [], i, k :: l, r, h, h1, h2, h3 => by
    have hk : strip k = (4, [], 0) := by simpa using (List.cons.inj h).1
    have hk1 : k.kind = 4 := congrArg Prod.fst hk
    unfold sizeT
    rw [if_pos ⟨hk1, by simpa using h2⟩]; rfl
  | w :: p, i, [], r, h, _, _, _ => by simp at h
  | w :: p, i, k :: l, r, h, h1, h2, h3 => by
    have hk : strip k = (1, w, 0) := (List.cons.inj h).1
    have hk1 : k.kind = 1 := congrArg Prod.fst hk
    have ht : l.map strip = (p.map fun w => ((1, w, 0) : Trip)) ++ (4, [], 0) :: r := (List.cons.inj h).2
    rw [List.length_cons] at h2 h3
    unfold sizeT
    rw [if_neg (by omega), if_neg (by omega), if_neg (by omega), size_words n p (i + 1) l r ht (by omega) (by omega) (by omega), List.length_cons]
    congr 1; omega
theorem size_cmd (n : Nat) (c : Cmd) (l : List Tok) (r : List Trip) (hc : GoodC c) (h : l.map strip = cmdK c ++ r) : sizeT n 0 l = .inl (c.2.length + 2) ∧ pathOf l (c.2.length + 2) = c.2 ∧ ∃ k l', l = k :: l' ∧ k.word = c.1 ∧ (l.drop (c.2.length + 2)).map strip = r := by
  have hpos := List.length_pos_iff.2 hc.ne
  have hd := hc.deep
  cases l with
  | nil => simp [cmdK] at h
  | cons k l =>
    have e : cmdK c ++ r = (1, c.1, 0) :: ((c.2.map fun w => ((1, w, 0) : Trip)) ++ (4, [], 0) :: r) := by unfold cmdK; simp
    rw [e, List.map_cons] at h
    obtain ⟨hk, ht⟩ := List.cons.inj h
    have hk1 : k.kind = 1 := congrArg Prod.fst hk
    have hk2 : k.word = c.1 := congrArg (fun x : Trip => x.2.1) hk
    refine ⟨?_, ?_, k, l, rfl, hk2, ?_⟩
    · unfold sizeT
      rw [if_neg (by omega), if_neg (by rw [hk2, hc.verb]; simp [hk1]), if_neg (by omega), size_words n c.2 1 l r ht (Nat.le_refl _) (by omega) (by omega)]
      congr 1; omega
    · have e2 : (((k :: l).take (c.2.length + 2 - 1)).drop 1).map Tok.word = ((l.map strip).take c.2.length).map fun x : Trip => x.2.1 := by
        rw [show c.2.length + 2 - 1 = c.2.length + 1 by omega, List.take_succ_cons, List.drop_succ_cons, List.drop_zero, ← List.map_take, List.map_map]; rfl
      unfold pathOf
      rw [e2, ht, List.take_left' (by rw [List.length_map]), List.map_map]
      exact List.map_id'' (fun _ => rfl) c.2
    · rw [show c.2.length + 2 = (c.2.length + 1) + 1 by omega, List.drop_succ_cons, List.map_drop, ht]
      have e3 : (c.2.map fun w => ((1, w, 0) : Trip)) ++ (4, [], 0) :: r = ((c.2.map fun w => ((1, w, 0) : Trip)) ++ [(4, [], 0)]) ++ r := by simp
      rw [e3, List.drop_left' (by simp)]
/-- Commands that can be done are read. -/
theorem read_run (n : Nat) : ∀ (cs : List Cmd) (f : Nat) (t u : List Ln) (l : List Tok), l.map strip = cs.flatMap cmdK → (∀ c ∈ cs, GoodC c) → l.length ≤ f → runC t cs = some u → readF n f t l = .ok u
  | [], f, t, u, l, hl, _, _, hr => by
    have hl0 : l = [] := by simpa using hl
    subst hl0
    injection hr with hr
    subst hr
    cases f <;> rfl
  | c :: cs, f, t, u, l, hl, hg, hf, hr => by
    have hl2 : l.map strip = cmdK c ++ cs.flatMap cmdK := hl
    obtain ⟨h1, h2, k, l', rfl, h3, h4⟩ := size_cmd n c l _ (hg c (List.mem_cons_self ..)) hl2
    cases f with
    | zero => simp at hf
    | succ f =>
      unfold readF
      rw [h1]
      simp only
      rw [h2, h3]
      have hr2 : (match doT t c.1 c.2 with | .inl u => runC u cs | .inr _ => none) = some u := hr
      cases hd : doT t c.1 c.2 with
      | inr e => rw [hd] at hr2; cases hr2
      | inl v =>
        rw [hd] at hr2
        exact read_run n cs f v u _ h4 (fun x hx => hg x (List.mem_cons_of_mem _ hx)) (by rw [List.length_drop]; simp only [List.length_cons] at hf ⊢; omega) hr2

/-- The size of a command, turned round. -/
theorem size_back (n : Nat) : ∀ (l : List Tok) (i m : Nat), (∀ t ∈ l, W.GoodTok t) → 1 ≤ i → sizeT n i l = .inl m → ∃ (p : Pth) (r : List Trip), l.map strip = (p.map fun w => ((1, w, 0) : Trip)) ++ (4, [], 0) :: r ∧ 1 < i + p.length ∧ m = i + p.length + 1 ∧ (i ≤ 17 → i + p.length ≤ 17) ∧ ∀ w ∈ p, w.length ≤ 40
  | [], i, m, _, _, h => by unfold sizeT at h; cases h
  | k :: l, i, m, hg, hi, h => by
    have hk := hg k (List.mem_cons_self ..)
    unfold sizeT at h
    by_cases h1 : k.kind = 4 ∧ 1 < i
    · rw [if_pos h1] at h
      injection h with h
      have hs : strip k = (4, [], 0) := by
        rcases hk with ⟨a, _⟩ | ⟨_, b, c⟩ | ⟨a, _⟩
        · omega
        · unfold strip; rw [h1.1, b, c]
        · omega
      exact ⟨[], l.map strip, by rw [List.map_cons, hs]; rfl, by simpa using h1.2, by simpa using h.symm, fun h2 => by simpa using h2, fun w hw => by cases hw⟩
    · rw [if_neg h1] at h
      by_cases h2 : k.kind ≠ 1 ∨ (i = 0 ∧ beginsB k.word = false)
      · rw [if_pos h2] at h; cases h
      · rw [if_neg h2] at h
        have hk1 : k.kind = 1 := by
          rcases Decidable.em (k.kind = 1) with e | e
          · exact e
          · exact absurd (.inl e) h2
        by_cases h3 : 16 < i
        · rw [if_pos h3] at h; cases h
        · rw [if_neg h3] at h
          obtain ⟨p, r, e1, e2, e3, e4, e5⟩ := size_back n l (i + 1) m (fun t ht => hg t (List.mem_cons_of_mem _ ht)) (by omega) h
          have hs : strip k = (1, k.word, 0) ∧ k.word.length ≤ 40 := by
            rcases hk with ⟨a, b, c⟩ | ⟨a, _⟩ | ⟨a, _⟩
            · exact ⟨by unfold strip; rw [a, c], b⟩
            · omega
            · omega
          refine ⟨k.word :: p, r, by rw [List.map_cons, e1, hs.1]; rfl, by rw [List.length_cons]; omega, by rw [List.length_cons]; omega, fun _ => by rw [List.length_cons]; have := e4 (by omega); omega, fun w hw => ?_⟩
          rcases List.mem_cons.1 hw with rfl | hw
          · exact hs.2
          · exact e5 w hw
theorem size_cmd_back (n : Nat) {k : Tok} {l : List Tok} {m : Nat} (hg : ∀ t ∈ k :: l, W.GoodTok t) (h : sizeT n 0 (k :: l) = .inl m) : ∃ (p : Pth) (r : List Trip), (k :: l).map strip = cmdK (k.word, p) ++ r ∧ GoodC (k.word, p) ∧ m = p.length + 2 := by
  have hk := hg k (List.mem_cons_self ..)
  unfold sizeT at h
  rw [if_neg (by omega)] at h
  by_cases h2 : k.kind ≠ 1 ∨ (0 = 0 ∧ beginsB k.word = false)
  · rw [if_pos h2] at h; cases h
  · rw [if_neg h2, if_neg (by omega)] at h
    have hk1 : k.kind = 1 := by
      rcases Decidable.em (k.kind = 1) with e | e
      · exact e
      · exact absurd (.inl e) h2
    have hb : beginsB k.word = true := by
      cases e : beginsB k.word with
      | true => rfl
      | false => exact absurd (.inr ⟨rfl, e⟩) h2
    have hs : strip k = (1, k.word, 0) := by
      rcases hk with ⟨a, b, c⟩ | ⟨a, _⟩ | ⟨a, _⟩
      · unfold strip; rw [a, c]
      · omega
      · omega
    obtain ⟨p, r, e1, e2, e3, e4, e5⟩ := size_back n l 1 m (fun t ht => hg t (List.mem_cons_of_mem _ ht)) (Nat.le_refl _) h
    refine ⟨p, r, by rw [List.map_cons, e1, hs]; unfold cmdK; simp, ⟨hb, ?_, ?_, e5⟩, by omega⟩
    · intro e; subst e; simp at e2
    · have := e4 (by omega); show p.length ≤ 16; omega
/-- What is read is commands that can be done. -/
theorem read_back (n : Nat) : ∀ (f : Nat) (t u : List Ln) (l : List Tok), (∀ x ∈ l, W.GoodTok x) → l.length ≤ f → readF n f t l = .ok u → ∃ cs, l.map strip = cs.flatMap cmdK ∧ (∀ c ∈ cs, GoodC c) ∧ runC t cs = some u
  | 0, t, u, l, _, hf, h => by
    have hl : l = [] := List.eq_nil_of_length_eq_zero (by omega)
    subst hl
    injection h with h
    exact ⟨[], rfl, fun c hc => (by cases hc), by rw [← h]; rfl⟩
  | f + 1, t, u, [], _, _, h => by
    injection h with h
    exact ⟨[], rfl, fun c hc => (by cases hc), by rw [← h]; rfl⟩
  | f + 1, t, u, k :: l, hg, hf, h => by
    unfold readF at h
    cases hs : sizeT n 0 (k :: l) with
    | inr x => rw [hs] at h; cases h
    | inl m =>
      rw [hs] at h
      simp only at h
      obtain ⟨p, r, e1, e2, e3⟩ := size_cmd_back n hg hs
      subst e3
      obtain ⟨_, g2, k', l', e4, _, g4⟩ := size_cmd n (k.word, p) (k :: l) r e2 e1
      have g2' : pathOf (k :: l) (p.length + 2) = p := g2
      rw [g2'] at h
      cases hd : doT t k.word p with
      | inr e => rw [hd] at h; cases h
      | inl v =>
        rw [hd] at h
        obtain ⟨cs, c1, c2, c3⟩ := read_back n f v u _ (fun x hx => hg x (List.mem_of_mem_drop hx)) (by rw [List.length_drop]; simp only [List.length_cons] at hf ⊢; omega) h
        refine ⟨(k.word, p) :: cs, ?_, fun c hc => ?_, ?_⟩
        · show _ = cmdK (k.word, p) ++ cs.flatMap cmdK
          rw [← c1]
          have g4' : ((k :: l).drop (p.length + 2)).map strip = r := g4
          rw [g4', e1]
        · rcases List.mem_cons.1 hc with rfl | hc
          · exact e2
          · exact c2 c hc
        · show (match doT t k.word p with | .inl u => runC u cs | .inr _ => none) = some u
          rw [hd]
          exact c3

/-! ### what stands twice -/
/-- A command is done already. -/
def Held (t : List Ln) (c : Cmd) : Prop :=
  if c.1 = setW then ∀ j, j < c.2.length → ∃ i, i < t.length ∧ pathL t i = c.2.take (j + 1)
  else ∃ i, i < t.length ∧ pathL t i = c.2 ∧ hasBit (at_ t i).mark (bitOf c.1) = true
theorem bit_two (v : List UInt8) : bitOf v = 1 ∨ bitOf v = 2 := by
  unfold bitOf
  by_cases h : v = deW
  · rw [if_pos h]; exact .inl rfl
  · rw [if_neg h]; exact .inr rfl
theorem or_range {m b : Int} (hm : 0 ≤ m ∧ m ≤ 3) (hb : b = 1 ∨ b = 2) : 0 ≤ orM m b ∧ orM m b ≤ 3 := by
  unfold orM hasBit
  by_cases h : (b = 1 ∧ m % 2 = 1) ∨ (b = 2 ∧ 1 < m)
  · rw [if_pos (by simpa using h)]; exact hm
  · rw [if_neg (by simpa using h)]; omega
theorem or_has {m b : Int} (hm : 0 ≤ m ∧ m ≤ 3) (hb : b = 1 ∨ b = 2) : hasBit (orM m b) b = true := by
  unfold orM
  by_cases h : hasBit m b = true
  · rw [if_pos h]; exact h
  · rw [if_neg h]
    unfold hasBit at h ⊢
    simp only [decide_eq_true_eq] at h ⊢
    omega
theorem or_keeps {m b c : Int} (hm : 0 ≤ m ∧ m ≤ 3) (hb : b = 1 ∨ b = 2) (h : hasBit m c = true) : hasBit (orM m b) c = true := by
  unfold orM
  by_cases h2 : hasBit m b = true
  · rw [if_pos h2]; exact h
  · rw [if_neg h2]
    unfold hasBit at h h2 ⊢
    simp only [decide_eq_true_eq] at h h2 ⊢
    omega
theorem setM_path (t : List Ln) (k : Nat) (m : Int) (i : Nat) (hk : k < t.length) : pathL (setM t k m) i = pathL t i := T.pathL_same (fun j => setM_dp t k m j hk) (fun j => setM_wd t k m j hk) i
theorem do_cases {t u : List Ln} {v : List UInt8} {p : Pth} (h : doT t v p = .inl u) : (v = setW ∧ (addL t p).length ≤ 200 ∧ u = addL t p) ∨ (v ≠ setW ∧ ∃ i, i < t.length ∧ pathL t i = p ∧ u = setM t i (orM (at_ t i).mark (bitOf v))) := by
  unfold doT at h
  by_cases h1 : v = setW
  · rw [if_pos h1] at h
    by_cases h2 : (addL t p).length ≤ 200
    · rw [if_pos h2] at h
      injection h with h
      exact .inl ⟨h1, h2, h.symm⟩
    · rw [if_neg h2] at h; cases h
  · rw [if_neg h1] at h
    rcases T.findI_cases t p with ⟨e, _⟩ | ⟨i, hi, e, ep⟩
    · rw [e, if_pos (by omega)] at h; cases h
    · rw [e, if_neg (by omega), Int.toNat_natCast] at h
      injection h with h
      exact .inr ⟨h1, i, hi, ep, h.symm⟩
theorem do_right {t u : List Ln} {c : Cmd} (hR : RightT t) (hc : GoodC c) (h : doT t c.1 c.2 = .inl u) : RightT u := by
  rcases do_cases h with ⟨_, h2, rfl⟩ | ⟨_, i, hi, _, rfl⟩
  · exact T.add_right hR hc.deep hc.long h2
  · exact RightT.setM hR hi (or_range (hR.mark i hi) (bit_two _))
theorem do_held {t u : List Ln} {c : Cmd} (hR : RightT t) (hc : GoodC c) (h : doT t c.1 c.2 = .inl u) : Held u c := by
  unfold Held
  rcases do_cases h with ⟨h1, h2, rfl⟩ | ⟨h1, i, hi, ep, rfl⟩
  · rw [if_pos h1]
    exact fun j hj => (T.add_is hR hc.deep hc.long).has hj
  · rw [if_neg h1]
    refine ⟨i, by rw [setM_len]; exact hi, by rw [setM_path _ _ _ _ hi]; exact ep, ?_⟩
    rw [setM_at _ _ _ _ hi, if_pos rfl]
    exact or_has (hR.mark i hi) (bit_two _)
theorem do_keeps {t u : List Ln} {c d : Cmd} (hR : RightT t) (hc : GoodC c) (h : doT t c.1 c.2 = .inl u) (hd : Held t d) : Held u d := by
  unfold Held at hd ⊢
  rcases do_cases h with ⟨h1, h2, rfl⟩ | ⟨h1, i, hi, ep, rfl⟩
  · by_cases hs : d.1 = setW
    · rw [if_pos hs] at hd ⊢
      intro j hj
      obtain ⟨k, hk, e⟩ := hd j hj
      obtain ⟨k2, hk2, e2, _⟩ := T.add_keeps hR hc.deep hc.long hk
      exact ⟨k2, hk2, by rw [e2, e]⟩
    · rw [if_neg hs] at hd ⊢
      obtain ⟨k, hk, e, hb⟩ := hd
      obtain ⟨k2, hk2, e2, e3⟩ := T.add_keeps hR hc.deep hc.long hk
      exact ⟨k2, hk2, by rw [e2, e], by rw [e3]; exact hb⟩
  · by_cases hs : d.1 = setW
    · rw [if_pos hs] at hd ⊢
      intro j hj
      obtain ⟨k, hk, e⟩ := hd j hj
      exact ⟨k, by rw [setM_len]; exact hk, by rw [setM_path _ _ _ _ hi]; exact e⟩
    · rw [if_neg hs] at hd ⊢
      obtain ⟨k, hk, e, hb⟩ := hd
      refine ⟨k, by rw [setM_len]; exact hk, by rw [setM_path _ _ _ _ hi]; exact e, ?_⟩
      rw [setM_at _ _ _ _ hi]
      by_cases hki : k = i
      · rw [if_pos hki]
        subst hki
        exact or_keeps (hR.mark k hk) (bit_two _) hb
      · rw [if_neg hki]; exact hb
theorem setM_same (t : List Ln) (i : Nat) (hi : i < t.length) : setM t i (at_ t i).mark = t := by
  unfold setM
  have e : (⟨dp t i, wd t i, (at_ t i).mark⟩ : Ln) = t[i] := by
    have : at_ t i = t[i] := by unfold at_ List.getD; rw [List.getElem?_eq_getElem hi]; rfl
    rw [← this]; rfl
  rw [e]
  exact List.set_getElem_self hi
theorem held_same {t : List Ln} {c : Cmd} (hR : RightT t) (h : Held t c) : doT t c.1 c.2 = .inl t := by
  unfold Held at h
  unfold doT
  by_cases hs : c.1 = setW
  · rw [if_pos hs] at h ⊢
    have e : addL t c.2 = t := T.add_again h hR _ (Nat.le_refl _)
    rw [e, if_pos hR.len]
  · rw [if_neg hs] at h ⊢
    obtain ⟨i, hi, e, hb⟩ := h
    rw [T.findI_some hR hi e, if_neg (by omega), Int.toNat_natCast]
    have e2 : orM (at_ t i).mark (bitOf c.1) = (at_ t i).mark := by unfold orM; rw [if_pos hb]
    rw [e2, setM_same t i hi]
theorem run_held : ∀ (cs : List Cmd) (t u : List Ln), RightT t → (∀ c ∈ cs, GoodC c) → runC t cs = some u → RightT u ∧ (∀ c ∈ cs, Held u c) ∧ ∀ d, Held t d → Held u d
  | [], t, u, hR, _, h => by
    injection h with h
    subst h
    exact ⟨hR, fun c hc => (by cases hc), fun d hd => hd⟩
  | c :: cs, t, u, hR, hg, h => by
    have h2 : (match doT t c.1 c.2 with | .inl u => runC u cs | .inr _ => none) = some u := h
    have hc := hg c (List.mem_cons_self ..)
    cases hd : doT t c.1 c.2 with
    | inr e => rw [hd] at h2; cases h2
    | inl v =>
      rw [hd] at h2
      obtain ⟨r1, r2, r3⟩ := run_held cs v u (do_right hR hc hd) (fun x hx => hg x (List.mem_cons_of_mem _ hx)) h2
      refine ⟨r1, fun x hx => ?_, fun d hdd => r3 d (do_keeps hR hc hd hdd)⟩
      rcases List.mem_cons.1 hx with rfl | hx
      · exact r3 _ (do_held hR hc hd)
      · exact r2 x hx
theorem run_same : ∀ (cs : List Cmd) (t : List Ln), RightT t → (∀ c ∈ cs, Held t c) → runC t cs = some t
  | [], t, _, _ => rfl
  | c :: cs, t, hR, h => by
    show (match doT t c.1 c.2 with | .inl u => runC u cs | .inr _ => none) = some t
    rw [held_same hR (h c (List.mem_cons_self ..))]
    exact run_same cs t hR fun x hx => h x (List.mem_cons_of_mem _ hx)
theorem readL_right {s : List UInt8} {t : List Ln} (h : readL s = .ok t) : RightT t := by
  unfold readL at h
  cases hl : lexL 0 s with
  | bad p e => rw [hl] at h; cases h
  | ok a =>
    rw [hl] at h
    obtain ⟨cs, _, c2, c3⟩ := read_back s.length a.length [] t a (W.lexL_good s 0 a hl) (Nat.le_refl _) h
    exact (run_held cs [] t right_nil c2 c3).1
/-- Commands that stand twice do no more than once. -/
theorem read_twice {s : List UInt8} {t : List Ln} (h : readL s = .ok t) : readL (s ++ 10 :: s) = .ok t := by
  unfold readL at h
  cases hl : lexL 0 s with
  | bad p e => rw [hl] at h; cases h
  | ok a =>
    rw [hl] at h
    obtain ⟨cs, c1, c2, c3⟩ := read_back s.length a.length [] t a (W.lexL_good s 0 a hl) (Nat.le_refl _) h
    obtain ⟨r1, r2, _⟩ := run_held cs [] t right_nil c2 c3
    have hj := W.lexL_join s s 0 a hl
    have hs := W.lexL_shift s 0 (0 + s.length + 1)
    rw [Nat.zero_add, hl] at hs
    rw [Nat.zero_add] at hj hs
    have e : lexL 0 (s ++ 10 :: s) = .ok (a ++ a.map (Tok.shift (s.length + 1))) := by rw [hj, hs]; rfl
    unfold readL
    rw [e]
    refine read_run _ (cs ++ cs) _ [] t _ ?_ (fun c hc => ?_) (Nat.le_refl _) ?_
    · rw [List.map_append, strip_shift, List.flatMap_append, c1]
    · rcases List.mem_append.1 hc with hc | hc <;> exact c2 c hc
    · rw [runC_app, c3]
      exact run_same cs t r1 r2
theorem readF_bad (n : Nat) : ∀ (f : Nat) (t : List Ln) (l : List Tok) (q : Nat) (e : Int), readF n f t l = .bad q e → e ≠ 0
  | 0, t, l, q, e, h => by cases h
  | f + 1, t, [], q, e, h => by cases h
  | f + 1, t, k :: l, q, e, h => by
    unfold readF at h
    cases hs : sizeT n 0 (k :: l) with
    | inr x =>
      rw [hs] at h
      injection h with h1 h2
      have key : ∀ (l : List Tok) (i : Nat) (x : Nat × Int), sizeT n i l = .inr x → x.2 ≠ 0 := by
        intro l
        induction l with
        | nil => intro i x hx; unfold sizeT at hx; injection hx with hx; rw [← hx]; simp
        | cons y l ih =>
          intro i x hx
          unfold sizeT at hx
          split at hx
          · cases hx
          · split at hx
            · injection hx with hx; rw [← hx]; simp
            · split at hx
              · injection hx with hx; rw [← hx]; simp
              · exact ih _ _ hx
      rw [← h2]
      exact key _ _ _ hs
    | inl m =>
      rw [hs] at h
      simp only at h
      cases hd : doT t k.word (pathOf (k :: l) m) with
      | inr e2 =>
        rw [hd] at h
        injection h with h1 h2
        subst h2
        unfold doT at hd
        split at hd
        · split at hd
          · cases hd
          · injection hd with hd; omega
        · split at hd
          · injection hd with hd; omega
          · cases hd
      | inl u =>
        rw [hd] at h
        exact readF_bad n f u _ q e h
end Go.Proofs.Ytkifapbiimlafaa.S

namespace Go.Proofs.Ytkifapbiimlafaa.S
open T (Ln Pth at_ dp wd RightT RightN pathL pathI underL findI entries addL leavesL leafPaths bareT Built)
open W (Tok Res lexL signK quoteL blankB stops)

theorem verb_cases {v : List UInt8} (h : beginsB v = true) : v = setW ∨ v = deW ∨ v = prW := of_decide_eq_true h
theorem verb_quote {v : List UInt8} (h : beginsB v = true) : quoteL v = v ∧ v.length ≤ 40 := by
  rcases verb_cases h with rfl | rfl | rfl <;> exact ⟨by decide +kernel, by decide⟩
theorem words_stops (p : Pth) (r : List UInt8) : stops (wordsT p ++ 59 :: r) := by
  cases p with
  | nil => exact W.stops_cons 59 r (by decide)
  | cons w p => exact W.stops_cons 32 _ (by decide)
theorem lexS_words (p : Pth) (hw : ∀ w ∈ p, w.length ≤ 40) (r : List UInt8) : lexS (wordsT p ++ 59 :: r) = (lexS (59 :: r)).map ((p.map fun w => ((1, w, 0) : Trip)) ++ ·) := by
  induction p with
  | nil => exact (map_nil _).symm
  | cons w p ih =>
    have e : wordsT (w :: p) ++ 59 :: r = 32 :: (quoteL w ++ (wordsT p ++ 59 :: r)) := by simp [wordsT]
    rw [e, lexS_blank 32 _ (by decide), lexS_name w _ (hw w (List.mem_cons_self ..)) (words_stops p r), ih fun x hx => hw x (List.mem_cons_of_mem _ hx), map_cons, map_app]; rfl
theorem lexS_cmd (c : Cmd) (hc : GoodC c) (r : List UInt8) : lexS (cmdT c.1 c.2 ++ r) = (lexS r).map (cmdK c ++ ·) := by
  obtain ⟨h1, h2⟩ := verb_quote hc.verb
  have e : cmdT c.1 c.2 ++ r = quoteL c.1 ++ (wordsT c.2 ++ 59 :: 10 :: r) := by rw [h1]; unfold cmdT; simp
  rw [e, lexS_name c.1 _ h2 (words_stops _ _), lexS_words _ hc.long, lexS_sign 59 _ (by decide), lexS_blank 10 _ (by decide), map_cons, map_cons, map_app, map_app]
  have e2 : ([(1, c.1, 0)] : List Trip) ++ (c.2.map fun w => ((1, w, 0) : Trip)) ++ [(signK 59, [], 0)] = cmdK c := by
    unfold cmdK
    have : signK 59 = 4 := by decide
    rw [this]; simp
  rw [← e2]
theorem lexS_cmds : ∀ cs : List Cmd, (∀ c ∈ cs, GoodC c) → lexS (cs.flatMap fun c => cmdT c.1 c.2) = some (cs.flatMap cmdK)
  | [], _ => rfl
  | c :: cs, h => by
    have e : ((c :: cs).flatMap fun c => cmdT c.1 c.2) = cmdT c.1 c.2 ++ cs.flatMap fun c => cmdT c.1 c.2 := rfl
    rw [e, lexS_cmd c (h c (List.mem_cons_self ..)), lexS_cmds cs fun x hx => h x (List.mem_cons_of_mem _ hx)]; rfl
/-- A tree's commands, one by one. -/
def setCs (t : List Ln) (l : List Nat) : List Cmd := l.map fun i => (setW, pathL t i)
def markCs (t : List Ln) (i : Nat) : List Cmd := (if (at_ t i).mark % 2 = 1 then [(deW, pathL t i)] else []) ++ (if 1 < (at_ t i).mark then [(prW, pathL t i)] else [])
def allCs (t : List Ln) : List Cmd := setCs t (leavesL t) ++ (List.range t.length).flatMap (markCs t)
theorem cmds_text (t : List Ln) : cmdsT t = (allCs t).flatMap fun c => cmdT c.1 c.2 := by
  unfold cmdsT allCs setsT marksT setCs
  rw [List.flatMap_append, List.flatMap_map, List.flatMap_assoc]
  congr 1
  congr 1
  funext i
  unfold markC markCs
  by_cases a : (at_ t i).mark % 2 = 1 <;> by_cases b : 1 < (at_ t i).mark <;> simp [a, b]
theorem good_path {t : List Ln} (h : RightT t) {i : Nat} (hi : i < t.length) {v : List UInt8} (hv : beginsB v = true) : GoodC (v, pathL t i) :=
  ⟨hv, T.path_ne, (RightN.path_deep h hi).2, RightN.path_long h i i (Nat.le_refl _) hi⟩
theorem good_marks {t : List Ln} (h : RightT t) {i : Nat} (hi : i < t.length) : ∀ c ∈ markCs t i, GoodC c := by
  intro c hc
  unfold markCs at hc
  rcases List.mem_append.1 hc with hc | hc
  · split at hc
    · rw [List.mem_singleton] at hc; subst hc; exact good_path h hi (by decide)
    · cases hc
  · split at hc
    · rw [List.mem_singleton] at hc; subst hc; exact good_path h hi (by decide)
    · cases hc
theorem leaf_lt {t : List Ln} {i : Nat} (h : i ∈ leavesL t) : i < t.length := List.mem_range.1 (List.mem_filter.1 h).1
theorem good_all {t : List Ln} (h : RightT t) : ∀ c ∈ allCs t, GoodC c := by
  intro c hc
  rcases List.mem_append.1 hc with hc | hc
  · obtain ⟨i, hi, rfl⟩ := List.mem_map.1 hc
    exact good_path h (leaf_lt hi) (by decide)
  · obtain ⟨i, hi, hc⟩ := List.mem_flatMap.1 hc
    exact good_marks h (List.mem_range.1 hi) c hc

theorem sorted_sub : ∀ (b a : List (Pth × Int)), T.Sorted a → T.Sorted b → (∀ x ∈ a, x ∈ b) → a.length ≤ b.length
  | _, [], _, _, _ => Nat.zero_le _
  | [], x :: a, _, _, h => by cases h x (List.mem_cons_self ..)
  | y :: b, x :: a, ha, hb, h => by
    have ha1 := ha.head
    have hb1 := hb.head
    rw [List.length_cons, List.length_cons]
    refine Nat.succ_le_succ (sorted_sub b a ha.tail hb.tail fun z hz => ?_)
    rcases List.mem_cons.1 (h z (List.mem_cons_of_mem _ hz)) with e | e
    · subst e
      have h1 := ha1 z hz
      rcases List.mem_cons.1 (h x (List.mem_cons_self ..)) with e2 | e2
      · subst e2; rw [T.pless_irr] at h1; cases h1
      · have h2 := T.pless_trans _ _ _ (hb1 x e2) h1; rw [T.pless_irr] at h2; cases h2
    · exact e
/-- A tree of paths of a tree has no more lines than that. -/
theorem built_len {t : List Ln} (h : RightT t) {ps : List Pth} {u : List Ln} (hu : Built ps u) {p : Pth} (hps : ∀ q ∈ ps, ∃ i, i < t.length ∧ q = pathL t i) (hp : ∃ i, i < t.length ∧ p = pathL t i) : (addL u p).length ≤ 200 := by
  obtain ⟨k, hk, rfl⟩ := hp
  have hw := RightN.path_long h k k (Nat.le_refl _) hk
  have hd := (RightN.path_deep h hk).2
  have ha := T.add_is hu.right hd hw
  have hin : ∀ (i j : Nat), i < t.length → j < (pathL t i).length → ((pathL t i).take (j + 1), (0 : Int)) ∈ entries (bareT t) := by
    intro i j hi hj
    obtain ⟨m, hm, e⟩ := T.RightN.path_take h i i (j + 1) (Nat.le_refl _) hi (by omega) (by omega)
    exact (T.mem_entries _ _ _).2 ⟨m, by rw [T.bare_len]; exact hm, by rw [T.bare_path]; exact e, by rw [T.bare_at]⟩
  have := sorted_sub (entries (bareT t)) (entries (addL u (pathL t k))) ha.right.sorted (T.bare_right h).sorted fun x hx => by
    rcases (T.add_zero hu.right hu.zero hd hw x).1 hx with hx | ⟨j, hj, rfl⟩
    · obtain ⟨q, hq, j, hj, rfl⟩ := (hu.mem x).1 hx
      obtain ⟨i, hi, rfl⟩ := hps q hq
      exact hin i j hi hj
    · exact hin k j hk hj
  rw [T.entries_len, T.entries_len, T.bare_len] at this
  exact Nat.le_trans this h.len
theorem run_sets {t : List Ln} (h : RightT t) : ∀ (l : List Nat) (ps : List Pth) (u : List Ln), (∀ i ∈ l, i < t.length) → (∀ q ∈ ps, ∃ i, i < t.length ∧ q = pathL t i) → Built ps u → ∃ v, runC u (setCs t l) = some v ∧ Built (ps ++ l.map (pathL t)) v
  | [], ps, u, _, _, hu => ⟨u, rfl, by rw [List.map_nil, List.append_nil]; exact hu⟩
  | i :: l, ps, u, hl, hps, hu => by
    have hi := hl i (List.mem_cons_self ..)
    have h200 := built_len h hu hps ⟨i, hi, rfl⟩
    have hb := hu.add (p := pathL t i) (RightN.path_deep h hi).2 (RightN.path_long h i i (Nat.le_refl _) hi) h200
    obtain ⟨v, e, hv⟩ := run_sets h l (ps ++ [pathL t i]) _ (fun j hj => hl j (List.mem_cons_of_mem _ hj)) (fun q hq => by
      rcases List.mem_append.1 hq with hq | hq
      · exact hps q hq
      · rw [List.mem_singleton] at hq; exact ⟨i, hi, hq⟩) hb
    refine ⟨v, ?_, by rw [List.append_assoc] at hv; exact hv⟩
    have e1 : runC u (setCs t (i :: l)) = (match doT u setW (pathL t i) with | .inl u => runC u (setCs t l) | .inr _ => none) := rfl
    have e2 : doT u setW (pathL t i) = .inl (addL u (pathL t i)) := by unfold doT; rw [if_pos rfl, if_pos h200]
    rw [e1, e2]
    exact e

/-- The tree of which the first k lines, and no others, have their marks; the k-th has these. -/
def pm (t : List Ln) (k : Nat) (m : Int) : List Ln := t.take k ++ ⟨dp t k, wd t k, m⟩ :: bareT (t.drop (k + 1))
def partM (t : List Ln) (k : Nat) : List Ln := t.take k ++ bareT (t.drop k)
theorem at_here (t : List Ln) {k : Nat} (hk : k < t.length) : t[k] = at_ t k := by unfold at_ List.getD; rw [List.getElem?_eq_getElem hk]; rfl
theorem pm_zero (t : List Ln) {k : Nat} (hk : k < t.length) : partM t k = pm t k 0 := by
  unfold partM pm
  rw [List.drop_eq_getElem_cons hk, at_here t hk]; rfl
theorem pm_mark (t : List Ln) {k : Nat} (hk : k < t.length) : pm t k (at_ t k).mark = partM t (k + 1) := by
  unfold partM pm
  rw [List.take_succ_eq_append_getElem hk, at_here t hk, List.append_assoc]; rfl
theorem pm_len (t : List Ln) {k : Nat} (hk : k < t.length) (m : Int) : (pm t k m).length = t.length := by
  unfold pm
  rw [List.length_append, List.length_cons, T.bare_len, List.length_take, List.length_drop]; omega
theorem pm_at (t : List Ln) {k : Nat} (hk : k < t.length) (m : Int) (i : Nat) : at_ (pm t k m) i = if i < k then at_ t i else if i = k then ⟨dp t k, wd t k, m⟩ else ⟨dp t i, wd t i, 0⟩ := by
  have hl : (t.take k).length = k := by rw [List.length_take]; omega
  unfold pm
  by_cases h1 : i < k
  · rw [if_pos h1, T.at_app_left _ _ _ (by omega), T.at_take _ _ _ h1]
  · rw [if_neg h1]
    have e := T.at_app_right (t.take k) ((⟨dp t k, wd t k, m⟩ : Ln) :: bareT (t.drop (k + 1))) (i - k)
    rw [hl, show k + (i - k) = i by omega] at e
    rw [e]
    by_cases h2 : i = k
    · rw [if_pos h2, show i - k = 0 by omega]; rfl
    · rw [if_neg h2]
      obtain ⟨j, hj⟩ : ∃ j, i - k = j + 1 := ⟨i - k - 1, by omega⟩
      have e3 : at_ ((⟨dp t k, wd t k, m⟩ : Ln) :: bareT (t.drop (k + 1))) (j + 1) = at_ (bareT (t.drop (k + 1))) j := rfl
      rw [hj, e3, T.bare_at]
      unfold dp wd
      rw [T.at_drop, show k + 1 + j = i by omega]
theorem pm_dp (t : List Ln) {k : Nat} (hk : k < t.length) (m : Int) (i : Nat) : dp (pm t k m) i = dp t i := by
  show (at_ (pm t k m) i).depth = _
  rw [pm_at t hk m i]
  split
  · rfl
  · split
    · rename_i h; subst h; rfl
    · rfl
theorem pm_wd (t : List Ln) {k : Nat} (hk : k < t.length) (m : Int) (i : Nat) : wd (pm t k m) i = wd t i := by
  show (at_ (pm t k m) i).word = _
  rw [pm_at t hk m i]
  split
  · rfl
  · split
    · rename_i h; subst h; rfl
    · rfl
theorem pm_right {t : List Ln} (h : RightT t) {k : Nat} (hk : k < t.length) {m : Int} (hm : 0 ≤ m ∧ m ≤ 3) : RightT (pm t k m) := by
  refine T.RightN.same h (pm_len t hk m) (pm_dp t hk m) (pm_wd t hk m) fun i hi => ?_
  rw [pm_at t hk m i]
  rw [pm_len t hk m] at hi
  split
  · exact h.mark i hi
  · split
    · exact hm
    · exact ⟨Int.le_refl 0, (by decide : (0 : Int) ≤ 3)⟩
theorem pm_path (t : List Ln) {k : Nat} (hk : k < t.length) (m : Int) (i : Nat) : pathL (pm t k m) i = pathL t i := T.pathL_same (pm_dp t hk m) (pm_wd t hk m) i
theorem pm_set (t : List Ln) {k : Nat} (hk : k < t.length) (a b : Int) : setM (pm t k a) k b = pm t k b := by
  unfold setM
  rw [pm_dp t hk, pm_wd t hk]
  have hl : (t.take k).length = k := by rw [List.length_take]; omega
  unfold pm
  rw [List.set_append_right _ _ (by omega), hl, Nat.sub_self]; rfl
theorem do_mark {t : List Ln} (h : RightT t) {k : Nat} (hk : k < t.length) {a : Int} (ha : 0 ≤ a ∧ a ≤ 3) {v : List UInt8} (hv : v ≠ setW) : doT (pm t k a) v (pathL t k) = .inl (pm t k (orM a (bitOf v))) := by
  unfold doT
  have hf : findI (pm t k a) (pathL t k) = k := T.findI_some (pm_right h hk ha) (by rw [pm_len t hk]; exact hk) (pm_path t hk a k)
  have hm : (at_ (pm t k a) k).mark = a := by rw [pm_at t hk, if_neg (Nat.lt_irrefl k), if_pos rfl]
  rw [if_neg hv, hf, if_neg (by omega), Int.toNat_natCast, hm, pm_set t hk]
theorem run_mark {t : List Ln} (h : RightT t) {k : Nat} (hk : k < t.length) : runC (partM t k) (markCs t k) = some (partM t (k + 1)) := by
  have hm := h.mark k hk
  rw [pm_zero t hk, ← pm_mark t hk]
  unfold markCs
  have d1 := do_mark h hk (a := 0) (by omega) (v := deW) (by decide)
  have d2 := do_mark h hk (a := 0) (by omega) (v := prW) (by decide)
  have d3 := do_mark h hk (a := 1) (by omega) (v := prW) (by decide)
  have o1 : orM 0 (bitOf deW) = 1 := by decide
  have o2 : orM 0 (bitOf prW) = 2 := by decide
  have o3 : orM 1 (bitOf prW) = 3 := by decide
  rw [o1] at d1
  rw [o2] at d2
  rw [o3] at d3
  have h4 : (at_ t k).mark = 0 ∨ (at_ t k).mark = 1 ∨ (at_ t k).mark = 2 ∨ (at_ t k).mark = 3 := by omega
  rcases h4 with e | e | e | e <;> rw [e]
  · rw [if_neg (by decide), if_neg (by decide)]; rfl
  · rw [if_pos (by decide), if_neg (by decide)]
    show (match doT (pm t k 0) deW (pathL t k) with | .inl u => some u | .inr _ => none) = _
    rw [d1]
  · rw [if_neg (by decide), if_pos (by decide)]
    show (match doT (pm t k 0) prW (pathL t k) with | .inl u => some u | .inr _ => none) = _
    rw [d2]
  · rw [if_pos (by decide), if_pos (by decide)]
    show (match doT (pm t k 0) deW (pathL t k) with | .inl u => (match doT u prW (pathL t k) with | .inl u => some u | .inr _ => none) | .inr _ => none) = _
    rw [d1]
    simp only
    rw [d3]
theorem run_marksC {t : List Ln} (h : RightT t) : ∀ k, k ≤ t.length → runC (bareT t) ((List.range k).flatMap (markCs t)) = some (partM t k)
  | 0, _ => rfl
  | k + 1, hk => by
    rw [List.range_succ, List.flatMap_append, runC_app, run_marksC h k (by omega)]
    have e : [k].flatMap (markCs t) = markCs t k := by simp
    rw [e]
    exact run_mark h (by omega)
/-- The commands of a tree are read as that tree. -/
theorem read_cmds {t : List Ln} (h : RightT t) : readL (cmdsT t) = .ok t := by
  have hl := lexS_cmds (allCs t) (good_all h)
  rw [← cmds_text] at hl
  unfold lexS at hl
  unfold readL
  cases hx : lexL 0 (cmdsT t) with
  | bad p e => rw [hx] at hl; cases hl
  | ok a =>
    rw [hx] at hl
    injection hl with hl
    refine read_run _ (allCs t) _ [] t a hl (good_all h) (Nat.le_refl _) ?_
    obtain ⟨v, e, hv⟩ := run_sets h (leavesL t) [] [] (fun i hi => leaf_lt hi) (fun q hq => by cases hq) Built.nil
    have hv2 : v = bareT t := T.built_bare h hv
    subst hv2
    unfold allCs
    rw [runC_app, e]
    have := run_marksC h t.length (Nat.le_refl _)
    have e2 : partM t t.length = t := by unfold partM; rw [List.take_length, List.drop_length]; exact List.append_nil t
    rw [e2] at this
    exact this
end Go.Proofs.Ytkifapbiimlafaa.S
