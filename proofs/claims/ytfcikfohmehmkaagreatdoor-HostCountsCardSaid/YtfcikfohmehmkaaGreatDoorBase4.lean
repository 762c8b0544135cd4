/-
  Plain laws of layer 6 (lines): a path that is added to a tree. Condition: a path of at most 16 words of at most 40 bytes. Plain laws of layer 6 (lines): where a new path's lines go; a tree's commands, as text and as tokens; commands read one by one. Condition: a tree, paths of at most 16 words of at most 40 bytes. Plain laws of layer 6 (lines), third part: a tree's commands as text and as tokens; commands that are read one by one; what stands twice. Condition: a tree. Plain laws of layer 6 (lines), fourth part: the commands of a tree are read as that tree. Condition: a tree.
  Plain laws of layer 7 (edit): what is locked; a tree without a part; a part under another word; a mark more or less. Condition: a tree, a path of one of its lines. Plain laws of layer 7 (edit), second part: what the document's answer to each act is; what follows. Condition: a tree. Plain laws of layer 7 (edit), third part: a part of a tree laid where a new line stands is that part put line by line. Condition: trees. Plain laws of layer 8 (diff): the difference of two trees; that it makes the second one of the first; that no path stands twice in it. Condition: trees. Plain laws of layer 8 (diff), second part: no path stands twice in a difference, nor one under one that is gone; what a path that is added is told by; the text of changes. Condition: trees. Plain laws for layer 8's code: a path that is new at its last word alone, added; its mark, set. Condition: trees.
  Plain laws for layer 10: numbers, addresses, prefixes and hardware addresses, and their texts. No conditions.
  Plain laws for layer 11: the texts of thousandths (thoL: what a text means; thoT: the text), each read back. No conditions.
  Plain laws for layer 13: the types of words, what is a statement, the faults of a list of paths, and of the part of it whose first words are kept. No conditions.
  Plain laws for layer 12: the active tree, and what is explicit in it: trees again. No conditions.
  Plain laws for layer 12: the words under a path, what a path means, a group's paths, a tree expanded. No conditions.
-/
import Derived.Test.YtfcikfohmehmkaaGreatDoorBase3

namespace Go.Proofs.YtfcikfohmehmkaaGreatDoor.T

theorem RightN.mono {N M : Nat} {t : List Ln} (h : RightN N t) (hM : t.length ≤ M) : RightN M t := ⟨hM, h.deep, h.long, h.mark, h.first, h.step, h.rise⟩
/-- A path's first lines, each where it lacks. -/
def addTo (t : List Ln) (p : Pth) : Nat → List Ln
  | 0 => t
  | n + 1 => if findI (addTo t p n) (p.take (n + 1)) < 0 then putL (addTo t p n) (p.take n) (p.getD n []) 0 else addTo t p n
def addL (t : List Ln) (p : Pth) : List Ln := addTo t p p.length
theorem take_next (p : Pth) (n : Nat) (h : n < p.length) : p.take n ++ [p.getD n []] = p.take (n + 1) := by
  rw [List.take_succ_eq_append_getElem h]
  unfold List.getD
  rw [List.getElem?_eq_getElem h]; rfl
/-- What is there behind n of its words. -/
structure Added (t : List Ln) (p : Pth) (n : Nat) (u : List Ln) : Prop where
  right : RightN 216 u
  len : u.length ≤ t.length + n
  grows : t.length ≤ u.length
  mem : ∀ x, x ∈ entries u ↔ x ∈ entries t ∨ ∃ j, j < n ∧ x = (p.take (j + 1), (0 : Int)) ∧ ∀ i, i < t.length → pathL t i ≠ p.take (j + 1)
theorem Added.has {t : List Ln} {p : Pth} {n : Nat} {u : List Ln} (h : Added t p n u) {j : Nat} (hj : j < n) : ∃ i, i < u.length ∧ pathL u i = p.take (j + 1) := by
  by_cases ht : ∃ i, i < t.length ∧ pathL t i = p.take (j + 1)
  · obtain ⟨i, hi, e⟩ := ht
    obtain ⟨k, hk, e1, _⟩ := (mem_entries u _ _).1 ((h.mem (p.take (j + 1), (at_ t i).mark)).2 (.inl ((mem_entries t _ _).2 ⟨i, hi, e, rfl⟩)))
    exact ⟨k, hk, e1⟩
  · obtain ⟨k, hk, e1, _⟩ := (mem_entries u _ _).1 ((h.mem (p.take (j + 1), 0)).2 (.inr ⟨j, hj, rfl, fun i hi e => ht ⟨i, hi, e⟩⟩))
    exact ⟨k, hk, e1⟩
theorem add_to {t : List Ln} (h : RightT t) {p : Pth} (hp : p.length ≤ 16) (hw : ∀ w ∈ p, w.length ≤ 40) : ∀ n, n ≤ p.length → Added t p n (addTo t p n)
  | 0, _ => ⟨h.mono (by have := h.len; omega), by simp [addTo], Nat.le_refl _, fun x => ⟨.inl, fun hx => by
      rcases hx with hx | ⟨j, hj, _⟩
      · exact hx
      · omega⟩⟩
  | n + 1, hn => by
    have ih := add_to h hp hw n (by omega)
    have hlen := h.len
    unfold addTo
    by_cases hf : findI (addTo t p n) (p.take (n + 1)) < 0
    · rw [if_pos hf]
      have hno : ∀ i, i < (addTo t p n).length → pathL (addTo t p n) i ≠ p.take n ++ [p.getD n []] := by
        rw [take_next p n (by omega)]
        rcases findI_cases (addTo t p n) (p.take (n + 1)) with ⟨_, hno⟩ | ⟨i, _, hi, _⟩
        · exact hno
        · omega
      have hopen : Open (addTo t p n) (p.take n) := by
        cases n with
        | zero => exact .inl (by simp)
        | succ m => exact .inr (ih.has (Nat.lt_succ_self m))
      have hl := ih.len
      have hg := ih.grows
      have hwn : (p.getD n []).length ≤ 40 := by
        unfold List.getD
        rw [List.getElem?_eq_getElem (show n < p.length by omega)]
        exact hw _ (List.getElem_mem _)
      obtain ⟨r1, r2⟩ := ih.right.putL hopen (m := 0) hno (by omega) (by rw [List.length_take]; omega) hwn (by omega)
      rw [take_next p n (by omega)] at r2 hno
      refine ⟨r1, by rw [putL_len]; omega, by rw [putL_len]; omega, fun x => ?_⟩
      rw [r2 x, ih.mem x]
      constructor
      · rintro (e | e | ⟨j, hj, e1, e2⟩)
        · refine .inr ⟨n, by omega, e, fun i hi e2 => ?_⟩
          obtain ⟨k, hk, e3, _⟩ := (mem_entries _ _ _).1 ((ih.mem (p.take (n + 1), (at_ t i).mark)).2 (.inl ((mem_entries t _ _).2 ⟨i, hi, e2, rfl⟩)))
          exact hno k hk e3
        · exact .inl e
        · exact .inr ⟨j, by omega, e1, e2⟩
      · rintro (e | ⟨j, hj, e1, e2⟩)
        · exact .inr (.inl e)
        · by_cases hjn : j = n
          · subst hjn; exact .inl e1
          · exact .inr (.inr ⟨j, by omega, e1, e2⟩)
    · rw [if_neg hf]
      obtain ⟨i0, hi0, e0⟩ : ∃ i, i < (addTo t p n).length ∧ pathL (addTo t p n) i = p.take (n + 1) := by
        rcases findI_cases (addTo t p n) (p.take (n + 1)) with ⟨h1, _⟩ | ⟨i, hi, _, e⟩
        · omega
        · exact ⟨i, hi, e⟩
      have hit : ∃ i, i < t.length ∧ pathL t i = p.take (n + 1) := by
        rcases (ih.mem _).1 ((mem_entries _ _ _).2 ⟨i0, hi0, e0, rfl⟩) with hm | ⟨j, hj, e1, _⟩
        · obtain ⟨i, hi, e, _⟩ := (mem_entries t _ _).1 hm
          exact ⟨i, hi, e⟩
        · injection e1 with e1 _
          have := congrArg List.length e1
          rw [List.length_take, List.length_take] at this
          omega
      have hl := ih.len
      refine ⟨ih.right, by omega, ih.grows, fun x => ?_⟩
      rw [ih.mem x]
      constructor
      · rintro (e | ⟨j, hj, e1, e2⟩)
        · exact .inl e
        · exact .inr ⟨j, by omega, e1, e2⟩
      · rintro (e | ⟨j, hj, e1, e2⟩)
        · exact .inl e
        · by_cases hjn : j = n
          · subst hjn
            obtain ⟨i, hi, e⟩ := hit
            exact absurd e (e2 i hi)
          · exact .inr ⟨j, by omega, e1, e2⟩
/-- A path that is added. -/
theorem add_is {t : List Ln} (h : RightT t) {p : Pth} (hp : p.length ≤ 16) (hw : ∀ w ∈ p, w.length ≤ 40) : Added t p p.length (addL t p) := add_to h hp hw _ (Nat.le_refl _)
theorem add_right {t : List Ln} (h : RightT t) {p : Pth} (hp : p.length ≤ 16) (hw : ∀ w ∈ p, w.length ≤ 40) (h200 : (addL t p).length ≤ 200) : RightT (addL t p) := (add_is h hp hw).right.mono h200
theorem add_keeps {t : List Ln} (h : RightT t) {p : Pth} (hp : p.length ≤ 16) (hw : ∀ w ∈ p, w.length ≤ 40) {i : Nat} (hi : i < t.length) : ∃ k, k < (addL t p).length ∧ pathL (addL t p) k = pathL t i ∧ (at_ (addL t p) k).mark = (at_ t i).mark :=
  (mem_entries _ _ _).1 (((add_is h hp hw).mem _).2 (.inl ((mem_entries t _ _).2 ⟨i, hi, rfl, rfl⟩)))
/-- Added again it changes nothing. -/
theorem add_again {t : List Ln} {p : Pth} (h : ∀ j, j < p.length → ∃ i, i < t.length ∧ pathL t i = p.take (j + 1)) {N : Nat} (hR : RightN N t) : ∀ n, n ≤ p.length → addTo t p n = t
  | 0, _ => rfl
  | n + 1, hn => by
    unfold addTo
    rw [add_again h hR n (by omega)]
    obtain ⟨i, hi, e⟩ := h n (by omega)
    rw [findI_some hR hi e, if_neg (by omega)]
/-- To a tree without marks. -/
theorem add_zero {t : List Ln} (h : RightT t) (z : ∀ x ∈ entries t, x.2 = 0) {p : Pth} (hp : p.length ≤ 16) (hw : ∀ w ∈ p, w.length ≤ 40) : ∀ x, x ∈ entries (addL t p) ↔ x ∈ entries t ∨ ∃ j, j < p.length ∧ x = (p.take (j + 1), (0 : Int)) := by
  intro x
  rw [(add_is h hp hw).mem x]
  constructor
  · rintro (e | ⟨j, hj, e, _⟩)
    · exact .inl e
    · exact .inr ⟨j, hj, e⟩
  · rintro (e | ⟨j, hj, rfl⟩)
    · exact .inl e
    · by_cases ht : ∃ i, i < t.length ∧ pathL t i = p.take (j + 1)
      · obtain ⟨i, hi, e⟩ := ht
        have hm := (mem_entries t (p.take (j + 1)) (at_ t i).mark).2 ⟨i, hi, e, rfl⟩
        have hz := z _ hm
        simp only at hz
        rw [hz] at hm
        exact .inl hm
      · exact .inr ⟨j, hj, rfl, fun i hi e => ht ⟨i, hi, e⟩⟩
/-- A tree of all beginnings of these paths, without marks. -/
structure Built (ps : List Pth) (t : List Ln) : Prop where
  right : RightT t
  mem : ∀ x, x ∈ entries t ↔ ∃ p ∈ ps, ∃ j, j < p.length ∧ x = (p.take (j + 1), (0 : Int))
theorem Built.zero {ps : List Pth} {t : List Ln} (h : Built ps t) : ∀ x ∈ entries t, x.2 = 0 := by
  intro x hx
  obtain ⟨p, _, j, _, rfl⟩ := (h.mem x).1 hx
  rfl
theorem Built.nil : Built [] [] := ⟨⟨by simp, fun i h => by simp at h, fun i h => by simp at h, fun i h => by simp at h, fun h => by simp at h, fun i h => by simp at h, fun i k _ h => by simp at h⟩, fun x => by simp [entries]⟩
theorem Built.add {ps : List Pth} {t : List Ln} (h : Built ps t) {p : Pth} (hp : p.length ≤ 16) (hw : ∀ w ∈ p, w.length ≤ 40) (h200 : (addL t p).length ≤ 200) : Built (ps ++ [p]) (addL t p) := by
  refine ⟨add_right h.right hp hw h200, fun x => ?_⟩
  rw [add_zero h.right h.zero hp hw x, h.mem x]
  constructor
  · rintro (⟨q, hq, e⟩ | e)
    · exact ⟨q, List.mem_append_left _ hq, e⟩
    · exact ⟨p, by simp, e⟩
  · rintro ⟨q, hq, e⟩
    rcases List.mem_append.1 hq with hq | hq
    · exact .inl ⟨q, hq, e⟩
    · rw [List.mem_singleton] at hq
      subst hq
      exact .inr e
/-- The tree without its marks. -/
def bareT (t : List Ln) : List Ln := t.map fun x => ⟨x.depth, x.word, 0⟩
/-- The paths of the lines under which nothing stands. -/
def leafPaths (t : List Ln) : List Pth := (leavesL t).map (pathL t)
/-- Lines of the same depths and words have the same paths. -/
theorem underF_like {a b : List Ln} (hd : ∀ i, dp a i = dp b i) (d : Int) : ∀ n, underF a d n = underF b d n
  | 0 => rfl
  | n + 1 => by unfold underF; rw [hd n, underF_like hd d n]
theorem pathF_same {a b : List Ln} (hd : ∀ i, dp a i = dp b i) (hw : ∀ i, wd a i = wd b i) : ∀ (f : Nat) (i : Int), pathF a f i = pathF b f i
  | 0, _ => rfl
  | f + 1, i => by
    unfold pathF
    by_cases h : i < 0
    · rw [if_pos h, if_pos h]
    · rw [if_neg h, if_neg h]
      have hu : underL a i.toNat = underL b i.toNat := by unfold underL; rw [hd, underF_like hd]
      rw [hu, hw, pathF_same hd hw f]
theorem pathL_same {a b : List Ln} (hd : ∀ i, dp a i = dp b i) (hw : ∀ i, wd a i = wd b i) (i : Nat) : pathL a i = pathL b i := pathF_same hd hw _ _
theorem RightN.same {N : Nat} {a b : List Ln} (h : RightN N a) (hl : b.length = a.length) (hd : ∀ i, dp b i = dp a i) (hw : ∀ i, wd b i = wd a i) (hm : ∀ i, i < b.length → 0 ≤ (at_ b i).mark ∧ (at_ b i).mark ≤ 3) : RightN N b := by
  refine ⟨by rw [hl]; exact h.len, fun i hi => by rw [hd]; exact h.deep i (by omega), fun i hi => by rw [hw]; exact h.long i (by omega), hm, fun hp => by rw [hd]; exact h.first (by omega), fun i hi => by rw [hd, hd]; exact h.step i (by omega), fun i k hik hk he hj => ?_⟩
  rw [hw, hw]
  refine h.rise i k hik (by omega) (by rw [← hd k, ← hd i]; exact he) fun j h1 h2 => ?_
  have := hj j h1 h2
  rwa [hd, hd] at this
theorem bare_at (t : List Ln) (i : Nat) : at_ (bareT t) i = ⟨dp t i, wd t i, 0⟩ := by
  unfold bareT at_ dp wd at_ List.getD
  rw [List.getElem?_map]
  cases h : t[i]? with
  | none => rfl
  | some x => rfl
theorem bare_len (t : List Ln) : (bareT t).length = t.length := by unfold bareT; rw [List.length_map]
theorem bare_right {N : Nat} {t : List Ln} (h : RightN N t) : RightN N (bareT t) :=
  h.same (bare_len t) (fun i => by unfold dp; rw [bare_at]; rfl) (fun i => by unfold wd; rw [bare_at]; rfl) (fun i _ => by rw [bare_at]; exact ⟨Int.le_refl _, (by omega : (0 : Int) ≤ 3)⟩)
theorem bare_path (t : List Ln) (i : Nat) : pathL (bareT t) i = pathL t i := pathL_same (fun i => by unfold dp; rw [bare_at]; rfl) (fun i => by unfold wd; rw [bare_at]; rfl) i
end Go.Proofs.YtfcikfohmehmkaaGreatDoor.T

namespace Go.Proofs.YtfcikfohmehmkaaGreatDoor.T

/-- The lines that a path adds, from its n-th word on. -/
def freshP (p : Pth) (n k : Nat) : List (Pth × Int) := (List.range k).map fun i => (p.take (n + i + 1), (0 : Int))
def freshL (p : Pth) (n k : Nat) : List Ln := (List.range k).map fun i => ⟨((n + i : Nat) : Int), p.getD (n + i) [], 0⟩
theorem freshP_next (p : Pth) (n k : Nat) : freshP p n (k + 1) = freshP p n k ++ [(p.take (n + k + 1), (0 : Int))] := by
  unfold freshP; rw [List.range_succ, List.map_append]; rfl
theorem freshL_next (p : Pth) (n k : Nat) : freshL p n (k + 1) = freshL p n k ++ [⟨((n + k : Nat) : Int), p.getD (n + k) [], 0⟩] := by
  unfold freshL; rw [List.range_succ, List.map_append]; rfl
theorem freshP_len (p : Pth) (n k : Nat) : (freshP p n k).length = k := by unfold freshP; rw [List.length_map, List.length_range]
theorem freshL_len (p : Pth) (n k : Nat) : (freshL p n k).length = k := by unfold freshL; rw [List.length_map, List.length_range]
theorem mem_fresh (p : Pth) (n k : Nat) (x : Pth × Int) : x ∈ freshP p n k ↔ ∃ j, j < k ∧ x = (p.take (n + j + 1), (0 : Int)) := by
  unfold freshP
  rw [List.mem_map]
  constructor
  · rintro ⟨j, hj, e⟩; exact ⟨j, List.mem_range.1 hj, e.symm⟩
  · rintro ⟨j, hj, e⟩; exact ⟨j, List.mem_range.2 hj, e.symm⟩
theorem ofP_fresh (p : Pth) (n k : Nat) (h : n + k ≤ p.length) : ofP (freshP p n k) = freshL p n k := by
  unfold ofP freshP freshL
  rw [List.map_map]
  refine List.map_congr_left fun i hi => ?_
  have hi := List.mem_range.1 hi
  show lnOf (p.take (n + i + 1), 0) = _
  rw [← take_next p (n + i) (by omega)]
  unfold lnOf
  rw [last_snoc]
  congr 1
  simp only [List.length_append, List.length_take, List.length_singleton]
  omega
theorem take_of_take (p : Pth) {a b : Nat} (h : a ≤ b) : (p.take b).take a = p.take a := by rw [List.take_take, Nat.min_eq_left h]
theorem take_more (p : Pth) {a b : Nat} (h : a ≤ b) : p.take b = p.take a ++ (p.take b).drop a := by
  conv => lhs; rw [← List.take_append_drop a (p.take b)]
  rw [take_of_take p h]
theorem pless_take (p : Pth) {a b : Nat} (h : a < b) (hb : b ≤ p.length) : pless (p.take a) (p.take b) = true := by
  rw [take_more p (Nat.le_of_lt h)]
  refine pless_more _ _ fun e => ?_
  have := congrArg List.length e
  rw [List.length_drop, List.length_take, List.length_nil] at this
  omega
theorem take_ne (p : Pth) {a : Nat} (h : 0 < a) (hp : 0 < p.length) : p.take a ≠ [] := by
  intro e
  have := congrArg List.length e
  rw [List.length_take, List.length_nil] at this
  omega
theorem getD_mem (p : Pth) {n : Nat} (h : n < p.length) : p.getD n [] ∈ p := by
  unfold List.getD
  rw [List.getElem?_eq_getElem h]
  exact List.getElem_mem _
theorem fresh_good {t : List Ln} (h : RightT t) {p : Pth} (hp : p.length ≤ 16) (hw : ∀ w ∈ p, w.length ≤ 40) {n P : Nat} (hP : P ≤ t.length) (hopen : Open t (p.take n))
    (hlt : ∀ i, i < P → i < t.length → pless (pathL t i) (p.take (n + 1)) = true) (hgt : ∀ i, P ≤ i → i < t.length → pless (p.take (n + 1)) (pathL t i) = true) :
    ∀ k, n + k ≤ p.length → GoodP 216 ((entries t).take P ++ freshP p n k ++ (entries t).drop P)
  | 0, _ => by
    have hlen := h.len
    have e : (entries t).take P ++ freshP p n 0 ++ (entries t).drop P = entries t := by
      show (entries t).take P ++ [] ++ (entries t).drop P = entries t
      rw [List.append_nil, List.take_append_drop]
    rw [e]
    exact (h.mono (M := 216) (by omega)).good
  | k + 1, hk => by
    have ih := fresh_good h hp hw hP hopen hlt hgt k (by omega)
    have hlen := h.len
    have hA : ((entries t).take P).length = P := by rw [List.length_take, entries_len]; omega
    have hF := freshP_len p n k
    have hAF : ((entries t).take P ++ freshP p n k).length = P + k := by rw [List.length_append, hA, hF]
    have hL : ((entries t).take P ++ freshP p n k ++ (entries t).drop P).length = t.length + k := by
      rw [List.length_append, hAF, List.length_drop, entries_len]; omega
    have e : (entries t).take P ++ freshP p n (k + 1) ++ (entries t).drop P = insP ((entries t).take P ++ freshP p n k ++ (entries t).drop P) (P + k) (p.take (n + k + 1), 0) := by
      unfold insP
      rw [List.take_left' hAF, List.drop_left' hAF, freshP_next]
      simp
    rw [e]
    have hq1 : p.take (n + k + 1) = p.take (n + k) ++ [p.getD (n + k) []] := (take_next p (n + k) (by omega)).symm
    refine ih.ins (by rw [hL]; omega) (fun y hy => ?_) (fun y hy => ?_) (take_ne p (by omega) (by omega)) (by rw [List.length_take]; omega) ?_ ⟨Int.le_refl 0, (by decide : (0 : Int) ≤ 3)⟩ (fun q w e2 hq => ?_)
    · rw [List.take_left' hAF, List.mem_append] at hy
      show pless y.1 (p.take (n + k + 1)) = true
      rcases hy with hy | hy
      · obtain ⟨i, hi, rfl⟩ := List.getElem_of_mem hy
        rw [hA] at hi
        rw [List.getElem_take, entries_at t i (by omega)]
        have h1 := hlt i hi (by omega)
        cases k with
        | zero => exact h1
        | succ k => exact pless_trans _ _ _ h1 (pless_take p (by omega) (by omega))
      · obtain ⟨j, hj, rfl⟩ := (mem_fresh ..).1 hy
        exact pless_take p (by omega) (by omega)
    · rw [List.drop_left' hAF] at hy
      show pless (p.take (n + k + 1)) y.1 = true
      obtain ⟨i, hi, rfl⟩ := List.getElem_of_mem hy
      rw [List.length_drop, entries_len] at hi
      rw [List.getElem_drop, entries_at t (P + i) (by omega)]
      show pless (p.take (n + k + 1)) (pathL t (P + i)) = true
      have h1 := hgt (P + i) (by omega) (by omega)
      rw [take_more p (show n + 1 ≤ n + k + 1 by omega)]
      refine pless_off _ _ _ h1 ?_
      rintro ⟨x, hx⟩
      obtain ⟨m, hm, em⟩ := h.path_take (P + i) (P + i) (n + 1) (Nat.le_refl _) (by omega) (by omega) (by rw [hx, List.length_append, List.length_take]; omega)
      have em2 : pathL t m = p.take (n + 1) := by
        rw [em, hx, List.take_append, List.length_take, Nat.min_eq_left (show n + 1 ≤ p.length by omega), Nat.sub_self, List.take_zero, List.append_nil, take_of_take p (Nat.le_refl _)]
      rcases Nat.lt_or_ge m P with h2 | h2
      · have := hlt m h2 hm; rw [em2, pless_irr] at this; cases this
      · have := hgt m h2 hm; rw [em2, pless_irr] at this; cases this
    · show ((p.take (n + k + 1)).getLastD []).length ≤ 40
      rw [hq1, last_snoc]
      exact hw _ (getD_mem p (by omega))
    · have e3 : p.take (n + k + 1) = q ++ [w] := e2
      rw [hq1] at e3
      obtain ⟨e4, _⟩ := List.append_inj' e3 rfl
      cases k with
      | zero =>
        rw [Nat.add_zero] at e4
        rcases hopen with h0 | ⟨i, hi, ei⟩
        · exact absurd (by rw [← e4]; exact h0) hq
        · refine ⟨(at_ t i).mark, ?_⟩
          have hm := (mem_entries t q _).2 ⟨i, hi, by rw [ei, e4], rfl⟩
          rw [← List.take_append_drop P (entries t), List.mem_append] at hm
          rw [List.mem_append, List.mem_append]
          rcases hm with hm | hm
          · exact .inl (.inl hm)
          · exact .inr hm
      | succ k =>
        refine ⟨0, ?_⟩
        rw [List.mem_append, List.mem_append]
        exact .inl (.inr ((mem_fresh ..).2 ⟨k, by omega, by rw [← e4]; rfl⟩))

/-- A path that is added: its new lines stand in a row, where they belong. -/
theorem add_split {t : List Ln} (h : RightT t) {p : Pth} (hp : p.length ≤ 16) (hw : ∀ w ∈ p, w.length ≤ 40) {n P : Nat} (hn : n ≤ p.length) (hP : P ≤ t.length) (hopen : Open t (p.take n))
    (hno : ∀ m, n < m → m ≤ p.length → ∀ i, i < t.length → pathL t i ≠ p.take m)
    (hlt : n < p.length → ∀ i, i < P → i < t.length → pless (pathL t i) (p.take (n + 1)) = true) (hgt : n < p.length → ∀ i, P ≤ i → i < t.length → pless (p.take (n + 1)) (pathL t i) = true) :
    t.take P ++ freshL p n (p.length - n) ++ t.drop P = addL t p := by
  have hbelow : ∀ j, j < n → ∃ i, i < t.length ∧ pathL t i = p.take (j + 1) := by
    intro j hj
    rcases hopen with h0 | ⟨i, hi, ei⟩
    · have := congrArg List.length h0
      rw [List.length_take, List.length_nil] at this
      omega
    · obtain ⟨k, hk, ek⟩ := h.path_take i i (j + 1) (Nat.le_refl _) hi (by omega) (by rw [ei, List.length_take]; omega)
      exact ⟨k, hk, by rw [ek, ei, take_of_take p (by omega)]⟩
  rcases Nat.eq_or_lt_of_le hn with rfl | hlt2
  · have e : addL t p = t := add_again (fun j hj => hbelow j hj) h _ (Nat.le_refl _)
    rw [e, Nat.sub_self]
    show t.take P ++ [] ++ t.drop P = t
    rw [List.append_nil, List.take_append_drop]
  · have hg := fresh_good h hp hw hP hopen (hlt hlt2) (hgt hlt2) (p.length - n) (by omega)
    have e : ofP ((entries t).take P ++ freshP p n (p.length - n) ++ (entries t).drop P) = t.take P ++ freshL p n (p.length - n) ++ t.drop P := by
      rw [← ofP_fresh p n (p.length - n) (by omega)]
      have e1 := h.ofP_entries
      unfold ofP at e1 ⊢
      rw [List.map_append, List.map_append, List.map_take, List.map_drop, e1]
    rw [← e]
    refine RightN.ext hg.right (add_is h hp hw).right fun x => ?_
    rw [hg.entries, (add_is h hp hw).mem x, List.mem_append, List.mem_append, mem_fresh]
    have hsplit : x ∈ entries t ↔ x ∈ (entries t).take P ∨ x ∈ (entries t).drop P := by rw [← List.mem_append, List.take_append_drop]
    rw [hsplit]
    constructor
    · rintro ((h1 | ⟨j, hj, rfl⟩) | h1)
      · exact .inl (.inl h1)
      · exact .inr ⟨n + j, by omega, rfl, fun i hi => hno (n + j + 1) (by omega) (by omega) i hi⟩
      · exact .inl (.inr h1)
    · rintro ((h1 | h1) | ⟨j, hj, rfl, h1⟩)
      · exact .inl (.inl h1)
      · exact .inr h1
      · rcases Nat.lt_or_ge j n with h2 | h2
        · obtain ⟨i, hi, e⟩ := hbelow j h2
          exact absurd e (h1 i hi)
        · exact .inl (.inr ⟨j - n, by omega, by rw [show n + (j - n) + 1 = j + 1 by omega]⟩)

/-- How many of a path's first lines are there. -/
def knownN (t : List Ln) (p : Pth) : Nat → Nat
  | 0 => 0
  | n + 1 => if findI t (p.take (n + 1)) < 0 then knownN t p n else n + 1
theorem known_le (t : List Ln) (p : Pth) : ∀ n, knownN t p n ≤ n
  | 0 => Nat.le_refl _
  | n + 1 => by
    unfold knownN
    by_cases h : findI t (p.take (n + 1)) < 0
    · rw [if_pos h]; have := known_le t p n; omega
    · rw [if_neg h]; exact Nat.le_refl _
theorem known_open (t : List Ln) (p : Pth) : ∀ n, Open t (p.take (knownN t p n))
  | 0 => .inl (by simp [knownN])
  | n + 1 => by
    unfold knownN
    by_cases h : findI t (p.take (n + 1)) < 0
    · rw [if_pos h]; exact known_open t p n
    · rw [if_neg h]
      rcases findI_cases t (p.take (n + 1)) with ⟨h1, _⟩ | ⟨i, hi, _, e⟩
      · omega
      · exact .inr ⟨i, hi, e⟩
theorem known_no (t : List Ln) (p : Pth) : ∀ n m, knownN t p n < m → m ≤ n → ∀ i, i < t.length → pathL t i ≠ p.take m
  | 0, m, h1, h2 => by omega
  | n + 1, m, h1, h2 => by
    unfold knownN at h1
    by_cases h : findI t (p.take (n + 1)) < 0
    · rw [if_pos h] at h1
      rcases Nat.lt_or_ge n m with h3 | h3
      · obtain rfl : m = n + 1 := by omega
        rcases findI_cases t (p.take (n + 1)) with ⟨_, hno⟩ | ⟨i, hi, hf, _⟩
        · exact hno
        · omega
      · exact known_no t p n m h1 h3
    · rw [if_neg h] at h1; omega

/-- The place of a new line of a word: behind the parts of its lesser siblings. -/
def placeTo (t : List Ln) (w : List UInt8) (z : Nat) (K : List Nat) : Nat := K.foldl (fun a k => if Op.bytesLess (wd t k) w = true then endL t k else a) z
theorem place_next (t : List Ln) (w : List UInt8) (z : Nat) (K : List Nat) (g : Nat) (h : g < K.length) : placeTo t w z (K.take (g + 1)) = if Op.bytesLess (wd t K[g]) w = true then endL t K[g] else placeTo t w z (K.take g) := by
  unfold placeTo
  rw [List.take_succ_eq_append_getElem h, List.foldl_append]; rfl
theorem place_cases (t : List Ln) (w : List UInt8) : ∀ (K : List Nat) (z : Nat), (placeTo t w z K = z ∧ ∀ k ∈ K, Op.bytesLess (wd t k) w = false) ∨ ∃ a k b, K = a ++ k :: b ∧ Op.bytesLess (wd t k) w = true ∧ (∀ x ∈ b, Op.bytesLess (wd t x) w = false) ∧ placeTo t w z K = endL t k
  | [], z => .inl ⟨rfl, fun k hk => by cases hk⟩
  | x :: K, z => by
    have e : placeTo t w z (x :: K) = placeTo t w (if Op.bytesLess (wd t x) w = true then endL t x else z) K := rfl
    rcases place_cases t w K (if Op.bytesLess (wd t x) w = true then endL t x else z) with ⟨h1, h2⟩ | ⟨a, k, b, h1, h2, h3, h4⟩
    · by_cases hx : Op.bytesLess (wd t x) w = true
      · refine .inr ⟨[], x, K, rfl, hx, h2, ?_⟩
        rw [e, h1, if_pos hx]
      · refine .inl ⟨by rw [e, h1, if_neg hx], fun k hk => ?_⟩
        rcases List.mem_cons.1 hk with rfl | hk
        · exact Bool.eq_false_iff.2 hx
        · exact h2 k hk
    · exact .inr ⟨x :: a, k, b, by rw [h1]; rfl, h2, h3, by rw [e, h4]⟩
theorem RightN.kid_in {N : Nat} {t : List Ln} (_h : RightN N t) {up : Int} (hu : -1 ≤ up ∧ up < t.length) {c : Nat} (hc : c < t.length) (e : underL t c = up) : up < c ∧ c < endI t up := by
  have h1 := under_lt t c
  refine ⟨by omega, ?_⟩
  unfold endI
  by_cases h0 : up < 0
  · rw [if_pos h0]; exact hc
  · rw [if_neg h0]
    obtain ⟨n, rfl⟩ := Int.eq_ofNat_of_zero_le (show 0 ≤ up by omega)
    rw [Int.toNat_natCast]
    obtain ⟨g1, g2, g3, g4⟩ := end_spec t n (by omega)
    have hs := under_spec t (dp t c) c
    have e2 : underF t (dp t c) c = (n : Int) := e
    rcases hs with ⟨hs, _⟩ | ⟨k, hk, hs, hd, hall⟩
    · omega
    · obtain rfl : k = n := by omega
      rcases Nat.lt_or_ge c (endL t k) with h2 | h2
      · exact h2
      · have h3 := g4 (by omega)
        rcases Nat.eq_or_lt_of_le h2 with h4 | h4
        · rw [h4] at h3; omega
        · have := hall (endL t k) g1 h4; omega
theorem RightN.kid_next {N : Nat} {t : List Ln} (h : RightN N t) {up : Int} (hu : -1 ≤ up ∧ up < t.length) {k : Nat} (hk : k < t.length) (e : underL t k = up) (hlt : endL t k < endI t up) : underL t (endL t k) = up := by
  obtain ⟨g1, g2, g3, g4⟩ := end_spec t k hk
  obtain ⟨k1, k2⟩ := h.kid_in hu hk e
  have hel : endL t k < t.length := by
    unfold endI at hlt
    by_cases h0 : up < 0
    · rw [if_pos h0] at hlt; exact hlt
    · rw [if_neg h0] at hlt
      have := (end_spec t up.toNat (by omega)).2.1
      omega
  have hdeep : ∀ m : Nat, up < m → m < endI t up → kidD t up ≤ dp t m := by
    intro m h1 h2
    unfold kidD
    unfold endI at h2
    by_cases h0 : up < 0
    · rw [if_pos h0] at h2 ⊢; exact (h.deep m h2).1
    · rw [if_neg h0] at h2 ⊢
      have := (end_spec t up.toNat (by omega)).2.2.1 m (by omega) h2
      omega
  have hD : ∀ n : Nat, n ≤ endI t up → DeepTo t up n := fun n hn m h1 h2 => hdeep m h1 (by omega)
  have hdk := (h.kid_iff hu.1 k1 hk (hD k (by omega))).1 e
  refine (h.kid_iff hu.1 (by omega) hel (hD _ (by omega))).2 ?_
  have h1 := hdeep (endL t k) (by omega) hlt
  have h2 := g4 hel
  omega
theorem RightN.kid_first {N : Nat} {t : List Ln} (_h : RightN N t) {up : Int} (hu : -1 ≤ up ∧ up < t.length) (hlt : (up + 1).toNat < endI t up) : (up + 1).toNat < t.length ∧ underL t (up + 1).toNat = up := by
  unfold endI at hlt
  by_cases h0 : up < 0
  · rw [if_pos h0] at hlt
    obtain rfl : up = -1 := by omega
    refine ⟨hlt, ?_⟩
    have := under_lt t (-1 + 1 : Int).toNat
    have e : (-1 + 1 : Int).toNat = 0 := rfl
    rw [e] at this ⊢
    omega
  · rw [if_neg h0] at hlt
    obtain ⟨n, rfl⟩ := Int.eq_ofNat_of_zero_le (show 0 ≤ up by omega)
    rw [Int.toNat_natCast] at hlt
    have e : ((n : Int) + 1).toNat = n + 1 := by omega
    rw [e] at hlt ⊢
    obtain ⟨g1, g2, g3, g4⟩ := end_spec t n (by omega)
    exact ⟨by omega, under_next t n (g3 (n + 1) (by omega) hlt)⟩
theorem RightN.place_ok {N : Nat} {t : List Ln} (h : RightN N t) {up : Int} (hu : -1 ≤ up ∧ up < t.length) {w : List UInt8} {e : Nat} (he : e ≤ endI t up) (h1 : e < endI t up → e < t.length ∧ underL t e = up ∧ Op.bytesLess w (wd t e) = true)
    (h2 : ∀ c, c < e → c < t.length → underL t c = up → Op.bytesLess (wd t c) w = true) :
    (∀ i, i < e → i < t.length → pless (pathL t i) (pathI t up ++ [w]) = true) ∧ (∀ i, e ≤ i → i < t.length → pless (pathI t up ++ [w]) (pathL t i) = true) := by
  rcases Nat.eq_or_lt_of_le he with rfl | hlt
  · exact h.put_end hu fun c hc hcu => h2 c (h.kid_in hu hc hcu).2 hc hcu
  · obtain ⟨a, b, c⟩ := h1 hlt
    exact h.put_ahead hu a b c fun k hk hku => h2 k hk (by omega) hku
/-- Siblings rise. -/
theorem RightN.kids_rise {N : Nat} {t : List Ln} (h : RightN N t) {up : Int} {a b : Nat} (hab : a < b) (hb : b < t.length) (ea : underL t a = up) (eb : underL t b = up) : Op.bytesLess (wd t a) (wd t b) = true := by
  have := h.path_less b hab hb
  rw [path_under t a, path_under t b, ea, eb, pless_app, pless_cons] at this
  rcases this with this | ⟨_, this⟩
  · exact this
  · simp [pless] at this
theorem endI_le {N : Nat} {t : List Ln} (_h : RightN N t) {up : Int} (hu : -1 ≤ up ∧ up < t.length) : (up + 1).toNat ≤ endI t up ∧ endI t up ≤ t.length := by
  unfold endI
  by_cases h0 : up < 0
  · rw [if_pos h0]; omega
  · rw [if_neg h0]
    obtain ⟨g1, g2, _⟩ := end_spec t up.toNat (by omega)
    omega
/-- The place that is found so is where the line belongs. -/
theorem RightN.place {N : Nat} {t : List Ln} (h : RightN N t) {up : Int} (hu : -1 ≤ up ∧ up < t.length) {w : List UInt8} (hnew : ∀ c, c < t.length → underL t c = up → wd t c ≠ w) :
    placeTo t w (up + 1).toNat (kidsL t up) ≤ t.length ∧ (∀ i, i < placeTo t w (up + 1).toNat (kidsL t up) → i < t.length → pless (pathL t i) (pathI t up ++ [w]) = true) ∧ (∀ i, placeTo t w (up + 1).toNat (kidsL t up) ≤ i → i < t.length → pless (pathI t up ++ [w]) (pathL t i) = true) := by
  obtain ⟨z1, z2⟩ := endI_le h hu
  have tri : ∀ c, c < t.length → underL t c = up → Op.bytesLess (wd t c) w = false → Op.bytesLess w (wd t c) = true := by
    intro c hc hcu hf
    rcases less_tri (wd t c) w with h1 | h1 | h1
    · rw [hf] at h1; cases h1
    · exact absurd h1 (hnew c hc hcu)
    · exact h1
  rcases place_cases t w (kidsL t up) (up + 1).toNat with ⟨e, hall⟩ | ⟨a, k, b, eK, hk, hb, e⟩
  · rw [e]
    refine ⟨by omega, h.place_ok hu z1 (fun hlt => ?_) (fun c hc hcl hcu => ?_)⟩
    · obtain ⟨f1, f2⟩ := h.kid_first hu hlt
      exact ⟨f1, f2, tri _ f1 f2 (hall _ ((mem_kids t _ _).2 ⟨f1, f2⟩))⟩
    · have := h.kid_in hu hcl hcu
      omega
  · have hkm : k ∈ kidsL t up := by rw [eK]; simp
    obtain ⟨k1, k2⟩ := (mem_kids t _ k).1 hkm
    obtain ⟨g1, g2, g3, g4⟩ := end_spec t k k1
    have hend : endL t k ≤ endI t up := by
      unfold endI
      by_cases h0 : up < 0
      · rw [if_pos h0]; exact g2
      · rw [if_neg h0]
        obtain ⟨n, rfl⟩ := Int.eq_ofNat_of_zero_le (show 0 ≤ up by omega)
        rw [Int.toNat_natCast]
        obtain ⟨q1, q2, q3, q4⟩ := end_spec t n (by omega)
        have hin := h.kid_in hu k1 k2
        unfold endI at hin
        rw [if_neg h0, Int.toNat_natCast] at hin
        have hin1 : n < k := by omega
        rcases Nat.lt_or_ge (endL t n) (endL t k) with h3 | h3
        · have a1 := g3 (endL t n) hin.2 h3
          have a2 := q4 (by omega)
          have a3 := q3 k hin1 hin.2
          omega
        · exact h3
    have hsort := kids_sorted t up
    rw [eK] at hsort
    have hbk : ∀ x ∈ b, k < x := (List.pairwise_cons.1 (List.pairwise_append.1 hsort).2.1).1
    have hak : ∀ x ∈ a, x < k := fun x hx => (List.pairwise_append.1 hsort).2.2 x hx k (by simp)
    rw [e]
    refine ⟨g2, h.place_ok hu hend (fun hlt => ?_) (fun c hc hcl hcu => ?_)⟩
    · have hu2 := h.kid_next hu k1 k2 hlt
      have hel : endL t k < t.length := by omega
      refine ⟨hel, hu2, tri _ hel hu2 ?_⟩
      have hm : endL t k ∈ kidsL t up := (mem_kids t _ _).2 ⟨hel, hu2⟩
      rw [eK] at hm
      rcases List.mem_append.1 hm with hm | hm
      · have := hak _ hm; omega
      · rcases List.mem_cons.1 hm with hm | hm
        · omega
        · exact hb _ hm
    · have hm : c ∈ kidsL t up := (mem_kids t _ _).2 ⟨hcl, hcu⟩
      rw [eK] at hm
      rcases List.mem_append.1 hm with hm | hm
      · exact less_trans _ _ _ (h.kids_rise (hak c hm) k1 hcu k2) hk
      · rcases List.mem_cons.1 hm with hm | hm
        · rw [hm]; exact hk
        · have hkc := hbk c hm
          have hdc := g3 c hkc hc
          have d1 := h.kid_in hu k1 k2
          have hs := under_spec t (dp t c) c
          have e2 : underF t (dp t c) c = up := hcu
          rcases hs with ⟨hs, hall⟩ | ⟨x, hx, hs, hd, hall⟩
          · have := hall k hkc; omega
          · have h5 : x < k := by omega
            have := hall k h5 hkc
            omega
/-- What Add makes of a tree and a path, as the code makes it. -/
theorem add_placed {t : List Ln} (h : RightT t) {p : Pth} (hp : p.length ≤ 16) (hw : ∀ w ∈ p, w.length ≤ 40) {n P : Nat} (hn : knownN t p p.length = n) (hlt : n < p.length) (hP : placeTo t (p.getD n []) (findI t (p.take n) + 1).toNat (kidsL t (findI t (p.take n))) = P) :
    P ≤ t.length ∧ t.take P ++ freshL p n (p.length - n) ++ t.drop P = addL t p := by
  subst hn
  have ho := known_open t p p.length
  have hle := known_le t p p.length
  obtain ⟨hu, hpi⟩ := ho.up h
  have hq := take_next p (knownN t p p.length) hlt
  have hno := known_no t p p.length
  obtain ⟨q1, q2, q3⟩ := h.place hu (w := p.getD (knownN t p p.length) []) (fun c hc hcu e => by
    refine hno (knownN t p p.length + 1) (by omega) (by omega) c hc ?_
    rw [path_under t c, hcu, hpi, e, hq])
  rw [hP] at q1 q2 q3
  rw [hpi, hq] at q2 q3
  exact ⟨q1, add_split h hp hw hle q1 ho hno (fun _ => q2) (fun _ => q3)⟩
theorem add_known {t : List Ln} (h : RightT t) {p : Pth} (hp : p.length ≤ 16) (hw : ∀ w ∈ p, w.length ≤ 40) (hn : knownN t p p.length = p.length) : addL t p = t := by
  have ho := known_open t p p.length
  rw [hn] at ho
  have := add_split h hp hw (n := p.length) (P := 0) (Nat.le_refl _) (Nat.zero_le _) ho (fun m h1 h2 => by omega) (fun h1 => by omega) (fun h1 => by omega)
  rw [← this, Nat.sub_self]; rfl
theorem add_len {t : List Ln} (h : RightT t) {p : Pth} (hp : p.length ≤ 16) (hw : ∀ w ∈ p, w.length ≤ 40) : (addL t p).length = t.length + (p.length - knownN t p p.length) := by
  have hle := known_le t p p.length
  rcases Nat.eq_or_lt_of_le hle with e | hlt
  · rw [add_known h hp hw e, e, Nat.sub_self]; rfl
  · obtain ⟨q1, q2⟩ := add_placed h hp hw rfl hlt rfl
    rw [← q2, List.length_append, List.length_append, freshL_len, List.length_take, List.length_drop]
    omega
end Go.Proofs.YtfcikfohmehmkaaGreatDoor.T

namespace Go.Proofs.YtfcikfohmehmkaaGreatDoor.S
open T (Ln Pth at_ dp wd RightT RightN pathL pathI underL findI entries addL leavesL leafPaths bareT)
open W (Tok Res lexL signK quoteL blankB stops)

def setW : List UInt8 := [115, 101, 116]
def deW : List UInt8 := [100, 101, 97, 99, 116, 105, 118, 97, 116, 101]
def prW : List UInt8 := [112, 114, 111, 116, 101, 99, 116]
def beginsB (w : List UInt8) : Bool := decide (w = setW ∨ w = deW ∨ w = prW)
theorem RightN.path_long {N : Nat} {t : List Ln} (h : RightN N t) : ∀ (n i : Nat), i ≤ n → i < t.length → ∀ w ∈ pathL t i, w.length ≤ 40
  | n, i, hin, hi, w, hw => by
    obtain ⟨k, hk, rfl⟩ := List.getElem_of_mem hw
    obtain ⟨j, hj, e⟩ := h.path_take i i (k + 1) (Nat.le_refl _) hi (by omega) (by omega)
    have e2 : pathL t j = (pathL t i).take k ++ [(pathL t i)[k]] := by rw [e, List.take_succ_eq_append_getElem hk]
    rw [T.path_under t j] at e2
    obtain ⟨_, e3⟩ := List.append_inj' e2 rfl
    have e4 : wd t j = (pathL t i)[k] := by simpa using e3
    rw [← e4]
    exact h.long j hj
theorem RightN.path_deep {N : Nat} {t : List Ln} (h : RightN N t) {i : Nat} (hi : i < t.length) : 0 < (pathL t i).length ∧ (pathL t i).length ≤ 16 := by
  have h1 := h.path_len i i (Nat.le_refl _) hi
  have h2 := h.deep i hi
  omega
/-! ### rows -/
/-! ### commands read -/
inductive RRes where
  | ok (t : List Ln)
  | bad (p : Nat) (e : Int)
/-- How many tokens the command in front takes, or where it cannot go on. -/
def sizeT (n : Nat) : Nat → List Tok → Nat ⊕ (Nat × Int)
  | _, [] => .inr (n, 2)
  | i, k :: l =>
    if k.kind = 4 ∧ 1 < i then .inl (i + 1)
    else if k.kind ≠ 1 ∨ (i = 0 ∧ beginsB k.word = false) then .inr (k.pos, 2)
    else if 16 < i then .inr (k.pos, 6)
    else sizeT n (i + 1) l
def bitOf (v : List UInt8) : Int := if v = deW then 1 else 2
def orM (m b : Int) : Int := if hasBit m b = true then m else m + b
def doT (t : List Ln) (v : List UInt8) (p : Pth) : List Ln ⊕ Int :=
  if v = setW then (if (addL t p).length ≤ 200 then .inl (addL t p) else .inr 5)
  else if findI t p < 0 then .inr 3
  else .inl (setM t (findI t p).toNat (orM (at_ t (findI t p).toNat).mark (bitOf v)))
def pathOf (l : List Tok) (m : Nat) : Pth := ((l.take (m - 1)).drop 1).map Tok.word
def readF (n : Nat) : Nat → List Ln → List Tok → RRes
  | 0, t, _ => .ok t
  | _ + 1, t, [] => .ok t
  | f + 1, t, k :: l =>
    match sizeT n 0 (k :: l) with
    | .inr x => .bad x.1 x.2
    | .inl m =>
      match doT t k.word (pathOf (k :: l) m) with
      | .inr e => .bad k.pos e
      | .inl u => readF n f u ((k :: l).drop m)
/-- What a text of commands says. -/
def readL (s : List UInt8) : RRes := match lexL 0 s with | .bad p e => .bad p e | .ok a => readF s.length a.length [] a

abbrev Cmd := List UInt8 × Pth
def cmdK (c : Cmd) : List Trip := (1, c.1, 0) :: (c.2.map fun w => ((1, w, 0) : Trip)) ++ [(4, [], 0)]
structure GoodC (c : Cmd) : Prop where
  verb : beginsB c.1 = true
  ne : c.2 ≠ []
  deep : c.2.length ≤ 16
  long : ∀ w ∈ c.2, w.length ≤ 40
def runC (t : List Ln) : List Cmd → Option (List Ln)
  | [] => some t
  | c :: cs => match doT t c.1 c.2 with | .inl u => runC u cs | .inr _ => none
theorem size_words (n : Nat) : ∀ (p : Pth) (i : Nat) (l : List Tok) (r : List Trip), l.map strip = (p.map fun w => ((1, w, 0) : Trip)) ++ (4, [], 0) :: r → 1 ≤ i → 1 < i + p.length → i + p.length ≤ 17 → sizeT n i l = .inl (i + p.length + 1)
  | [], i, [], r, h, _, _, _ => by simp at h
  | [], i, k :: l, r, h, h1, h2, h3 => by
    have hk : strip k = (4, [], 0) := by simpa using (List.cons.inj h).1
    have hk1 : k.kind = 4 := congrArg Prod.fst hk
    unfold sizeT
    rw [if_pos ⟨hk1, by simpa using h2⟩]; rfl
  | w :: p, i, [], r, h, _, _, _ => by simp at h
  | w :: p, i, k :: l, r, h, h1, h2, h3 => by
    have hk : strip k = (1, w, 0) := (List.cons.inj h).1
    have hk1 : k.kind = 1 := congrArg Prod.fst hk
    have ht : l.map strip = (p.map fun w => ((1, w, 0) : Trip)) ++ (4, [], 0) :: r := (List.cons.inj h).2
    rw [List.length_cons] at h2 h3
    unfold sizeT
    rw [if_neg (by omega), if_neg (by omega), if_neg (by omega), size_words n p (i + 1) l r ht (by omega) (by omega) (by omega), List.length_cons]
    congr 1; omega
theorem size_cmd (n : Nat) (c : Cmd) (l : List Tok) (r : List Trip) (hc : GoodC c) (h : l.map strip = cmdK c ++ r) : sizeT n 0 l = .inl (c.2.length + 2) ∧ pathOf l (c.2.length + 2) = c.2 ∧ ∃ k l', l = k :: l' ∧ k.word = c.1 ∧ (l.drop (c.2.length + 2)).map strip = r := by
  have hpos := List.length_pos_iff.2 hc.ne
  have hd := hc.deep
  cases l with
  | nil => simp [cmdK] at h
  | cons k l =>
    have e : cmdK c ++ r = (1, c.1, 0) :: ((c.2.map fun w => ((1, w, 0) : Trip)) ++ (4, [], 0) :: r) := by unfold cmdK; simp
    rw [e, List.map_cons] at h
    obtain ⟨hk, ht⟩ := List.cons.inj h
    have hk1 : k.kind = 1 := congrArg Prod.fst hk
    have hk2 : k.word = c.1 := congrArg (fun x : Trip => x.2.1) hk
    refine ⟨?_, ?_, k, l, rfl, hk2, ?_⟩
    · unfold sizeT
      rw [if_neg (by omega), if_neg (by rw [hk2, hc.verb]; simp [hk1]), if_neg (by omega), size_words n c.2 1 l r ht (Nat.le_refl _) (by omega) (by omega)]
      congr 1; omega
    · have e2 : (((k :: l).take (c.2.length + 2 - 1)).drop 1).map Tok.word = ((l.map strip).take c.2.length).map fun x : Trip => x.2.1 := by
        rw [show c.2.length + 2 - 1 = c.2.length + 1 by omega, List.take_succ_cons, List.drop_succ_cons, List.drop_zero, ← List.map_take, List.map_map]; rfl
      unfold pathOf
      rw [e2, ht, List.take_left' (by rw [List.length_map]), List.map_map]
      exact List.map_id'' (fun _ => rfl) c.2
    · rw [show c.2.length + 2 = (c.2.length + 1) + 1 by omega, List.drop_succ_cons, List.map_drop, ht]
      have e3 : (c.2.map fun w => ((1, w, 0) : Trip)) ++ (4, [], 0) :: r = ((c.2.map fun w => ((1, w, 0) : Trip)) ++ [(4, [], 0)]) ++ r := by simp
      rw [e3, List.drop_left' (by simp)]
/-- The size of a command, turned round. -/
theorem size_back (n : Nat) : ∀ (l : List Tok) (i m : Nat), (∀ t ∈ l, W.GoodTok t) → 1 ≤ i → sizeT n i l = .inl m → ∃ (p : Pth) (r : List Trip), l.map strip = (p.map fun w => ((1, w, 0) : Trip)) ++ (4, [], 0) :: r ∧ 1 < i + p.length ∧ m = i + p.length + 1 ∧ (i ≤ 17 → i + p.length ≤ 17) ∧ ∀ w ∈ p, w.length ≤ 40
  | [], i, m, _, _, h => by unfold sizeT at h; cases h
  | k :: l, i, m, hg, hi, h => by
    have hk := hg k (List.mem_cons_self ..)
    unfold sizeT at h
    by_cases h1 : k.kind = 4 ∧ 1 < i
    · rw [if_pos h1] at h
      injection h with h
      have hs : strip k = (4, [], 0) := by
        rcases hk with ⟨a, _⟩ | ⟨_, b, c⟩ | ⟨a, _⟩
        · omega
        · unfold strip; rw [h1.1, b, c]
        · omega
      exact ⟨[], l.map strip, by rw [List.map_cons, hs]; rfl, by simpa using h1.2, by simpa using h.symm, fun h2 => by simpa using h2, fun w hw => by cases hw⟩
    · rw [if_neg h1] at h
      by_cases h2 : k.kind ≠ 1 ∨ (i = 0 ∧ beginsB k.word = false)
      · rw [if_pos h2] at h; cases h
      · rw [if_neg h2] at h
        have hk1 : k.kind = 1 := by
          rcases Decidable.em (k.kind = 1) with e | e
          · exact e
          · exact absurd (.inl e) h2
        by_cases h3 : 16 < i
        · rw [if_pos h3] at h; cases h
        · rw [if_neg h3] at h
          obtain ⟨p, r, e1, e2, e3, e4, e5⟩ := size_back n l (i + 1) m (fun t ht => hg t (List.mem_cons_of_mem _ ht)) (by omega) h
          have hs : strip k = (1, k.word, 0) ∧ k.word.length ≤ 40 := by
            rcases hk with ⟨a, b, c⟩ | ⟨a, _⟩ | ⟨a, _⟩
            · exact ⟨by unfold strip; rw [a, c], b⟩
            · omega
            · omega
          refine ⟨k.word :: p, r, by rw [List.map_cons, e1, hs.1]; rfl, by rw [List.length_cons]; omega, by rw [List.length_cons]; omega, fun _ => by rw [List.length_cons]; have := e4 (by omega); omega, fun w hw => ?_⟩
          rcases List.mem_cons.1 hw with rfl | hw
          · exact hs.2
          · exact e5 w hw
theorem size_cmd_back (n : Nat) {k : Tok} {l : List Tok} {m : Nat} (hg : ∀ t ∈ k :: l, W.GoodTok t) (h : sizeT n 0 (k :: l) = .inl m) : ∃ (p : Pth) (r : List Trip), (k :: l).map strip = cmdK (k.word, p) ++ r ∧ GoodC (k.word, p) ∧ m = p.length + 2 := by
  have hk := hg k (List.mem_cons_self ..)
  unfold sizeT at h
  rw [if_neg (by omega)] at h
  by_cases h2 : k.kind ≠ 1 ∨ (0 = 0 ∧ beginsB k.word = false)
  · rw [if_pos h2] at h; cases h
  · rw [if_neg h2, if_neg (by omega)] at h
    have hk1 : k.kind = 1 := by
      rcases Decidable.em (k.kind = 1) with e | e
      · exact e
      · exact absurd (.inl e) h2
    have hb : beginsB k.word = true := by
      cases e : beginsB k.word with
      | true => rfl
      | false => exact absurd (.inr ⟨rfl, e⟩) h2
    have hs : strip k = (1, k.word, 0) := by
      rcases hk with ⟨a, b, c⟩ | ⟨a, _⟩ | ⟨a, _⟩
      · unfold strip; rw [a, c]
      · omega
      · omega
    obtain ⟨p, r, e1, e2, e3, e4, e5⟩ := size_back n l 1 m (fun t ht => hg t (List.mem_cons_of_mem _ ht)) (Nat.le_refl _) h
    refine ⟨p, r, by rw [List.map_cons, e1, hs]; unfold cmdK; simp, ⟨hb, ?_, ?_, e5⟩, by omega⟩
    · intro e; subst e; simp at e2
    · have := e4 (by omega); show p.length ≤ 16; omega
/-- What is read is commands that can be done. -/
theorem read_back (n : Nat) : ∀ (f : Nat) (t u : List Ln) (l : List Tok), (∀ x ∈ l, W.GoodTok x) → l.length ≤ f → readF n f t l = .ok u → ∃ cs, l.map strip = cs.flatMap cmdK ∧ (∀ c ∈ cs, GoodC c) ∧ runC t cs = some u
  | 0, t, u, l, _, hf, h => by
    have hl : l = [] := List.eq_nil_of_length_eq_zero (by omega)
    subst hl
    injection h with h
    exact ⟨[], rfl, fun c hc => (by cases hc), by rw [← h]; rfl⟩
  | f + 1, t, u, [], _, _, h => by
    injection h with h
    exact ⟨[], rfl, fun c hc => (by cases hc), by rw [← h]; rfl⟩
  | f + 1, t, u, k :: l, hg, hf, h => by
    unfold readF at h
    cases hs : sizeT n 0 (k :: l) with
    | inr x => rw [hs] at h; cases h
    | inl m =>
      rw [hs] at h
      simp only at h
      obtain ⟨p, r, e1, e2, e3⟩ := size_cmd_back n hg hs
      subst e3
      obtain ⟨_, g2, k', l', e4, _, g4⟩ := size_cmd n (k.word, p) (k :: l) r e2 e1
      have g2' : pathOf (k :: l) (p.length + 2) = p := g2
      rw [g2'] at h
      cases hd : doT t k.word p with
      | inr e => rw [hd] at h; cases h
      | inl v =>
        rw [hd] at h
        obtain ⟨cs, c1, c2, c3⟩ := read_back n f v u _ (fun x hx => hg x (List.mem_of_mem_drop hx)) (by rw [List.length_drop]; simp only [List.length_cons] at hf ⊢; omega) h
        refine ⟨(k.word, p) :: cs, ?_, fun c hc => ?_, ?_⟩
        · show _ = cmdK (k.word, p) ++ cs.flatMap cmdK
          rw [← c1]
          have g4' : ((k :: l).drop (p.length + 2)).map strip = r := g4
          rw [g4', e1]
        · rcases List.mem_cons.1 hc with rfl | hc
          · exact e2
          · exact c2 c hc
        · show (match doT t k.word p with | .inl u => runC u cs | .inr _ => none) = some u
          rw [hd]
          exact c3

/-! ### what stands twice -/
/-- A command is done already. -/
def Held (t : List Ln) (c : Cmd) : Prop :=
  if c.1 = setW then ∀ j, j < c.2.length → ∃ i, i < t.length ∧ pathL t i = c.2.take (j + 1)
  else ∃ i, i < t.length ∧ pathL t i = c.2 ∧ hasBit (at_ t i).mark (bitOf c.1) = true
theorem bit_two (v : List UInt8) : bitOf v = 1 ∨ bitOf v = 2 := by
  unfold bitOf
  by_cases h : v = deW
  · rw [if_pos h]; exact .inl rfl
  · rw [if_neg h]; exact .inr rfl
theorem or_range {m b : Int} (hm : 0 ≤ m ∧ m ≤ 3) (hb : b = 1 ∨ b = 2) : 0 ≤ orM m b ∧ orM m b ≤ 3 := by
  unfold orM hasBit
  by_cases h : (b = 1 ∧ m % 2 = 1) ∨ (b = 2 ∧ 1 < m)
  · rw [if_pos (by simpa using h)]; exact hm
  · rw [if_neg (by simpa using h)]; omega
theorem or_has {m b : Int} (hm : 0 ≤ m ∧ m ≤ 3) (hb : b = 1 ∨ b = 2) : hasBit (orM m b) b = true := by
  unfold orM
  by_cases h : hasBit m b = true
  · rw [if_pos h]; exact h
  · rw [if_neg h]
    unfold hasBit at h ⊢
    simp only [decide_eq_true_eq] at h ⊢
    omega
theorem or_keeps {m b c : Int} (hm : 0 ≤ m ∧ m ≤ 3) (hb : b = 1 ∨ b = 2) (h : hasBit m c = true) : hasBit (orM m b) c = true := by
  unfold orM
  by_cases h2 : hasBit m b = true
  · rw [if_pos h2]; exact h
  · rw [if_neg h2]
    unfold hasBit at h h2 ⊢
    simp only [decide_eq_true_eq] at h h2 ⊢
    omega
theorem setM_path (t : List Ln) (k : Nat) (m : Int) (i : Nat) (hk : k < t.length) : pathL (setM t k m) i = pathL t i := T.pathL_same (fun j => setM_dp t k m j hk) (fun j => setM_wd t k m j hk) i
theorem do_cases {t u : List Ln} {v : List UInt8} {p : Pth} (h : doT t v p = .inl u) : (v = setW ∧ (addL t p).length ≤ 200 ∧ u = addL t p) ∨ (v ≠ setW ∧ ∃ i, i < t.length ∧ pathL t i = p ∧ u = setM t i (orM (at_ t i).mark (bitOf v))) := by
  unfold doT at h
  by_cases h1 : v = setW
  · rw [if_pos h1] at h
    by_cases h2 : (addL t p).length ≤ 200
    · rw [if_pos h2] at h
      injection h with h
      exact .inl ⟨h1, h2, h.symm⟩
    · rw [if_neg h2] at h; cases h
  · rw [if_neg h1] at h
    rcases T.findI_cases t p with ⟨e, _⟩ | ⟨i, hi, e, ep⟩
    · rw [e, if_pos (by omega)] at h; cases h
    · rw [e, if_neg (by omega), Int.toNat_natCast] at h
      injection h with h
      exact .inr ⟨h1, i, hi, ep, h.symm⟩
theorem do_right {t u : List Ln} {c : Cmd} (hR : RightT t) (hc : GoodC c) (h : doT t c.1 c.2 = .inl u) : RightT u := by
  rcases do_cases h with ⟨_, h2, rfl⟩ | ⟨_, i, hi, _, rfl⟩
  · exact T.add_right hR hc.deep hc.long h2
  · exact RightT.setM hR hi (or_range (hR.mark i hi) (bit_two _))
theorem do_held {t u : List Ln} {c : Cmd} (hR : RightT t) (hc : GoodC c) (h : doT t c.1 c.2 = .inl u) : Held u c := by
  unfold Held
  rcases do_cases h with ⟨h1, h2, rfl⟩ | ⟨h1, i, hi, ep, rfl⟩
  · rw [if_pos h1]
    exact fun j hj => (T.add_is hR hc.deep hc.long).has hj
  · rw [if_neg h1]
    refine ⟨i, by rw [setM_len]; exact hi, by rw [setM_path _ _ _ _ hi]; exact ep, ?_⟩
    rw [setM_at _ _ _ _ hi, if_pos rfl]
    exact or_has (hR.mark i hi) (bit_two _)
theorem do_keeps {t u : List Ln} {c d : Cmd} (hR : RightT t) (hc : GoodC c) (h : doT t c.1 c.2 = .inl u) (hd : Held t d) : Held u d := by
  unfold Held at hd ⊢
  rcases do_cases h with ⟨h1, h2, rfl⟩ | ⟨h1, i, hi, ep, rfl⟩
  · by_cases hs : d.1 = setW
    · rw [if_pos hs] at hd ⊢
      intro j hj
      obtain ⟨k, hk, e⟩ := hd j hj
      obtain ⟨k2, hk2, e2, _⟩ := T.add_keeps hR hc.deep hc.long hk
      exact ⟨k2, hk2, by rw [e2, e]⟩
    · rw [if_neg hs] at hd ⊢
      obtain ⟨k, hk, e, hb⟩ := hd
      obtain ⟨k2, hk2, e2, e3⟩ := T.add_keeps hR hc.deep hc.long hk
      exact ⟨k2, hk2, by rw [e2, e], by rw [e3]; exact hb⟩
  · by_cases hs : d.1 = setW
    · rw [if_pos hs] at hd ⊢
      intro j hj
      obtain ⟨k, hk, e⟩ := hd j hj
      exact ⟨k, by rw [setM_len]; exact hk, by rw [setM_path _ _ _ _ hi]; exact e⟩
    · rw [if_neg hs] at hd ⊢
      obtain ⟨k, hk, e, hb⟩ := hd
      refine ⟨k, by rw [setM_len]; exact hk, by rw [setM_path _ _ _ _ hi]; exact e, ?_⟩
      rw [setM_at _ _ _ _ hi]
      by_cases hki : k = i
      · rw [if_pos hki]
        subst hki
        exact or_keeps (hR.mark k hk) (bit_two _) hb
      · rw [if_neg hki]; exact hb
theorem run_held : ∀ (cs : List Cmd) (t u : List Ln), RightT t → (∀ c ∈ cs, GoodC c) → runC t cs = some u → RightT u ∧ (∀ c ∈ cs, Held u c) ∧ ∀ d, Held t d → Held u d
  | [], t, u, hR, _, h => by
    injection h with h
    subst h
    exact ⟨hR, fun c hc => (by cases hc), fun d hd => hd⟩
  | c :: cs, t, u, hR, hg, h => by
    have h2 : (match doT t c.1 c.2 with | .inl u => runC u cs | .inr _ => none) = some u := h
    have hc := hg c (List.mem_cons_self ..)
    cases hd : doT t c.1 c.2 with
    | inr e => rw [hd] at h2; cases h2
    | inl v =>
      rw [hd] at h2
      obtain ⟨r1, r2, r3⟩ := run_held cs v u (do_right hR hc hd) (fun x hx => hg x (List.mem_cons_of_mem _ hx)) h2
      refine ⟨r1, fun x hx => ?_, fun d hdd => r3 d (do_keeps hR hc hd hdd)⟩
      rcases List.mem_cons.1 hx with rfl | hx
      · exact r3 _ (do_held hR hc hd)
      · exact r2 x hx
theorem readL_right {s : List UInt8} {t : List Ln} (h : readL s = .ok t) : RightT t := by
  unfold readL at h
  cases hl : lexL 0 s with
  | bad p e => rw [hl] at h; cases h
  | ok a =>
    rw [hl] at h
    obtain ⟨cs, _, c2, c3⟩ := read_back s.length a.length [] t a (W.lexL_good s 0 a hl) (Nat.le_refl _) h
    exact (run_held cs [] t right_nil c2 c3).1
end Go.Proofs.YtfcikfohmehmkaaGreatDoor.S

namespace Go.Proofs.YtfcikfohmehmkaaGreatDoor.S
open T (Ln Pth at_ dp wd RightT RightN pathL pathI underL findI entries addL leavesL leafPaths bareT Built)
open W (Tok Res lexL signK quoteL blankB stops)

theorem verb_cases {v : List UInt8} (h : beginsB v = true) : v = setW ∨ v = deW ∨ v = prW := of_decide_eq_true h
theorem sorted_sub : ∀ (b a : List (Pth × Int)), T.Sorted a → T.Sorted b → (∀ x ∈ a, x ∈ b) → a.length ≤ b.length
  | _, [], _, _, _ => Nat.zero_le _
  | [], x :: a, _, _, h => by cases h x (List.mem_cons_self ..)
  | y :: b, x :: a, ha, hb, h => by
    have ha1 := ha.head
    have hb1 := hb.head
    rw [List.length_cons, List.length_cons]
    refine Nat.succ_le_succ (sorted_sub b a ha.tail hb.tail fun z hz => ?_)
    rcases List.mem_cons.1 (h z (List.mem_cons_of_mem _ hz)) with e | e
    · subst e
      have h1 := ha1 z hz
      rcases List.mem_cons.1 (h x (List.mem_cons_self ..)) with e2 | e2
      · subst e2; rw [T.pless_irr] at h1; cases h1
      · have h2 := T.pless_trans _ _ _ (hb1 x e2) h1; rw [T.pless_irr] at h2; cases h2
    · exact e
/-- A tree of paths of a tree has no more lines than that. -/
theorem built_len {t : List Ln} (h : RightT t) {ps : List Pth} {u : List Ln} (hu : Built ps u) {p : Pth} (hps : ∀ q ∈ ps, ∃ i, i < t.length ∧ q = pathL t i) (hp : ∃ i, i < t.length ∧ p = pathL t i) : (addL u p).length ≤ 200 := by
  obtain ⟨k, hk, rfl⟩ := hp
  have hw := RightN.path_long h k k (Nat.le_refl _) hk
  have hd := (RightN.path_deep h hk).2
  have ha := T.add_is hu.right hd hw
  have hin : ∀ (i j : Nat), i < t.length → j < (pathL t i).length → ((pathL t i).take (j + 1), (0 : Int)) ∈ entries (bareT t) := by
    intro i j hi hj
    obtain ⟨m, hm, e⟩ := T.RightN.path_take h i i (j + 1) (Nat.le_refl _) hi (by omega) (by omega)
    exact (T.mem_entries _ _ _).2 ⟨m, by rw [T.bare_len]; exact hm, by rw [T.bare_path]; exact e, by rw [T.bare_at]⟩
  have := sorted_sub (entries (bareT t)) (entries (addL u (pathL t k))) ha.right.sorted (T.bare_right h).sorted fun x hx => by
    rcases (T.add_zero hu.right hu.zero hd hw x).1 hx with hx | ⟨j, hj, rfl⟩
    · obtain ⟨q, hq, j, hj, rfl⟩ := (hu.mem x).1 hx
      obtain ⟨i, hi, rfl⟩ := hps q hq
      exact hin i j hi hj
    · exact hin k j hk hj
  rw [T.entries_len, T.entries_len, T.bare_len] at this
  exact Nat.le_trans this h.len
end Go.Proofs.YtfcikfohmehmkaaGreatDoor.S

namespace Go.Proofs.YtfcikfohmehmkaaGreatDoor.T

/-- Does a path begin with another one? -/
def pre (p q : Pth) : Prop := q.take p.length = p
instance (p q : Pth) : Decidable (pre p q) := inferInstanceAs (Decidable (q.take p.length = p))
theorem pre_iff {p q : Pth} : pre p q ↔ ∃ s, q = p ++ s := by
  unfold pre
  constructor
  · intro h; exact ⟨q.drop p.length, by rw [← h, List.length_take]; (conv => lhs; rw [← List.take_append_drop p.length q]); rw [← h]; simp⟩
  · rintro ⟨s, rfl⟩; exact List.take_left
theorem pre_app (p s : Pth) : pre p (p ++ s) := List.take_left
/-- A line stands in a part just if its path begins with that of the part. -/
theorem RightN.part_iff {N : Nat} {t : List Ln} (h : RightN N t) {a : Nat} (ha : a < t.length) {i : Nat} (hi : i < t.length) : (a ≤ i ∧ i < endL t a) ↔ pre (pathL t a) (pathL t i) := by
  rw [pre_iff]
  constructor
  · rintro ⟨h1, h2⟩; exact part_prefix ha i i (Nat.le_refl _) h1 h2
  · rintro ⟨s, hs⟩
    obtain ⟨g1, g2, g3, g4⟩ := end_spec t a ha
    have hai : a ≤ i := by
      rcases Nat.lt_or_ge i a with hlt | hge
      · have := h.path_less a hlt ha
        rw [hs] at this
        cases s with
        | nil => rw [List.append_nil, pless_irr] at this; cases this
        | cons w s => have h2 := pless_asymm (pless_more (pathL t a) (w :: s) (by simp)); rw [h2] at this; cases this
      · exact hge
    refine ⟨hai, ?_⟩
    rcases Nat.lt_or_ge i (endL t a) with hlt | hge
    · exact hlt
    · have he : endL t a < t.length := by omega
      have hx : pless (pathL t i) (pathL t (endL t a)) = true := by
        rw [hs]
        refine pless_off _ _ _ (h.path_less _ g1 he) ?_
        rintro ⟨x, hx⟩
        have l1 := h.path_len (endL t a) (endL t a) (Nat.le_refl _) he
        have l2 := h.path_len a a (Nat.le_refl _) ha
        have := g4 he
        rw [hx, List.length_append] at l1
        have hx0 : x = [] := List.eq_nil_of_length_eq_zero (by omega)
        rw [hx0, List.append_nil] at hx
        have := h.path_inj (max (endL t a) a) _ _ (Nat.le_max_left ..) (Nat.le_max_right ..) he ha hx
        omega
      rcases Nat.eq_or_lt_of_le hge with e | hlt
      · rw [e, pless_irr] at hx; cases hx
      · have := pless_trans _ _ _ hx (h.path_less i hlt hi)
        rw [pless_irr] at this; cases this
theorem mem_takeE {t : List Ln} {k : Nat} {x : Pth × Int} : x ∈ (entries t).take k ↔ ∃ i, i < k ∧ i < t.length ∧ x = (pathL t i, (at_ t i).mark) := by
  constructor
  · intro hx
    obtain ⟨i, hi, rfl⟩ := List.getElem_of_mem hx
    rw [List.length_take, entries_len] at hi
    exact ⟨i, by omega, by omega, by rw [List.getElem_take, entries_at t i (by omega)]⟩
  · rintro ⟨i, h1, h2, rfl⟩
    have hl : i < ((entries t).take k).length := by rw [List.length_take, entries_len]; omega
    have e : ((entries t).take k)[i] = (pathL t i, (at_ t i).mark) := by rw [List.getElem_take, entries_at t i h2]
    rw [← e]
    exact List.getElem_mem hl
theorem mem_dropE {t : List Ln} {k : Nat} {x : Pth × Int} : x ∈ (entries t).drop k ↔ ∃ i, k ≤ i ∧ i < t.length ∧ x = (pathL t i, (at_ t i).mark) := by
  constructor
  · intro hx
    obtain ⟨i, hi, rfl⟩ := List.getElem_of_mem hx
    rw [List.length_drop, entries_len] at hi
    exact ⟨k + i, by omega, by omega, by rw [List.getElem_drop, entries_at t (k + i) (by omega)]⟩
  · rintro ⟨i, h1, h2, rfl⟩
    have hl : i - k < ((entries t).drop k).length := by rw [List.length_drop, entries_len]; omega
    have e : ((entries t).drop k)[i - k] = (pathL t i, (at_ t i).mark) := by
      rw [List.getElem_drop, entries_at t (k + (i - k)) (by omega)]
      rw [show k + (i - k) = i by omega]
    rw [← e]
    exact List.getElem_mem hl
/-- A tree without a part: the paths that do not begin with its. -/
theorem RightN.cut_entries {N : Nat} {t : List Ln} (h : RightN N t) {a : Nat} (ha : a < t.length) : RightN N (cutL t a) ∧ ∀ x, x ∈ entries (cutL t a) ↔ x ∈ entries t ∧ ¬ pre (pathL t a) x.1 := by
  obtain ⟨g1, g2, g3, g4⟩ := end_spec t a ha
  have hmem : ∀ x, x ∈ (entries t).take a ++ (entries t).drop (endL t a) ↔ x ∈ entries t ∧ ¬ pre (pathL t a) x.1 := by
    intro x
    rw [List.mem_append, mem_takeE, mem_dropE]
    constructor
    · rintro (⟨i, h1, h2, rfl⟩ | ⟨i, h1, h2, rfl⟩)
      · exact ⟨(mem_entries t _ _).2 ⟨i, h2, rfl, rfl⟩, fun e => by have := (h.part_iff ha h2).2 e; omega⟩
      · exact ⟨(mem_entries t _ _).2 ⟨i, h2, rfl, rfl⟩, fun e => by have := (h.part_iff ha h2).2 e; omega⟩
    · rintro ⟨h1, h2⟩
      obtain ⟨i, hi, e1, e2⟩ := (mem_entries t x.1 x.2).1 h1
      have hn : ¬ (a ≤ i ∧ i < endL t a) := fun e => h2 (by rw [← e1]; exact (h.part_iff ha hi).1 e)
      have ex : x = (pathL t i, (at_ t i).mark) := by rw [e1, e2]
      rcases Nat.lt_or_ge i a with h3 | h3
      · exact .inl ⟨i, h3, hi, ex⟩
      · exact .inr ⟨i, by omega, hi, ex⟩
  have hg := h.good
  have hG : GoodP N ((entries t).take a ++ (entries t).drop (endL t a)) := by
    have hs := (sorted_iff _).1 hg.sorted
    refine ⟨?_, ?_, fun x hx => hg.ne x ((hmem x).1 hx).1, fun x hx => hg.deep x ((hmem x).1 hx).1, fun x hx => hg.long x ((hmem x).1 hx).1, fun x hx => hg.mark x ((hmem x).1 hx).1, fun x hx q w e hq => ?_⟩
    · have := hg.len
      rw [entries_len] at this
      rw [List.length_append, List.length_take, List.length_drop, entries_len]
      omega
    · rw [sorted_iff, List.pairwise_append]
      refine ⟨hs.sublist (List.take_sublist _ _), hs.sublist (List.drop_sublist _ _), fun x hx y hy => ?_⟩
      obtain ⟨i, h1, h2, rfl⟩ := mem_takeE.1 hx
      obtain ⟨j, h3, h4, rfl⟩ := mem_dropE.1 hy
      exact h.path_less j (by omega) h4
    · obtain ⟨h1, h2⟩ := (hmem x).1 hx
      obtain ⟨m, hm⟩ := hg.closed x h1 q w e hq
      refine ⟨m, (hmem _).2 ⟨hm, fun hp => h2 ?_⟩⟩
      obtain ⟨s, hs⟩ := pre_iff.1 hp
      rw [e]
      exact pre_iff.2 ⟨s ++ [w], by rw [← List.append_assoc, ← hs]⟩
  have e : ofP ((entries t).take a ++ (entries t).drop (endL t a)) = cutL t a := by
    have e1 := h.ofP_entries
    unfold ofP at e1 ⊢
    rw [List.map_append, List.map_take, List.map_drop, e1]; rfl
  rw [← e]
  exact ⟨hG.right, fun x => by rw [hG.entries]; exact hmem x⟩

end Go.Proofs.YtfcikfohmehmkaaGreatDoor.T

namespace Go.Proofs.YtfcikfohmehmkaaGreatDoor.T

theorem pre_trans {p q r : Pth} (h1 : pre p q) (h2 : pre q r) : pre p r := by
  obtain ⟨s, rfl⟩ := pre_iff.1 h1
  obtain ⟨x, rfl⟩ := pre_iff.1 h2
  exact pre_iff.2 ⟨s ++ x, by rw [List.append_assoc]⟩
theorem pre_len {p q : Pth} (h : pre p q) : p.length ≤ q.length := by
  obtain ⟨s, rfl⟩ := pre_iff.1 h
  rw [List.length_append]; omega
end Go.Proofs.YtfcikfohmehmkaaGreatDoor.T

namespace Go.Proofs.YtfcikfohmehmkaaGreatDoor.T
end Go.Proofs.YtfcikfohmehmkaaGreatDoor.T

namespace Go.Proofs.YtfcikfohmehmkaaGreatDoor.T

end Go.Proofs.YtfcikfohmehmkaaGreatDoor.T

namespace Go.Proofs.YtfcikfohmehmkaaGreatDoor.T

/-- A change. -/
structure Chg where
  kind : Int
  path : Pth
  mark : Int
/-- Is there a line of that path? -/
def isIn (t : List Ln) (p : Pth) : Prop := ∃ i, i < t.length ∧ pathL t i = p
def inB (t : List Ln) (p : Pth) : Bool := decide (0 ≤ findI t p)
theorem isIn_entries {t : List Ln} {p : Pth} : isIn t p ↔ ∃ m, (p, m) ∈ entries t := by
  constructor
  · rintro ⟨i, hi, e⟩; exact ⟨_, (mem_entries t p _).2 ⟨i, hi, e, rfl⟩⟩
  · rintro ⟨m, hm⟩; obtain ⟨i, hi, e, _⟩ := (mem_entries t p m).1 hm; exact ⟨i, hi, e⟩
theorem isIn_of {t : List Ln} {x : Pth × Int} (h : x ∈ entries t) : isIn t x.1 := isIn_entries.2 ⟨x.2, h⟩
theorem RightN.in_pre {N : Nat} {t : List Ln} (h : RightN N t) {p q : Pth} (hp : p ≠ []) (hq : isIn t q) (hpq : pre p q) : isIn t p := by
  obtain ⟨i, hi, e⟩ := hq
  obtain ⟨k, hk, ek⟩ := h.path_take i i p.length (Nat.le_refl _) hi (List.length_pos_iff.2 hp) (by rw [e]; exact pre_len hpq)
  exact ⟨k, hk, by rw [ek, e]; exact hpq⟩
theorem RightN.in_ne {t : List Ln} {p : Pth} (h : isIn t p) : p ≠ [] := by
  obtain ⟨i, _, e⟩ := h
  rw [← e]; exact path_ne

/-- A change that can be made. -/
def OneOk (t : List Ln) (c : Chg) (u : List Ln) : Prop :=
  (0 ≤ c.mark ∧ c.mark ≤ 3) ∧ ((c.kind = 1 ∧ ∃ i, i < t.length ∧ pathL t i = c.path ∧ u = cutL t i) ∨
  (c.kind = 2 ∧ t.length < 200 ∧ ∃ up w, c.path = up ++ [w] ∧ Open t up ∧ (∀ i, i < t.length → pathL t i ≠ up ++ [w]) ∧ (∀ x ∈ up ++ [w], x.length ≤ 40) ∧ (up ++ [w]).length ≤ 16 ∧ u = putL t up w c.mark) ∨
  (c.kind = 3 ∧ ∃ i, i < t.length ∧ pathL t i = c.path ∧ u = S.setM t i c.mark))
/-- Changes that can be made, one behind the other. -/
def RunOk : List Ln → List Chg → List Ln → Prop
  | t, [], u => t = u
  | t, c :: l, u => ∃ v, OneOk t c v ∧ RunOk v l u
theorem run_app {t u v : List Ln} {l m : List Chg} (h1 : RunOk t l u) (h2 : RunOk u m v) : RunOk t (l ++ m) v := by
  induction l generalizing t with
  | nil => cases h1; exact h2
  | cons c l ih =>
    obtain ⟨x, hx, hr⟩ := h1
    exact ⟨x, hx, ih hr⟩
theorem run_snoc {t u v : List Ln} {l : List Chg} {c : Chg} (h1 : RunOk t l u) (h2 : OneOk u c v) : RunOk t (l ++ [c]) v := run_app h1 ⟨v, h2, rfl⟩
end Go.Proofs.YtfcikfohmehmkaaGreatDoor.T

namespace Go.Proofs.YtfcikfohmehmkaaGreatDoor.T

/-- The digits of a number. -/
def decL (n : Nat) : List UInt8 := if n < 10 then [UInt8.ofNat (48 + n)] else decL (n / 10) ++ [UInt8.ofNat (48 + n % 10)]
termination_by n
decreasing_by omega
theorem decL_small {n : Nat} (h : n < 10) : decL n = [UInt8.ofNat (48 + n)] := by rw [decL, if_pos h]
theorem decL_big {n : Nat} (h : 10 ≤ n) : decL n = decL (n / 10) ++ [UInt8.ofNat (48 + n % 10)] := by rw [decL, if_neg (by omega)]
theorem decL_len : ∀ (k n : Nat), n < 10 ^ (k + 1) → (decL n).length ≤ k + 1
  | 0, n, h => by rw [decL_small (by simpa using h)]; simp
  | k + 1, n, h => by
    rcases Nat.lt_or_ge n 10 with h1 | h1
    · rw [decL_small h1]; simp
    · rw [decL_big h1, List.length_append, List.length_singleton]
      have := decL_len k (n / 10) (by rw [Nat.pow_succ] at h; omega)
      omega
end Go.Proofs.YtfcikfohmehmkaaGreatDoor.T

namespace Go.Proofs.YtfcikfohmehmkaaGreatDoor
namespace T
open Go

end T
end Go.Proofs.YtfcikfohmehmkaaGreatDoor

namespace Go.Proofs.YtfcikfohmehmkaaGreatDoor
namespace N
open T (decL decL_small decL_big decL_len)

/-- A digit of base 10? -/
def digB (c : UInt8) : Bool := decide (48 ≤ c.toNat) && decide (c.toNat ≤ 57)
def valL (s : List UInt8) : Nat := s.foldl (fun n c => 10 * n + (c.toNat - 48)) 0
/-- The number of which a text is the text; -1: there is none. -/
def numL (s : List UInt8) : Int := if s = [] ∨ 10 < s.length ∨ (s.head? = some 48 ∧ 1 < s.length) ∨ s.all digB = false then -1 else (valL s : Nat)
theorem val_snoc (s : List UInt8) (c : UInt8) : valL (s ++ [c]) = 10 * valL s + (c.toNat - 48) := by unfold valL; rw [List.foldl_append]; rfl
theorem dec_ne (n : Nat) : decL n ≠ [] := by
  by_cases h : n < 10
  · rw [decL_small h]; simp
  · rw [decL_big (by omega)]; simp
theorem dig_of (d : Nat) (h : d < 10) : (UInt8.ofNat (48 + d)).toNat = 48 + d := by rw [UInt8.toNat_ofNat']; omega
theorem digB_of (d : Nat) (h : d < 10) : digB (UInt8.ofNat (48 + d)) = true := by
  unfold digB
  rw [dig_of d h, decide_eq_true (by omega), decide_eq_true (by omega)]; rfl
theorem val_dec (n : Nat) : valL (decL n) = n := by
  induction n using Nat.strongRecOn with
  | _ n ih =>
    by_cases h : n < 10
    · rw [decL_small h]
      show 10 * 0 + ((UInt8.ofNat (48 + n)).toNat - 48) = n
      rw [dig_of n h]; omega
    · rw [decL_big (by omega), val_snoc, ih (n / 10) (by omega), dig_of _ (by omega)]; omega
theorem dec_dig (n : Nat) : ∀ c ∈ decL n, digB c = true := by
  induction n using Nat.strongRecOn with
  | _ n ih =>
    by_cases h : n < 10
    · rw [decL_small h]
      intro c hc
      rw [List.mem_singleton.1 hc]; exact digB_of n h
    · rw [decL_big (by omega)]
      intro c hc
      rcases List.mem_append.1 hc with hc | hc
      · exact ih (n / 10) (by omega) c hc
      · rw [List.mem_singleton.1 hc]; exact digB_of _ (by omega)
theorem head_app {α : Type} {a b : List α} (h : a ≠ []) : (a ++ b).head? = a.head? := by
  cases a with
  | nil => exact absurd rfl h
  | cons x r => rfl
theorem dec_head (n : Nat) (h0 : 1 ≤ n) : (decL n).head? ≠ some 48 := by
  induction n using Nat.strongRecOn with
  | _ n ih =>
    by_cases h : n < 10
    · rw [decL_small h]
      intro e
      have e2 : (UInt8.ofNat (48 + n)).toNat = 48 := by injection e with e; rw [e]; rfl
      rw [dig_of n h] at e2; omega
    · rw [decL_big (by omega), head_app (dec_ne _)]
      exact ih (n / 10) (by omega) (by omega)
theorem dec_one (n : Nat) (h : (decL n).head? = some 48) : (decL n).length = 1 := by
  by_cases h0 : 1 ≤ n
  · exact absurd h (dec_head n h0)
  · obtain rfl : n = 0 := by omega
    rw [decL_small (by omega)]; rfl
theorem snoc_cases (s : List UInt8) (h : s ≠ []) : ∃ r c, s = r ++ [c] := ⟨s.dropLast, s.getLast h, (List.dropLast_concat_getLast h).symm⟩
theorem val_pos (s : List UInt8) (hd : s.all digB = true) (h : s ≠ []) (h0 : s.head? ≠ some 48) : 1 ≤ valL s := by
  obtain ⟨n, hn⟩ : ∃ n, s.length = n := ⟨_, rfl⟩
  induction n generalizing s with
  | zero => exact absurd (List.eq_nil_of_length_eq_zero hn) h
  | succ n ih =>
    obtain ⟨r, c, rfl⟩ := snoc_cases s h
    rw [val_snoc]
    by_cases hr : r = []
    · subst hr
      have hc : digB c = true := List.all_eq_true.1 hd c (by simp)
      unfold digB at hc
      rw [Bool.and_eq_true, decide_eq_true_eq, decide_eq_true_eq] at hc
      have : c.toNat ≠ 48 := fun e => h0 (by show some c = some 48; rw [show c = 48 from UInt8.toNat_inj.1 e])
      omega
    · rw [List.length_append, List.length_singleton] at hn
      have := ih r (List.all_eq_true.2 fun x hx => List.all_eq_true.1 hd x (List.mem_append_left _ hx)) hr (by rw [head_app hr] at h0; exact h0) (by omega)
      omega
theorem dec_val (s : List UInt8) (hd : s.all digB = true) (h : s ≠ []) (h0 : s.length = 1 ∨ s.head? ≠ some 48) : decL (valL s) = s := by
  obtain ⟨n, hn⟩ : ∃ n, s.length = n := ⟨_, rfl⟩
  induction n generalizing s with
  | zero => exact absurd (List.eq_nil_of_length_eq_zero hn) h
  | succ n ih =>
    obtain ⟨r, c, rfl⟩ := snoc_cases s h
    have hc : digB c = true := List.all_eq_true.1 hd c (by simp)
    have hc2 := hc
    unfold digB at hc2
    rw [Bool.and_eq_true, decide_eq_true_eq, decide_eq_true_eq] at hc2
    have hcc : UInt8.ofNat (48 + (c.toNat - 48)) = c := by rw [show 48 + (c.toNat - 48) = c.toNat by omega, UInt8.ofNat_toNat]
    rw [val_snoc]
    by_cases hr : r = []
    · subst hr
      show decL (10 * 0 + (c.toNat - 48)) = [c]
      rw [decL_small (by omega), show 10 * 0 + (c.toNat - 48) = c.toNat - 48 by omega, hcc]
    · rw [List.length_append, List.length_singleton] at hn h0
      have hrl : 1 ≤ r.length := List.length_pos_iff.2 hr
      have hdr : r.all digB = true := List.all_eq_true.2 fun x hx => List.all_eq_true.1 hd x (List.mem_append_left _ hx)
      have hh : r.head? ≠ some 48 := by
        rcases h0 with h0 | h0
        · omega
        · rwa [head_app hr] at h0
      have h1 := val_pos r hdr hr hh
      rw [decL_big (by omega), show (10 * valL r + (c.toNat - 48)) / 10 = valL r by omega, show (10 * valL r + (c.toNat - 48)) % 10 = c.toNat - 48 by omega, hcc, ih r hdr hr (.inr hh) (by omega)]
theorem val_lt (s : List UInt8) (hd : s.all digB = true) : ∀ k, s.length ≤ k → valL s < 10 ^ k := by
  intro k
  induction k generalizing s with
  | zero =>
    intro h
    have e : s = [] := List.eq_nil_of_length_eq_zero (by omega)
    subst e
    show 0 < 1
    omega
  | succ k ih =>
    intro h
    by_cases hs : s = []
    · subst hs; exact Nat.pow_pos (by omega)
    · obtain ⟨r, c, rfl⟩ := snoc_cases s hs
      have hc : digB c = true := List.all_eq_true.1 hd c (by simp)
      unfold digB at hc
      rw [Bool.and_eq_true, decide_eq_true_eq, decide_eq_true_eq] at hc
      rw [List.length_append, List.length_singleton] at h
      have := ih r (List.all_eq_true.2 fun x hx => List.all_eq_true.1 hd x (List.mem_append_left _ hx)) (by omega)
      rw [val_snoc, Nat.pow_succ]
      omega
theorem num_cases (s : List UInt8) : numL s = -1 ∨ (∃ n : Nat, numL s = n ∧ n < 10000000000 ∧ decL n = s) := by
  by_cases h : s = [] ∨ 10 < s.length ∨ (s.head? = some 48 ∧ 1 < s.length) ∨ s.all digB = false
  · left; unfold numL; rw [if_pos h]
  · right
    refine ⟨valL s, by unfold numL; rw [if_neg h], ?_, ?_⟩
    · have hd : s.all digB = true := by
        cases e : s.all digB with
        | true => rfl
        | false => exact absurd (.inr (.inr (.inr e))) h
      have := val_lt s hd 10 (by
        rcases Nat.lt_or_ge 10 s.length with h1 | h1
        · exact absurd (.inr (.inl h1)) h
        · exact h1)
      omega
    · have hne : s ≠ [] := fun e => h (.inl e)
      have hl := List.length_pos_iff.2 hne
      refine dec_val s ?_ hne ?_
      · cases e : s.all digB with
        | true => rfl
        | false => exact absurd (.inr (.inr (.inr e))) h
      · by_cases h1 : s.length = 1
        · exact .inl h1
        · exact .inr fun e => h (.inr (.inr (.inl ⟨e, by omega⟩)))
-- PARTS
/-- The parts of a text, at each of a byte. -/
def splitL (c : UInt8) : List UInt8 → List (List UInt8)
  | [] => [[]]
  | x :: r => if x = c then [] :: splitL c r else match splitL c r with
    | [] => [[x]]
    | y :: ys => (x :: y) :: ys
theorem split_cons (c x : UInt8) (r : List UInt8) : splitL c (x :: r) = if x = c then [] :: splitL c r else match splitL c r with | [] => [[x]] | y :: ys => (x :: y) :: ys := rfl
theorem split_ne (c : UInt8) (s : List UInt8) : splitL c s ≠ [] := by
  cases s with
  | nil => simp [splitL]
  | cons x r =>
    rw [split_cons]
    by_cases h : x = c
    · rw [if_pos h]; simp
    · rw [if_neg h]
      cases e : splitL c r <;> simp
theorem split_at {c : UInt8} {a : List UInt8} (h : c ∉ a) (b : List UInt8) : splitL c (a ++ c :: b) = a :: splitL c b := by
  induction a with
  | nil => show splitL c (c :: b) = _; rw [split_cons, if_pos rfl]
  | cons x r ih =>
    have hx : x ≠ c := fun e => h (by rw [e]; exact List.mem_cons_self ..)
    have := ih fun hm => h (List.mem_cons_of_mem _ hm)
    show splitL c (x :: (r ++ c :: b)) = _
    rw [split_cons, if_neg hx, this]
theorem split_one {c : UInt8} {a : List UInt8} (h : c ∉ a) : splitL c a = [a] := by
  induction a with
  | nil => rfl
  | cons x r ih =>
    have hx : x ≠ c := fun e => h (by rw [e]; exact List.mem_cons_self ..)
    rw [split_cons, if_neg hx, ih fun hm => h (List.mem_cons_of_mem _ hm)]
/-- Parts, joined with a byte between two. -/
def joinL (c : UInt8) : List (List UInt8) → List UInt8
  | [] => []
  | [a] => a
  | a :: b :: r => a ++ c :: joinL c (b :: r)
theorem join_split (c : UInt8) (s : List UInt8) : joinL c (splitL c s) = s := by
  induction s with
  | nil => rfl
  | cons x r ih =>
    rw [split_cons]
    by_cases h : x = c
    · rw [if_pos h]
      cases e : splitL c r with
      | nil => exact absurd e (split_ne c r)
      | cons y ys =>
        rw [e] at ih
        show [] ++ c :: joinL c (y :: ys) = _
        rw [ih, h]; rfl
    · rw [if_neg h]
      cases e : splitL c r with
      | nil => exact absurd e (split_ne c r)
      | cons y ys =>
        rw [e] at ih
        cases ys with
        | nil => show x :: y = _; rw [← ih]; rfl
        | cons z zs => show x :: y ++ c :: joinL c (z :: zs) = _; rw [← ih]; rfl
-- ADDRESSES
def octL (s : List UInt8) : Int := if numL s < 0 ∨ 255 < numL s then -1 else numL s
/-- The address of a text; -1: there is none. -/
def ipL (s : List UInt8) : Int := match splitL 46 s with
  | [a, b, c, d] => if octL a < 0 ∨ octL b < 0 ∨ octL c < 0 ∨ octL d < 0 then -1 else 16777216 * octL a + 65536 * octL b + 256 * octL c + octL d
  | _ => -1
/-- The text of an address. -/
def ipT (n : Nat) : List UInt8 := decL (n / 16777216) ++ 46 :: (decL (n / 65536 % 256) ++ 46 :: (decL (n / 256 % 256) ++ 46 :: decL (n % 256)))
theorem oct_cases (s : List UInt8) : octL s = -1 ∨ (∃ n : Nat, octL s = n ∧ n < 256 ∧ decL n = s) := by
  unfold octL
  rcases num_cases s with h | ⟨n, h, h2, h3⟩
  · left; rw [h]; rfl
  · by_cases h4 : n < 256
    · exact .inr ⟨n, by rw [h, if_neg (by omega)], h4, h3⟩
    · left; rw [h, if_pos (by omega)]
theorem ip_cases (s : List UInt8) : ipL s = -1 ∨ (∃ n : Nat, ipL s = n ∧ n < 4294967296 ∧ ipT n = s) := by
  unfold ipL
  split
  · rename_i a b c d e
    rcases oct_cases a with ha | ⟨na, ha, ha2, ha3⟩
    · left; rw [if_pos (.inl (by omega))]
    · rcases oct_cases b with hb | ⟨nb, hb, hb2, hb3⟩
      · left; rw [if_pos (.inr (.inl (by omega)))]
      · rcases oct_cases c with hc | ⟨nc, hc, hc2, hc3⟩
        · left; rw [if_pos (.inr (.inr (.inl (by omega))))]
        · rcases oct_cases d with hd | ⟨nd, hd, hd2, hd3⟩
          · left; rw [if_pos (.inr (.inr (.inr (by omega))))]
          · right
            refine ⟨16777216 * na + 65536 * nb + 256 * nc + nd, by rw [if_neg (by omega), ha, hb, hc, hd]; omega, by omega, ?_⟩
            have hj := join_split 46 s
            rw [e] at hj
            unfold ipT
            rw [show (16777216 * na + 65536 * nb + 256 * nc + nd) / 16777216 = na by omega, show (16777216 * na + 65536 * nb + 256 * nc + nd) / 65536 % 256 = nb by omega, show (16777216 * na + 65536 * nb + 256 * nc + nd) / 256 % 256 = nc by omega, show (16777216 * na + 65536 * nb + 256 * nc + nd) % 256 = nd by omega, ha3, hb3, hc3, hd3]
            exact hj
  · exact .inl rfl
-- PREFIXES
/-- Is it a prefix? -/
def rightB (n bits : Int) : Bool := decide (0 ≤ n) && decide (n < 4294967296) && decide (0 ≤ bits) && decide (bits ≤ 32) && decide (n % (2 ^ (32 - bits).toNat : Nat) = 0)
/-- The prefix of a text; (-1, 0): there is none. -/
def prefL (s : List UInt8) : Int × Int := match splitL 47 s with
  | [a, b] => if rightB (ipL a) (numL b) = true then (ipL a, numL b) else (-1, 0)
  | _ => (-1, 0)
def prefT (n b : Nat) : List UInt8 := ipT n ++ 47 :: decL b
theorem pref_cases (s : List UInt8) : prefL s = (-1, 0) ∨ (∃ n b : Nat, prefL s = ((n : Int), (b : Int)) ∧ rightB n b = true ∧ n < 4294967296 ∧ b ≤ 32 ∧ prefT n b = s) := by
  unfold prefL
  split
  · rename_i a c e
    by_cases h : rightB (ipL a) (numL c) = true
    · rw [if_pos h]
      have h2 := h
      unfold rightB at h2
      simp only [Bool.and_eq_true, decide_eq_true_eq] at h2
      obtain ⟨⟨⟨⟨h0, hn⟩, h1⟩, hb⟩, _⟩ := h2
      rcases ip_cases a with ha | ⟨n, ha, ha2, ha3⟩
      · omega
      · rcases num_cases c with hc | ⟨b, hc, hc2, hc3⟩
        · omega
        · right
          refine ⟨n, b, by rw [ha, hc], by rw [ha, hc] at h; exact h, ha2, by omega, ?_⟩
          have hj := join_split 47 s
          rw [e] at hj
          unfold prefT
          rw [ha3, hc3]
          exact hj
    · rw [if_neg h]; exact .inl rfl
  · exact .inl rfl
-- HARDWARE ADDRESSES
/-- A digit's value of base 16; -1: it is none. -/
def hexV (c : UInt8) : Int := if 48 ≤ c.toNat ∧ c.toNat ≤ 57 then (c.toNat : Int) - 48 else if 97 ≤ c.toNat ∧ c.toNat ≤ 102 then (c.toNat : Int) - 87 else -1
def hexC (n : Nat) : UInt8 := if n < 10 then UInt8.ofNat (48 + n) else UInt8.ofNat (87 + n)
def pairV : List UInt8 → Int
  | [a, b] => if hexV a < 0 ∨ hexV b < 0 then -1 else 16 * hexV a + hexV b
  | _ => -1
def pairT (n : Nat) : List UInt8 := [hexC (n / 16), hexC (n % 16)]
theorem hexC_nat (n : Nat) (h : n < 16) : (hexC n).toNat = if n < 10 then 48 + n else 87 + n := by
  unfold hexC
  by_cases h1 : n < 10
  · rw [if_pos h1, if_pos h1, UInt8.toNat_ofNat']; omega
  · rw [if_neg h1, if_neg h1, UInt8.toNat_ofNat']; omega
theorem hexV_C (n : Nat) (h : n < 16) : hexV (hexC n) = n := by
  unfold hexV
  rw [hexC_nat n h]
  by_cases h1 : n < 10
  · rw [if_pos h1, if_pos (by omega)]; omega
  · rw [if_neg h1, if_neg (by omega), if_pos (by omega)]; omega
theorem hex_cases (c : UInt8) : hexV c = -1 ∨ (∃ n : Nat, hexV c = n ∧ n < 16 ∧ hexC n = c) := by
  unfold hexV
  by_cases h : 48 ≤ c.toNat ∧ c.toNat ≤ 57
  · rw [if_pos h]
    refine .inr ⟨c.toNat - 48, by omega, by omega, ?_⟩
    unfold hexC
    rw [if_pos (by omega), show 48 + (c.toNat - 48) = c.toNat by omega, UInt8.ofNat_toNat]
  · rw [if_neg h]
    by_cases h2 : 97 ≤ c.toNat ∧ c.toNat ≤ 102
    · rw [if_pos h2]
      refine .inr ⟨c.toNat - 87, by omega, by omega, ?_⟩
      unfold hexC
      rw [if_neg (by omega), show 87 + (c.toNat - 87) = c.toNat by omega, UInt8.ofNat_toNat]
    · rw [if_neg h2]; exact .inl rfl
theorem pair_text (n : Nat) (h : n < 256) : pairV (pairT n) = n := by
  show (if hexV (hexC (n / 16)) < 0 ∨ hexV (hexC (n % 16)) < 0 then (-1 : Int) else 16 * hexV (hexC (n / 16)) + hexV (hexC (n % 16))) = _
  rw [hexV_C _ (by omega), hexV_C _ (by omega), if_neg (by omega)]; omega
theorem pair_cases (s : List UInt8) : pairV s = -1 ∨ (∃ n : Nat, pairV s = n ∧ n < 256 ∧ pairT n = s) := by
  unfold pairV
  split
  · rename_i a b
    rcases hex_cases a with ha | ⟨x, ha, ha2, ha3⟩
    · left; rw [if_pos (.inl (by omega))]
    · rcases hex_cases b with hb | ⟨y, hb, hb2, hb3⟩
      · left; rw [if_pos (.inr (by omega))]
      · refine .inr ⟨16 * x + y, by rw [if_neg (by omega), ha, hb]; omega, by omega, ?_⟩
        unfold pairT
        rw [show (16 * x + y) / 16 = x by omega, show (16 * x + y) % 16 = y by omega, ha3, hb3]
  · exact .inl rfl
theorem pair_no (n : Nat) (h : n < 256) : (58 : UInt8) ∉ pairT n := by
  unfold pairT
  intro hm
  have key : ∀ d, d < 16 → (58 : UInt8) ≠ hexC d := by
    intro d hd e
    have := hexC_nat d hd
    rw [← e] at this
    have e2 : (58 : UInt8).toNat = 58 := rfl
    rw [e2] at this
    split at this <;> omega
  rcases List.mem_cons.1 hm with hm | hm
  · exact key _ (by omega) hm
  · exact key _ (by omega) (List.mem_singleton.1 hm)
/-- The hardware address of a text; -1: there is none. -/
def macL (s : List UInt8) : Int := match splitL 58 s with
  | [a, b, c, d, e, f] => if pairV a < 0 ∨ pairV b < 0 ∨ pairV c < 0 ∨ pairV d < 0 ∨ pairV e < 0 ∨ pairV f < 0 then -1 else 1099511627776 * pairV a + 4294967296 * pairV b + 16777216 * pairV c + 65536 * pairV d + 256 * pairV e + pairV f
  | _ => -1
def macT (n : Nat) : List UInt8 := pairT (n / 1099511627776 % 256) ++ 58 :: (pairT (n / 4294967296 % 256) ++ 58 :: (pairT (n / 16777216 % 256) ++ 58 :: (pairT (n / 65536 % 256) ++ 58 :: (pairT (n / 256 % 256) ++ 58 :: pairT (n % 256)))))
theorem mac_cases (s : List UInt8) : macL s = -1 ∨ (∃ n : Nat, macL s = n ∧ n < 281474976710656 ∧ macT n = s) := by
  unfold macL
  split
  · rename_i a b c d e f he
    rcases pair_cases a with ha | ⟨na, ha, ha2, ha3⟩
    · left; rw [if_pos (by omega)]
    rcases pair_cases b with hb | ⟨nb, hb, hb2, hb3⟩
    · left; rw [if_pos (by omega)]
    rcases pair_cases c with hc | ⟨nc, hc, hc2, hc3⟩
    · left; rw [if_pos (by omega)]
    rcases pair_cases d with hd | ⟨nd, hd, hd2, hd3⟩
    · left; rw [if_pos (by omega)]
    rcases pair_cases e with hx | ⟨ne, hx, hx2, hx3⟩
    · left; rw [if_pos (by omega)]
    rcases pair_cases f with hf | ⟨nf, hf, hf2, hf3⟩
    · left; rw [if_pos (by omega)]
    right
    refine ⟨1099511627776 * na + 4294967296 * nb + 16777216 * nc + 65536 * nd + 256 * ne + nf, by rw [if_neg (by omega), ha, hb, hc, hd, hx, hf]; omega, by omega, ?_⟩
    have hj := join_split 58 s
    rw [he] at hj
    unfold macT
    rw [show (1099511627776 * na + 4294967296 * nb + 16777216 * nc + 65536 * nd + 256 * ne + nf) / 1099511627776 % 256 = na by omega, show (1099511627776 * na + 4294967296 * nb + 16777216 * nc + 65536 * nd + 256 * ne + nf) / 4294967296 % 256 = nb by omega, show (1099511627776 * na + 4294967296 * nb + 16777216 * nc + 65536 * nd + 256 * ne + nf) / 16777216 % 256 = nc by omega, show (1099511627776 * na + 4294967296 * nb + 16777216 * nc + 65536 * nd + 256 * ne + nf) / 65536 % 256 = nd by omega, show (1099511627776 * na + 4294967296 * nb + 16777216 * nc + 65536 * nd + 256 * ne + nf) / 256 % 256 = ne by omega, show (1099511627776 * na + 4294967296 * nb + 16777216 * nc + 65536 * nd + 256 * ne + nf) % 256 = nf by omega, ha3, hb3, hc3, hd3, hx3, hf3]
    exact hj
  · exact .inl rfl
-- WHAT IS IN A PREFIX
def inB (n bits ip : Int) : Bool := rightB n bits && decide (0 ≤ ip) && decide (ip < 4294967296) && decide (ip / (2 ^ (32 - bits).toNat : Nat) = n / (2 ^ (32 - bits).toNat : Nat))
theorem pow_pos2 (k : Nat) : 0 < 2 ^ k := Nat.pow_pos (by omega)
-- ALONG THE PARTS
def accL (f : List UInt8 → Int) (l : List (List UInt8)) : Int := l.foldl (fun n x => 256 * n + f x) 0
theorem acc_snoc (f : List UInt8 → Int) (l : List (List UInt8)) (x : List UInt8) : accL f (l ++ [x]) = 256 * accL f l + f x := by unfold accL; rw [List.foldl_append]; rfl
theorem ip_len {s : List UInt8} {L : List (List UInt8)} (h : splitL 46 s = L) (hl : L.length ≠ 4) : ipL s = -1 := by
  unfold ipL
  rw [h]
  split
  · rename_i a b c d; exact absurd rfl hl
  · rfl
theorem ip_bad {s : List UInt8} {L : List (List UInt8)} (h : splitL 46 s = L) {x : List UInt8} (hx : x ∈ L) (hb : octL x < 0) : ipL s = -1 := by
  unfold ipL
  rw [h]
  split
  · rename_i a b c d
    rw [if_pos]
    simp only [List.mem_cons, List.not_mem_nil, or_false] at hx
    rcases hx with rfl | rfl | rfl | rfl
    · exact .inl hb
    · exact .inr (.inl hb)
    · exact .inr (.inr (.inl hb))
    · exact .inr (.inr (.inr hb))
  · rfl
theorem ip_good {s : List UInt8} {L : List (List UInt8)} (h : splitL 46 s = L) (hl : L.length = 4) (hg : ∀ x ∈ L, 0 ≤ octL x) : ipL s = accL octL L := by
  unfold ipL
  rw [h]
  match L, hl with
  | [a, b, c, d], _ =>
    have ha := hg a (by simp)
    have hb := hg b (by simp)
    have hc := hg c (by simp)
    have hd := hg d (by simp)
    show (if octL a < 0 ∨ octL b < 0 ∨ octL c < 0 ∨ octL d < 0 then (-1 : Int) else _) = _
    rw [if_neg (by omega)]
    show _ = 256 * (256 * (256 * (256 * 0 + octL a) + octL b) + octL c) + octL d
    omega
theorem oct_range (x : List UInt8) : -1 ≤ octL x ∧ octL x ≤ 255 := by
  rcases oct_cases x with h | ⟨n, h, h2, _⟩ <;> omega
theorem acc_range (f : List UInt8 → Int) (hf : ∀ x, f x ≤ 255) : ∀ (k : Nat) (l : List (List UInt8)), l.length ≤ k → (∀ x ∈ l, 0 ≤ f x) → 0 ≤ accL f l ∧ accL f l < ((256 ^ k : Nat) : Int) := by
  intro k
  induction k with
  | zero =>
    intro l hl _
    have e : l = [] := List.eq_nil_of_length_eq_zero (by omega)
    subst e
    exact ⟨Int.le_refl _, by show (0 : Int) < 1; omega⟩
  | succ k ih =>
    intro l hl hg
    by_cases h : l = []
    · subst h
      have : 0 < 256 ^ (k + 1) := Nat.pow_pos (by omega)
      exact ⟨Int.le_refl _, by show (0 : Int) < _; omega⟩
    · obtain ⟨r, c, rfl⟩ : ∃ r c, l = r ++ [c] := ⟨l.dropLast, l.getLast h, (List.dropLast_concat_getLast h).symm⟩
      rw [List.length_append, List.length_singleton] at hl
      obtain ⟨h1, h2⟩ := ih r (by omega) fun x hx => hg x (List.mem_append_left _ hx)
      have h3 := hg c (by simp)
      have h4 := hf c
      rw [acc_snoc, Nat.pow_succ]
      exact ⟨by omega, by omega⟩
-- CUTTING AT A BYTE, STEP BY STEP
end N
end Go.Proofs.YtfcikfohmehmkaaGreatDoor

namespace Go.Proofs.YtfcikfohmehmkaaGreatDoor
namespace F
open T (decL decL_small decL_big decL_len)
open N (digB valL val_snoc dig_of digB_of val_dec dec_dig dec_ne dec_head dec_one dec_val val_lt)
set_option linter.unusedVariables false

/-- Digits ahead of the point: 1 to 6, the first one not 0, but for 0 itself. -/
def intOk (a : List UInt8) : Bool := !a.isEmpty && decide (a.length ≤ 6) && !(decide (a.head? = some 48) && decide (1 < a.length))
/-- Nothing, or a point and 1 to 3 digits, the last one not 0. -/
def fracOk : List UInt8 → Bool
  | [] => true
  | c :: f => decide (c = 46) && !f.isEmpty && decide (f.getLast? ≠ some 48) && decide (f.length ≤ 3) && f.all digB
/-- The thousandths of which a text, without its sign, is the text. -/
def thoL (s : List UInt8) : Option Nat := if (intOk (s.takeWhile digB) && fracOk (s.dropWhile digB)) = true then some (valL (s.takeWhile digB ++ (s.dropWhile digB).tail) * 10 ^ (3 - (s.dropWhile digB).tail.length)) else none
theorem take_digs {a r : List UInt8} (ha : ∀ c ∈ a, digB c = true) (hr : r = [] ∨ ∃ c f, r = c :: f ∧ digB c = false) : (a ++ r).takeWhile digB = a ∧ (a ++ r).dropWhile digB = r := by
  rw [List.takeWhile_append_of_pos ha, List.dropWhile_append_of_pos ha]
  rcases hr with rfl | ⟨c, f, rfl, hc⟩
  · simp
  · rw [List.takeWhile_cons, List.dropWhile_cons, hc]; simp
theorem tho_is {a r : List UInt8} (ha : ∀ c ∈ a, digB c = true) (hr : r = [] ∨ ∃ c f, r = c :: f ∧ digB c = false) : thoL (a ++ r) = if (intOk a && fracOk r) = true then some (valL (a ++ r.tail) * 10 ^ (3 - r.tail.length)) else none := by
  obtain ⟨h1, h2⟩ := take_digs ha hr
  unfold thoL
  rw [h1, h2]
end F
end Go.Proofs.YtfcikfohmehmkaaGreatDoor

namespace Go.Proofs.YtfcikfohmehmkaaGreatDoor.C
set_option linter.unusedVariables false
open T (Pth pless)

abbrev Wd := List UInt8
def wHosts : Wd := [104, 111, 115, 116, 115]
def wVnis : Wd := [118, 110, 105, 115]
def wBindings : Wd := [98, 105, 110, 100, 105, 110, 103, 115]
def wRoutes : Wd := [114, 111, 117, 116, 101, 115]
def wPolicy : Wd := [112, 111, 108, 105, 99, 121]
def wIp : Wd := [105, 112]
def wMac : Wd := [109, 97, 99]
def wSubnet : Wd := [115, 117, 98, 110, 101, 116]
def wHost : Wd := [104, 111, 115, 116]
def wVni : Wd := [118, 110, 105]
def wVia : Wd := [118, 105, 97]
def wMetric : Wd := [109, 101, 116, 114, 105, 99]
def wAction : Wd := [97, 99, 116, 105, 111, 110]
def wFrom : Wd := [102, 114, 111, 109]
def wTo : Wd := [116, 111]
def wPermit : Wd := [112, 101, 114, 109, 105, 116]
def wDeny : Wd := [100, 101, 110, 121]
def kName : Wd := 36 :: [110, 97, 109, 101]
def kIp : Wd := 36 :: wIp
def kPrefix : Wd := 36 :: [112, 114, 101, 102, 105, 120]
def kMac : Wd := 36 :: wMac
def kVni : Wd := 36 :: wVni
def kNum : Wd := 36 :: [110, 117, 109]
def kMetric : Wd := 36 :: wMetric
def kAction : Wd := 36 :: wAction
/-- A byte of a name? -/
def okC (c : UInt8) : Bool := (decide (97 ≤ c.toNat) && decide (c.toNat ≤ 122)) || N.digB c || decide (c.toNat = 45)
def nameB : Wd → Bool
  | [] => false
  | c :: r => decide (97 ≤ c.toNat) && decide (c.toNat ≤ 122) && decide (r.length < 16) && r.all okC
/-- Is a text a metric's? -/
def readB (s : Wd) : Bool := decide (s = [110, 97, 110]) || decide (s = [105, 110, 102]) || decide (s = [45, 105, 110, 102]) || (if s.head? = some 45 then (F.thoL s.tail).isSome else (F.thoL s).isSome)
def typeB (k w : Wd) : Bool :=
  if k = kName then nameB w else if k = kIp then decide (0 ≤ N.ipL w) else if k = kPrefix then decide (0 ≤ (N.prefL w).1) else if k = kMac then decide (0 ≤ N.macL w)
  else if k = kVni then decide (1 ≤ N.numL w) && decide (N.numL w ≤ 16777215) else if k = kNum then decide (1 ≤ N.numL w) && decide (N.numL w ≤ 1000)
  else if k = kMetric then readB w else if k = kAction then decide (w = wPermit) || decide (w = wDeny) else false
def secondW (a : Wd) : Wd := if a = wHosts then kName else if a = wVnis then kVni else if a = wBindings then kIp else if a = wRoutes then kPrefix else if a = wPolicy then kNum else []
/-- Two words with a blank between. -/
def key (a w : Wd) : Wd := a ++ 32 :: w
/-- The type behind a third word, whether it holds one, whether it is needed. -/
def thirdK (k : Wd) : Wd × Bool × Bool :=
  if k = key wHosts wIp then (kIp, true, true) else if k = key wHosts wMac then (kMac, true, false) else if k = key wHosts wVnis then (kVni, false, false) else if k = key wVnis wSubnet then (kPrefix, true, true)
  else if k = key wBindings wHost ∨ k = key wRoutes wVia then (kName, true, true) else if k = key wBindings wMac then (kMac, true, true) else if k = key wBindings wVni then (kVni, true, true)
  else if k = key wRoutes wMetric then (kMetric, true, false) else if k = key wPolicy wAction then (kAction, true, true) else if k = key wPolicy wFrom ∨ k = key wPolicy wTo then (kPrefix, true, false) else ([], false, false)
def needsW (a : Wd) : List Wd := if a = wHosts then [wIp] else if a = wVnis then [wSubnet] else if a = wBindings then [wHost, wMac, wVni] else if a = wRoutes then [wVia] else if a = wPolicy then [wAction] else []
/-- The error's number of a path as such; 0: it is a statement, if it is one without its last word. -/
def knownP : Pth → Int
  | [] => 3
  | [a] => if secondW a = [] then 3 else 0
  | [a, b] => if typeB (secondW a) b = true then 0 else 2
  | [a, _, c] => if (thirdK (key a c)).1 = [] then 3 else 0
  | [a, _, c, d] => if typeB (thirdK (key a c)).1 d = true then 0 else 2
  | _ => 3
/-- Does a path stand just under another one? -/
def isKid (p q : Pth) : Bool := decide (q ≠ [] ∧ q.dropLast = p)
def kidsP (P : List Pth) (p : Pth) : List Pth := P.filter (isKid p)
def hasP (P : List Pth) (p : Pth) (w : Wd) : Bool := decide (p ++ [w] ∈ kidsP P p)
def sameAd (x : Wd) : Pth → Bool
  | [a, b, c, d] => decide (a = wHosts) && nameB b && decide (c = wIp) && decide (d = x)
  | _ => false
def twiceP (P : List Pth) (p : Pth) (w : Wd) : Bool := P.any fun q => pless q p && sameAd w q
def outP (P : List Pth) (ip v : Wd) : Bool := match kidsP P [wVnis, v, wSubnet] with
  | [] => false
  | q :: _ => decide (0 ≤ (N.prefL (q.getLastD [])).1) && !N.inB (N.prefL (q.getLastD [])).1 (N.prefL (q.getLastD [])).2 (N.ipL ip)
def meantP (P : List Pth) : Pth → Bool
  | [a, b, c, d] => if key a c = key wHosts wIp then twiceP P [a, b, c, d] d
    else if key a c = key wBindings wHost ∨ key a c = key wRoutes wVia then !decide ([wHosts, d] ∈ P)
    else if key a c = key wHosts wVnis then !decide ([wVnis, d] ∈ P)
    else if key a c = key wBindings wVni then (!decide ([wVnis, d] ∈ P)) || outP P b d else false
  | _ => false
/-- The faults of one path. -/
def faultsP (P : List Pth) (p : Pth) : List (Pth × Int) :=
  if knownP p ≠ 0 then [(p, knownP p)] else match p with
    | [a, b] => ((needsW a).filter fun w => !hasP P [a, b] w).map fun w => ([a, b] ++ [w], 1)
    | [a, b, c] => if (thirdK (key a c)).2.1 = true then (if (kidsP P [a, b, c]).length = 0 then [([a, b, c], 1)] else if 1 < (kidsP P [a, b, c]).length then [([a, b, c], 4)] else []) else []
    | [a, b, c, d] => if meantP P [a, b, c, d] = true then [([a, b, c, d], 7)] else []
    | _ => []
/-- Is each beginning of a path a statement? -/
def liveP (p : Pth) : Bool := (List.range p.length).all fun k => decide (k = 0) || decide (knownP (p.take k) = 0)
def atP (P : List Pth) (p : Pth) : List (Pth × Int) := if liveP p = true then faultsP P p else []
def checkP (P : List Pth) : List (Pth × Int) := P.flatMap (atP P)
def pths (t : List T.Ln) : List Pth := (List.range t.length).map (T.pathL t)
theorem flat_same {α β : Type} {f g : α → List β} : ∀ {l : List α}, (∀ x ∈ l, f x = g x) → l.flatMap f = l.flatMap g
  | [], _ => rfl
  | x :: l, h => by
    rw [List.flatMap_cons, List.flatMap_cons, h x List.mem_cons_self, flat_same fun y hy => h y (List.mem_cons_of_mem _ hy)]
theorem sameAd_head {x : Wd} {q : Pth} (h : sameAd x q = true) : ∃ r, q = wHosts :: r := by
  unfold sameAd at h
  split at h
  · simp only [Bool.and_eq_true, decide_eq_true_eq] at h
    exact ⟨_, by rw [h.1.1.1]⟩
  · cases h
end Go.Proofs.YtfcikfohmehmkaaGreatDoor.C

namespace Go.Proofs.YtfcikfohmehmkaaGreatDoor.T
set_option linter.unusedVariables false

theorem sorted_pair (l : List (Pth × Int)) : Sorted l ↔ l.Pairwise fun a b => pless a.1 b.1 = true := by
  constructor
  · intro h
    exact List.pairwise_iff_getElem.2 fun i j hi hj hij => h i j hj hij
  · intro h i k hk hik
    exact List.pairwise_iff_getElem.1 h i k (by omega) hk hik
end Go.Proofs.YtfcikfohmehmkaaGreatDoor.T

namespace Go.Proofs.YtfcikfohmehmkaaGreatDoor.T
set_option linter.unusedVariables false

-- THE WORDS UNDER A PATH
/-- The words of all lines under a path (of none: of Depth 0), in order. -/
def underW (x : List Ln) (p : Pth) : List (List UInt8) := ((entries x).filter fun e => decide (e.1.dropLast = p)).map fun e => e.1.getLastD []
theorem entry_ne {x : List Ln} {e : Pth × Int} (h : e ∈ entries x) : e.1 ≠ [] := RightN.in_ne (isIn_of h)
theorem mem_underW {x : List Ln} {p : Pth} {w : List UInt8} : w ∈ underW x p ↔ isIn x (p ++ [w]) := by
  unfold underW
  rw [List.mem_map, isIn_entries]
  constructor
  · rintro ⟨e, he, rfl⟩
    obtain ⟨h1, h2⟩ := List.mem_filter.1 he
    have h2 := of_decide_eq_true h2
    obtain ⟨q, w, hq⟩ := snoc_of (entry_ne h1)
    refine ⟨e.2, ?_⟩
    rw [hq, List.dropLast_concat] at h2
    rw [hq, last_snoc, ← h2, ← hq]
    exact h1
  · rintro ⟨m, hm⟩
    exact ⟨(p ++ [w], m), List.mem_filter.2 ⟨hm, decide_eq_true (List.dropLast_concat ..)⟩, last_snoc _ _⟩
theorem underW_nil {x : List Ln} {p : Pth} : underW x p = [] ↔ ∀ w, ¬ isIn x (p ++ [w]) := by
  constructor
  · intro h w hw
    have := mem_underW.2 hw
    rw [h] at this
    cases this
  · intro h
    cases e : underW x p with
    | nil => rfl
    | cons w r => exact absurd (mem_underW.1 (by rw [e]; exact List.mem_cons_self ..)) (h w)
theorem underW_out {N : Nat} {x : List Ln} (h : RightN N x) {p : Pth} (hp : p ≠ []) (hno : ¬ isIn x p) : underW x p = [] :=
  underW_nil.2 fun w hw => hno (h.in_pre hp hw (pre_app _ _))
theorem pathI_inj {N : Nat} {x : List Ln} (h : RightN N x) {i j : Int} (hi : -1 ≤ i ∧ i < x.length) (hj : -1 ≤ j ∧ j < x.length) (e : pathI x i = pathI x j) : i = j := by
  by_cases h1 : i < 0
  · by_cases h2 : j < 0
    · omega
    · have e1 : i = -1 := by omega
      obtain ⟨b, rfl⟩ := Int.eq_ofNat_of_zero_le (show 0 ≤ j by omega)
      rw [e1, pathI_none, pathI_nat] at e
      exact absurd e.symm path_ne
  · obtain ⟨a, rfl⟩ := Int.eq_ofNat_of_zero_le (show 0 ≤ i by omega)
    by_cases h2 : j < 0
    · have e1 : j = -1 := by omega
      rw [e1, pathI_none, pathI_nat] at e
      exact absurd e path_ne
    · obtain ⟨b, rfl⟩ := Int.eq_ofNat_of_zero_le (show 0 ≤ j by omega)
      rw [pathI_nat, pathI_nat] at e
      have := h.path_inj (a + b) a b (by omega) (by omega) (by omega) (by omega) e
      omega
theorem kids_words {N : Nat} {x : List Ln} (h : RightN N x) {i : Int} (hi : -1 ≤ i ∧ i < x.length) : (kidsL x i).map (wd x) = underW x (pathI x i) := by
  unfold underW entries kidsL
  rw [List.filter_map, List.map_map]
  have e1 : ∀ k ∈ List.range x.length, (underL x k == i) = ((fun e : Pth × Int => decide (e.1.dropLast = pathI x i)) ∘ fun i => (pathL x i, (at_ x i).mark)) k := by
    intro k hk
    have hk := List.mem_range.1 hk
    have hu := under_lt x k
    show (underL x k == i) = decide ((pathL x k).dropLast = pathI x i)
    rw [path_under x k, List.dropLast_concat, Bool.eq_iff_iff, beq_iff_eq, decide_eq_true_eq]
    exact ⟨fun e => by rw [e], fun e => pathI_inj h ⟨hu.1, by omega⟩ hi e⟩
  rw [List.filter_congr e1]
  refine List.map_congr_left fun k _ => ?_
  show wd x k = (pathL x k).getLastD []
  rw [path_under x k, last_snoc]
theorem underW_nodup {N : Nat} {x : List Ln} (h : RightN N x) (p : Pth) : (underW x p).Nodup := by
  unfold underW
  have h1 := ((sorted_pair _).1 h.sorted).filter fun e => decide (e.1.dropLast = p)
  refine List.pairwise_map.2 (h1.imp_of_mem fun {a b} ha hb hab e => ?_)
  have ha2 := of_decide_eq_true (List.mem_filter.1 ha).2
  have hb2 := of_decide_eq_true (List.mem_filter.1 hb).2
  obtain ⟨q, v, hq⟩ := snoc_of (entry_ne (List.mem_filter.1 ha).1)
  obtain ⟨r, w, hr⟩ := snoc_of (entry_ne (List.mem_filter.1 hb).1)
  rw [hq, List.dropLast_concat] at ha2
  rw [hr, List.dropLast_concat] at hb2
  rw [hq, hr, last_snoc, last_snoc] at e
  have : a.1 = b.1 := by rw [hq, hr, ha2, hb2, e]
  rw [this, pless_irr] at hab
  cases hab
theorem underW_len {N : Nat} {x : List Ln} (h : RightN N x) (p : Pth) : (underW x p).length ≤ x.length := by
  unfold underW
  rw [List.length_map]
  exact Nat.le_trans (List.length_filter_le _ _) (Nat.le_of_eq (entries_len x))
theorem underW_word {N : Nat} {x : List Ln} (h : RightN N x) {p : Pth} {w : List UInt8} (hw : w ∈ underW x p) : w.length ≤ 40 := by
  obtain ⟨i, hi, e⟩ := mem_underW.1 hw
  exact S.RightN.path_long h i i (Nat.le_refl _) hi w (by rw [e]; simp)
-- WHAT A PATH MEANS
-- HOW MANY
-- A GROUP'S PATHS
-- EXPANDED
-- ANOTHER GROUP
theorem filter_sorted {l : List (Pth × Int)} (h : Sorted l) (f : Pth × Int → Bool) : Sorted (l.filter f) := (sorted_pair _).2 (((sorted_pair l).1 h).filter f)
theorem filter_same {N M : Nat} {a b : List Ln} (ha : RightN N a) (hb : RightN M b) (f g : Pth × Int → Bool) (h : ∀ x, (x ∈ entries a ∧ f x = true) ↔ (x ∈ entries b ∧ g x = true)) : (entries a).filter f = (entries b).filter g :=
  (filter_sorted ha.sorted f).ext (filter_sorted hb.sorted g) fun x => by rw [List.mem_filter, List.mem_filter]; exact h x
end Go.Proofs.YtfcikfohmehmkaaGreatDoor.T
