/-
  Plain laws for layer 12's code: lines without the parts of some; a path's meaning word by word; a group's leaves; paths that are inherited, one by one. Condition: trees.
-/
import Derived.Test.YtkifapbiimlafaaGroupT
namespace Go.Proofs.Ytkifapbiimlafaa.T
set_option linter.unusedVariables false

-- LINES WITHOUT PARTS
/-- Is a line in the part of one that is to go? -/
def stayB (t : List Ln) (f : Ln → Bool) (i : Nat) : Bool := (List.range t.length).all fun j => !(f (at_ t j) && decide (pre (pathL t j) (pathL t i)))
theorem stay_iff {t : List Ln} {f : Ln → Bool} {i : Nat} : stayB t f i = true ↔ ∀ j, j < t.length → f (at_ t j) = true → ¬ pre (pathL t j) (pathL t i) := by
  unfold stayB
  rw [List.all_eq_true]
  constructor
  · intro h j hj hf hp
    have := h j (List.mem_range.2 hj)
    rw [hf, decide_eq_true hp] at this
    cases this
  · intro h j hj
    cases hf : f (at_ t j) with
    | false => rfl
    | true => rw [decide_eq_false (h j (List.mem_range.1 hj) hf)]; rfl
def leftTo (t : List Ln) (f : Ln → Bool) (i : Nat) : List Ln := ((List.range i).filter (stayB t f)).map (at_ t)
theorem leftTo_len (t : List Ln) (f : Ln → Bool) (i : Nat) : (leftTo t f i).length ≤ i := by
  unfold leftTo
  rw [List.length_map]
  exact Nat.le_trans (List.length_filter_le _ _) (Nat.le_of_eq List.length_range)
theorem leftTo_on {t : List Ln} {f : Ln → Bool} {i : Nat} (h : stayB t f i = true) : leftTo t f (i + 1) = leftTo t f i ++ [at_ t i] := by
  unfold leftTo
  rw [List.range_succ, List.filter_append, List.map_append, List.filter_cons_of_pos h]
  rfl
theorem leftTo_off {t : List Ln} {f : Ln → Bool} {i : Nat} (h : stayB t f i = false) : leftTo t f (i + 1) = leftTo t f i := by
  unfold leftTo
  rw [List.range_succ, List.filter_append, List.map_append, List.filter_cons_of_neg (by rw [h]; decide)]
  simp
theorem leftTo_skip {t : List Ln} {f : Ln → Bool} {i : Nat} : ∀ d, (∀ k, i ≤ k → k < i + d → stayB t f k = false) → leftTo t f (i + d) = leftTo t f i
  | 0, _ => rfl
  | d + 1, h => by
    rw [← Nat.add_assoc, leftTo_off (h (i + d) (by omega) (by omega)), leftTo_skip d fun k h1 h2 => h k h1 (by omega)]
/-- No part of an elder line that is to go reaches further than here. -/
def Clean (t : List Ln) (f : Ln → Bool) (i : Nat) : Prop := ∀ j, j < i → f (at_ t j) = true → endL t j ≤ i
theorem Clean.start (t : List Ln) (f : Ln → Bool) : Clean t f 0 := fun j h => absurd h (Nat.not_lt_zero j)
theorem RightN.end_in {N : Nat} {t : List Ln} (h : RightN N t) {i j : Nat} (hi : i < t.length) (hij : i ≤ j) (hj : j < endL t i) : endL t j ≤ endL t i := by
  have hs := end_spec t i hi
  have hjl : j < t.length := by omega
  have hs2 := end_spec t j hjl
  rcases Nat.lt_or_ge (endL t i) (endL t j) with hlt | hge
  · have hk : endL t i < t.length := by omega
    have h1 := (h.part_iff hjl hk).1 ⟨by omega, hlt⟩
    have h2 := (h.part_iff hi hjl).1 ⟨hij, hj⟩
    have h3 := (h.part_iff hi hk).2 (pre_trans h2 h1)
    omega
  · exact hge
theorem Clean.skip {N : Nat} {t : List Ln} {f : Ln → Bool} {i : Nat} (hR : RightN N t) (h : Clean t f i) (hi : i < t.length) (hf : f (at_ t i) = true) : leftTo t f (endL t i) = leftTo t f i ∧ Clean t f (endL t i) := by
  have hs := end_spec t i hi
  constructor
  · obtain ⟨d, hd⟩ : ∃ d, endL t i = i + d := ⟨endL t i - i, by omega⟩
    rw [hd]
    refine leftTo_skip d fun k h1 h2 => ?_
    cases e : stayB t f k with
    | false => rfl
    | true => exact absurd ((hR.part_iff hi (show k < t.length by omega)).1 ⟨h1, by omega⟩) (stay_iff.1 e i hi hf)
  · intro j hj hfj
    rcases Nat.lt_or_ge j i with hlt | hge
    · have := h j hlt hfj; omega
    · exact hR.end_in hi hge hj
theorem Clean.keep {N : Nat} {t : List Ln} {f : Ln → Bool} {i : Nat} (hR : RightN N t) (h : Clean t f i) (hi : i < t.length) (hf : f (at_ t i) = false) : leftTo t f (i + 1) = leftTo t f i ++ [at_ t i] ∧ Clean t f (i + 1) := by
  constructor
  · refine leftTo_on (stay_iff.2 fun j hj hfj hp => ?_)
    have hp := (hR.part_iff hj hi).2 hp
    rcases Nat.lt_or_ge j i with hlt | hge
    · have := h j hlt hfj; omega
    · obtain rfl : j = i := by omega
      rw [hf] at hfj; cases hfj
  · intro j hj hfj
    rcases Nat.lt_or_ge j i with hlt | hge
    · have := h j hlt hfj; omega
    · obtain rfl : j = i := by omega
      rw [hf] at hfj; cases hfj
/-- Is a line inactive? -/
def offF (l : Ln) : Bool := decide (l.mark % 2 = 1)
/-- Is a line of Depth 0 one of groups or apply? -/
def grpF (l : Ln) : Bool := decide (l.depth = 0) && (l.word == wGroups || l.word == wApply)
def zeroM (l : Ln) : Ln := ⟨l.depth, l.word, 0⟩
theorem entries_map (t : List Ln) : entries t = (List.range t.length).map fun i => (pathL t i, (at_ t i).mark) := rfl
theorem left_active {N : Nat} {t : List Ln} (h : RightN N t) : (leftTo t offF t.length).map zeroM = actL t := by
  rw [← actTo_all t]
  unfold leftTo actTo
  rw [entries_full, entries_map, List.filter_map, List.map_map, List.map_map]
  have e : ∀ i ∈ List.range t.length, stayB t offF i = ((onB t) ∘ fun i => (pathL t i, (at_ t i).mark)) i := by
    intro i hi
    have hi := List.mem_range.1 hi
    show _ = onB t (pathL t i, (at_ t i).mark)
    rw [Bool.eq_iff_iff, stay_iff, on_iff]
    constructor
    · intro k y hy hp
      obtain ⟨j, hj, e1, e2⟩ := (mem_entries t y.1 y.2).1 hy
      rw [← e2]
      intro e3
      exact k j hj (decide_eq_true e3) (by rw [e1]; exact hp)
    · intro k j hj hf hp
      exact k (pathL t j, (at_ t j).mark) ((mem_entries t _ _).2 ⟨j, hj, rfl, rfl⟩) hp (of_decide_eq_true hf)
  rw [List.filter_congr e]
  refine List.map_congr_left fun i hi => ?_
  have hi := List.mem_range.1 (List.mem_filter.1 hi).1
  show (⟨_, _, _⟩ : Ln) = lnOf (pathL t i, (0 : Int))
  rw [h.lnOf hi]
  rfl
theorem left_explicit {N : Nat} {a : List Ln} (h : RightN N a) : leftTo a grpF a.length = expTo a a.length := by
  unfold leftTo expTo
  rw [entries_full, entries_map, List.filter_map, List.map_map]
  have e : ∀ i ∈ List.range a.length, stayB a grpF i = ((fun x : Pth × Int => ownB x.1) ∘ fun i => (pathL a i, (at_ a i).mark)) i := by
    intro i hi
    have hi := List.mem_range.1 hi
    show _ = ownB (pathL a i)
    have hne : 0 < (pathL a i).length := (S.RightN.path_deep h hi).1
    have hhd := own_head hne
    obtain ⟨hd, r, hp⟩ : ∃ w r, pathL a i = w :: r := by
      cases e : pathL a i with
      | nil => rw [e] at hne; exact absurd hne (by decide)
      | cons w r => exact ⟨w, r, rfl⟩
    have hin : isIn a [hd] := h.in_pre (p := [hd]) (q := pathL a i) (by simp) ⟨i, hi, rfl⟩ (by rw [hp]; exact pre_app [hd] r)
    have hown : ownB (pathL a i) = (!(hd == wGroups) && !(hd == wApply)) := by rw [hhd]; simp only [hp, List.getElem_cons_zero]
    rw [hown, Bool.eq_iff_iff, stay_iff]
    have key : (!(hd == wGroups) && !(hd == wApply)) = true ↔ (hd == wGroups || hd == wApply) = false := by
      cases (hd == wGroups) <;> cases (hd == wApply) <;> decide
    rw [key]
    have root : ∀ j, j < a.length → dp a j = 0 → pathL a j = [wd a j] := fun j hj h0 => by
      have h1 := h.path_len j j (Nat.le_refl _) hj
      have h2 := path_under a j
      have h3 : (pathI a (underL a j)).length = 0 := by
        have := congrArg List.length h2
        rw [List.length_append, List.length_singleton] at this
        omega
      rw [h2, List.eq_nil_of_length_eq_zero h3]; rfl
    constructor
    · intro k
      obtain ⟨j, hj, ej⟩ := hin
      have h1 := h.path_len j j (Nat.le_refl _) hj
      rw [ej, List.length_singleton] at h1
      have h0 : dp a j = 0 := by omega
      have h2 := root j hj h0
      rw [ej] at h2
      injection h2 with h2 _
      cases e2 : (hd == wGroups || hd == wApply) with
      | false => rfl
      | true =>
        refine absurd ?_ (k j hj ?_)
        · rw [ej, hp]; exact pre_app [hd] r
        · show (decide (dp a j = 0) && (wd a j == wGroups || wd a j == wApply)) = true
          rw [← h2, e2, decide_eq_true h0]; rfl
    · intro k j hj hf hpr
      have hf : (decide (dp a j = 0) && (wd a j == wGroups || wd a j == wApply)) = true := hf
      rw [Bool.and_eq_true, decide_eq_true_eq] at hf
      rw [root j hj hf.1, hp] at hpr
      have hpr : (hd :: r).take 1 = [wd a j] := hpr
      rw [show (hd :: r).take 1 = [hd] from rfl] at hpr
      injection hpr with hpr _
      rw [← hpr, k] at hf
      cases hf.2
  rw [List.filter_congr e]
  refine List.map_congr_left fun i hi => ?_
  have hi := List.mem_range.1 (List.mem_filter.1 hi).1
  show at_ a i = lnOf (pathL a i, (at_ a i).mark)
  rw [h.lnOf hi]
  rfl
theorem explicit_left {t : List Ln} (h : RightT t) : leftTo (actL t) grpF (actL t).length = expL t := by rw [left_explicit (act_right h), expTo_all]
-- MARKS, ONE BY ONE
def zeroTo (u : List Ln) (k : Nat) : List Ln := (u.take k).map zeroM ++ u.drop k
theorem zero_start (u : List Ln) : zeroTo u 0 = u := rfl
theorem zero_len (u : List Ln) (k : Nat) : (zeroTo u k).length = u.length := by
  unfold zeroTo
  rw [List.length_append, List.length_map, ← List.length_append, List.take_append_drop]
theorem zero_all (u : List Ln) : zeroTo u u.length = u.map zeroM := by
  unfold zeroTo
  rw [List.take_length, List.drop_length, List.append_nil]
-- WHAT A PATH MEANS, WORD BY WORD
/-- The words that a word of a group's path stands for, behind a path. -/
def meantW (x : List Ln) (b : Pth) (w : List UInt8) : List (List UInt8) := if w = starW then underW x b else [w]
theorem meant_miss (x : List Ln) (b : Pth) {w : List UInt8} (h : w ≠ starW) : meantW x b w = [w] := if_neg h
theorem meant_hit (x : List Ln) (b : Pth) : meantW x b starW = underW x b := if_pos rfl
theorem meant_len {N : Nat} {x : List Ln} (h : RightN N x) (b : Pth) (w : List UInt8) : (meantW x b w).length ≤ x.length + 1 := by
  by_cases hw : w = starW
  · rw [hw, meant_hit]; have := underW_len h b; omega
  · rw [meant_miss x b hw]; simp
theorem fill_one (x : List Ln) (up : Pth) (w : List UInt8) : fillR x up [w] = (meantW x up w).map fun k => up ++ [k] := by
  by_cases hw : w = starW
  · rw [hw, fill_hit, meant_hit]
    induction underW x up with
    | nil => rfl
    | cons a r ih => rw [List.flatMap_cons, List.map_cons, ih]; rfl
  · rw [fill_miss x up [] hw, meant_miss x up hw]; rfl
theorem fill_snoc (x : List Ln) (w : List UInt8) : ∀ a up : Pth, fillR x up (a ++ [w]) = (fillR x up a).flatMap fun b => (meantW x b w).map fun k => b ++ [k]
  | [], up => by
    rw [List.nil_append, fill_one, fill_nil, List.flatMap_cons, List.flatMap_nil, List.append_nil]
  | v :: a, up => by
    rw [List.cons_append]
    by_cases hv : v = starW
    · rw [hv, fill_hit, fill_hit, List.flatMap_assoc]
      exact flat_congr fun k _ => fill_snoc x w a (up ++ [k])
    · rw [fill_miss x up _ hv, fill_miss x up _ hv]
      exact fill_snoc x w a (up ++ [v])
/-- What a word makes of the first ones of many paths. -/
def grownTo (x : List Ln) (w : List UInt8) (L : List Pth) (m : Nat) : List Pth := (L.take m).flatMap fun b => (meantW x b w).map fun k => b ++ [k]
theorem grown_start (x : List Ln) (w : List UInt8) (L : List Pth) : grownTo x w L 0 = [] := rfl
theorem grown_next (x : List Ln) (w : List UInt8) (L : List Pth) {m : Nat} (hm : m < L.length) : grownTo x w L (m + 1) = grownTo x w L m ++ (meantW x L[m] w).map fun k => L[m] ++ [k] := by
  unfold grownTo
  rw [List.take_succ_eq_append_getElem hm, List.flatMap_append]
  simp
theorem grown_all (x : List Ln) (w : List UInt8) (a : Pth) : grownTo x w (fillR x [] a) (fillR x [] a).length = fillR x [] (a ++ [w]) := by
  unfold grownTo
  rw [List.take_length, fill_snoc]
theorem flat_takeLen {α β : Type} (f : α → List β) : ∀ (L : List α) (m : Nat), ((L.take m).flatMap f).length ≤ (L.flatMap f).length
  | [], m => by simp
  | a :: r, 0 => by simp
  | a :: r, m + 1 => by
    rw [List.take_succ_cons, List.flatMap_cons, List.flatMap_cons, List.length_append, List.length_append]
    have := flat_takeLen f r m
    omega
theorem grown_len {N : Nat} {x : List Ln} (hx : RightN N x) (w : List UInt8) (a : Pth) (m : Nat) : (grownTo x w (fillR x [] a) m).length ≤ 1 + x.length := by
  have h1 := flat_takeLen (fun b => (meantW x b w).map fun k => b ++ [k]) (fillR x [] a) m
  rw [← fill_snoc] at h1
  exact Nat.le_trans h1 (fill_most hx _ _)
-- A GROUP'S LEAVES
/-- Is a leaf in the part of the line at? -/
def inPart (a : List Ln) (at0 : Nat) (i : Nat) : Bool := decide (at0 < i) && decide (i < endL a at0)
def leafTo (a x : List Ln) (at0 : Nat) (m : Nat) : List Pth := (((leavesL a).take m).filter (inPart a at0)).flatMap fun i => fillR x [] ((pathL a i).drop 2)
theorem leafTo_start (a x : List Ln) (at0 : Nat) : leafTo a x at0 0 = [] := rfl
theorem leafTo_on {a x : List Ln} {at0 m : Nat} (hm : m < (leavesL a).length) (h : inPart a at0 (leavesL a)[m] = true) : leafTo a x at0 (m + 1) = leafTo a x at0 m ++ fillR x [] ((pathL a (leavesL a)[m]).drop 2) := by
  unfold leafTo
  rw [List.take_succ_eq_append_getElem hm, List.filter_append, List.flatMap_append, List.filter_cons_of_pos h]
  simp
theorem leafTo_off {a x : List Ln} {at0 m : Nat} (hm : m < (leavesL a).length) (h : inPart a at0 (leavesL a)[m] = false) : leafTo a x at0 (m + 1) = leafTo a x at0 m := by
  unfold leafTo
  rw [List.take_succ_eq_append_getElem hm, List.filter_append, List.flatMap_append, List.filter_cons_of_neg (by rw [h]; decide)]
  simp
theorem leaves_few {a : List Ln} : (leavesL a).length ≤ a.length := by
  unfold leavesL
  exact Nat.le_trans (List.length_filter_le _ _) (Nat.le_of_eq List.length_range)
theorem leafTo_len {a x : List Ln} (ha : a.length ≤ 200) (hx : RightN 200 x) (at0 m : Nat) : (leafTo a x at0 m).length ≤ 40200 := by
  unfold leafTo
  have h1 := flat_len (fun i => fillR x [] ((pathL a i).drop 2)) (fun _ => 201) (((leavesL a).take m).filter (inPart a at0)) fun e _ => Nat.le_trans (fill_most hx _ _) (by have := hx.len; omega)
  rw [sum_const] at h1
  have h2 : (((leavesL a).take m).filter (inPart a at0)).length ≤ 200 := by
    refine Nat.le_trans (List.length_filter_le _ _) ?_
    rw [List.length_take]
    have := leaves_few (a := a)
    omega
  have h3 := Nat.mul_le_mul_right 201 h2
  omega
theorem leafTo_all {N : Nat} {a x : List Ln} (h : RightN N a) {at0 : Nat} (ha : at0 < a.length) {g : List UInt8} (hp : pathL a at0 = [wGroups, g]) : leafTo a x at0 (leavesL a).length = pathsL a x g := by
  unfold leafTo pathsL
  rw [List.take_length, entries_map, List.filter_map, List.flatMap_map]
  unfold leavesL
  rw [List.filter_filter]
  have e : ∀ i ∈ List.range a.length, (inPart a at0 i && leafB a i) = (gB a g ∘ fun i => (pathL a i, (at_ a i).mark)) i := by
    intro i hi
    have hi := List.mem_range.1 hi
    show _ = (decide (2 < (pathL a i).length) && decide ((pathL a i).take 2 = [wGroups, g]) && (underW a (pathL a i)).isEmpty)
    have h1 : leafB a i = (underW a (pathL a i)).isEmpty := by
      rw [Bool.eq_iff_iff, ← leaf_words h hi]
      unfold leafB
      rw [beq_iff_eq]
    rw [h1]
    congr 1
    rw [Bool.eq_iff_iff, Bool.and_eq_true, decide_eq_true_eq, decide_eq_true_eq]
    unfold inPart
    rw [Bool.and_eq_true, decide_eq_true_eq, decide_eq_true_eq]
    have h2 := h.part_iff ha hi
    rw [hp] at h2
    have h3 : pre [wGroups, g] (pathL a i) ↔ (pathL a i).take 2 = [wGroups, g] := Iff.rfl
    rw [← h3]
    constructor
    · rintro ⟨k1, k2⟩
      have k3 := h2.1 ⟨by omega, k2⟩
      refine ⟨?_, k3⟩
      have k4 := pre_len k3
      rcases Nat.lt_or_ge 2 (pathL a i).length with k5 | k5
      · exact k5
      · exfalso
        have k6 : pathL a i = [wGroups, g] := by
          have : (pathL a i).take 2 = [wGroups, g] := k3
          rwa [List.take_of_length_le k5] at this
        have := h.path_inj (at0 + i) i at0 (by omega) (by omega) hi ha (by rw [k6, hp])
        omega
    · rintro ⟨k1, k2⟩
      obtain ⟨k3, k4⟩ := h2.2 k2
      refine ⟨?_, k4⟩
      rcases Nat.eq_or_lt_of_le k3 with k5 | k5
      · subst k5
        rw [hp] at k1
        exact absurd k1 (by simp)
      · exact k5
  rw [List.filter_congr e]
-- WHAT IS INHERITED, ONE BY ONE
theorem inh_not {x : List Ln} {p : Pth} (h : ownB p = false) : inhB x p = false := by unfold inhB; rw [h]; rfl
theorem inh_free {N : Nat} {x : List Ln} (hx : RightN N x) {p : Pth} (h : ownB p = true) (hn : ¬ isIn x p.dropLast) : inhB x p = true := by
  unfold inhB
  rw [h]
  by_cases h1 : 1 < p.length
  · have hd : p.dropLast ≠ [] := fun e => by
      have := congrArg List.length e
      rw [List.length_dropLast, List.length_nil] at this
      omega
    rw [underW_out hx hd hn, decide_eq_true h1]; rfl
  · rw [decide_eq_false h1]; rfl
theorem inh_at {N : Nat} {x : List Ln} (hx : RightN N x) {p : Pth} (h : ownB p = true) {i : Nat} (hi : i < x.length) (hp : pathL x i = p.dropLast) : inhB x p = decide (endL x i = i + 1) := by
  have h1 : 1 < p.length := by
    have k := (S.RightN.path_deep hx hi).1
    rw [hp, List.length_dropLast] at k
    omega
  unfold inhB
  rw [h, decide_eq_true h1, ← hp]
  rw [Bool.eq_iff_iff, decide_eq_true_eq, leaf_words hx hi]
  cases (underW x (pathL x i)).isEmpty <;> decide
/-- The first ones of some paths, as far as they are inherited, added. -/
def addTo12 (x : List Ln) (L : List Pth) (k : Nat) : Option (List Ln) := addAll x ((L.take k).filter (inhB x))
theorem addTo_start (x : List Ln) (L : List Pth) : addTo12 x L 0 = some x := rfl
theorem addTo_off {x : List Ln} {L : List Pth} {k : Nat} (hk : k < L.length) (h : inhB x L[k] = false) : addTo12 x L (k + 1) = addTo12 x L k := by
  unfold addTo12
  rw [List.take_succ_eq_append_getElem hk, List.filter_append, List.filter_cons_of_neg (by rw [h]; decide)]
  simp
theorem addTo_on {x u : List Ln} {L : List Pth} {k : Nat} (hk : k < L.length) (h : inhB x L[k] = true) (hu : addTo12 x L k = some u) (hl : (addL u L[k]).length ≤ 200) : addTo12 x L (k + 1) = some (addL u L[k]) := by
  unfold addTo12 at hu ⊢
  rw [List.take_succ_eq_append_getElem hk, List.filter_append, List.filter_cons_of_pos h, List.filter_nil, addAll_app, hu]
  show addAll u [L[k]] = _
  rw [addAll_step hl]; rfl
theorem addAll_none {x : List Ln} {a b : List Pth} (h : addAll x a = none) : addAll x (a ++ b) = none := by rw [addAll_app, h]; rfl
theorem addTo_full {x u : List Ln} {L : List Pth} {k : Nat} (hk : k < L.length) (h : inhB x L[k] = true) (hu : addTo12 x L k = some u) (hl : ¬ (addL u L[k]).length ≤ 200) : addAll x (L.filter (inhB x)) = none := by
  unfold addTo12 at hu
  have e : L = L.take (k + 1) ++ L.drop (k + 1) := (List.take_append_drop _ _).symm
  rw [e, List.filter_append]
  refine addAll_none ?_
  rw [List.take_succ_eq_append_getElem hk, List.filter_append, List.filter_cons_of_pos h, List.filter_nil, addAll_app, hu]
  show addAll u [L[k]] = _
  rw [addAll_stop hl]
theorem addTo_all (x : List Ln) (L : List Pth) : addTo12 x L L.length = addAll x (L.filter (inhB x)) := by unfold addTo12; rw [List.take_length]
theorem addTo_right {t u : List Ln} (h : RightT t) {L : List Pth} (hL : ∀ p ∈ L, FitP p) {k : Nat} (hu : addTo12 (expL t) L k = some u) : RightT u :=
  (addAll_is _ _ _ (exp_right h) (fun x hx => exp_zero h hx) (fun p hp => hL p (List.mem_of_mem_take (List.mem_filter.1 hp).1)) hu).right
-- GROUPS, ONE BY ONE
def appTo (t : List Ln) (G : List (List UInt8)) (k : Nat) : List Pth := (G.take k).flatMap (pathsA t)
theorem appTo_start (t : List Ln) (G : List (List UInt8)) : appTo t G 0 = [] := rfl
theorem appTo_next (t : List Ln) {G : List (List UInt8)} {k : Nat} (hk : k < G.length) : appTo t G (k + 1) = appTo t G k ++ pathsA t G[k] := by
  unfold appTo
  rw [List.take_succ_eq_append_getElem hk, List.flatMap_append]
  simp
theorem appTo_all (t : List Ln) (G : List (List UInt8)) : appTo t G G.length = G.flatMap (pathsA t) := by unfold appTo; rw [List.take_length]
theorem appTo_len {t : List Ln} (h : RightT t) (G : List (List UInt8)) {k : Nat} (hk : k ≤ 200) : (appTo t G k).length ≤ 8040000 := by
  unfold appTo
  have h1 := flat_len (pathsA t) (fun _ => 40200) (G.take k) fun g _ => paths_len h g
  rw [sum_const] at h1
  have h2 : (G.take k).length ≤ 200 := by rw [List.length_take]; omega
  have h3 := Nat.mul_le_mul_right 40200 h2
  omega
theorem appTo_fit {t : List Ln} (h : RightT t) (G : List (List UInt8)) (k : Nat) : ∀ p ∈ appTo t G k, FitP p := fun p hp => by
  obtain ⟨g, _, hg⟩ := List.mem_flatMap.1 hp
  exact paths_fit h hg
theorem miss_yes {t : List Ln} {g : List UInt8} (hg : g ∈ appL t) (h : ¬ isIn (actL t) [wGroups, g]) : missB t = true := by
  unfold missB
  refine List.any_eq_true.2 ⟨g, hg, ?_⟩
  cases e : inB (actL t) [wGroups, g] with
  | false => rfl
  | true => exact absurd (inB_yes.1 e) h
theorem miss_no {t : List Ln} (h : ∀ g ∈ appL t, isIn (actL t) [wGroups, g]) : missB t = false := by
  cases e : missB t with
  | false => rfl
  | true =>
    unfold missB at e
    obtain ⟨g, hg, k⟩ := List.any_eq_true.1 e
    rw [inB_yes.2 (h g hg)] at k
    cases k
theorem expand_miss {t : List Ln} (h : missB t = true) : expandL t = ([], 3) := by unfold expandL; rw [if_pos h]
theorem expand_long {t : List Ln} (h : missB t = false) (h2 : addAll (expL t) (inhL t) = none) : expandL t = ([], 5) := by
  unfold expandL
  rw [h, if_neg (by decide), h2]
theorem expand_fine {t u : List Ln} (h : missB t = false) (h2 : addAll (expL t) (inhL t) = some u) : expandL t = (u, 0) := by
  unfold expandL
  rw [h, if_neg (by decide), h2]
end Go.Proofs.Ytkifapbiimlafaa.T
