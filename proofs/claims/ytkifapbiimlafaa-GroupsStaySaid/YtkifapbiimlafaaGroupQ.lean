/-
  Plain laws for layer 12: the words under a path, what a path means, a group's paths, a tree expanded. No conditions.
-/
import Derived.Test.YtkifapbiimlafaaGroupP
namespace Go.Proofs.Ytkifapbiimlafaa.T
set_option linter.unusedVariables false

def starW : List UInt8 := [42]
-- THE WORDS UNDER A PATH
/-- The words of all lines under a path (of none: of Depth 0), in order. -/
def underW (x : List Ln) (p : Pth) : List (List UInt8) := ((entries x).filter fun e => decide (e.1.dropLast = p)).map fun e => e.1.getLastD []
theorem entry_ne {x : List Ln} {e : Pth × Int} (h : e ∈ entries x) : e.1 ≠ [] := RightN.in_ne (isIn_of h)
theorem mem_underW {x : List Ln} {p : Pth} {w : List UInt8} : w ∈ underW x p ↔ isIn x (p ++ [w]) := by
  unfold underW
  rw [List.mem_map, isIn_entries]
  constructor
  · rintro ⟨e, he, rfl⟩
    obtain ⟨h1, h2⟩ := List.mem_filter.1 he
    have h2 := of_decide_eq_true h2
    obtain ⟨q, w, hq⟩ := snoc_of (entry_ne h1)
    refine ⟨e.2, ?_⟩
    rw [hq, List.dropLast_concat] at h2
    rw [hq, last_snoc, ← h2, ← hq]
    exact h1
  · rintro ⟨m, hm⟩
    exact ⟨(p ++ [w], m), List.mem_filter.2 ⟨hm, decide_eq_true (List.dropLast_concat ..)⟩, last_snoc _ _⟩
theorem underW_nil {x : List Ln} {p : Pth} : underW x p = [] ↔ ∀ w, ¬ isIn x (p ++ [w]) := by
  constructor
  · intro h w hw
    have := mem_underW.2 hw
    rw [h] at this
    cases this
  · intro h
    cases e : underW x p with
    | nil => rfl
    | cons w r => exact absurd (mem_underW.1 (by rw [e]; exact List.mem_cons_self ..)) (h w)
theorem underW_out {N : Nat} {x : List Ln} (h : RightN N x) {p : Pth} (hp : p ≠ []) (hno : ¬ isIn x p) : underW x p = [] :=
  underW_nil.2 fun w hw => hno (h.in_pre hp hw (pre_app _ _))
theorem pathI_inj {N : Nat} {x : List Ln} (h : RightN N x) {i j : Int} (hi : -1 ≤ i ∧ i < x.length) (hj : -1 ≤ j ∧ j < x.length) (e : pathI x i = pathI x j) : i = j := by
  by_cases h1 : i < 0
  · by_cases h2 : j < 0
    · omega
    · have e1 : i = -1 := by omega
      obtain ⟨b, rfl⟩ := Int.eq_ofNat_of_zero_le (show 0 ≤ j by omega)
      rw [e1, pathI_none, pathI_nat] at e
      exact absurd e.symm path_ne
  · obtain ⟨a, rfl⟩ := Int.eq_ofNat_of_zero_le (show 0 ≤ i by omega)
    by_cases h2 : j < 0
    · have e1 : j = -1 := by omega
      rw [e1, pathI_none, pathI_nat] at e
      exact absurd e path_ne
    · obtain ⟨b, rfl⟩ := Int.eq_ofNat_of_zero_le (show 0 ≤ j by omega)
      rw [pathI_nat, pathI_nat] at e
      have := h.path_inj (a + b) a b (by omega) (by omega) (by omega) (by omega) e
      omega
theorem kids_words {N : Nat} {x : List Ln} (h : RightN N x) {i : Int} (hi : -1 ≤ i ∧ i < x.length) : (kidsL x i).map (wd x) = underW x (pathI x i) := by
  unfold underW entries kidsL
  rw [List.filter_map, List.map_map]
  have e1 : ∀ k ∈ List.range x.length, (underL x k == i) = ((fun e : Pth × Int => decide (e.1.dropLast = pathI x i)) ∘ fun i => (pathL x i, (at_ x i).mark)) k := by
    intro k hk
    have hk := List.mem_range.1 hk
    have hu := under_lt x k
    show (underL x k == i) = decide ((pathL x k).dropLast = pathI x i)
    rw [path_under x k, List.dropLast_concat, Bool.eq_iff_iff, beq_iff_eq, decide_eq_true_eq]
    exact ⟨fun e => by rw [e], fun e => pathI_inj h ⟨hu.1, by omega⟩ hi e⟩
  rw [List.filter_congr e1]
  refine List.map_congr_left fun k _ => ?_
  show wd x k = (pathL x k).getLastD []
  rw [path_under x k, last_snoc]
theorem underW_nodup {N : Nat} {x : List Ln} (h : RightN N x) (p : Pth) : (underW x p).Nodup := by
  unfold underW
  have h1 := ((sorted_pair _).1 h.sorted).filter fun e => decide (e.1.dropLast = p)
  refine List.pairwise_map.2 (h1.imp_of_mem fun {a b} ha hb hab e => ?_)
  have ha2 := of_decide_eq_true (List.mem_filter.1 ha).2
  have hb2 := of_decide_eq_true (List.mem_filter.1 hb).2
  obtain ⟨q, v, hq⟩ := snoc_of (entry_ne (List.mem_filter.1 ha).1)
  obtain ⟨r, w, hr⟩ := snoc_of (entry_ne (List.mem_filter.1 hb).1)
  rw [hq, List.dropLast_concat] at ha2
  rw [hr, List.dropLast_concat] at hb2
  rw [hq, hr, last_snoc, last_snoc] at e
  have : a.1 = b.1 := by rw [hq, hr, ha2, hb2, e]
  rw [this, pless_irr] at hab
  cases hab
theorem underW_len {N : Nat} {x : List Ln} (h : RightN N x) (p : Pth) : (underW x p).length ≤ x.length := by
  unfold underW
  rw [List.length_map]
  exact Nat.le_trans (List.length_filter_le _ _) (Nat.le_of_eq (entries_len x))
theorem underW_word {N : Nat} {x : List Ln} (h : RightN N x) {p : Pth} {w : List UInt8} (hw : w ∈ underW x p) : w.length ≤ 40 := by
  obtain ⟨i, hi, e⟩ := mem_underW.1 hw
  exact S.RightN.path_long h i i (Nat.le_refl _) hi w (by rw [e]; simp)
-- WHAT A PATH MEANS
def fillR (x : List Ln) : Pth → Pth → List Pth
  | up, [] => [up]
  | up, w :: r => if w = starW then (underW x up).flatMap fun k => fillR x (up ++ [k]) r else fillR x (up ++ [w]) r
theorem fill_nil (x : List Ln) (up : Pth) : fillR x up [] = [up] := rfl
theorem fill_hit (x : List Ln) (up r : Pth) : fillR x up (starW :: r) = (underW x up).flatMap fun k => fillR x (up ++ [k]) r := by
  show (if starW = starW then _ else _) = _
  rw [if_pos rfl]
theorem fill_miss (x : List Ln) (up r : Pth) {w : List UInt8} (h : w ≠ starW) : fillR x up (w :: r) = fillR x (up ++ [w]) r := by
  show (if w = starW then _ else _) = _
  rw [if_neg h]
theorem fill_lit (x : List Ln) : ∀ (a up r : Pth), starW ∉ a → fillR x up (a ++ r) = fillR x (up ++ a) r
  | [], up, r, _ => by rw [List.append_nil]; rfl
  | w :: a, up, r, h => by
    rw [List.cons_append, fill_miss x up _ (fun e => h (by rw [e]; exact List.mem_cons_self ..)), fill_lit x a (up ++ [w]) r fun hm => h (List.mem_cons_of_mem _ hm), List.append_assoc]
    rfl
theorem fill_plain (x : List Ln) (up a : Pth) (h : starW ∉ a) : fillR x up a = [up ++ a] := by
  have := fill_lit x a up [] h
  rw [List.append_nil] at this
  rw [this]; rfl
theorem fill_star (x : List Ln) (up a r : Pth) (h : starW ∉ a) : fillR x up (a ++ starW :: r) = (underW x (up ++ a)).flatMap fun k => fillR x (up ++ a ++ [k]) r := by
  rw [fill_lit x a up _ h, fill_hit]
theorem fill_len (x : List Ln) : ∀ (r up q : Pth), q ∈ fillR x up r → q.length = up.length + r.length
  | [], up, q, h => by rw [fill_nil, List.mem_singleton] at h; rw [h]; rfl
  | w :: r, up, q, h => by
    by_cases hw : w = starW
    · rw [hw, fill_hit, List.mem_flatMap] at h
      obtain ⟨k, _, h⟩ := h
      rw [fill_len x r _ q h, List.length_append, List.length_singleton, List.length_cons]; omega
    · rw [fill_miss x up r hw] at h
      rw [fill_len x r _ q h, List.length_append, List.length_singleton, List.length_cons]; omega
theorem fill_words {N : Nat} {x : List Ln} (hx : RightN N x) : ∀ (r up q : Pth), (∀ w ∈ up, w.length ≤ 40) → (∀ w ∈ r, w.length ≤ 40) → q ∈ fillR x up r → ∀ w ∈ q, w.length ≤ 40
  | [], up, q, hu, hr, h => by rw [fill_nil, List.mem_singleton] at h; rw [h]; exact hu
  | v :: r, up, q, hu, hr, h => by
    have hr2 : ∀ w ∈ r, w.length ≤ 40 := fun w hw => hr w (List.mem_cons_of_mem _ hw)
    by_cases hv : v = starW
    · rw [hv, fill_hit, List.mem_flatMap] at h
      obtain ⟨k, hk, h⟩ := h
      refine fill_words hx r _ q (fun w hw => ?_) hr2 h
      rcases List.mem_append.1 hw with hw | hw
      · exact hu w hw
      · rw [List.mem_singleton.1 hw]; exact underW_word hx hk
    · rw [fill_miss x up r hv] at h
      refine fill_words hx r _ q (fun w hw => ?_) hr2 h
      rcases List.mem_append.1 hw with hw | hw
      · exact hu w hw
      · rw [List.mem_singleton.1 hw]; exact hr v (List.mem_cons_self ..)
-- HOW MANY
theorem count_keys {α : Type} (key : α → List UInt8) : ∀ (ws : List (List UInt8)) (l : List α), ws.Nodup → (ws.map fun w => (l.filter fun e => decide (key e = w)).length).sum ≤ l.length
  | [], l, _ => Nat.zero_le _
  | w :: r, l, h => by
    obtain ⟨h1, h2⟩ := List.nodup_cons.1 h
    have ih := count_keys key r (l.filter fun e => !decide (key e = w)) h2
    have e : (r.map fun v => ((l.filter fun e => !decide (key e = w)).filter fun e => decide (key e = v)).length) = r.map fun v => (l.filter fun e => decide (key e = v)).length := by
      refine List.map_congr_left fun v hv => ?_
      rw [List.filter_filter]
      congr 1
      refine List.filter_congr fun y _ => ?_
      by_cases hy : key y = v
      · have hvw : v ≠ w := fun e => h1 (by rw [← e]; exact hv)
        rw [decide_eq_true hy, decide_eq_false (fun e => hvw (hy.symm.trans e))]; rfl
      · rw [decide_eq_false hy]; rfl
    rw [e] at ih
    have h3 := filter_two (fun e => decide (key e = w)) (fun e => !decide (key e = w)) (fun x hx => by rw [hx]; rfl) l
    rw [List.map_cons, List.sum_cons]
    omega
/-- The entries strictly under a path. -/
def belowE (x : List Ln) (up : Pth) : List (Pth × Int) := (entries x).filter fun e => decide (pre up e.1) && decide (up.length < e.1.length)
theorem below_len (x : List Ln) (up : Pth) : (belowE x up).length ≤ x.length := Nat.le_trans (List.length_filter_le _ _) (Nat.le_of_eq (entries_len x))
theorem mem_belowE {x : List Ln} {up : Pth} {e : Pth × Int} : e ∈ belowE x up ↔ e ∈ entries x ∧ pre up e.1 ∧ up.length < e.1.length := by
  unfold belowE
  rw [List.mem_filter, Bool.and_eq_true, decide_eq_true_eq, decide_eq_true_eq]
theorem filter_mono {α : Type} {f g : α → Bool} : ∀ {l : List α}, (∀ y ∈ l, f y = true → g y = true) → (l.filter f).length ≤ (l.filter g).length
  | [], _ => Nat.le_refl _
  | a :: l, h => by
    have ih := filter_mono (l := l) fun y hy => h y (List.mem_cons_of_mem _ hy)
    rw [List.filter_cons, List.filter_cons]
    by_cases hf : f a = true
    · rw [if_pos hf, if_pos (h a (List.mem_cons_self ..) hf), List.length_cons, List.length_cons]; omega
    · rw [if_neg hf]
      by_cases hg : g a = true
      · rw [if_pos hg, List.length_cons]; omega
      · rw [if_neg hg]; exact ih
theorem filter_mono1 {α : Type} {f g : α → Bool} : ∀ {l : List α} {a : α}, (∀ y ∈ l, f y = true → g y = true) → a ∈ l → f a = false → g a = true → (l.filter f).length + 1 ≤ (l.filter g).length
  | b :: l, a, h, hm, hf, hg => by
    rw [List.filter_cons, List.filter_cons]
    rcases List.mem_cons.1 hm with rfl | hm
    · rw [if_neg (by rw [hf]; decide), if_pos hg, List.length_cons]
      have := filter_mono (l := l) fun y hy => h y (List.mem_cons_of_mem _ hy)
      omega
    · have ih := filter_mono1 (l := l) (fun y hy => h y (List.mem_cons_of_mem _ hy)) hm hf hg
      by_cases hf2 : f b = true
      · rw [if_pos hf2, if_pos (h b (List.mem_cons_self ..) hf2), List.length_cons, List.length_cons]; omega
      · rw [if_neg hf2]
        by_cases hg2 : g b = true
        · rw [if_pos hg2, List.length_cons]; omega
        · rw [if_neg hg2]; exact ih
theorem pre_snoc {up p : Pth} {k : List UInt8} : pre (up ++ [k]) p ↔ pre up p ∧ up.length < p.length ∧ p.getD up.length [] = k := by
  constructor
  · intro h
    obtain ⟨s, rfl⟩ := pre_iff.1 h
    refine ⟨?_, ?_, ?_⟩
    · rw [List.append_assoc]; exact pre_app _ _
    · simp
    · simp [List.getD_eq_getElem?_getD]
  · rintro ⟨h1, h2, h3⟩
    obtain ⟨s, rfl⟩ := pre_iff.1 h1
    cases s with
    | nil => rw [List.append_nil] at h2; omega
    | cons a r =>
      have e : a = k := by simpa [List.getD_eq_getElem?_getD, List.getElem?_append] using h3
      subst e
      have : up ++ a :: r = up ++ [a] ++ r := by simp
      rw [this]; exact pre_app _ _
theorem kid_count {N : Nat} {x : List Ln} (h : RightN N x) (up : Pth) : ((underW x up).map fun k => 1 + (belowE x (up ++ [k])).length).sum ≤ (belowE x up).length := by
  refine Nat.le_trans ?_ (count_keys (fun e : Pth × Int => e.1.getD up.length []) (underW x up) (belowE x up) (underW_nodup h up))
  have key : ∀ k ∈ underW x up, 1 + (belowE x (up ++ [k])).length ≤ ((belowE x up).filter fun e => decide (e.1.getD up.length [] = k)).length := by
    intro k hk
    obtain ⟨m, hm⟩ := isIn_entries.1 (mem_underW.1 hk)
    unfold belowE
    rw [List.filter_filter]
    have := filter_mono1 (l := entries x) (a := (up ++ [k], m)) (f := fun e => decide (pre (up ++ [k]) e.1) && decide ((up ++ [k]).length < e.1.length)) (g := fun e => decide (e.1.getD up.length [] = k) && (decide (pre up e.1) && decide (up.length < e.1.length))) ?_ hm ?_ ?_
    · omega
    · intro y _ hy
      rw [Bool.and_eq_true, decide_eq_true_eq] at hy
      obtain ⟨h1, h2, h3⟩ := pre_snoc.1 hy.1
      rw [decide_eq_true h1, decide_eq_true h2, decide_eq_true h3]; rfl
    · rw [decide_eq_false (show ¬ (up ++ [k]).length < (up ++ [k]).length by omega), Bool.and_false]
    · obtain ⟨h1, h2, h3⟩ := pre_snoc.1 (pre_refl (up ++ [k]))
      rw [decide_eq_true h1, decide_eq_true h2, decide_eq_true h3]; rfl
  revert key
  generalize underW x up = ws
  intro key
  induction ws with
  | nil => exact Nat.le_refl _
  | cons a r ih =>
    have h1 := key a (List.mem_cons_self ..)
    have h2 := ih fun k hk => key k (List.mem_cons_of_mem _ hk)
    rw [List.map_cons, List.sum_cons, List.map_cons, List.sum_cons]
    omega
theorem flat_len {α β : Type} (f : α → List β) (g : α → Nat) : ∀ l : List α, (∀ a ∈ l, (f a).length ≤ g a) → (l.flatMap f).length ≤ (l.map g).sum
  | [], _ => Nat.le_refl _
  | a :: r, h => by
    have ih := flat_len f g r fun b hb => h b (List.mem_cons_of_mem _ hb)
    have h1 := h a (List.mem_cons_self ..)
    rw [List.flatMap_cons, List.length_append, List.map_cons, List.sum_cons]
    omega
theorem fill_count {N : Nat} {x : List Ln} (hx : RightN N x) : ∀ r up : Pth, (fillR x up r).length ≤ 1 + (belowE x up).length ∧ (starW ∈ r → (fillR x up r).length ≤ (belowE x up).length)
  | [], up => ⟨by rw [fill_nil, List.length_singleton]; omega, fun h => by cases h⟩
  | w :: r, up => by
    by_cases hw : w = starW
    · have h1 : (fillR x up (w :: r)).length ≤ (belowE x up).length := by
        rw [hw, fill_hit]
        exact Nat.le_trans (flat_len _ (fun k => 1 + (belowE x (up ++ [k])).length) _ fun k _ => (fill_count hx r (up ++ [k])).1) (kid_count hx up)
      exact ⟨by omega, fun _ => h1⟩
    · rw [fill_miss x up r hw]
      obtain ⟨h1, h2⟩ := fill_count hx r (up ++ [w])
      have h3 : (belowE x (up ++ [w])).length ≤ (belowE x up).length := filter_mono fun y _ hy => by
        rw [Bool.and_eq_true, decide_eq_true_eq] at hy
        obtain ⟨g1, g2, _⟩ := pre_snoc.1 hy.1
        rw [decide_eq_true g1, decide_eq_true g2]; rfl
      refine ⟨by omega, fun hm => ?_⟩
      rcases List.mem_cons.1 hm with e | hm
      · exact absurd e.symm hw
      · have := h2 hm; omega
theorem fill_most {N : Nat} {x : List Ln} (hx : RightN N x) (r up : Pth) : (fillR x up r).length ≤ 1 + x.length := by
  have h1 := (fill_count hx r up).1
  have h2 := below_len x up
  omega
-- A GROUP'S PATHS
def gB (a : List Ln) (g : List UInt8) (e : Pth × Int) : Bool := decide (2 < e.1.length) && decide (e.1.take 2 = [wGroups, g]) && (underW a e.1).isEmpty
def pathsL (a x : List Ln) (g : List UInt8) : List Pth := ((entries a).filter (gB a g)).flatMap fun e => fillR x [] (e.1.drop 2)
/-- The paths of a group of a tree. -/
def pathsA (t : List Ln) (g : List UInt8) : List Pth := pathsL (actL t) (expL t) g
theorem sum_const (c : Nat) {α : Type} : ∀ l : List α, (l.map fun _ => c).sum = l.length * c
  | [] => by simp
  | a :: r => by rw [List.map_cons, List.sum_cons, sum_const c r, List.length_cons, Nat.add_mul]; omega
theorem paths_len {t : List Ln} (h : RightT t) (g : List UInt8) : (pathsA t g).length ≤ 40200 := by
  unfold pathsA pathsL
  have hx := exp_right h
  have ha := act_right h
  have h1 := flat_len (fun e : Pth × Int => fillR (expL t) [] (e.1.drop 2)) (fun _ => 201) ((entries (actL t)).filter (gB (actL t) g)) fun e _ => Nat.le_trans (fill_most hx _ _) (by have := hx.len; omega)
  rw [sum_const] at h1
  have h2 : ((entries (actL t)).filter (gB (actL t) g)).length ≤ 200 := Nat.le_trans (List.length_filter_le _ _) (by rw [entries_len]; exact ha.len)
  have h3 := Nat.mul_le_mul_right 201 h2
  omega
/-- A path of a group is short, and not empty. -/
structure FitP (p : Pth) : Prop where
  pos : 0 < p.length
  deep : p.length ≤ 14
  long : ∀ w ∈ p, w.length ≤ 40
theorem paths_fit {t : List Ln} (h : RightT t) {g : List UInt8} {p : Pth} (hp : p ∈ pathsA t g) : FitP p := by
  unfold pathsA pathsL at hp
  obtain ⟨e, he, hp⟩ := List.mem_flatMap.1 hp
  obtain ⟨h1, h2⟩ := List.mem_filter.1 he
  unfold gB at h2
  rw [Bool.and_eq_true, Bool.and_eq_true, decide_eq_true_eq, decide_eq_true_eq] at h2
  have hl := fill_len _ _ _ _ hp
  rw [List.length_nil, List.length_drop, Nat.zero_add] at hl
  have ha := act_right h
  obtain ⟨i, hi, e2⟩ := isIn_of h1
  have hd := S.RightN.path_deep ha hi
  rw [e2] at hd
  refine ⟨by omega, by omega, ?_⟩
  refine fill_words (exp_right h) _ _ _ (fun w hw => by cases hw) (fun w hw => ?_) hp
  refine S.RightN.path_long ha i i (Nat.le_refl _) hi w ?_
  rw [e2]
  exact List.mem_of_mem_drop hw
-- EXPANDED
/-- Is a path inherited? -/
def inhB (x : List Ln) (p : Pth) : Bool := ownB p && !(decide (1 < p.length) && !(underW x p.dropLast).isEmpty)
def addAll : List Ln → List Pth → Option (List Ln)
  | u, [] => some u
  | u, p :: r => if (addL u p).length ≤ 200 then addAll (addL u p) r else none
theorem addAll_step {u : List Ln} {p : Pth} {r : List Pth} (h : (addL u p).length ≤ 200) : addAll u (p :: r) = addAll (addL u p) r := by
  show (if (addL u p).length ≤ 200 then _ else _) = _
  rw [if_pos h]
theorem addAll_stop {u : List Ln} {p : Pth} {r : List Pth} (h : ¬ (addL u p).length ≤ 200) : addAll u (p :: r) = none := by
  show (if (addL u p).length ≤ 200 then _ else _) = _
  rw [if_neg h]
theorem addAll_app : ∀ (a b : List Pth) (u : List Ln), addAll u (a ++ b) = (addAll u a).bind fun v => addAll v b
  | [], b, u => rfl
  | p :: r, b, u => by
    rw [List.cons_append]
    by_cases h : (addL u p).length ≤ 200
    · rw [addAll_step h, addAll_step h, addAll_app r b]
    · rw [addAll_stop h, addAll_stop h]; rfl
/-- The groups that are applied. -/
def appL (t : List Ln) : List (List UInt8) := underW (actL t) [wApply]
def missB (t : List Ln) : Bool := (appL t).any fun g => !inB (actL t) [wGroups, g]
/-- All paths that are inherited. -/
def inhL (t : List Ln) : List Pth := ((appL t).flatMap (pathsA t)).filter (inhB (expL t))
def expandL (t : List Ln) : List Ln × Int := if missB t = true then ([], 3) else match addAll (expL t) (inhL t) with
  | none => ([], 5)
  | some u => (u, 0)
structure AllIn (u : List Ln) (ps : List Pth) (v : List Ln) : Prop where
  right : RightT v
  mem : ∀ x, x ∈ entries v ↔ x ∈ entries u ∨ ∃ p ∈ ps, ∃ j, j < p.length ∧ x = (p.take (j + 1), (0 : Int))
theorem addAll_is : ∀ (ps : List Pth) (u v : List Ln), RightT u → (∀ x ∈ entries u, x.2 = 0) → (∀ p ∈ ps, FitP p) → addAll u ps = some v → AllIn u ps v
  | [], u, v, h, hz, hf, e => by
    obtain rfl : u = v := Option.some.inj e
    exact ⟨h, fun x => ⟨.inl, fun k => by
      rcases k with k | ⟨p, hp, _⟩
      · exact k
      · cases hp⟩⟩
  | p :: r, u, v, h, hz, hf, e => by
    have hp := hf p (List.mem_cons_self ..)
    by_cases h200 : (addL u p).length ≤ 200
    · rw [addAll_step h200] at e
      have hm := add_zero h hz (p := p) (by have := hp.deep; omega) hp.long
      have ih := addAll_is r (addL u p) v (add_right h (by have := hp.deep; omega) hp.long h200) (fun x hx => by
        rcases (hm x).1 hx with hx | ⟨j, _, rfl⟩
        · exact hz x hx
        · rfl) (fun q hq => hf q (List.mem_cons_of_mem _ hq)) e
      refine ⟨ih.right, fun x => ?_⟩
      rw [ih.mem, hm]
      constructor
      · rintro ((k | ⟨j, hj, k⟩) | ⟨q, hq, k⟩)
        · exact .inl k
        · exact .inr ⟨p, List.mem_cons_self .., j, hj, k⟩
        · exact .inr ⟨q, List.mem_cons_of_mem _ hq, k⟩
      · rintro (k | ⟨q, hq, j, hj, k⟩)
        · exact .inl (.inl k)
        · rcases List.mem_cons.1 hq with rfl | hq
          · exact .inl (.inr ⟨j, hj, k⟩)
          · exact .inr ⟨q, hq, j, hj, k⟩
    · rw [addAll_stop h200] at e; cases e
theorem inh_fit {t : List Ln} (h : RightT t) {p : Pth} (hp : p ∈ inhL t) : FitP p ∧ inhB (expL t) p = true ∧ ∃ g ∈ appL t, p ∈ pathsA t g := by
  unfold inhL at hp
  obtain ⟨h1, h2⟩ := List.mem_filter.1 hp
  obtain ⟨g, hg, h3⟩ := List.mem_flatMap.1 h1
  exact ⟨paths_fit h h3, h2, g, hg, h3⟩
theorem expand_cases {t : List Ln} (h : RightT t) : (expandL t = ([], 3) ∧ missB t = true) ∨ (expandL t = ([], 5) ∧ missB t = false) ∨ (∃ u, expandL t = (u, 0) ∧ missB t = false ∧ AllIn (expL t) (inhL t) u) := by
  unfold expandL
  cases hm : missB t with
  | true => exact .inl ⟨by rw [if_pos rfl], rfl⟩
  | false =>
    rw [if_neg (by decide)]
    cases e : addAll (expL t) (inhL t) with
    | none => exact .inr (.inl ⟨rfl, rfl⟩)
    | some u => exact .inr (.inr ⟨u, rfl, rfl, addAll_is _ _ _ (exp_right h) (fun x hx => exp_zero h hx) (fun p hp => (inh_fit h hp).1) e⟩)
theorem expand_ok {t u : List Ln} (h : RightT t) (e : expandL t = (u, 0)) : AllIn (expL t) (inhL t) u := by
  rcases expand_cases h with ⟨e2, _⟩ | ⟨e2, _⟩ | ⟨v, e2, _, k⟩
  · rw [e2] at e; cases e
  · rw [e2] at e; cases e
  · rw [e2] at e; cases e; exact k
theorem AllIn.zero {t u : List Ln} (h : RightT t) (k : AllIn (expL t) (inhL t) u) : ∀ x ∈ entries u, x.2 = 0 := fun x hx => by
  rcases (k.mem x).1 hx with hx | ⟨p, _, j, _, rfl⟩
  · exact exp_zero h hx
  · rfl
theorem own_take {p : Pth} (hp : 0 < p.length) {j : Nat} : ownB (p.take (j + 1)) = ownB p := by
  cases p with
  | nil => exact absurd hp (by decide)
  | cons a r => rfl
theorem AllIn.own {t u : List Ln} (h : RightT t) (k : AllIn (expL t) (inhL t) u) : ∀ x ∈ entries u, ownB x.1 = true := fun x hx => by
  rcases (k.mem x).1 hx with hx | ⟨p, hp, j, _, rfl⟩
  · exact ((exp_entries h x).1 hx).2
  · obtain ⟨h1, h2, _⟩ := inh_fit h hp
    rw [own_take h1.pos]
    unfold inhB at h2
    rw [Bool.and_eq_true] at h2
    exact h2.1
/-- A tree without marks, groups and apply, expanded, is itself. -/
theorem expand_plain {t : List Ln} (h : RightT t) (hz : ∀ x ∈ entries t, x.2 = 0) (ho : ∀ x ∈ entries t, ownB x.1 = true) : expandL t = (t, 0) := by
  have ha : appL t = [] := by
    unfold appL
    rw [act_plain h hz]
    exact underW_nil.2 fun w hw => by
      obtain ⟨m, hm⟩ := isIn_entries.1 hw
      have : ownB [wApply, w] = true := ho _ hm
      have e : ownB [wApply, w] = false := by unfold ownB; rw [show ([wApply, w] : Pth).head? = some wApply from rfl, decide_eq_true rfl]; exact Bool.and_false _
      rw [e] at this; cases this
  unfold expandL missB inhL
  rw [ha, exp_plain h hz ho]
  rfl
/-- Expanded again it is the same. -/
theorem expand_twice {t u : List Ln} (h : RightT t) (e : expandL t = (u, 0)) : expandL u = (u, 0) := by
  have k := expand_ok h e
  exact expand_plain k.right (k.zero h) (k.own h)
/-- The active tree, expanded, is the tree, expanded. -/
theorem expand_act {t : List Ln} (h : RightT t) : expandL (actL t) = expandL t := by
  have e1 : appL (actL t) = appL t := by unfold appL; rw [act_twice h]
  have e2 : pathsA (actL t) = pathsA t := by funext g; unfold pathsA; rw [act_twice h, exp_act h]
  unfold expandL missB inhL
  rw [e1, e2, act_twice h, exp_act h]
-- ANOTHER GROUP
/-- A tree with a group zz besides, that is not applied. -/
structure Other (t u : List Ln) (z : List UInt8) : Prop where
  leftR : RightT t
  rightR : RightT u
  app : ¬ isIn t [wApply, z]
  keep : ∀ x ∈ entries t, x ∈ entries u
  new : ∀ x ∈ entries u, x ∈ entries t ∨ pre [wGroups, z] x.1 ∨ (x = ([wGroups], 0) ∧ ¬ isIn t [wGroups])
theorem Other.act {t u : List Ln} {z : List UInt8} (h : Other t u z) {p : Pth} (hp : ¬ pre [wGroups, z] p) (hp2 : p ≠ [wGroups]) : isIn (actL u) p ↔ isIn (actL t) p := by
  rw [mem_act h.rightR, mem_act h.leftR]
  constructor
  · rintro ⟨m, hm, hy⟩
    refine ⟨m, ?_, fun y hy1 hy2 => hy y (h.keep y hy1) hy2⟩
    rcases h.new _ hm with k | k | ⟨k, _⟩
    · exact k
    · exact absurd k hp
    · exact absurd (congrArg Prod.fst k) hp2
  · rintro ⟨m, hm, hy⟩
    refine ⟨m, h.keep _ hm, fun y hy1 hy2 => ?_⟩
    rcases h.new y hy1 with k | k | ⟨k, _⟩
    · exact hy y k hy2
    · exact absurd (pre_trans k hy2) hp
    · rw [k]; decide
theorem Other.entry {t u : List Ln} {z : List UInt8} (h : Other t u z) {x : Pth × Int} (hp : ¬ pre [wGroups, z] x.1) (hp2 : x.1 ≠ [wGroups]) : x ∈ entries (actL u) ↔ x ∈ entries (actL t) := by
  have key : ∀ {N : Nat} {v : List Ln}, RightN N v → (x ∈ entries (actL v) ↔ isIn (actL v) x.1 ∧ x.2 = 0) := fun {N v} hv => by
    constructor
    · intro hx
      exact ⟨isIn_of hx, act_zero hv hx⟩
    · rintro ⟨hx, h0⟩
      obtain ⟨m, hm⟩ := isIn_entries.1 hx
      have := act_zero hv hm
      have e : x = (x.1, m) := by rw [show m = 0 from this, ← h0]
      rw [e]; exact hm
  rw [key h.rightR, key h.leftR, h.act hp hp2]
theorem own_not {p : Pth} {z : List UInt8} (h : ownB p = true) : ¬ pre [wGroups, z] p ∧ p ≠ [wGroups] := by
  constructor
  · intro hp
    obtain ⟨s, rfl⟩ := pre_iff.1 hp
    have e : ownB ([wGroups, z] ++ s) = false := by unfold ownB; rw [show ([wGroups, z] ++ s : Pth).head? = some wGroups from rfl, decide_eq_true rfl]; rfl
    rw [e] at h; cases h
  · rintro rfl
    have e : ownB [wGroups] = false := by decide
    rw [e] at h; cases h
theorem Other.exp {t u : List Ln} {z : List UInt8} (h : Other t u z) : expL u = expL t := by
  refine (exp_right h.rightR).ext (exp_right h.leftR) fun x => ?_
  rw [exp_entries h.rightR, exp_entries h.leftR]
  constructor
  · rintro ⟨h1, h2⟩
    obtain ⟨k1, k2⟩ := own_not (z := z) h2
    exact ⟨(h.entry k1 k2).1 h1, h2⟩
  · rintro ⟨h1, h2⟩
    obtain ⟨k1, k2⟩ := own_not (z := z) h2
    exact ⟨(h.entry k1 k2).2 h1, h2⟩
theorem filter_sorted {l : List (Pth × Int)} (h : Sorted l) (f : Pth × Int → Bool) : Sorted (l.filter f) := (sorted_pair _).2 (((sorted_pair l).1 h).filter f)
theorem filter_same {N M : Nat} {a b : List Ln} (ha : RightN N a) (hb : RightN M b) (f g : Pth × Int → Bool) (h : ∀ x, (x ∈ entries a ∧ f x = true) ↔ (x ∈ entries b ∧ g x = true)) : (entries a).filter f = (entries b).filter g :=
  (filter_sorted ha.sorted f).ext (filter_sorted hb.sorted g) fun x => by rw [List.mem_filter, List.mem_filter]; exact h x
theorem Other.under {t u : List Ln} {z : List UInt8} (h : Other t u z) {p : Pth} (hp : ∀ w, ¬ pre [wGroups, z] (p ++ [w]) ∧ p ++ [w] ≠ [wGroups]) : underW (actL u) p = underW (actL t) p := by
  unfold underW
  rw [filter_same (act_right h.rightR) (act_right h.leftR) _ _ fun x => ?_]
  constructor
  all_goals
    rintro ⟨h1, h2⟩
    have h3 := of_decide_eq_true h2
    obtain ⟨q, w, hq⟩ := snoc_of (entry_ne h1)
    have e : x.1 = p ++ [w] := by rw [hq, List.dropLast_concat] at h3; rw [hq, h3]
    obtain ⟨k1, k2⟩ := hp w
    rw [← e] at k1 k2
  · exact ⟨(h.entry k1 k2).1 h1, h2⟩
  · exact ⟨(h.entry k1 k2).2 h1, h2⟩
theorem apply_ne : wApply ≠ wGroups := by decide
theorem Other.apps {t u : List Ln} {z : List UInt8} (h : Other t u z) : appL u = appL t := by
  refine h.under fun w => ⟨fun hp => ?_, fun e => ?_⟩
  · have : [wGroups, z] = [wApply, w] := by
      have := hp
      unfold pre at this
      exact this.symm
    injection this with e _
    exact apply_ne e.symm
  · have := congrArg List.length e
    simp at this
theorem two_pre {g z : List UInt8} (hg : g ≠ z) {p : Pth} (h : p.take 2 = [wGroups, g]) : ¬ pre [wGroups, z] p ∧ p ≠ [wGroups] := by
  constructor
  · intro hp
    have hp : p.take 2 = [wGroups, z] := hp
    rw [h] at hp
    injection hp with _ hp
    injection hp with hp _
    exact hg hp
  · rintro rfl
    have := congrArg List.length h
    simp at this
theorem take_two {p : Pth} {g w : List UInt8} (h : p.take 2 = [wGroups, g]) : (p ++ [w]).take 2 = [wGroups, g] := by
  have hl : 2 ≤ p.length := by
    have := congrArg List.length h
    rw [List.length_take] at this
    simp at this
    omega
  rw [List.take_append_of_le_length hl, h]
theorem Other.paths {t u : List Ln} {z : List UInt8} (h : Other t u z) {g : List UInt8} (hg : g ≠ z) : pathsA u g = pathsA t g := by
  unfold pathsA pathsL
  rw [h.exp, filter_same (act_right h.rightR) (act_right h.leftR) (gB (actL u) g) (gB (actL t) g) fun x => ?_]
  unfold gB
  rw [Bool.and_eq_true, Bool.and_eq_true, Bool.and_eq_true, Bool.and_eq_true, decide_eq_true_eq, decide_eq_true_eq]
  constructor
  all_goals
    rintro ⟨h1, ⟨h2, h3⟩, h4⟩
    obtain ⟨k1, k2⟩ := two_pre hg h3
    have hu := h.under (p := x.1) fun w => two_pre hg (take_two h3)
  · exact ⟨(h.entry k1 k2).1 h1, ⟨h2, h3⟩, by rw [← hu]; exact h4⟩
  · exact ⟨(h.entry k1 k2).2 h1, ⟨h2, h3⟩, by rw [hu]; exact h4⟩
theorem Other.app_ne {t u : List Ln} {z : List UInt8} (h : Other t u z) {g : List UInt8} (hg : g ∈ appL t) : g ≠ z := by
  rintro rfl
  obtain ⟨m, hm, _⟩ := (mem_act h.leftR _).1 (mem_underW.1 hg)
  exact h.app (isIn_entries.2 ⟨m, hm⟩)
theorem flat_congr {α β : Type} {f g : α → List β} : ∀ {l : List α}, (∀ a ∈ l, f a = g a) → l.flatMap f = l.flatMap g
  | [], _ => rfl
  | a :: r, h => by rw [List.flatMap_cons, List.flatMap_cons, h a (List.mem_cons_self ..), flat_congr fun b hb => h b (List.mem_cons_of_mem _ hb)]
theorem any_congr {α : Type} {f g : α → Bool} : ∀ {l : List α}, (∀ a ∈ l, f a = g a) → l.any f = l.any g
  | [], _ => rfl
  | a :: r, h => by rw [List.any_cons, List.any_cons, h a (List.mem_cons_self ..), any_congr fun b hb => h b (List.mem_cons_of_mem _ hb)]
/-- A group that is not applied makes no difference. -/
theorem Other.expand {t u : List Ln} {z : List UInt8} (h : Other t u z) : expandL u = expandL t := by
  have e1 : missB u = missB t := by
    unfold missB
    rw [h.apps]
    refine any_congr fun g hg => ?_
    have hne := h.app_ne hg
    obtain ⟨k1, k2⟩ := two_pre (p := [wGroups, g]) hne rfl
    congr 1
    rw [Bool.eq_iff_iff, inB_yes, inB_yes]
    exact h.act k1 k2
  have e2 : inhL u = inhL t := by
    unfold inhL
    rw [h.apps, h.exp, flat_congr fun g hg => h.paths (h.app_ne hg)]
  unfold expandL
  rw [e1, e2, h.exp]
/-- Of a group that is applied alone all paths that are inherited are there. -/
theorem expand_path {t u : List Ln} (h : RightT t) (e : expandL t = (u, 0)) {g : List UInt8} (hg : g ∈ appL t) {p : Pth} (hp : p ∈ pathsA t g) (hi : inhB (expL t) p = true) : isIn u p := by
  have k := expand_ok h e
  have hf := paths_fit h hp
  refine isIn_entries.2 ⟨0, (k.mem _).2 (.inr ⟨p, ?_, p.length - 1, by have := hf.pos; omega, ?_⟩)⟩
  · exact List.mem_filter.2 ⟨List.mem_flatMap.2 ⟨g, hg, hp⟩, hi⟩
  · rw [show p.length - 1 + 1 = p.length by have := hf.pos; omega, List.take_length]
end Go.Proofs.Ytkifapbiimlafaa.T
