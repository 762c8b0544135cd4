/-
  A list without what stands twice in a row (sqT); sorted paths, squeezed, are all paths of three trees in order; what a loop over them keeps of the paths above. No conditions.
-/
import Derived.Test.YtfajfjocpgbmeaaPureK
namespace Go.Proofs.Ytfajfjocpgbmeaa.T
set_option linter.unusedVariables false

section
variable {α : Type} [DecidableEq α]
/-- One more, but for what stands there already. -/
def sqA (l : List α) (x : α) : List α := if l.getLast? = some x then l else l ++ [x]
/-- A list, without what stands twice in a row. -/
def sqT (l : List α) : List α := l.foldl sqA []
theorem sqT_snoc (l : List α) (x : α) : sqT (l ++ [x]) = sqA (sqT l) x := by unfold sqT; rw [List.foldl_append]; rfl
theorem sqA_last (l : List α) (x : α) : (sqA l x).getLast? = some x := by
  unfold sqA; split
  · assumption
  · simp
theorem snoc_cases {β : Type} : ∀ l : List β, l = [] ∨ ∃ q x, l = q ++ [x]
  | [] => .inl rfl
  | a :: l => .inr ⟨(a :: l).dropLast, (a :: l).getLast (List.cons_ne_nil _ _), (List.dropLast_concat_getLast _).symm⟩
theorem sqT_last (l : List α) : (sqT l).getLast? = l.getLast? := by
  rcases snoc_cases l with rfl | ⟨q, x, rfl⟩
  · rfl
  · rw [sqT_snoc, sqA_last]; simp
theorem mem_sqA {l : List α} {x y : α} : y ∈ sqA l x ↔ y ∈ l ∨ y = x := by
  unfold sqA; split
  · rename_i h
    constructor
    · exact .inl
    · rintro (h2 | rfl)
      · exact h2
      · exact List.mem_of_getLast? h
  · simp
theorem mem_sqT_aux (x : α) : ∀ (l m : List α), x ∈ l.foldl sqA m ↔ x ∈ m ∨ x ∈ l
  | [], m => by simp
  | a :: l, m => by rw [List.foldl_cons, mem_sqT_aux x l, mem_sqA]; simp [or_assoc]
theorem mem_sqT (x : α) (l : List α) : x ∈ sqT l ↔ x ∈ l := by unfold sqT; rw [mem_sqT_aux]; simp
theorem sqT_next (l : List α) {k : Nat} (hk : k < l.length) (h0 : 0 < k) : sqT (l.take (k + 1)) = if l[k - 1] = l[k] then sqT (l.take k) else sqT (l.take k) ++ [l[k]] := by
  rw [List.take_succ_eq_append_getElem hk, sqT_snoc]
  unfold sqA
  rw [sqT_last]
  have e : (l.take k).getLast? = some (l[k - 1]'(by omega)) := by
    rw [List.getLast?_eq_getElem?, List.length_take, Nat.min_eq_left (by omega), List.getElem?_take_of_lt (by omega), List.getElem?_eq_getElem]
  rw [e]
  simp only [Option.some.injEq]
theorem sqT_one (l : List α) (h : 0 < l.length) : sqT (l.take 1) = l.take 1 := by
  obtain ⟨x, r, rfl⟩ : ∃ x r, l = x :: r := by cases l with | nil => simp at h | cons x r => exact ⟨x, r, rfl⟩
  simp [sqT, sqA]
theorem sqT_short (l : List α) (h : l.length < 2) : sqT l = l := by
  match l, h with
  | [], _ => rfl
  | [x], _ => simp [sqT, sqA]
theorem sqT_le (l : List α) : (sqT l).length ≤ l.length := by
  have : ∀ (l m : List α), (l.foldl sqA m).length ≤ m.length + l.length := by
    intro l
    induction l with
    | nil => intro m; simp
    | cons a l ih =>
      intro m
      rw [List.foldl_cons, List.length_cons]
      refine Nat.le_trans (ih _) ?_
      have : (sqA m a).length ≤ m.length + 1 := by
        unfold sqA; split
        · omega
        · simp
      omega
  have h := this l []
  rw [List.length_nil, Nat.zero_add] at h
  exact h
end

/-- Paths, none of which stands ahead of an elder one. -/
def RiseP (l : List Pth) : Prop := l.Pairwise fun x y => pless y x = false
theorem RiseP.left {a b : List Pth} (h : RiseP (a ++ b)) : RiseP a := (List.pairwise_append.1 h).1
theorem asc_last {l : List Pth} (h : Asc l) {z : Pth} (hz : l.getLast? = some z) : ∀ y ∈ l, y = z ∨ pless y z = true := by
  rcases snoc_cases l with rfl | ⟨q, x, rfl⟩
  · simp at hz
  · rw [List.getLast?_concat] at hz
    injection hz with hz
    subst hz
    intro y hy
    rcases List.mem_append.1 hy with hy | hy
    · exact .inr ((List.pairwise_append.1 h).2.2 y hy x (by simp))
    · exact .inl (List.mem_singleton.1 hy)
theorem RiseP.sq {l : List Pth} : RiseP l → Asc (sqT l) := by
  suffices ∀ n (l : List Pth), l.length = n → RiseP l → Asc (sqT l) from this _ l rfl
  intro n
  induction n with
  | zero => intro l hl _; rw [List.eq_nil_of_length_eq_zero hl]; exact List.Pairwise.nil
  | succ n ih =>
    intro l hl h
    rcases snoc_cases l with rfl | ⟨q, x, rfl⟩
    · exact List.Pairwise.nil
    · have hq := ih q (by simpa using hl) h.left
      rw [sqT_snoc]
      unfold sqA
      split
      · exact hq
      · rename_i hne
        refine List.pairwise_append.2 ⟨hq, List.pairwise_singleton _ _, fun a ha b hb => ?_⟩
        obtain rfl := List.mem_singleton.1 hb
        have hup : ∀ y ∈ q, pless b y = false := fun y hy => (List.pairwise_append.1 h).2.2 y hy b (by simp)
        have haq : a ∈ q := (mem_sqT a q).1 ha
        rcases pless_tri a b with h1 | h1 | h1
        · exact h1
        · -- the last one is at least as far on
          exfalso
          obtain ⟨z, hz⟩ : ∃ z, (sqT q).getLast? = some z := by
            rcases snoc_cases (sqT q) with e | ⟨r, z, e⟩
            · rw [e] at ha; cases ha
            · exact ⟨z, by rw [e]; simp⟩
          have hzq : z ∈ q := (mem_sqT z q).1 (List.mem_of_getLast? hz)
          rcases asc_last hq hz a ha with h2 | h2
          · exact hne (by rw [hz, ← h2, h1])
          · rw [h1] at h2; rw [hup z hzq] at h2; cases h2
        · rw [hup a haq] at h1; cases h1
/-- The paths of three trees, sorted and squeezed. -/
theorem sq_all {b m t : List Ln} {l : List Pth} (h : RiseP l) (hp : l.Perm (pathsL b ++ pathsL m ++ pathsL t)) : sqT l = allP b m t := by
  refine Asc.ext h.sq (asc_all b m t) fun x => ?_
  rw [mem_sqT, hp.mem_iff, mem_all, List.mem_append, List.mem_append, mem_paths, mem_paths, mem_paths, or_assoc]

theorem all_closed {b m t : List Ln} (hb : RightT b) (hm : RightT m) (ht : RightT t) {p : Pth} (h : p ∈ allP b m t) (hd : p.dropLast ≠ []) : p.dropLast ∈ allP b m t := by
  rw [mem_all] at h ⊢
  rcases h with h | h | h
  · exact .inl (drop_in hb h hd)
  · exact .inr (.inl (drop_in hm h hd))
  · exact .inr (.inr (drop_in ht h hd))
theorem all_good {b m t : List Ln} (hb : RightT b) (hm : RightT m) (ht : RightT t) {p : Pth} (h : p ∈ allP b m t) : p ≠ [] ∧ p.length ≤ 16 ∧ (p.getLastD []).length ≤ 40 := by
  have one : ∀ {s : List Ln}, RightT s → isIn s p → p ≠ [] ∧ p.length ≤ 16 ∧ (p.getLastD []).length ≤ 40 := by
    intro s hs hi
    rw [← mem_paths] at hi
    obtain ⟨x, hx, rfl⟩ := List.mem_map.1 hi
    exact ⟨hs.good.ne x hx, hs.good.deep x hx, hs.good.long x hx⟩
  rw [mem_all] at h
  rcases h with h | h | h
  · exact one hb h
  · exact one hm h
  · exact one ht h
/-- A path of as many words, between one and what goes on from it: there is none. -/
theorem between_none {x y q : Pth} (h1 : pless x y = true) (h2 : pless y q = true) (hx : pre x q) (hl : y.length = x.length) : False := by
  obtain ⟨r, rfl⟩ : ∃ r, q = x ++ r := ⟨q.drop x.length, by have h := List.take_append_drop x.length q; rw [show q.take x.length = x from hx] at h; exact h.symm⟩
  by_cases h : ∃ s, y = x ++ s
  · obtain ⟨s, rfl⟩ := h
    rw [List.length_append] at hl
    rw [List.eq_nil_of_length_eq_zero (show s.length = 0 by omega), List.append_nil, pless_irr] at h1
    cases h1
  · have h3 := pless_off x y r h1 h
    rw [pless_asymm h2] at h3; cases h3

/-- What is known, ahead of the path at i, of how the newest path of each Depth is decided: f says it. -/
def NewestIs (b m t : List Ln) (L : List Pth) (i : Nat) (f : Nat → Int) : Prop := ∀ x ∈ L.take i, ∀ q ∈ L.drop i, pre x q → f (x.length - 1) = decO b m t x
theorem newest_none (b m t : List Ln) (L : List Pth) (f : Nat → Int) : NewestIs b m t L 0 f := fun x hx => by rw [List.take_zero] at hx; cases hx
theorem newest_next {b m t : List Ln} {L : List Pth} {i : Nat} {f g : Nat → Int} (hL : Asc L) (hne : ∀ p ∈ L, p ≠ []) (hi : i < L.length) {P : Pth} {q : Nat} {r : Int} (hP : L[i] = P) (hq : P.length = q + 1) (hr : decO b m t P = r) (h : NewestIs b m t L i f) (hg : ∀ d, g d = if d = q then r else f d) : NewestIs b m t L (i + 1) g := by
  intro x hx y hy hxy
  rw [List.take_succ_eq_append_getElem hi, List.mem_append, List.mem_singleton, hP] at hx
  have hy2 : y ∈ L.drop i := by rw [← List.getElem_cons_drop hi]; exact List.mem_cons_of_mem _ hy
  have hxL : x ∈ L := by
    rcases hx with hx | rfl
    · exact List.mem_of_mem_take hx
    · rw [← hP]; exact List.getElem_mem hi
  have hx0 : 0 < x.length := List.length_pos_iff.2 (hne x hxL)
  rw [hg]
  by_cases e : x.length - 1 = q
  · rw [if_pos e]
    rcases hx with hx | rfl
    · exfalso
      have hsplit : L = L.take i ++ L[i] :: L.drop (i + 1) := by rw [List.getElem_cons_drop, List.take_append_drop]
      rw [hP] at hsplit
      have hA : Asc (L.take i ++ P :: L.drop (i + 1)) := by rw [← hsplit]; exact hL
      have h2 := List.pairwise_append.1 hA
      have h3 : pless x P = true := h2.2.2 x hx P (by simp)
      have h4 : pless P y = true := (List.pairwise_cons.1 h2.2.1).1 y hy
      exact between_none h3 h4 hxy (by omega)
    · exact hr.symm
  · rw [if_neg e]
    rcases hx with hx | rfl
    · exact h x hx y hy2 hxy
    · omega
theorem newest_at {b m t : List Ln} {L : List Pth} (hL : L = allP b m t) (hb : RightT b) (hm : RightT m) (ht : RightT t) {i : Nat} (hi : i < L.length) {P : Pth} {q : Nat} {f : Nat → Int} (hP : L[i] = P) (hq : P.length = q + 1) (h0 : 0 < q) (h : NewestIs b m t L i f) : f (q - 1) = decO b m t P.dropLast := by
  have hlen : P.dropLast.length = q := by rw [List.length_dropLast, hq]; omega
  have hd : P.dropLast ≠ [] := fun e => by rw [e] at hlen; simp at hlen; omega
  have hmem : P.dropLast ∈ L := by
    rw [hL]; refine all_closed hb hm ht ?_ hd
    rw [← hL, ← hP]; exact List.getElem_mem hi
  have hpre : pre P.dropLast P := by unfold pre; rw [hlen, List.dropLast_eq_take, hq]; rfl
  have hA : Asc L := by rw [hL]; exact asc_all b m t
  have hsplit : L = L.take i ++ L.drop i := (List.take_append_drop i L).symm
  have hin : P.dropLast ∈ L.take i := by
    rw [hsplit, List.mem_append] at hmem
    rcases hmem with h1 | h1
    · exact h1
    · exfalso
      rw [← List.getElem_cons_drop hi, hP, List.mem_cons] at h1
      have hPne : P ≠ [] := fun e => by rw [e] at hq; simp at hq
      have hlt : pless P.dropLast P = true := by
        have h2 := pless_more P.dropLast [P.getLast hPne] (List.cons_ne_nil _ _)
        rwa [List.dropLast_concat_getLast hPne] at h2
      rcases h1 with h1 | h1
      · rw [h1, pless_irr] at hlt; cases hlt
      · have hA2 : Asc (L.take i ++ P :: L.drop (i + 1)) := by rw [← hP, List.getElem_cons_drop, List.take_append_drop]; exact hA
        have h4 := (List.pairwise_cons.1 (List.pairwise_append.1 hA2).2.1).1 _ h1
        rw [pless_asymm h4] at hlt; cases hlt
  have := h P.dropLast hin P (by rw [← List.getElem_cons_drop hi, hP]; exact List.mem_cons_self) hpre
  rw [← this, hlen]

/-- The lines of the paths that are decided as there, and don't conflict. -/
def outTo (b m t : List Ln) (l : List Pth) : List Ln := (l.filter fun p => thereB b m t p && !badB b m t p).map fun p => lnOf (p, decO b m t p)
theorem outTo_next (b m t : List Ln) (l : List Pth) (p : Pth) : outTo b m t (l ++ [p]) = outTo b m t l ++ if (thereB b m t p && !badB b m t p) = true then [lnOf (p, decO b m t p)] else [] := by
  unfold outTo
  rw [List.filter_append, List.map_append, filter_one]
  split <;> rfl
theorem outTo_le (b m t : List Ln) (l : List Pth) : (outTo b m t l).length ≤ l.length := by unfold outTo; rw [List.length_map]; exact List.length_filter_le _ _
theorem outTo_all {b m t : List Ln} (h : confL b m t = []) : outTo b m t (allP b m t) = ofP (decE b m t) := by
  have e : (allP b m t).filter (fun p => thereB b m t p && !badB b m t p) = (allP b m t).filter (thereB b m t) := by
    refine List.filter_congr fun p hp => ?_
    have hb : badB b m t p = false := by
      cases hc : badB b m t p with
      | false => rfl
      | true =>
        have : p ∈ confL b m t := List.mem_filter.2 ⟨hp, hc⟩
        rw [h] at this; cases this
    rw [hb]; simp
  unfold outTo ofP decE
  rw [e, List.map_map]; rfl
end Go.Proofs.Ytfajfjocpgbmeaa.T
