/-
  Plain laws for layer 12: the active tree, and what is explicit in it: trees again. No conditions.
-/
import Derived.Test.YtkifapbiimlafaaPureQ
namespace Go.Proofs.Ytkifapbiimlafaa.T
set_option linter.unusedVariables false

theorem sorted_pair (l : List (Pth × Int)) : Sorted l ↔ l.Pairwise fun a b => pless a.1 b.1 = true := by
  constructor
  · intro h
    exact List.pairwise_iff_getElem.2 fun i j hi hj hij => h i j hj hij
  · intro h i k hk hik
    exact List.pairwise_iff_getElem.1 h i k (by omega) hk hik
/-- Some of a good list's paths, with the beginnings of each, and other marks: a good list. -/
theorem GoodP.some {N : Nat} {l : List (Pth × Int)} (h : GoodP N l) (f : Pth × Int → Bool) (g : Pth × Int → Int) (hg : ∀ x ∈ l, 0 ≤ g x ∧ g x ≤ 3) (hc : ∀ x ∈ l, f x = true → ∀ y ∈ l, pre y.1 x.1 → f y = true) : GoodP N ((l.filter f).map fun x => (x.1, g x)) := by
  have back : ∀ x ∈ (l.filter f).map (fun x => (x.1, g x)), ∃ y ∈ l, f y = true ∧ x = (y.1, g y) := fun x hx => by
    obtain ⟨y, hy, e⟩ := List.mem_map.1 hx
    obtain ⟨h1, h2⟩ := List.mem_filter.1 hy
    exact ⟨y, h1, h2, e.symm⟩
  refine ⟨?_, ?_, fun x hx => ?_, fun x hx => ?_, fun x hx => ?_, fun x hx => ?_, fun x hx q w e hq => ?_⟩
  · rw [List.length_map]; exact Nat.le_trans (List.length_filter_le _ _) h.len
  · rw [sorted_pair, List.pairwise_map]
    exact ((sorted_pair l).1 h.sorted).filter _
  · obtain ⟨y, hy, _, rfl⟩ := back x hx; exact h.ne y hy
  · obtain ⟨y, hy, _, rfl⟩ := back x hx; exact h.deep y hy
  · obtain ⟨y, hy, _, rfl⟩ := back x hx; exact h.long y hy
  · obtain ⟨y, hy, _, rfl⟩ := back x hx; exact hg y hy
  · obtain ⟨y, hy, hf, rfl⟩ := back x hx
    obtain ⟨m, hm⟩ := h.closed y hy q w e hq
    have hp : pre q y.1 := by rw [show y.1 = q ++ [w] from e]; exact pre_app _ _
    exact ⟨g (q, m), List.mem_map.2 ⟨(q, m), List.mem_filter.2 ⟨hm, hc y hy hf (q, m) hm hp⟩, rfl⟩⟩
/-- No beginning of a path is inactive. -/
def onB (t : List Ln) (x : Pth × Int) : Bool := (entries t).all fun y => !(decide (pre y.1 x.1) && decide (y.2 % 2 = 1))
theorem on_iff (t : List Ln) (x : Pth × Int) : onB t x = true ↔ ∀ y ∈ entries t, pre y.1 x.1 → y.2 % 2 ≠ 1 := by
  unfold onB
  rw [List.all_eq_true]
  constructor
  · intro h y hy hp h2
    have := h y hy
    rw [decide_eq_true hp, decide_eq_true h2] at this
    cases this
  · intro h y hy
    by_cases hp : pre y.1 x.1
    · rw [decide_eq_false (h y hy hp), Bool.and_false]; rfl
    · rw [decide_eq_false hp]; rfl
/-- The active tree. -/
def actE (t : List Ln) : List (Pth × Int) := ((entries t).filter (onB t)).map fun x => (x.1, 0)
def actL (t : List Ln) : List Ln := ofP (actE t)
theorem act_good {N : Nat} {t : List Ln} (h : RightN N t) : GoodP N (actE t) :=
  h.good.some (onB t) (fun _ => 0) (fun x hx => ⟨by omega, by omega⟩) fun x hx hf y hy hp => by
    rw [on_iff] at hf ⊢
    exact fun z hz hz2 => hf z hz (pre_trans hz2 hp)
theorem act_right {N : Nat} {t : List Ln} (h : RightN N t) : RightN N (actL t) := (act_good h).right
theorem act_entries {N : Nat} {t : List Ln} (h : RightN N t) : entries (actL t) = actE t := (act_good h).entries
theorem act_zero {N : Nat} {t : List Ln} (h : RightN N t) {x : Pth × Int} (hx : x ∈ entries (actL t)) : x.2 = 0 := by
  rw [act_entries h] at hx
  obtain ⟨y, _, rfl⟩ := List.mem_map.1 hx; rfl
theorem mem_act {N : Nat} {t : List Ln} (h : RightN N t) (p : Pth) : isIn (actL t) p ↔ ∃ m, (p, m) ∈ entries t ∧ ∀ y ∈ entries t, pre y.1 p → y.2 % 2 ≠ 1 := by
  rw [isIn_entries, act_entries h]
  constructor
  · rintro ⟨m, hm⟩
    obtain ⟨y, hy, e⟩ := List.mem_map.1 hm
    obtain ⟨h1, h2⟩ := List.mem_filter.1 hy
    injection e with e1 e2
    subst e1
    exact ⟨y.2, h1, (on_iff t y).1 h2⟩
  · rintro ⟨m, hm, h2⟩
    exact ⟨0, List.mem_map.2 ⟨(p, m), List.mem_filter.2 ⟨hm, (on_iff t (p, m)).2 h2⟩, rfl⟩⟩
/-- A tree without marks is active as it is. -/
theorem act_plain {N : Nat} {t : List Ln} (h : RightN N t) (hz : ∀ x ∈ entries t, x.2 = 0) : actL t = t := by
  refine (act_right h).ext h fun x => ?_
  rw [act_entries h]
  constructor
  · intro hx
    obtain ⟨y, hy, rfl⟩ := List.mem_map.1 hx
    have hy2 := (List.mem_filter.1 hy).1
    have := hz y hy2
    rw [← this]; exact hy2
  · intro hx
    have h0 := hz x hx
    refine List.mem_map.2 ⟨x, List.mem_filter.2 ⟨hx, (on_iff t x).2 fun y hy _ => ?_⟩, ?_⟩
    · rw [hz y hy]; decide
    · rw [← h0]
def wGroups : List UInt8 := [103, 114, 111, 117, 112, 115]
def wApply : List UInt8 := [97, 112, 112, 108, 121]
/-- Is a path's first word neither groups nor apply? -/
def ownB (p : Pth) : Bool := !decide (p.head? = some wGroups) && !decide (p.head? = some wApply)
/-- What is explicit. -/
def expE (t : List Ln) : List (Pth × Int) := ((entries (actL t)).filter fun x => ownB x.1).map fun x => (x.1, x.2)
def expL (t : List Ln) : List Ln := ofP (expE t)
theorem own_pre {p q : Pth} (h : pre p q) (hp : p ≠ []) : ownB p = ownB q := by
  obtain ⟨s, rfl⟩ := pre_iff.1 h
  cases p with
  | nil => exact absurd rfl hp
  | cons a r => rfl
theorem exp_good {N : Nat} {t : List Ln} (h : RightN N t) : GoodP N (expE t) :=
  (act_right h).good.some (fun x => ownB x.1) (fun x => x.2) (fun x hx => (act_right h).good.mark x hx) fun x hx hf y hy hp => by
    show ownB y.1 = true
    rw [own_pre hp ((act_right h).good.ne y hy)]; exact hf
theorem exp_right {N : Nat} {t : List Ln} (h : RightN N t) : RightN N (expL t) := (exp_good h).right
theorem exp_entries {N : Nat} {t : List Ln} (h : RightN N t) (x : Pth × Int) : x ∈ entries (expL t) ↔ x ∈ entries (actL t) ∧ ownB x.1 = true := by
  rw [show entries (expL t) = expE t from (exp_good h).entries]
  unfold expE
  rw [List.mem_map]
  constructor
  · rintro ⟨y, hy, rfl⟩
    exact List.mem_filter.1 hy
  · rintro ⟨h1, h2⟩
    exact ⟨x, List.mem_filter.2 ⟨h1, h2⟩, rfl⟩
theorem exp_zero {N : Nat} {t : List Ln} (h : RightN N t) {x : Pth × Int} (hx : x ∈ entries (expL t)) : x.2 = 0 := act_zero h ((exp_entries h x).1 hx).1
/-- A tree without marks, groups and apply is explicit as it is. -/
theorem exp_plain {N : Nat} {t : List Ln} (h : RightN N t) (hz : ∀ x ∈ entries t, x.2 = 0) (ho : ∀ x ∈ entries t, ownB x.1 = true) : expL t = t := by
  refine (exp_right h).ext h fun x => ?_
  rw [exp_entries h, act_plain h hz]
  exact ⟨fun k => k.1, fun k => ⟨k, ho x k⟩⟩
/-- The active tree's active tree is itself; so is what is explicit in it. -/
theorem act_twice {N : Nat} {t : List Ln} (h : RightN N t) : actL (actL t) = actL t := act_plain (act_right h) fun x hx => act_zero h hx
theorem exp_act {N : Nat} {t : List Ln} (h : RightN N t) : expL (actL t) = expL t := by
  refine (exp_right (act_right h)).ext (exp_right h) fun x => ?_
  rw [exp_entries (act_right h), exp_entries h, act_twice h]
end Go.Proofs.Ytkifapbiimlafaa.T
