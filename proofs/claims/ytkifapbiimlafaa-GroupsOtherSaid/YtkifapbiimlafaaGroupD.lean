/-
  Layer 12: a tree with one group more that is not applied, put line by line; contracts for GroupsOther. Condition: at most 200 lines.
-/
import Derived.Test.YtkifapbiimlafaaGroupC
namespace Go.Proofs.Ytkifapbiimlafaa.T
set_option linter.unusedVariables false
def zzW : List UInt8 := [122, 122]
/-- The group's lines so far. -/
structure OthAt (t g : List Ln) (i : Nat) (u : List Ln) : Prop where
  right : RightT u
  mem : ∀ x, x ∈ entries u ↔ x ∈ entries t ∨ (x = ([wGroups], (0 : Int)) ∧ ¬ isIn t [wGroups]) ∨ x = ([wGroups, zzW], (0 : Int)) ∨ ∃ j, j < i ∧ x = ([wGroups, zzW] ++ pathL g j, (at_ g j).mark)
  len : u.length ≤ 42 + i
theorem zz_len : wGroups.length ≤ 40 ∧ zzW.length ≤ 40 := by decide
theorem oth_one {t : List Ln} (h : RightT t) (hl : t.length ≤ 40) (hno : ¬ isIn t [wGroups]) : RightN 200 (putL t [] wGroups 0) ∧ (∀ x, x ∈ entries (putL t [] wGroups 0) ↔ x = ([wGroups], (0 : Int)) ∨ x ∈ entries t) :=
  h.putL (p := []) (.inl rfl) (w := wGroups) (m := 0) (fun i hi e => hno ⟨i, hi, e⟩) (by omega) (by decide) zz_len.1 ⟨by omega, by omega⟩
theorem oth_start {t g u : List Ln} (hu : RightN 200 u) (hl : u.length ≤ 41) (hin : isIn u [wGroups]) (hz : ¬ isIn t [wGroups, zzW]) (hm : ∀ x, x ∈ entries u ↔ x ∈ entries t ∨ (x = ([wGroups], (0 : Int)) ∧ ¬ isIn t [wGroups])) : OthAt t g 0 (putL u [wGroups] zzW 0) := by
  have hno : ∀ i, i < u.length → pathL u i ≠ [wGroups] ++ [zzW] := fun i hi e => by
    obtain ⟨m, hx⟩ := isIn_entries.1 ⟨i, hi, e⟩
    rcases (hm _).1 hx with k | ⟨k, _⟩
    · exact hz (isIn_of k)
    · have := congrArg (fun y : Pth × Int => y.1.length) k
      simp at this
  obtain ⟨h1, h2⟩ := hu.putL (p := [wGroups]) (.inr hin) (w := zzW) (m := 0) hno (by omega) (by decide) zz_len.2 ⟨by omega, by omega⟩
  refine ⟨h1, fun x => ?_, by rw [putL_len]; omega⟩
  rw [h2 x, hm x]
  constructor
  · rintro (k | k | k)
    · exact .inr (.inr (.inl k))
    · exact .inl k
    · exact .inr (.inl k)
  · rintro (k | k | k | ⟨j, hj, _⟩)
    · exact .inr (.inl k)
    · exact .inr (.inr k)
    · exact .inl k
    · omega
theorem oth_next {t g u : List Ln} {i : Nat} (s : OthAt t g i u) (ht : RightT t) (hg : RightT g) (hz : ¬ isIn t [wGroups, zzW]) (hi : i < g.length) (hgl : g.length ≤ 40) (hl : ([wGroups, zzW] ++ pathL g i).length ≤ 16) : Open u ([wGroups, zzW] ++ pathL g i).dropLast ∧ OthAt t g (i + 1) (putL u ([wGroups, zzW] ++ pathL g i).dropLast (wd g i) (at_ g i).mark) := by
  have e1 : ([wGroups, zzW] ++ pathL g i) = ([wGroups, zzW] ++ pathI g (underL g i)) ++ [wd g i] := by rw [path_under g i, List.append_assoc]
  have e2 : ([wGroups, zzW] ++ pathL g i).dropLast = [wGroups, zzW] ++ pathI g (underL g i) := by rw [e1, List.dropLast_concat]
  have hul := under_lt g i
  have hop : Open u ([wGroups, zzW] ++ pathI g (underL g i)) := by
    refine .inr ?_
    by_cases h0 : underL g i < 0
    · rw [show underL g i = -1 by omega, pathI_none, List.append_nil]
      exact isIn_entries.2 ⟨0, (s.mem _).2 (.inr (.inr (.inl rfl)))⟩
    · obtain ⟨k, hk⟩ := Int.eq_ofNat_of_zero_le (show 0 ≤ underL g i by omega)
      rw [hk, pathI_nat]
      exact isIn_entries.2 ⟨_, (s.mem _).2 (.inr (.inr (.inr ⟨k, by omega, rfl⟩)))⟩
  have hno : ∀ j, j < u.length → pathL u j ≠ ([wGroups, zzW] ++ pathI g (underL g i)) ++ [wd g i] := fun j hj e => by
    rw [← e1] at e
    obtain ⟨m, hx⟩ := isIn_entries.1 ⟨j, hj, e⟩
    rcases (s.mem _).1 hx with k | ⟨k, _⟩ | k | ⟨q, hq, k⟩
    · exact hz (ht.in_pre (by simp) (isIn_of k) (pre_app _ _))
    · have := congrArg (fun y : Pth × Int => y.1.length) k
      have hp := List.length_pos_iff.2 (path_ne (t := g) (i := i))
      simp at this
    · have := congrArg (fun y : Pth × Int => y.1.length) k
      have hp := List.length_pos_iff.2 (path_ne (t := g) (i := i))
      simp at this
      exact path_ne this
    · have h3 : pathL g i = pathL g q := List.append_cancel_left (congrArg Prod.fst k)
      have := hg.path_inj (i + q) i q (by omega) (by omega) hi (by omega) h3
      omega
  have hdp : ([wGroups, zzW] ++ pathI g (underL g i)).length < 16 := by
    have := hl
    rw [e1, List.length_append (bs := [wd g i]), List.length_singleton] at this
    omega
  obtain ⟨h1, h2⟩ := s.right.putL hop (w := wd g i) (m := (at_ g i).mark) hno (by have := s.len; omega) hdp (hg.long i hi) (hg.mark i hi)
  rw [e2]
  refine ⟨hop, h1, fun x => ?_, by rw [putL_len]; have := s.len; omega⟩
  rw [h2 x, s.mem x, ← e1]
  constructor
  · rintro (k | k | k | k | ⟨q, hq, k⟩)
    · exact .inr (.inr (.inr ⟨i, by omega, k⟩))
    · exact .inl k
    · exact .inr (.inl k)
    · exact .inr (.inr (.inl k))
    · exact .inr (.inr (.inr ⟨q, by omega, k⟩))
  · rintro (k | k | k | ⟨q, hq, k⟩)
    · exact .inr (.inl k)
    · exact .inr (.inr (.inl k))
    · exact .inr (.inr (.inr (.inl k)))
    · by_cases hqi : q = i
      · subst hqi; exact .inl k
      · exact .inr (.inr (.inr (.inr ⟨q, by omega, k⟩)))
theorem oth_done {t g u : List Ln} {i : Nat} (s : OthAt t g i u) (ht : RightT t) (ha : ¬ isIn t [wApply, zzW]) : Other t u zzW := by
  refine ⟨ht, s.right, ha, fun x hx => (s.mem x).2 (.inl hx), fun x hx => ?_⟩
  rcases (s.mem x).1 hx with k | k | k | ⟨j, _, k⟩
  · exact .inl k
  · exact .inr (.inr k)
  · exact .inr (.inl (by rw [k]; exact pre_refl _))
  · exact .inr (.inl (by rw [k]; exact pre_app _ _))
end Go.Proofs.Ytkifapbiimlafaa.T
namespace Go.Proofs.Ytkifapbiimlafaa
open Go.RowKit
set_option linter.unusedVariables false
theorem vecArg12 {w : World} {v : Value} {u : List T.Ln} {n : Nat} (h : VecAt eL w v u) (hn : u.length = n) (hl : n ≤ 200) : ∃ A c, v = .slice A n c ∧ LArg w A c n u := by
  subst hn
  rcases h with ⟨rfl, rfl⟩ | ⟨b, o, c, rfl, h1, h2, h3⟩
  · exact ⟨none, 0, rfl, ⟨rfl, hl, Nat.le_refl _, (fun _ => rfl), Seen.nil⟩⟩
  · exact ⟨_, c, rfl, ⟨rfl, hl, h1, (fun h => by cases h), fun _ => ⟨b, o, rfl, h2, h3⟩⟩⟩
theorem vecOf12 {w : World} {A : Option Addr} {c n : Nat} {t : List T.Ln} (h : LArg w A c n t) : VecE w (.slice A n c) t := by
  have hn := h.len
  subst hn
  exact VecE.of h.seen h.nil h.cap
theorem litVec12 {w : World} {ad : Addr} {l : List (List UInt8)} {n : Nat} (h : Seen eS w (some ad) l) (hn : l.length = n) (h0 : 0 < n) : VecAt eS w (.slice (some ad) n n) l := by
  subst hn
  obtain ⟨b, o, e, hb, hH⟩ := h h0
  injection e with e
  subst e
  exact .inr ⟨b, o, l.length, rfl, Nat.le_refl _, hb, hH⟩
theorem ownTwo12 (w : World) (a b : List UInt8) : Own eS (w.alloc (.cells #[.string (sB a), .string (sB b)] 9)) w.heap.size (.slice (some ⟨w.heap.size, 0, none⟩) 2 2) [a, b] :=
  World.ownsRow_lit (base := w.heap.size) (e := 9) (size := 1) w #[.string (sB a), .string (sB b)] 2 (Nat.le_refl _) (by unfold maxLen; omega) rfl
end Go.Proofs.Ytkifapbiimlafaa
