/-
  Layer 12: what stays, and what is new, in an expanded tree; contracts for GroupsStay. Condition: at most 200 lines.
-/
import Derived.Test.YtkifapbiimlafaaGroupB
namespace Go.Proofs.Ytkifapbiimlafaa.T
set_option linter.unusedVariables false
theorem stay_in {t u : List Ln} (k : AllIn (expL t) (inhL t) u) {p : Pth} (h : isIn (expL t) p) : isIn u p := by
  obtain ⟨m, hm⟩ := isIn_entries.1 h
  exact isIn_entries.2 ⟨m, (k.mem _).2 (.inl hm)⟩
theorem stay_len {t u : List Ln} (h : RightT t) (k : AllIn (expL t) (inhL t) u) : (expL t).length ≤ u.length := fewer (exp_right h) k.right fun p hp => stay_in k hp
theorem mark_zero {u : List Ln} (hz : ∀ x ∈ entries u, x.2 = 0) {i : Nat} (hi : i < u.length) : (at_ u i).mark = 0 := hz (pathL u i, (at_ u i).mark) (List.mem_map.2 ⟨i, List.mem_range.2 hi, rfl⟩)
theorem line_of {N M : Nat} {x u : List Ln} (hx : RightN N x) (hu : RightN M u) {i k : Nat} (hi : i < x.length) (hk : k < u.length) (e : pathL u k = pathL x i) : dp u k = dp x i ∧ wd u k = wd x i := by
  have h1 := hx.path_len i i (Nat.le_refl _) hi
  have h2 := hu.path_len k k (Nat.le_refl _) hk
  rw [e] at h2
  refine ⟨by omega, ?_⟩
  have h3 : (pathL u k).getLastD [] = (pathL x i).getLastD [] := by rw [e]
  rw [path_under u k, path_under x i, last_snoc, last_snoc] at h3
  exact h3
theorem stay_new {t u : List Ln} (h : RightT t) (k : AllIn (expL t) (inhL t) u) {j : Nat} (hj : j < u.length) : isIn (expL t) (pathL u j) ∨ ∃ q ∈ (appL t).flatMap (pathsA t), (pathL u j).length ≤ q.length ∧ q.take (pathL u j).length = pathL u j := by
  rcases (k.mem (pathL u j, (at_ u j).mark)).1 (List.mem_map.2 ⟨j, List.mem_range.2 hj, rfl⟩) with h1 | ⟨p, hp, i, hi, e⟩
  · exact .inl (isIn_of h1)
  · refine .inr ⟨p, (List.mem_filter.1 hp).1, ?_⟩
    have e : pathL u j = p.take (i + 1) := congrArg Prod.fst e
    rw [e, List.length_take, Nat.min_eq_left (by omega)]
    exact ⟨by omega, rfl⟩
def allTo (t : List Ln) (i : Nat) : List Pth := ((appL t).take i).flatMap (pathsA t)
theorem allTo_next {t : List Ln} {i : Nat} (hi : i < (appL t).length) : allTo t (i + 1) = allTo t i ++ pathsA t (appL t)[i] := by
  unfold allTo
  rw [List.take_succ_eq_append_getElem hi, List.flatMap_append]
  simp
theorem allTo_all (t : List Ln) : allTo t (appL t).length = (appL t).flatMap (pathsA t) := by unfold allTo; rw [List.take_length]
theorem allTo_len {t : List Ln} (h : RightT t) (i : Nat) : (allTo t i).length ≤ 8040000 := by
  have h1 := flat_len (pathsA t) (fun _ => 40200) ((appL t).take i) fun g _ => paths_len h g
  rw [sum_const] at h1
  have h2 : ((appL t).take i).length ≤ 200 := by
    rw [List.length_take]
    exact Nat.le_trans (Nat.min_le_right _ _) (Nat.le_trans (underW_len (act_right h) _) (act_right h).len)
  have h3 := Nat.mul_le_mul_right 40200 h2
  unfold allTo
  omega
theorem all_fit {t : List Ln} (h : RightT t) {p : Pth} (hp : p ∈ (appL t).flatMap (pathsA t)) : FitP p := by
  obtain ⟨g, _, hg⟩ := List.mem_flatMap.1 hp
  exact paths_fit h hg
/-- Where every group that is applied is there. -/
theorem expand_apps {t u : List Ln} (h : RightT t) (e : expandL t = (u, 0)) : ∀ g ∈ appL t, inB (actL t) [wGroups, g] = true := by
  intro g hg
  rcases expand_cases h with ⟨e2, _⟩ | ⟨_, hm⟩ | ⟨_, _, hm, _⟩
  · rw [e2] at e
    have e3 : (3 : Int) = 0 := congrArg Prod.snd e
    exact absurd e3 (by decide)
  all_goals
    cases hq : inB (actL t) [wGroups, g] with
    | true => rfl
    | false =>
      have : missB t = true := by
        unfold missB
        exact List.any_eq_true.2 ⟨g, hg, by rw [hq]; rfl⟩
      rw [hm] at this; cases this
theorem app_long {t : List Ln} (h : RightT t) {g : List UInt8} (hg : g ∈ appL t) : g.length ≤ 100 := by
  have := underW_word (act_right h) hg
  omega
end Go.Proofs.Ytkifapbiimlafaa.T
namespace Go.Proofs.Ytkifapbiimlafaa
open Go.RowKit
set_option linter.unusedVariables false
theorem pathC12 (A : Option Addr) (c n : Nat) (t : List T.Ln) (i : Nat) (p : T.Pth) (m : Nat) (w : World) (hn : t.length = n) (hA : Seen eL w A t) (hl : n ≤ 1073741824) (hi : i < n) (hR : T.RightT t) (hp : T.pathL t i = p) (hm : p.length = m) :
    Calls Try.prog 25 #[.slice A n c, .int .i64 i] w (fun e w' => ∃ B d, e = .returned (.tuple #[.slice B m d, .int .i64 0]) ∧ m ≤ d ∧ Seen eS w' B p ∧ Below w.heap.size w w') := by
  subst hn; subst hp; subst hm
  refine (Path_new A c t i w hA hl hi hR).mono ?_
  rintro e w1 ⟨B, d, rfl, h1, h2, _, h3⟩
  exact ⟨B, d, rfl, h1, h2, h3⟩
theorem equal12 (A B : Option Addr) (c d n m : Nat) (l1 l2 : T.Pth) (r : Bool) (w : World) (hn : l1.length = n) (hm : l2.length = m) (hl : n ≤ 1073741824) (hA : Seen eS w A l1) (hB : Seen eS w B l2) (hr : decide (l1 = l2) = r) :
    Calls Try.prog 28 #[.slice A n c, .slice B m d] w (BoolS w r) := by
  subst hn; subst hm; subst hr; exact equal_any A B c d l1 l2 w hl hA hB
theorem lineBox3 (w : World) (d : Int) (s : List UInt8) (m : Int) : (w.heap.size < (w.alloc (.cells #[.int .i64 d, .string (sB s), .int .i64 m] 40)).heap.size) ∧ (w.alloc (.cells #[.int .i64 d, .string (sB s), .int .i64 m] 40)).cell? ⟨w.heap.size, 0, none⟩ = some (.int .i64 d) ∧ (w.alloc (.cells #[.int .i64 d, .string (sB s), .int .i64 m] 40)).cell? ⟨w.heap.size, 1, none⟩ = some (.string (sB s)) ∧ (w.alloc (.cells #[.int .i64 d, .string (sB s), .int .i64 m] 40)).cell? ⟨w.heap.size, 2, none⟩ = some (.int .i64 m) :=
  ⟨by simp, World.cell?_alloc_mark w #[.int .i64 d, .string (sB s), .int .i64 m] 40 (0, 0) 0, World.cell?_alloc_mark w #[.int .i64 d, .string (sB s), .int .i64 m] 40 (0, 0) 1, World.cell?_alloc_mark w #[.int .i64 d, .string (sB s), .int .i64 m] 40 (0, 0) 2⟩
theorem below_drawn12 {B : Nat} {a w : World} (h : Below B a w) (q : Nat) : Below B a (w.drewN q) := ⟨h.os, h.tape, h.output, h.size, h.block⟩
theorem findAny12 (A B : Option Addr) (c d n m : Nat) (t : List T.Ln) (p : T.Pth) (w : World) (hn : t.length = n) (hm : p.length = m) (hA : Seen eL w A t) (hB : Seen eS w B p) (hl : n ≤ 1073741824) (hp : m ≤ 1073741824) (hR : T.RightT t) :
    Calls Try.prog 26 #[.slice A n c, .slice B m d] w (fun e w' => ∃ (i : Int) (b : Bool), e = .returned (.tuple #[.int .i64 i, .bool b]) ∧ (b = true ↔ T.isIn t p) ∧ Below w.heap.size w w') := by
  by_cases h : T.isIn t p
  · refine (findYes12 A B c d n m t p w hn hm hA hB hl hp hR h).mono ?_
    rintro e w1 ⟨i, rfl, _, hb⟩
    exact ⟨i, true, rfl, yes_iff h, hb⟩
  · refine (findNo12 A B c d n m t p w hn hm hA hB hl hp hR h).mono ?_
    rintro e w1 ⟨rfl, hb⟩
    exact ⟨0, false, rfl, no_iff h, hb⟩
end Go.Proofs.Ytkifapbiimlafaa
