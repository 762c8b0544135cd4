/-
  Plain laws of layer 5 (parse): a reader's steps that keep whole paths make the document's tree; what follows of a text that is a tree, of two texts one behind the other, of one that is cut off. No conditions but where a law says so.
-/
import Derived.Test.YtkifapbiimlafaaPureS

namespace Go.Proofs.Ytkifapbiimlafaa.S
open T (Ln Pth at_ dp wd RightT pathL pathI underL findI putL entries)
open W (Tok)

/-- What a reader holds that keeps whole paths. -/
structure CSt where
  found : List (Pth × Int)
  path : Pth
  named : Bool
  mark : Int
/-- Is the bit among the marks? -/
def hasBit (m b : Int) : Bool := decide ((b = 1 ∧ m % 2 = 1) ∨ (b = 2 ∧ 1 < m))
def goesOn (s : CSt) (x : Trip) : Bool :=
  if x.1 = 5 then !s.named && !hasBit s.mark x.2.2
  else if x.1 = 1 then !s.named
  else if x.1 = 3 then !s.named && decide (s.mark = 0) && decide (s.path ≠ [])
  else s.named
def hasP (l : List (Pth × Int)) (p : Pth) : Bool := l.any fun f => decide (f.1 = p)
def cname (s : CSt) (w : List UInt8) : CSt ⊕ Int :=
  if 16 < s.path.length + 1 then .inr 6
  else if hasP s.found (s.path ++ [w]) = true then .inr 4
  else if 200 ≤ s.found.length then .inr 5
  else .inl ⟨s.found ++ [(s.path ++ [w], s.mark)], s.path ++ [w], true, 0⟩
def cstep (s : CSt) (x : Trip) : CSt ⊕ Int :=
  if goesOn s x = false then .inr 2
  else if x.1 = 5 then .inl ⟨s.found, s.path, s.named, s.mark + x.2.2⟩
  else if x.1 = 1 then cname s x.2.1
  else if x.1 = 2 then .inl ⟨s.found, s.path, false, s.mark⟩
  else .inl ⟨s.found, s.path.dropLast, false, s.mark⟩
def cinit : CSt := ⟨[], [], false, 0⟩
def cdone (s : CSt) : Bool := !s.named && decide (s.mark = 0) && decide (s.path = [])

structure RelP (p : PSt) (c : CSt) : Prop where
  mem : ∀ x, x ∈ entries p.t ↔ x ∈ c.found
  len : c.found.length = p.t.length
  once : c.found.Pairwise fun a b => a.1 ≠ b.1
  mode : match p.mode with
    | .start => c.named = false ∧ c.mark = 0 ∧ c.path = p.path
    | .marks m => c.named = false ∧ c.mark = m ∧ 0 < m ∧ c.path = p.path
    | .named q => c.named = true ∧ c.mark = 0 ∧ c.path = q ∧ ∃ w, q = p.path ++ [w]
theorem rel_init : RelP init cinit := ⟨fun x => by simp [init, cinit, T.entries], rfl, .nil, ⟨rfl, rfl, rfl⟩⟩

theorem hasP_find {t : List Ln} {f : List (Pth × Int)} (hm : ∀ x, x ∈ entries t ↔ x ∈ f) (p : Pth) : hasP f p = decide (0 ≤ findI t p) := by
  rw [Bool.eq_iff_iff, decide_eq_true_iff]
  unfold hasP
  rw [List.any_eq_true]
  constructor
  · rintro ⟨⟨q, m⟩, hx, he⟩
    have he : q = p := of_decide_eq_true he
    subst he
    obtain ⟨i, hi, hp, _⟩ := (T.mem_entries t q m).1 ((hm _).2 hx)
    rcases T.findI_cases t q with ⟨_, hno⟩ | ⟨k, _, hk, _⟩
    · exact absurd hp (hno i hi)
    · omega
  · intro h
    rcases T.findI_cases t p with ⟨hn, _⟩ | ⟨k, hk, _, hp⟩
    · omega
    · exact ⟨(p, (at_ t k).mark), (hm _).1 ((T.mem_entries t _ _).2 ⟨k, hk, hp, rfl⟩), decide_eq_true rfl⟩

/-- What two steps say of each other. -/
def Both (a : PSt ⊕ Int) (b : CSt ⊕ Int) : Prop := match a, b with | .inl p, .inl c => RelP p c | .inr e, .inr f => e = f | _, _ => False

theorem go_mark {s : CSt} {x : Trip} (h : x.1 = 5) : goesOn s x = (!s.named && !hasBit s.mark x.2.2) := by unfold goesOn; rw [if_pos h]
theorem go_name {s : CSt} {x : Trip} (h : x.1 = 1) : goesOn s x = !s.named := by unfold goesOn; rw [if_neg (by omega), if_pos h]
theorem go_close {s : CSt} {x : Trip} (h : x.1 = 3) : goesOn s x = (!s.named && decide (s.mark = 0) && decide (s.path ≠ [])) := by unfold goesOn; rw [if_neg (by omega), if_neg (by omega), if_pos h]
theorem go_other {s : CSt} {x : Trip} (h : x.1 ≠ 5 ∧ x.1 ≠ 1 ∧ x.1 ≠ 3) : goesOn s x = s.named := by unfold goesOn; rw [if_neg h.1, if_neg h.2.1, if_neg h.2.2]
theorem cstep_no {s : CSt} {x : Trip} (h : goesOn s x = false) : cstep s x = .inr 2 := by unfold cstep; rw [if_pos h]
theorem cstep_mark {s : CSt} {x : Trip} (h : goesOn s x = true) (h5 : x.1 = 5) : cstep s x = .inl ⟨s.found, s.path, s.named, s.mark + x.2.2⟩ := by unfold cstep; rw [if_neg (by rw [h]; decide), if_pos h5]
theorem cstep_name {s : CSt} {x : Trip} (h : goesOn s x = true) (h1 : x.1 = 1) : cstep s x = cname s x.2.1 := by unfold cstep; rw [if_neg (by rw [h]; decide), if_neg (by omega), if_pos h1]
theorem cstep_open {s : CSt} {x : Trip} (h : goesOn s x = true) (h2 : x.1 = 2) : cstep s x = .inl ⟨s.found, s.path, false, s.mark⟩ := by unfold cstep; rw [if_neg (by rw [h]; decide), if_neg (by omega), if_neg (by omega), if_pos h2]
theorem cstep_end {s : CSt} {x : Trip} (h : goesOn s x = true) (h3 : x.1 ≠ 5 ∧ x.1 ≠ 1 ∧ x.1 ≠ 2) : cstep s x = .inl ⟨s.found, s.path.dropLast, false, s.mark⟩ := by unfold cstep; rw [if_neg (by rw [h]; decide), if_neg h3.1, if_neg h3.2.1, if_neg h3.2.2]

theorem name_both {p : PSt} {c : CSt} {m : Int} {path : Pth} {x : Trip} (hi : RightT p.t) (ho : T.Open p.t path) (hd : path.length ≤ 16) (hx : GoodTrip x) (hm03 : 0 ≤ m ∧ m ≤ 3)
    (hmem : ∀ x, x ∈ entries p.t ↔ x ∈ c.found) (hlen : c.found.length = p.t.length) (hon : c.found.Pairwise fun a b => a.1 ≠ b.1) (hn : c.named = false) (hmk : c.mark = m) (hp : c.path = path) (h3 : x.1 = 3 → 0 < m) : Both (nameStep m p.t path x) (cstep c x) := by
  unfold nameStep
  by_cases h5 : x.1 = 5
  · have hg := go_mark (s := c) h5
    rw [hn, hmk] at hg
    rw [if_pos h5]
    unfold hasBit at hg
    by_cases hdup : (x.2.2 = 1 ∧ m % 2 = 1) ∨ (x.2.2 = 2 ∧ 1 < m)
    · rw [decide_eq_true hdup] at hg
      rw [if_pos hdup, cstep_no hg]; rfl
    · rw [decide_eq_false hdup] at hg
      rw [if_neg hdup, cstep_mark hg h5]
      refine ⟨hmem, hlen, hon, hn, by rw [hmk], by have := hx.2 h5; omega, hp⟩
  · rw [if_neg h5]
    by_cases h1 : x.1 = 1
    · have hg := go_name (s := c) h1
      rw [hn] at hg
      rw [if_neg (show ¬ x.1 ≠ 1 by omega), cstep_name hg h1]
      unfold cname
      rw [hp, hmk, hasP_find hmem, hlen]
      by_cases h16 : path.length = 16
      · rw [if_pos h16, if_pos (show 16 < path.length + 1 by omega)]; rfl
      · rw [if_neg h16, if_neg (show ¬ 16 < path.length + 1 by omega)]
        by_cases hf : 0 ≤ findI p.t (path ++ [x.2.1])
        · rw [if_pos hf, if_pos (decide_eq_true hf)]; rfl
        · rw [if_neg hf, decide_eq_false hf, if_neg (show ¬ false = true by decide)]
          have hl := hi.len
          by_cases h200 : p.t.length = 200
          · rw [if_pos h200, if_pos (show 200 ≤ p.t.length by omega)]; rfl
          · rw [if_neg h200, if_neg (show ¬ 200 ≤ p.t.length by omega)]
            have hnew : ∀ i, i < p.t.length → pathL p.t i ≠ path ++ [x.2.1] := by
              rcases T.findI_cases p.t (path ++ [x.2.1]) with ⟨_, hno⟩ | ⟨i, _, hi, _⟩
              · exact hno
              · omega
            obtain ⟨_, r2⟩ := hi.putL ho (m := m) hnew (by omega) (by omega) (hx.1 h1) hm03
            refine ⟨fun y => ?_, ?_, ?_, rfl, rfl, rfl, ⟨_, rfl⟩⟩
            · show y ∈ entries (putL p.t path x.2.1 m) ↔ _
              rw [r2 y, List.mem_append, List.mem_singleton, hmem y]
              exact Or.comm
            · show (c.found ++ _).length = (putL p.t path x.2.1 m).length
              rw [T.putL_len, List.length_append, hlen]; rfl
            · refine List.pairwise_append.2 ⟨hon, List.pairwise_singleton _ _, fun a ha b hb e => ?_⟩
              rw [List.mem_singleton] at hb
              subst hb
              obtain ⟨i, hi2, hp2, _⟩ := (T.mem_entries p.t a.1 a.2).1 ((hmem a).2 ha)
              exact hnew i hi2 (by rw [hp2, e])
    · rw [if_pos h1]
      by_cases h3' : x.1 = 3
      · have hg := go_close (s := c) h3'
        rw [hn, hmk, decide_eq_false (show ¬ m = 0 by have := h3 h3'; omega)] at hg
        rw [cstep_no hg]; rfl
      · rw [cstep_no (by rw [go_other ⟨h5, h1, h3'⟩, hn])]; rfl
theorem step_both {p : PSt} {c : CSt} {x : Trip} (hi : PInv p) (h : RelP p c) (hx : GoodTrip x) (hk : 1 ≤ x.1 ∧ x.1 ≤ 5) : Both (pstep p x) (cstep c x) := by
  obtain ⟨mode, t, path⟩ := p
  obtain ⟨hr, ho, hd, hm⟩ := hi
  obtain ⟨hmem, hlen, hon, hmd⟩ := h
  simp only at hr ho hd hm hmem hlen hmd
  unfold pstep
  cases mode with
  | start =>
    obtain ⟨c1, c2, c3⟩ := hmd
    simp only
    by_cases h3 : x.1 = 3
    · rw [if_pos h3]
      have hg := go_close (s := c) h3
      rw [c1, c2, c3] at hg
      by_cases hp : path = []
      · rw [if_pos hp, cstep_no (by rw [hg]; simp [hp])]; rfl
      · rw [if_neg hp, cstep_end (by rw [hg]; simp [hp]) (by omega), c2]
        exact ⟨hmem, hlen, hon, rfl, rfl, by rw [c3]⟩
    · rw [if_neg h3]
      exact name_both (p := ⟨.start, t, path⟩) hr ho hd hx (by omega) hmem hlen hon c1 c2 c3 (fun h => absurd h h3)
  | marks m =>
    obtain ⟨c1, c2, c0, c3⟩ := hmd
    exact name_both (p := ⟨.marks m, t, path⟩) hr ho hd hx hm hmem hlen hon c1 c2 c3 (fun _ => c0)
  | named q =>
    obtain ⟨c1, c2, c3, w, c4⟩ := hmd
    simp only
    by_cases h2 : x.1 = 2
    · rw [if_pos h2, cstep_open (by rw [go_other (by omega), c1]) h2, c2]
      exact ⟨hmem, hlen, hon, rfl, rfl, c3⟩
    · rw [if_neg h2]
      by_cases h4 : x.1 = 4
      · rw [if_pos h4, cstep_end (by rw [go_other (by omega), c1]) (by omega), c2]
        exact ⟨hmem, hlen, hon, rfl, rfl, by rw [c3, c4, List.dropLast_concat]⟩
      · rw [if_neg h4]
        have hg : goesOn c x = false := by
          by_cases h5 : x.1 = 5
          · rw [go_mark h5, c1]; rfl
          · by_cases h1 : x.1 = 1
            · rw [go_name h1, c1]; rfl
            · rw [go_close (by omega), c1]; rfl
        rw [cstep_no hg]; rfl
theorem end_both {p : PSt} {c : CSt} (h : RelP p c) (n : Nat) : pend n p = if cdone c = true then .ok p.t else .bad n 2 := by
  obtain ⟨mode, t, path⟩ := p
  obtain ⟨hmem, hlen, hon, hmd⟩ := h
  simp only at hmd
  unfold pend cdone
  cases mode with
  | start =>
    obtain ⟨c1, c2, c3⟩ := hmd
    rw [c1, c2, c3]
    by_cases hp : path = [] <;> simp [hp]
  | marks m =>
    obtain ⟨c1, c2, c0, c3⟩ := hmd
    show PRes.bad n 2 = _
    rw [c1, c2, decide_eq_false (show ¬ m = 0 by omega)]; rfl
  | named q =>
    obtain ⟨c1, c2, c3, c4⟩ := hmd
    show PRes.bad n 2 = _
    rw [c1]; rfl
theorem kind_tok {t : Tok} (h : W.GoodTok t) : 1 ≤ (strip t).1 ∧ (strip t).1 ≤ 5 := by
  show 1 ≤ t.kind ∧ t.kind ≤ 5
  rcases h with ⟨h1, _⟩ | ⟨h1, _⟩ | ⟨h1, _⟩ <;> omega
/-- The lines of what was found, in order. -/
theorem found_tree {p : PSt} {c : CSt} (hi : PInv p) (h : RelP p c) {l : List (Pth × Int)} (hs : T.Sorted l) (hm : ∀ x, x ∈ l ↔ x ∈ c.found) : T.ofP l = p.t := by
  rw [show l = entries p.t from hs.ext hi.right.sorted fun x => by rw [hm x, h.mem x]]
  exact hi.right.ofP_entries
end Go.Proofs.Ytkifapbiimlafaa.S

namespace Go.Proofs.Ytkifapbiimlafaa.S
open T (Ln Pth at_ dp wd RightT pathL pathI underL findI putL entries)
open W (Tok)

/-! places -/
theorem pos_lt {l : List UInt8} {a : List Tok} (h : W.lexL 0 l = .ok a) : ∀ t ∈ a, t.pos < l.length := by
  have hr := W.rising_of l l 0 a rfl h
  have key : ∀ (b : List Tok) (p : Nat), W.Rising l p b → ∀ t ∈ b, t.pos < l.length := by
    intro b
    induction b with
    | nil => intro p _ t ht; cases ht
    | cons x b ih =>
      intro p hb t ht
      obtain ⟨_, ⟨c, hc, _⟩, hrest⟩ := hb
      rcases List.mem_cons.1 ht with rfl | ht
      · exact (List.getElem?_eq_some_iff.1 hc).1
      · exact ih _ hrest t ht
  exact key a 0 hr
theorem pstep_err {s : PSt} {x : Trip} {e : Int} (h : pstep s x = .inr e) : e = 2 ∨ e = 4 ∨ e = 5 ∨ e = 6 := by
  unfold pstep nameStep at h
  cases hm : s.mode with
  | start => rw [hm] at h; simp only at h; (repeat' split at h) <;> first | (injection h with h; omega) | cases h
  | marks m => rw [hm] at h; simp only at h; (repeat' split at h) <;> first | (injection h with h; omega) | cases h
  | named p => rw [hm] at h; simp only at h; (repeat' split at h) <;> first | (injection h with h; omega) | cases h
theorem parse_bad (n : Nat) : ∀ (l : List Tok) (s : PSt) (q : Nat) (e : Int), (∀ t ∈ l, t.pos < n) → parseT n s l = .bad q e → q ≤ n ∧ (e = 2 ∨ e = 4 ∨ e = 5 ∨ e = 6)
  | [], s, q, e, _, h => by
    unfold parseT pend at h
    cases hm : s.mode with
    | start => rw [hm] at h; simp only at h; (split at h) <;> first | (injection h with h1 h2; omega) | cases h
    | marks m => rw [hm] at h; simp only at h; injection h with h1 h2; omega
    | named p => rw [hm] at h; simp only at h; injection h with h1 h2; omega
  | x :: l, s, q, e, hp, h => by
    unfold parseT at h
    cases hs : pstep s (strip x) with
    | inl s2 => rw [hs] at h; exact parse_bad n l s2 q e (fun t ht => hp t (by simp [ht])) h
    | inr er =>
      rw [hs] at h
      injection h with h1 h2
      have := hp x (by simp)
      subst h1; subst h2
      exact ⟨by omega, pstep_err hs⟩
theorem parseL_bad {l : List UInt8} {q : Nat} {e : Int} (h : parseL l = .bad q e) : q ≤ l.length ∧ e ≠ 0 := by
  unfold parseL at h
  cases hx : W.lexL 0 l with
  | bad p e2 =>
    rw [hx] at h
    injection h with h1 h2
    have := W.bad_lt l 0 p e2 hx
    subst h1; subst h2
    exact ⟨by omega, this.2.2⟩
  | ok a =>
    rw [hx] at h
    have := parse_bad l.length a init q e (pos_lt hx) h
    exact ⟨this.1, by omega⟩

/-! counts -/
def cntK (k : Int) (l : List Tok) : Nat := (l.filter fun t => decide (t.kind = k)).length
def one (a b : Int) : Nat := if a = b then 1 else 0
theorem one_yes {a b : Int} (h : a = b) : one a b = 1 := if_pos h
theorem one_no {a b : Int} (h : a ≠ b) : one a b = 0 := if_neg h
theorem cnt_cons (k : Int) (x : Tok) (l : List Tok) : cntK k (x :: l) = one x.kind k + cntK k l := by
  unfold cntK one
  by_cases h : x.kind = k
  · rw [List.filter_cons_of_pos (by simp [h]), if_pos h, List.length_cons]; omega
  · rw [List.filter_cons_of_neg (by simp [h]), if_neg h]; omega
theorem cnt_snoc (k : Int) (x : Tok) (l : List Tok) : cntK k (l ++ [x]) = cntK k l + one x.kind k := by
  unfold cntK one
  rw [List.filter_append, List.length_append]
  by_cases h : x.kind = k <;> simp [h]
theorem cnt_len (k : Int) (l : List Tok) : cntK k l ≤ l.length := List.length_filter_le _ _
def Namd (s : PSt) : Prop := match s.mode with | .named p => ∃ w, p = s.path ++ [w] | _ => True
theorem count_name {m : Int} {t : List Ln} {path : Pth} {x : Trip} {s' : PSt} (h : nameStep m t path x = .inl s') : Namd s' ∧ x.1 ≠ 2 ∧ x.1 ≠ 3 ∧ s'.t.length = t.length + one x.1 1 ∧ s'.path = path := by
  unfold nameStep at h
  by_cases h5 : x.1 = 5
  · rw [if_pos h5] at h
    split at h
    · cases h
    · injection h with h; subst h
      exact ⟨trivial, by omega, by omega, by rw [one_no (by omega)]; rfl, rfl⟩
  · rw [if_neg h5] at h
    by_cases h1 : x.1 = 1
    · rw [if_neg (show ¬ x.1 ≠ 1 by omega)] at h
      (repeat' split at h) <;> first | (injection h with h; subst h; exact ⟨⟨_, rfl⟩, by omega, by omega, by rw [one_yes h1]; exact T.putL_len _ _ _ _, rfl⟩) | cases h
    · rw [if_pos h1] at h; cases h
theorem count_step {s s' : PSt} {x : Trip} (hn : Namd s) (h : pstep s x = .inl s') :
    Namd s' ∧ s'.t.length = s.t.length + one x.1 1 ∧ s'.path.length + one x.1 3 = s.path.length + one x.1 2 := by
  obtain ⟨mode, t, path⟩ := s
  unfold pstep at h
  cases mode with
  | start =>
    simp only at h
    by_cases h3 : x.1 = 3
    · rw [if_pos h3] at h
      by_cases hp : path = []
      · rw [if_pos hp] at h; cases h
      · rw [if_neg hp] at h
        injection h with h; subst h
        have := List.length_pos_iff.2 hp
        refine ⟨trivial, by rw [one_no (by omega)]; rfl, ?_⟩
        rw [one_yes h3, one_no (by omega)]
        show path.dropLast.length + 1 = path.length + 0
        rw [List.length_dropLast]; omega
    · rw [if_neg h3] at h
      obtain ⟨a1, a2, a3, a4, a5⟩ := count_name h
      refine ⟨a1, a4, by rw [one_no a2, one_no a3, a5]⟩
  | marks m =>
    obtain ⟨a1, a2, a3, a4, a5⟩ := count_name h
    refine ⟨a1, a4, by rw [one_no a2, one_no a3, a5]⟩
  | named p =>
    simp only at h
    obtain ⟨w, hw⟩ := hn
    by_cases h2 : x.1 = 2
    · rw [if_pos h2] at h; injection h with h; subst h
      refine ⟨trivial, by rw [one_no (by omega)]; rfl, ?_⟩
      rw [one_no (by omega), one_yes h2]
      show p.length + 0 = path.length + 1
      rw [hw, List.length_append]; rfl
    · rw [if_neg h2] at h
      by_cases h4 : x.1 = 4
      · rw [if_pos h4] at h; injection h with h; subst h
        refine ⟨trivial, by rw [one_no (by omega)]; rfl, by rw [one_no (by omega), one_no (by omega)]⟩
      · rw [if_neg h4] at h; cases h
theorem parse_counts (n : Nat) : ∀ (l : List Tok) (s : PSt) (t : List Ln), Namd s → parseT n s l = .ok t → t.length = s.t.length + cntK 1 l ∧ s.path.length + cntK 2 l = cntK 3 l
  | [], s, t, _, h => by
    unfold parseT pend at h
    cases hm : s.mode with
    | start =>
      rw [hm] at h; simp only at h
      split at h
      · rename_i hp; injection h with h; subst h; exact ⟨rfl, by rw [hp]; rfl⟩
      · cases h
    | marks m => rw [hm] at h; cases h
    | named p => rw [hm] at h; cases h
  | x :: l, s, t, hn, h => by
    unfold parseT at h
    cases hs : pstep s (strip x) with
    | inl s2 =>
      rw [hs] at h
      obtain ⟨a1, a2, a3⟩ := count_step hn hs
      obtain ⟨b1, b2⟩ := parse_counts n l s2 t a1 h
      rw [cnt_cons, cnt_cons, cnt_cons]
      simp only [strip] at a2 a3
      exact ⟨by omega, by omega⟩
    | inr er => rw [hs] at h; cases h
/-- A text that is a tree has as many names as that has lines, and as many ends of parts as beginnings. -/
theorem parseL_counts {l : List UInt8} {t : List Ln} (h : parseL l = .ok t) : ∃ a, W.lexL 0 l = .ok a ∧ cntK 1 a = t.length ∧ cntK 2 a = cntK 3 a := by
  unfold parseL at h
  cases hx : W.lexL 0 l with
  | bad p e => rw [hx] at h; cases h
  | ok a =>
    rw [hx] at h
    have := parse_counts l.length a init t trivial h
    refine ⟨a, rfl, ?_, ?_⟩
    · have := this.1; simp only [init, List.length_nil] at this; omega
    · have := this.2; simp only [init, List.length_nil] at this; omega

end Go.Proofs.Ytkifapbiimlafaa.S
