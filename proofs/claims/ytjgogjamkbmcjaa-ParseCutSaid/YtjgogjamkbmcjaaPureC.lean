/-
  Plain laws of layer 5: a tree's text that is cut off. No conditions but where a law says so.
-/
import Derived.Test.YtjgogjamkbmcjaaPureP

namespace Go.Proofs.Ytjgogjamkbmcjaa.W

theorem quoted_cut : ∀ (l : List UInt8) (m n : Nat), quotedRun l = some m → quotedRun (l.take n) = if m ≤ n then some m else none
  | [], m, n, h => by simp [quotedRun] at h
  | [c], m, n, h => by
    simp only [quotedRun] at h
    split at h
    · rename_i hc
      injection h with h; subst h
      cases n with
      | zero => simp [quotedRun]
      | succ n => simp [quotedRun, hc]
    · cases h
  | c :: d :: l, m, n, h => by
    simp only [quotedRun] at h
    cases n with
    | zero =>
      have := quotedRun_le (c :: d :: l) m (by simp only [quotedRun]; exact h)
      rw [if_neg (by omega)]; rfl
    | succ n =>
      rw [List.take_succ_cons]
      split at h
      · rename_i hc
        injection h with h; subst h
        rw [quotedRun_hit _ _ hc, if_pos (by omega)]
      · rename_i hc
        split at h
        · rename_i h92
          rw [quotedRun_back _ _ h92]
          cases hs : quotedRun l with
          | none => rw [hs] at h; cases h
          | some k =>
            rw [hs] at h
            simp only [Option.map_some, Option.some.injEq] at h
            subst h
            cases n with
            | zero => rw [if_neg (by omega)]; rfl
            | succ n =>
              rw [List.take_succ_cons, List.drop_succ_cons, List.drop_zero, quoted_cut l k n hs]
              by_cases hk : k ≤ n
              · rw [if_pos hk, if_pos (by omega)]; rfl
              · rw [if_neg hk, if_neg (by omega)]; rfl
        · rename_i h92
          rw [quotedRun_plain _ _ hc h92]
          cases hs : quotedRun (d :: l) with
          | none => rw [hs] at h; cases h
          | some k =>
            rw [hs] at h
            simp only [Option.map_some, Option.some.injEq] at h
            subst h
            rw [quoted_cut (d :: l) k n hs]
            by_cases hk : k ≤ n
            · rw [if_pos hk, if_pos (by omega)]; rfl
            · rw [if_neg hk, if_neg (by omega)]; rfl
theorem star_cut : ∀ (l : List UInt8) (m n : Nat), starEnd l = some m → starEnd (l.take n) = if m ≤ n then some m else none
  | [], m, n, h => by simp [starEnd] at h
  | [_], m, n, h => by simp [starEnd] at h
  | c :: d :: l, m, n, h => by
    have hle := starEnd_le (c :: d :: l) m h
    simp only [starEnd] at h
    match n with
    | 0 => rw [if_neg (by omega)]; rfl
    | 1 => rw [if_neg (by omega)]; rfl
    | n + 2 =>
      rw [List.take_succ_cons, List.take_succ_cons]
      simp only [starEnd]
      split at h
      · rename_i hc
        injection h with h; subst h
        rw [if_pos hc, if_pos (by omega)]
      · rename_i hc
        rw [if_neg hc]
        cases hs : starEnd (d :: l) with
        | none => rw [hs] at h; cases h
        | some k =>
          rw [hs] at h
          simp only [Option.map_some, Option.some.injEq] at h
          subst h
          have ih := star_cut (d :: l) k (n + 1) hs
          rw [List.take_succ_cons] at ih
          rw [ih]
          by_cases hk : k ≤ n + 1
          · rw [if_pos hk, if_pos (by omega)]; rfl
          · rw [if_neg hk, if_neg (by omega)]; rfl
theorem run_take (p : UInt8 → Bool) : ∀ (l : List UInt8) (n : Nat), ((l.take n).takeWhile p).length = min n (l.takeWhile p).length
  | [], n => by simp
  | c :: l, 0 => by simp
  | c :: l, n + 1 => by
    rw [List.take_succ_cons, List.takeWhile_cons, List.takeWhile_cons]
    cases p c with
    | true => simp only [if_true, List.length_cons]; rw [run_take p l n]; omega
    | false => simp
/-- The word at the front, of what is cut off. -/
theorem scan_cut {l : List UInt8} {m n : Nat} (hn : 0 < n) (h : scanD l = some m) : scanD (l.take n) = if m ≤ n then some m else if (l.headD 0).toNat = 34 then none else some n := by
  match l, h with
  | c :: r, h =>
    obtain ⟨n, rfl⟩ : ∃ k, n = k + 1 := ⟨n - 1, by omega⟩
    simp only [scanD] at h
    rw [List.take_succ_cons]
    simp only [scanD]
    show _ = if m ≤ n + 1 then some m else if c.toNat = 34 then none else some (n + 1)
    split at h
    · rename_i hc
      rw [if_pos hc, if_pos hc]
      cases hs : quotedRun r with
      | none => rw [hs] at h; cases h
      | some k =>
        rw [hs] at h
        simp only [Option.map_some, Option.some.injEq] at h
        subst h
        rw [quoted_cut r k n hs]
        by_cases hk : k ≤ n
        · rw [if_pos hk, if_pos (by omega)]; rfl
        · rw [if_neg hk, if_neg (by omega)]; rfl
    · rename_i hc
      rw [if_neg hc, if_neg hc]
      have e : plainRun (c :: r.take n) = min (n + 1) (plainRun (c :: r)) := by
        have := run_take plainB (c :: r) (n + 1)
        rwa [List.take_succ_cons] at this
      split at h
      · cases h
      · rename_i hp
        injection h with h
        rw [e, if_neg (by omega), h]
        by_cases hk : m ≤ n + 1
        · rw [if_pos hk, Nat.min_eq_right hk]
        · rw [if_neg hk, Nat.min_eq_left (by omega)]
/-- What a step over a text that is cut off may be. -/
def CutStep (st : Step) (n : Nat) : Prop := (∃ k w b, st = .tok k w b n ∧ (k = 1 ∨ k = 5)) ∨ (∃ e, st = .bad e) ∨ st = .skip n
theorem take_cut {l : List UInt8} {k : Int} {w : List UInt8} {b : Int} {m n : Nat} (hn : 0 < n) (h : takeD l = .tok k w b m) : (m ≤ n → takeD (l.take n) = .tok k w b m) ∧ (n < m → CutStep (takeD (l.take n)) n) := by
  have hd : (l.take n).headD 0 = l.headD 0 := by
    cases l with
    | nil => simp
    | cons c r => obtain ⟨n, rfl⟩ : ∃ k, n = k + 1 := ⟨n - 1, by omega⟩; rfl
  unfold takeD at h
  by_cases hs : signK (l.headD 0) ≠ 0
  · rw [if_pos hs] at h
    injection h with h1 h2 h3 h4
    subst h1; subst h2; subst h3; subst h4
    refine ⟨fun _ => ?_, fun h => by omega⟩
    unfold takeD; rw [hd, if_pos hs]
  · rw [if_neg hs] at h
    cases hsc : scanD l with
    | none => rw [hsc] at h; cases h
    | some m' =>
      rw [hsc] at h
      have hmm : m' = m := by
        simp only at h
        split at h
        · injection h
        · split at h
          · cases h
          · injection h
      subst hmm
      have hc := scan_cut hn hsc
      refine ⟨fun hle => ?_, fun hlt => ?_⟩
      · rw [if_pos hle] at hc
        unfold takeD
        rw [hd, if_neg hs, hc]
        simp only
        rw [List.take_take, Nat.min_eq_left hle]
        exact h
      · rw [if_neg (by omega)] at hc
        unfold takeD
        rw [hd, if_neg hs, hc]
        by_cases h34 : (l.headD 0).toNat = 34
        · rw [if_pos h34]; exact .inr (.inl ⟨_, rfl⟩)
        · rw [if_neg h34]
          simp only
          split
          · exact .inl ⟨_, _, _, rfl, .inr rfl⟩
          · split
            · exact .inr (.inl ⟨_, rfl⟩)
            · exact .inl ⟨_, _, _, rfl, .inl rfl⟩
theorem pre2_cut {l : List UInt8} {n : Nat} (h : Lib.hasPrefix l [47, 42] = false) : Lib.hasPrefix (l.take n) [47, 42] = false := by
  match l, n with
  | [], n => rw [List.take_nil]; rfl
  | c :: r, 0 => rfl
  | [c], n + 1 => rw [List.take_succ_cons, List.take_nil]; exact h
  | c :: d :: r, 1 => rw [List.take_succ_cons, List.take_zero]; cases hc : (c == 47) <;> simp [Lib.hasPrefix, List.isPrefixOf]
  | c :: d :: r, n + 2 =>
    rw [List.take_succ_cons, List.take_succ_cons]
    simpa [Lib.hasPrefix, List.isPrefixOf] using h
theorem gap_cut {l : List UInt8} {m n : Nat} (hn : 0 < n) (hl : l ≠ []) (h : gapO l = some m) : (m = 0 → gapO (l.take n) = some 0) ∧ (0 < m → m ≤ n → gapO (l.take n) = some m) ∧ (n < m → CutStep (stepD (l.take n)) n) := by
  match l, hl with
  | c :: r, _ =>
    obtain ⟨n, rfl⟩ : ∃ k, n = k + 1 := ⟨n - 1, by omega⟩
    simp only [gapO] at h
    rw [List.take_succ_cons]
    by_cases hb : blankB c = true
    · rw [if_pos hb] at h; injection h with h; subst h
      refine ⟨fun h => by omega, fun _ _ => by simp only [gapO]; rw [if_pos hb], fun h => by omega⟩
    · rw [if_neg hb] at h
      by_cases h35 : c.toNat = 35
      · rw [if_pos h35] at h; injection h with h
        have e : lineRun (c :: r.take n) = min (n + 1) (lineRun (c :: r)) := by
          have := run_take lineB (c :: r) (n + 1)
          rwa [List.take_succ_cons] at this
        have hp : 0 < m := by
          rw [← h]; unfold lineRun
          rw [List.takeWhile_cons, if_pos (show lineB c = true by unfold lineB; simp [h35])]; simp
        have e2 : gapO (c :: r.take n) = some (min (n + 1) m) := by simp only [gapO]; rw [if_neg hb, if_pos h35, e, h]
        refine ⟨fun h => by omega, fun _ hle => by rw [e2, Nat.min_eq_right hle], fun hlt => ?_⟩
        refine .inr (.inr ?_)
        unfold stepD
        rw [e2, Nat.min_eq_left (by omega)]
      · rw [if_neg h35] at h
        by_cases hp : Lib.hasPrefix (c :: r) [47, 42] = true
        · rw [if_pos hp] at h
          cases hs : starEnd (r.drop 1) with
          | none => rw [hs] at h; cases h
          | some k =>
            rw [hs] at h
            simp only [Option.map_some, Option.some.injEq] at h
            have hk := starEnd_le _ k hs
            match r, hp, hs, hk with
            | d :: r, hp, hs, hk =>
              rw [List.drop_succ_cons, List.drop_zero] at hs
              have hcd : 47 = c ∧ 42 = d := by simpa [Lib.hasPrefix, List.isPrefixOf] using hp
              obtain ⟨rfl, rfl⟩ := hcd
              refine ⟨fun h => by omega, fun _ hle => ?_, fun hlt => ?_⟩
              · obtain ⟨n, rfl⟩ : ∃ j, n = j + 1 := ⟨n - 1, by omega⟩
                have hx := star_cut r k n hs
                rw [if_pos (by omega)] at hx
                rw [List.take_succ_cons]
                simp only [gapO]
                rw [if_neg hb, if_neg h35, if_pos (by simp [Lib.hasPrefix, List.isPrefixOf]), List.drop_succ_cons, List.drop_zero, hx]
                simp only [Option.map_some]; rw [h]
              · match n, hlt with
                | 0, _ => exact .inl ⟨1, [47], 0, by rw [List.take_zero]; rfl, .inl rfl⟩
                | n + 1, hlt =>
                  have hx := star_cut r k n hs
                  rw [if_neg (by omega)] at hx
                  rw [List.take_succ_cons]
                  refine .inr (.inl ⟨2, ?_⟩)
                  unfold stepD
                  simp only [gapO]
                  rw [if_neg hb, if_neg h35, if_pos (by simp [Lib.hasPrefix, List.isPrefixOf]), List.drop_succ_cons, List.drop_zero, hx]
                  rfl
        · have hp2 : Lib.hasPrefix (c :: r) [47, 42] = false := by simpa using hp
          rw [if_neg hp] at h; injection h with h; subst h
          have hx := pre2_cut (n := n + 1) hp2
          rw [List.take_succ_cons] at hx
          refine ⟨fun _ => by simp only [gapO]; rw [if_neg hb, if_neg h35, if_neg (by rw [hx]; decide)], fun h => by omega, fun h => by omega⟩
/-- The tokens of a text that is cut off: those ahead, perhaps a part of one, or none. -/
theorem lex_cut (l : List UInt8) : ∀ (p : Nat) (a : List Tok), lexL p l = .ok a → ∀ n, ∃ j, lexL p (l.take n) = .ok (a.take j) ∨ (∃ x, (x.kind = 1 ∨ x.kind = 5) ∧ lexL p (l.take n) = .ok (a.take j ++ [x])) ∨ ∃ q e, lexL p (l.take n) = .bad q e := by
  have low : ∀ (p n : Nat) (l : List UInt8) (a : List Tok), l.take n ≠ [] → n ≤ l.length → CutStep (stepD (l.take n)) n → ∃ j, lexL p (l.take n) = .ok (a.take j) ∨ (∃ x, (x.kind = 1 ∨ x.kind = 5) ∧ lexL p (l.take n) = .ok (a.take j ++ [x])) ∨ ∃ q e, lexL p (l.take n) = .bad q e := by
    intro p n l a hne hle hc
    have hlen : (l.take n).drop n = [] := List.drop_eq_nil_of_le (by rw [List.length_take]; omega)
    rcases hc with ⟨k, w, b, hs, hk⟩ | ⟨e, hs⟩ | hs
    · refine ⟨0, .inr (.inl ⟨⟨k, p, w, b⟩, hk, ?_⟩)⟩
      rw [lexL_tok p hne hs, hlen, lexL_nil]; rfl
    · exact ⟨0, .inr (.inr ⟨_, _, lexL_bad p hne hs⟩)⟩
    · refine ⟨0, .inl ?_⟩
      rw [lexL_skip p hne hs, hlen, lexL_nil]; rfl
  have zero : ∀ (p : Nat) (l : List UInt8) (a : List Tok), ∃ j, lexL p (l.take 0) = .ok (a.take j) ∨ (∃ x, (x.kind = 1 ∨ x.kind = 5) ∧ lexL p (l.take 0) = .ok (a.take j ++ [x])) ∨ ∃ q e, lexL p (l.take 0) = .bad q e := fun p l a => ⟨0, .inl (by rw [List.take_zero, List.take_zero, lexL_nil])⟩
  induction l using step_ind with
  | h0 => intro p a h n; rw [lexL_nil] at h; injection h with h; subst h; exact ⟨0, .inl (by rw [List.take_nil, lexL_nil]; rfl)⟩
  | hs l m hl hst ih =>
    intro p a h n
    have hsk := stepD_skip hst
    rw [lexL_skip p hl hst] at h
    by_cases h0 : n = 0
    · subst h0; exact zero p l a
    · have hne : l.take n ≠ [] := by
        cases l with
        | nil => exact absurd rfl hl
        | cons c r => obtain ⟨k, rfl⟩ : ∃ k, n = k + 1 := ⟨n - 1, by omega⟩; rw [List.take_succ_cons]; simp
      obtain ⟨_, g2, g3⟩ := gap_cut (n := n) (by omega) hl hsk.2.2
      by_cases hm : m ≤ n
      · have hst2 : stepD (l.take n) = .skip m := by
          unfold stepD
          rw [g2 (by omega) hm]
          obtain ⟨m, rfl⟩ : ∃ k, m = k + 1 := ⟨m - 1, by omega⟩
          rfl
        rw [lexL_skip p hne hst2, List.drop_take]
        exact ih _ a h (n - m)
      · exact low p n l a hne (by omega) (g3 (by omega))
  | ht l k w b m hl hst ih =>
    intro p a h n
    have htk := stepD_tok hl hst
    rw [lexL_tok p hl hst] at h
    by_cases h0 : n = 0
    · subst h0; exact zero p l a
    · have hne : l.take n ≠ [] := by
        cases l with
        | nil => exact absurd rfl hl
        | cons c r => obtain ⟨k, rfl⟩ : ∃ k, n = k + 1 := ⟨n - 1, by omega⟩; rw [List.take_succ_cons]; simp
      obtain ⟨g1, _, _⟩ := gap_cut (n := n) (by omega) hl htk.2.2.1
      obtain ⟨t1, t2⟩ := take_cut (n := n) (by omega) htk.2.2.2
      have hst2 : stepD (l.take n) = takeD (l.take n) := by unfold stepD; rw [g1 rfl]
      by_cases hm : m ≤ n
      · rw [t1 hm] at hst2
        rw [lexL_tok p hne hst2, List.drop_take]
        cases hr : lexL (p + m) (l.drop m) with
        | bad q e => rw [hr] at h; cases h
        | ok c =>
          rw [hr] at h
          injection h with h
          subst h
          obtain ⟨j, hj⟩ := ih _ c hr (n - m)
          refine ⟨j + 1, ?_⟩
          rcases hj with hj | ⟨x, hx, hj⟩ | ⟨q, e, hj⟩
          · exact .inl (by rw [hj]; rfl)
          · exact .inr (.inl ⟨x, hx, by rw [hj]; rfl⟩)
          · exact .inr (.inr ⟨q, e, by rw [hj]; rfl⟩)
      · exact low p n l a hne (by omega) (by rw [hst2]; exact t2 (by omega))
  | hb l e hl hst => intro p a h n; rw [lexL_bad p hl hst] at h; cases h
end Go.Proofs.Ytjgogjamkbmcjaa.W

namespace Go.Proofs.Ytjgogjamkbmcjaa.S
open T (Ln Pth at_ dp wd RightT pathL pathI underL findI putL entries)
open W (Tok)

theorem parse_runs (n : Nat) : ∀ (l : List Tok) (s : PSt) (t : List Ln), parseT n s l = .ok t → runS s (l.map strip) = some ⟨.start, t, []⟩
  | [], s, t, h => by
    unfold parseT pend at h
    obtain ⟨mode, u, path⟩ := s
    cases mode with
    | start =>
      simp only at h
      by_cases hp : path = []
      · rw [if_pos hp] at h; injection h with h; subst h; subst hp; rfl
      · rw [if_neg hp] at h; cases h
    | marks m => cases h
    | named p => cases h
  | x :: l, s, t, h => by
    unfold parseT at h
    simp only [List.map_cons, runS]
    cases hs : pstep s (strip x) with
    | inl s2 => rw [hs] at h; exact parse_runs n l s2 t h
    | inr er => rw [hs] at h; cases h
/-- Behind a mark or a name nothing may end. -/
theorem step_open {s s' : PSt} {x : Trip} (hx : x.1 = 1 ∨ x.1 = 5) (h : pstep s x = .inl s') : s'.mode ≠ .start := by
  have hn : ∀ (m : Int) (t : List Ln) (p : Pth), nameStep m t p x = .inl s' → s'.mode ≠ .start := by
    intro m t p h
    unfold nameStep at h
    (repeat' split at h) <;> first | (injection h with h; subst h; intro e; cases e) | cases h
  unfold pstep at h
  cases hm : s.mode with
  | start => rw [hm] at h; simp only at h; rw [if_neg (by omega)] at h; exact hn _ _ _ h
  | marks m => rw [hm] at h; exact hn _ _ _ h
  | named p => rw [hm] at h; simp only at h; rw [if_neg (by omega), if_neg (by omega)] at h; cases h
theorem run_open {s s' : PSt} {a : List Trip} {x : Trip} (hx : x.1 = 1 ∨ x.1 = 5) (h : runS s (a ++ [x]) = some s') : s'.mode ≠ .start := by
  rw [runS_app] at h
  cases hr : runS s a with
  | none => rw [hr] at h; cases h
  | some s2 =>
    rw [hr] at h
    simp only [Option.bind_some, runS] at h
    cases hp : pstep s2 x with
    | inl s3 => rw [hp] at h; simp only [Option.some.injEq] at h; subst h; exact step_open hx hp
    | inr e => rw [hp] at h; cases h
theorem run_head {t : List Ln} (h : RightT t) {k : Nat} (hk : k < t.length) (l : List Trip) : runS ⟨.start, t.take k, upTo t k⟩ (markK (at_ t k).mark ++ (1, wd t k, 0) :: l) = runS ⟨.named (upTo t k ++ [wd t k]), t.take (k + 1), upTo t k⟩ l := by
  obtain ⟨hnew, hput⟩ := put_next h hk
  have hul := upTo_len h hk
  have hd := h.deep k hk
  have hlen := h.len
  rw [run_marks (h.mark k hk) _ rfl]
  have hname : nameStep (at_ t k).mark (t.take k) (upTo t k) ((1, wd t k, 0) : Trip) = .inl ⟨.named (upTo t k ++ [wd t k]), t.take (k + 1), upTo t k⟩ := by
    unfold nameStep
    rw [if_neg (show ¬ ((1 : Int) = 5) by decide), if_neg (show ¬ ((1 : Int) ≠ 1) by decide), if_neg (by omega)]
    simp only
    rw [T.findI_none hnew, if_neg (by decide), take_len (by omega), if_neg (by omega), hput]
  rw [hname]
theorem marks_kind (m : Int) : ∀ x ∈ markK m, x.1 = 5 := by
  intro x hx
  unfold markK at hx
  rcases List.mem_append.1 hx with h | h
  · split at h
    · simp at h; rw [h]
    · cases h
  · split at h
    · simp at h; rw [h]
    · cases h
/-- Of a row that is cut off. -/
theorem cut_row {t : List Ln} (h : RightT t) {k : Nat} (hk : k < t.length) {j : Nat} (hj : j < (toksRow t k).length) {u : List Ln} (hr : runS ⟨.start, t.take k, upTo t k⟩ ((toksRow t k).take j) = some ⟨.start, u, []⟩) : ∃ m, m ≤ t.length ∧ u = t.take m ∧ (m = t.length ∨ dp t m = 0) := by
  have hul := upTo_len h hk
  have hmk := marks_kind (at_ t k).mark
  by_cases h0 : j = 0
  · subst h0
    rw [List.take_zero] at hr
    simp only [runS, Option.some.injEq, PSt.mk.injEq, true_and] at hr
    refine ⟨k, by omega, hr.1.symm, .inr ?_⟩
    have := hr.2; rw [this] at hul; simp at hul; omega
  · by_cases h1 : j ≤ (markK (at_ t k).mark).length + 1
    · exfalso
      have hx : ∃ a x, (toksRow t k).take j = a ++ [x] ∧ (x.1 = 1 ∨ x.1 = 5) := by
        obtain ⟨i, rfl⟩ : ∃ i, j = i + 1 := ⟨j - 1, by omega⟩
        have hi : i < (toksRow t k).length := by omega
        refine ⟨(toksRow t k).take i, (toksRow t k)[i], List.take_succ_eq_append_getElem hi, ?_⟩
        by_cases hlt : i < (markK (at_ t k).mark).length
        · have : (toksRow t k)[i] = (markK (at_ t k).mark)[i] := by unfold toksRow; exact List.getElem_append_left hlt
          rw [this]; exact .inr (hmk _ (List.getElem_mem hlt))
        · have he : i = (markK (at_ t k).mark).length := by omega
          have : (toksRow t k)[i] = (1, wd t k, 0) := by
            have h2 : (toksRow t k)[i]? = some (1, wd t k, 0) := by unfold toksRow; rw [List.getElem?_append_right (by omega), he, Nat.sub_self]; rfl
            rw [List.getElem?_eq_getElem hi] at h2; exact Option.some.inj h2
          rw [this]; exact .inl rfl
      obtain ⟨a, x, e, hx⟩ := hx
      rw [e] at hr
      exact run_open hx hr rfl
    · obtain ⟨q, rfl⟩ : ∃ q, j = (markK (at_ t k).mark).length + (q + 2) := ⟨j - (markK (at_ t k).mark).length - 2, by omega⟩
      unfold toksRow at hr hj
      rw [List.length_append, List.length_cons, List.length_cons, List.length_replicate] at hj
      rw [List.take_append, List.take_of_length_le (show (markK (at_ t k).mark).length ≤ (markK (at_ t k).mark).length + (q + 2) by omega), Nat.add_sub_cancel_left, List.take_succ_cons, List.take_succ_cons, run_head h hk] at hr
      have hnx : nextD t k ≤ (dp t k).toNat ∨ (dp t k).toNat < nextD t k := by omega
      cases ho : openB t k with
      | true =>
        exfalso
        have ho2 := of_decide_eq_true ho
        have hn : nextD t k = (dp t (k + 1)).toNat := by unfold nextD; rw [if_pos ho2.1]
        have := (h.deep k hk).1
        omega
      | false =>
        rw [ho, if_neg (by decide)] at hr
        simp only [runS, pstep] at hr
        rw [if_neg (by decide), if_pos trivial] at hr
        simp only at hr
        rw [List.take_replicate, Nat.min_eq_left (by omega)] at hr
        have hc := run_close (t.take (k + 1)) q (upTo t k) [] (by omega)
        rw [List.append_nil] at hc
        rw [hc] at hr
        simp only [runS, Option.some.injEq, PSt.mk.injEq, true_and] at hr
        have hz := congrArg List.length hr.2
        rw [List.length_take, List.length_nil] at hz
        refine ⟨k + 1, by omega, hr.1.symm, ?_⟩
        by_cases hl : k + 1 < t.length
        · right
          have hn : nextD t k = (dp t (k + 1)).toNat := by unfold nextD; rw [if_pos hl]
          have := (h.deep (k + 1) hl).1
          omega
        · left; omega
theorem cut_from {t : List Ln} (h : RightT t) : ∀ (f k j : Nat) (u : List Ln), k + f = t.length → runS ⟨.start, t.take k, upTo t k⟩ ((toksFrom t f k).take j) = some ⟨.start, u, []⟩ → ∃ m, m ≤ t.length ∧ u = t.take m ∧ (m = t.length ∨ dp t m = 0)
  | 0, k, j, u, hk, hr => by
    rw [toksFrom, List.take_nil] at hr
    simp only [runS, Option.some.injEq, PSt.mk.injEq, true_and] at hr
    exact ⟨k, by omega, hr.1.symm, .inl (by omega)⟩
  | f + 1, k, j, u, hk, hr => by
    rw [toksFrom, List.take_append] at hr
    by_cases hj : j < (toksRow t k).length
    · rw [show j - (toksRow t k).length = 0 by omega, List.take_zero, List.append_nil] at hr
      exact cut_row h (by omega) hj hr
    · rw [List.take_of_length_le (show (toksRow t k).length ≤ j by omega), run_row h (by omega)] at hr
      exact cut_from h f (k + 1) _ u (by omega) hr
/-- Of a tree's text that is cut off there is no tree, but at the end of a part of Depth 0. -/
theorem parse_cut {t : List Ln} (h : RightT t) (n : Nat) {u : List Ln} (hu : parseL ((textL t).take n) = .ok u) : ∃ m, m ≤ t.length ∧ u = t.take m ∧ (m = t.length ∨ dp t m = 0) := by
  have hl := RightT.lexS_text h
  unfold lexS at hl
  cases hx : W.lexL 0 (textL t) with
  | bad p e => rw [hx] at hl; cases hl
  | ok a =>
    rw [hx] at hl
    injection hl with hl
    unfold parseL at hu
    obtain ⟨j, hj | ⟨x, hx1, hj⟩ | ⟨q, e, hj⟩⟩ := W.lex_cut (textL t) 0 a hx n
    · rw [hj] at hu
      have hr := parse_runs _ _ _ _ hu
      rw [List.map_take, hl] at hr
      have h0 := cut_from h t.length 0 j u (by omega)
      rw [List.take_zero, upTo_zero] at h0
      exact h0 hr
    · rw [hj] at hu
      have hr := parse_runs _ _ _ _ hu
      rw [List.map_append] at hr
      exact absurd rfl (run_open (x := strip x) hx1 hr)
    · rw [hj] at hu; cases hu
end Go.Proofs.Ytjgogjamkbmcjaa.S
