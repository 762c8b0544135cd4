/-
  Plain definitions on bytes for layer 2 (lex), without the program: what is left off at a place, the token that stands there, all tokens of a text, with their places, or the first error. No conditions.
-/
import Derived.Test.YtokhflpeeibeeaaWordPure4
namespace Go.Proofs.Ytokhflpeeibeeaa.W

structure Tok where
  kind : Int
  pos : Nat
  word : List UInt8
  bit : Int

inductive Step where
  | skip (n : Nat)
  | tok (k : Int) (w : List UInt8) (b : Int) (n : Nat)
  | bad (e : Int)

inductive Res where
  | ok (l : List Tok)
  | bad (p : Nat) (e : Int)

def Res.toks : Res → List Tok | .ok l => l | .bad _ _ => []
def Res.place : Res → Nat | .ok _ => 0 | .bad p _ => p
def Res.err : Res → Int | .ok _ => 0 | .bad _ e => e
/-- Tokens ahead of a result. -/
def Res.pre (a : List Tok) : Res → Res | .ok l => .ok (a ++ l) | .bad p e => .bad p e
def Tok.shift (q : Nat) (t : Tok) : Tok := ⟨t.kind, t.pos + q, t.word, t.bit⟩
def Res.shift (q : Nat) : Res → Res | .ok l => .ok (l.map (Tok.shift q)) | .bad p e => .bad (p + q) e

def blankB (c : UInt8) : Bool := decide (c.toNat = 32 ∨ c.toNat = 9 ∨ c.toNat = 10 ∨ c.toNat = 13)
def signK (c : UInt8) : Int := if c.toNat = 123 then 2 else if c.toNat = 125 then 3 else if c.toNat = 59 then 4 else 0
def markK (l : List UInt8) : Int := if l == inactiveL then 1 else if l == protectL then 2 else 0
def lineB (c : UInt8) : Bool := decide (c.toNat ≠ 10)
/-- So many bytes stand ahead of the next byte 10, or of the end. -/
def lineRun (l : List UInt8) : Nat := (l.takeWhile lineB).length
/-- So many bytes up to the next star and slash, with these. -/
def starEnd : List UInt8 → Option Nat
  | [] => none
  | [_] => none
  | c :: d :: l => if c.toNat = 42 ∧ d.toNat = 47 then some 2 else (starEnd (d :: l)).map (· + 1)
/-- What is left off at the front: none for a comment without an end. -/
def gapO : List UInt8 → Option Nat
  | [] => some 0
  | c :: r => if blankB c = true then some 1 else if c.toNat = 35 then some (lineRun (c :: r))
    else if Lib.hasPrefix (c :: r) [47, 42] = true then (starEnd (r.drop 1)).map (· + 2) else some 0
/-- The token at the front. -/
def takeD (l : List UInt8) : Step :=
  if signK (l.headD 0) ≠ 0 then .tok (signK (l.headD 0)) [] 0 1 else
  match scanD l with
  | none => .bad 2
  | some n => if markK (l.take n) ≠ 0 then .tok 5 [] (markK (l.take n)) n
    else if (unqL (l.take n)).2 ≠ 0 then .bad (unqL (l.take n)).2 else .tok 1 (unqL (l.take n)).1 0 n
def stepD (l : List UInt8) : Step :=
  match gapO l with
  | none => .bad 2
  | some 0 => takeD l
  | some (n + 1) => .skip (n + 1)

def lexF : Nat → Nat → List UInt8 → Res
  | 0, _, _ => .ok []
  | _ + 1, _, [] => .ok []
  | f + 1, p, c :: r => match stepD (c :: r) with
    | .skip n => lexF f (p + n) ((c :: r).drop n)
    | .tok k w b n => (lexF f (p + n) ((c :: r).drop n)).pre [⟨k, p, w, b⟩]
    | .bad e => .bad p e
/-- The tokens of a text whose first byte has the place p. -/
def lexL (p : Nat) (l : List UInt8) : Res := lexF l.length p l

theorem starEnd_le : ∀ (l : List UInt8) (n : Nat), starEnd l = some n → 2 ≤ n ∧ n ≤ l.length
  | [], _, h => by simp [starEnd] at h
  | [_], _, h => by simp [starEnd] at h
  | c :: d :: l, n, h => by
    simp only [starEnd] at h
    split at h
    · injection h with h; subst h; simp
    · cases hs : starEnd (d :: l) with
      | none => rw [hs] at h; cases h
      | some m =>
        rw [hs] at h
        simp only [Option.map_some, Option.some.injEq] at h
        have := starEnd_le (d :: l) m hs
        simp only [List.length_cons] at this ⊢
        omega
theorem lineRun_le (l : List UInt8) : lineRun l ≤ l.length := by
  unfold lineRun; exact (List.takeWhile_sublist _).length_le
theorem gapO_le (l : List UInt8) (n : Nat) (h : gapO l = some n) : n ≤ l.length := by
  match l, h with
  | [], h => simp [gapO] at h; omega
  | c :: r, h =>
    simp only [gapO] at h
    split at h
    · injection h with h; subst h; simp
    · split at h
      · injection h with h; subst h; exact lineRun_le _
      · split at h
        · cases hs : starEnd (r.drop 1) with
          | none => rw [hs] at h; cases h
          | some m =>
            rw [hs] at h
            simp only [Option.map_some, Option.some.injEq] at h
            have := starEnd_le _ m hs
            rw [List.length_drop] at this
            simp only [List.length_cons]
            omega
        · injection h with h; omega
theorem quotedRun_le : ∀ (l : List UInt8) (n : Nat), quotedRun l = some n → 1 ≤ n ∧ n ≤ l.length
  | [], _, h => by simp [quotedRun] at h
  | [c], n, h => by simp [quotedRun] at h; simp; omega
  | c :: d :: l, n, h => by
    simp only [quotedRun] at h
    split at h
    · injection h with h; subst h; simp
    · split at h
      · cases hs : quotedRun l with
        | none => rw [hs] at h; cases h
        | some m => rw [hs] at h; simp only [Option.map_some, Option.some.injEq] at h; have := quotedRun_le l m hs; simp only [List.length_cons]; omega
      · cases hs : quotedRun (d :: l) with
        | none => rw [hs] at h; cases h
        | some m => rw [hs] at h; simp only [Option.map_some, Option.some.injEq] at h; have := quotedRun_le (d :: l) m hs; simp only [List.length_cons] at this ⊢; omega
theorem scanD_le (l : List UInt8) (n : Nat) (h : scanD l = some n) : 1 ≤ n ∧ n ≤ l.length := by
  match l, h with
  | c :: r, h =>
    simp only [scanD] at h
    split at h
    · cases hs : quotedRun r with
      | none => rw [hs] at h; cases h
      | some m => rw [hs] at h; simp only [Option.map_some, Option.some.injEq] at h; have := quotedRun_le r m hs; simp only [List.length_cons]; omega
    · split at h
      · cases h
      · injection h with h
        have : plainRun (c :: r) ≤ (c :: r).length := by unfold plainRun; exact (List.takeWhile_sublist _).length_le
        omega
theorem takeD_tok {l : List UInt8} {k : Int} {w : List UInt8} {b : Int} {n : Nat} (hl : l ≠ []) (h : takeD l = .tok k w b n) : 1 ≤ n ∧ n ≤ l.length := by
  unfold takeD at h
  split at h
  · injection h with _ _ _ h; subst h
    exact ⟨Nat.le_refl _, List.length_pos_iff.2 hl⟩
  · cases hs : scanD l with
    | none => rw [hs] at h; cases h
    | some m =>
      rw [hs] at h
      simp only at h
      have := scanD_le l m hs
      split at h
      · injection h with _ _ _ h; subst h; exact this
      · split at h
        · cases h
        · injection h with _ _ _ h; subst h; exact this
theorem takeD_noskip {l : List UInt8} {n : Nat} : takeD l ≠ .skip n := by
  intro h
  unfold takeD at h
  split at h
  · cases h
  · cases hs : scanD l with
    | none => rw [hs] at h; cases h
    | some m =>
      rw [hs] at h
      simp only at h
      split at h
      · cases h
      · split at h <;> cases h
theorem stepD_skip {l : List UInt8} {n : Nat} (h : stepD l = .skip n) : 1 ≤ n ∧ n ≤ l.length ∧ gapO l = some n := by
  unfold stepD at h
  cases hg : gapO l with
  | none => rw [hg] at h; cases h
  | some m =>
    rw [hg] at h
    match m, hg, h with
    | 0, _, h => exact absurd h takeD_noskip
    | m + 1, hg, h =>
      simp only at h
      injection h with h
      subst h
      exact ⟨by omega, gapO_le l _ hg, rfl⟩
theorem stepD_tok {l : List UInt8} {k : Int} {w : List UInt8} {b : Int} {n : Nat} (hl : l ≠ []) (h : stepD l = .tok k w b n) : 1 ≤ n ∧ n ≤ l.length ∧ gapO l = some 0 ∧ takeD l = .tok k w b n := by
  unfold stepD at h
  cases hg : gapO l with
  | none => rw [hg] at h; cases h
  | some m =>
    rw [hg] at h
    match m, hg, h with
    | 0, _, h => exact ⟨(takeD_tok hl h).1, (takeD_tok hl h).2, rfl, h⟩
    | m + 1, hg, h => simp only at h; cases h
theorem stepD_gap {l : List UInt8} {n : Nat} (h : gapO l = some (n + 1)) : stepD l = .skip (n + 1) := by unfold stepD; rw [h]
theorem stepD_take {l : List UInt8} (h : gapO l = some 0) : stepD l = takeD l := by unfold stepD; rw [h]
theorem stepD_open {l : List UInt8} (h : gapO l = none) : stepD l = .bad 2 := by unfold stepD; rw [h]

theorem lexF_fuel : ∀ (f g p : Nat) (l : List UInt8), l.length ≤ f → l.length ≤ g → lexF f p l = lexF g p l
  | 0, g, p, l, hf, _ => by
    have : l = [] := List.eq_nil_of_length_eq_zero (by omega)
    subst this; cases g <;> rfl
  | f + 1, 0, p, l, _, hg => by
    have : l = [] := List.eq_nil_of_length_eq_zero (by omega)
    subst this; rfl
  | f + 1, g + 1, p, [], _, _ => rfl
  | f + 1, g + 1, p, c :: r, hf, hg => by
    simp only [lexF]
    cases h : stepD (c :: r) with
    | bad e => rfl
    | skip n =>
      have hn := stepD_skip h
      simp only []
      rw [lexF_fuel f g]
      · simp only [List.length_drop, List.length_cons] at hf ⊢; omega
      · simp only [List.length_drop, List.length_cons] at hg ⊢; omega
    | tok k w b n =>
      have hn := stepD_tok (by simp) h
      simp only []
      rw [lexF_fuel f g]
      · simp only [List.length_drop, List.length_cons] at hf ⊢; omega
      · simp only [List.length_drop, List.length_cons] at hg ⊢; omega
theorem lexL_nil (p : Nat) : lexL p [] = .ok [] := rfl
theorem lexL_skip {l : List UInt8} {n : Nat} (p : Nat) (hl : l ≠ []) (h : stepD l = .skip n) : lexL p l = lexL (p + n) (l.drop n) := by
  match l, hl, h with
  | c :: r, _, h =>
    have hn := stepD_skip h
    simp only [lexL, List.length_cons, lexF, h]
    rw [lexF_fuel r.length ((c :: r).drop n).length]
    · simp only [List.length_drop, List.length_cons]; omega
    · exact Nat.le_refl _
theorem lexL_tok {l : List UInt8} {k : Int} {w : List UInt8} {b : Int} {n : Nat} (p : Nat) (hl : l ≠ []) (h : stepD l = .tok k w b n) : lexL p l = (lexL (p + n) (l.drop n)).pre [⟨k, p, w, b⟩] := by
  match l, hl, h with
  | c :: r, hl, h =>
    have hn := stepD_tok hl h
    simp only [lexL, List.length_cons, lexF, h]
    rw [lexF_fuel r.length ((c :: r).drop n).length]
    · simp only [List.length_drop, List.length_cons]; omega
    · exact Nat.le_refl _
theorem lexL_bad {l : List UInt8} {e : Int} (p : Nat) (hl : l ≠ []) (h : stepD l = .bad e) : lexL p l = .bad p e := by
  match l, hl, h with
  | c :: r, hl, h => simp only [lexL, List.length_cons, lexF, h]

theorem pre_pre (a b : List Tok) (r : Res) : (r.pre b).pre a = r.pre (a ++ b) := by cases r <;> simp [Res.pre]
theorem pre_nil (r : Res) : r.pre [] = r := by cases r <;> simp [Res.pre]
theorem shift_pre (q : Nat) (a : List Tok) (r : Res) : (r.pre a).shift q = (r.shift q).pre (a.map (Tok.shift q)) := by cases r <;> simp [Res.pre, Res.shift]

/-- Induction over a text, step by step. -/
theorem step_ind {P : List UInt8 → Prop} (h0 : P []) (hs : ∀ l n, l ≠ [] → stepD l = .skip n → P (l.drop n) → P l)
    (ht : ∀ l k w b n, l ≠ [] → stepD l = .tok k w b n → P (l.drop n) → P l) (hb : ∀ l e, l ≠ [] → stepD l = .bad e → P l) : ∀ l, P l := by
  have key : ∀ (f : Nat) (l : List UInt8), l.length ≤ f → P l := by
    intro f
    induction f with
    | zero => intro l hl; have : l = [] := List.eq_nil_of_length_eq_zero (by omega); subst this; exact h0
    | succ f ih =>
      intro l hl
      by_cases he : l = []
      · subst he; exact h0
      · cases h : stepD l with
        | skip n => have hn := stepD_skip h; exact hs l n he h (ih _ (by rw [List.length_drop]; omega))
        | tok k w b n => have hn := stepD_tok he h; exact ht l k w b n he h (ih _ (by rw [List.length_drop]; omega))
        | bad e => exact hb l e he h
  exact fun l => key l.length l (Nat.le_refl _)

theorem lexL_shift (l : List UInt8) : ∀ p q : Nat, lexL (p + q) l = (lexL p l).shift q := by
  induction l using step_ind with
  | h0 => intro p q; rfl
  | hs l n he h ih => intro p q; rw [lexL_skip _ he h, lexL_skip _ he h, ← ih]; congr 1; omega
  | ht l k w b n he h ih =>
    intro p q
    rw [lexL_tok _ he h, lexL_tok _ he h, shift_pre, ← ih]
    have : p + q + n = p + n + q := by omega
    rw [this]; rfl
  | hb l e he h => intro p q; rw [lexL_bad _ he h, lexL_bad _ he h]; rfl

theorem pre2_app (c : UInt8) (r t : List UInt8) : Lib.hasPrefix (c :: r ++ 10 :: t) [47, 42] = Lib.hasPrefix (c :: r) [47, 42] := by
  cases r with
  | nil => simp [Lib.hasPrefix, List.isPrefixOf]
  | cons d r => simp [Lib.hasPrefix, List.isPrefixOf]
theorem lineRun_app (l t : List UInt8) : lineRun (l ++ 10 :: t) = lineRun l := by
  unfold lineRun
  induction l with
  | nil => simp [lineB]
  | cons c l ih =>
    simp only [List.cons_append, List.takeWhile_cons]
    split
    · simp only [List.length_cons]; rw [ih]
    · rfl
theorem starEnd_app : ∀ (l x : List UInt8) (n : Nat), starEnd l = some n → starEnd (l ++ x) = some n
  | [], _, _, h => by simp [starEnd] at h
  | [_], _, _, h => by simp [starEnd] at h
  | c :: d :: l, x, n, h => by
    simp only [starEnd, List.cons_append] at h ⊢
    split at h
    · rename_i hc; rw [if_pos hc]; exact h
    · rename_i hc
      rw [if_neg hc]
      cases hs : starEnd (d :: l) with
      | none => rw [hs] at h; cases h
      | some m =>
        have := starEnd_app (d :: l) x m hs
        rw [List.cons_append] at this
        rw [this]; rw [hs] at h; exact h
theorem gapO_app (l t : List UInt8) (n : Nat) (hl : l ≠ []) (h : gapO l = some n) : gapO (l ++ 10 :: t) = some n := by
  match l, hl, h with
  | c :: r, _, h =>
    have hp := pre2_app c r t
    have hr := lineRun_app (c :: r) t
    rw [List.cons_append] at hp hr
    simp only [gapO, List.cons_append] at h ⊢
    rw [hp, hr]
    split at h
    · rename_i h1; rw [if_pos h1]; exact h
    · rename_i h1
      rw [if_neg h1]
      split at h
      · rename_i h2; rw [if_pos h2]; exact h
      · rename_i h2
        rw [if_neg h2]
        split at h
        · rename_i h3
          rw [if_pos h3]
          cases hs : starEnd (r.drop 1) with
          | none => rw [hs] at h; cases h
          | some m =>
            rw [hs] at h
            have h0 : 1 ≤ r.length := by
              cases r with
              | nil => simp [Lib.hasPrefix, List.isPrefixOf] at h3
              | cons d r => simp
            rw [List.drop_append_of_le_length h0, starEnd_app _ _ _ hs]
            exact h
        · rename_i h3; rw [if_neg h3]; exact h
theorem quotedRun_app : ∀ (l x : List UInt8) (n : Nat), quotedRun l = some n → quotedRun (l ++ x) = some n
  | [], _, _, h => by simp [quotedRun] at h
  | [c], x, n, h => by
    simp [quotedRun] at h
    rw [List.singleton_append, quotedRun_hit _ _ h.1, h.2]
  | c :: d :: l, x, n, h => by
    simp only [quotedRun, List.cons_append] at h ⊢
    split at h
    · rename_i hc; rw [if_pos hc]; exact h
    · rename_i hc
      rw [if_neg hc]
      split at h
      · rename_i h2
        rw [if_pos h2]
        cases hs : quotedRun l with
        | none => rw [hs] at h; cases h
        | some m => rw [quotedRun_app l x m hs]; rw [hs] at h; exact h
      · rename_i h2
        rw [if_neg h2]
        cases hs : quotedRun (d :: l) with
        | none => rw [hs] at h; cases h
        | some m =>
          have := quotedRun_app (d :: l) x m hs
          rw [List.cons_append] at this
          rw [this]; rw [hs] at h; exact h
/-- No plain byte stands at the front. -/
def stops (r : List UInt8) : Prop := ∀ c, r.head? = some c → plainB c = false
theorem plainRun_stops (l r : List UInt8) (hr : stops r) : plainRun (l ++ r) = plainRun l := by
  unfold plainRun
  induction l with
  | nil =>
    cases r with
    | nil => rfl
    | cons c r => have := hr c rfl; simp [this]
  | cons c l ih =>
    simp only [List.cons_append, List.takeWhile_cons]
    split
    · simp only [List.length_cons]; rw [ih]
    · rfl
theorem scanD_app (l x : List UInt8) (n : Nat) (hx : stops x) (h : scanD l = some n) : scanD (l ++ x) = some n := by
  match l, h with
  | c :: r, h =>
    have hp := plainRun_stops (c :: r) x hx
    rw [List.cons_append] at hp
    simp only [scanD, List.cons_append] at h ⊢
    rw [hp]
    split at h
    · rename_i h1
      rw [if_pos h1]
      cases hs : quotedRun r with
      | none => rw [hs] at h; cases h
      | some m => rw [quotedRun_app r x m hs]; rw [hs] at h; exact h
    · rename_i h1; rw [if_neg h1]; exact h
theorem takeD_app (l x : List UInt8) (hl : l ≠ []) (hx : stops x) {k : Int} {w : List UInt8} {b : Int} {n : Nat} (h : takeD l = .tok k w b n) : takeD (l ++ x) = .tok k w b n := by
  unfold takeD at h ⊢
  have hh : (l ++ x).headD 0 = l.headD 0 := by cases l with
    | nil => exact absurd rfl hl
    | cons c r => rfl
  rw [hh]
  split at h
  · rename_i h1; rw [if_pos h1]; exact h
  · rename_i h1
    rw [if_neg h1]
    cases hs : scanD l with
    | none => rw [hs] at h; cases h
    | some m =>
      have hm := (scanD_le l m hs).2
      rw [hs] at h
      rw [scanD_app l x m hx hs]
      simp only at h ⊢
      rw [List.take_append_of_le_length hm]
      exact h
theorem stops_10 (t : List UInt8) : stops (10 :: t) := by intro c h; simp at h; subst h; decide
theorem stepD_join (l t : List UInt8) (hl : l ≠ []) (h : ∀ e, stepD l ≠ .bad e) : stepD (l ++ 10 :: t) = stepD l := by
  cases hs : stepD l with
  | bad e => exact absurd hs (h e)
  | skip n =>
    obtain ⟨h1, _, hg⟩ := stepD_skip hs
    obtain ⟨m, rfl⟩ : ∃ m, n = m + 1 := ⟨n - 1, by omega⟩
    exact stepD_gap (gapO_app l t _ hl hg)
  | tok k w b n =>
    obtain ⟨_, _, hg, ht⟩ := stepD_tok hl hs
    rw [stepD_take (gapO_app l t _ hl hg)]
    exact takeD_app l _ hl (stops_10 t) ht
theorem lexL_lf (p : Nat) (t : List UInt8) : lexL p (10 :: t) = lexL (p + 1) t := by
  rw [lexL_skip (n := 1) p (by simp) (stepD_gap (n := 0) (by simp [gapO, blankB]))]; rfl
/-- The tokens of two texts, a byte 10 between. -/
theorem lexL_join (t l : List UInt8) : ∀ (p : Nat) (a : List Tok), lexL p l = .ok a → lexL p (l ++ 10 :: t) = (lexL (p + l.length + 1) t).pre a := by
  induction l using step_ind with
  | h0 => intro p a h; rw [lexL_nil] at h; injection h with h; subst h; rw [List.nil_append, lexL_lf, pre_nil]; rfl
  | hs l n he h ih =>
    intro p a hp
    have hn := stepD_skip h
    rw [lexL_skip _ he h] at hp
    rw [lexL_skip (n := n) _ (by simp) (by rw [stepD_join l t he (by rw [h]; intro e; nofun)]; exact h), List.drop_append_of_le_length hn.2.1, ih _ _ hp, List.length_drop]
    congr 2; omega
  | ht l k w b n he h ih =>
    intro p a hp
    have hn := stepD_tok he h
    rw [lexL_tok _ he h] at hp
    cases hr : lexL (p + n) (l.drop n) with
    | bad q e => rw [hr] at hp; cases hp
    | ok a' =>
      rw [hr] at hp
      injection hp with hp
      subst hp
      rw [lexL_tok (n := n) _ (by simp) (by rw [stepD_join l t he (by rw [h]; intro e; nofun)]; exact h), List.drop_append_of_le_length hn.2.1, ih _ _ hr, List.length_drop, pre_pre]
      congr 2; omega
  | hb l e he h => intro p a hp; rw [lexL_bad _ he h] at hp; cases hp
end Go.Proofs.Ytokhflpeeibeeaa.W
