/-
  Plain laws on bytes for layer 2 (lex): places rise, each token's first byte is of its kind; an error's place is inside the text. No conditions.
-/
import Derived.Test.YtokhflpeeibeeaaLexPure2
namespace Go.Proofs.Ytokhflpeeibeeaa.W

def goodB (c : UInt8) (k : Int) : Prop := (k = 2 ↔ c.toNat = 123) ∧ (k = 3 ↔ c.toNat = 125) ∧ (k = 4 ↔ c.toNat = 59) ∧ c.toNat ≠ 32 ∧ c.toNat ≠ 10 ∧ c.toNat ≠ 35
def Rising (s : List UInt8) : Nat → List Tok → Prop
  | _, [] => True
  | p, t :: r => p ≤ t.pos ∧ (∃ c, s[t.pos]? = some c ∧ goodB c t.kind) ∧ Rising s (t.pos + 1) r
theorem gapO_zero {c : UInt8} {r : List UInt8} (h : gapO (c :: r) = some 0) : blankB c = false ∧ c.toNat ≠ 35 := by
  simp only [gapO] at h
  split at h
  · cases h
  · rename_i hb
    refine ⟨by simpa using hb, fun h35 => ?_⟩
    rw [if_pos h35] at h
    injection h with h
    have : lineB c = true := by simp [lineB]; omega
    simp [lineRun, this] at h
theorem takeD_cases {l : List UInt8} {k : Int} {w : List UInt8} {b : Int} {n : Nat} (h : takeD l = .tok k w b n) :
    (signK (l.headD 0) ≠ 0 ∧ k = signK (l.headD 0) ∧ w = [] ∧ b = 0 ∧ n = 1) ∨
    (signK (l.headD 0) = 0 ∧ scanD l = some n ∧ markK (l.take n) ≠ 0 ∧ k = 5 ∧ w = [] ∧ b = markK (l.take n)) ∨
    (signK (l.headD 0) = 0 ∧ scanD l = some n ∧ markK (l.take n) = 0 ∧ unqL (l.take n) = (w, 0) ∧ k = 1 ∧ b = 0) := by
  unfold takeD at h
  by_cases hs : signK (l.headD 0) ≠ 0
  · rw [if_pos hs] at h
    injection h with h1 h2 h3 h4
    exact .inl ⟨hs, h1.symm, h2.symm, h3.symm, h4.symm⟩
  · rw [if_neg hs] at h
    have hs0 : signK (l.headD 0) = 0 := by omega
    cases hsc : scanD l with
    | none => rw [hsc] at h; cases h
    | some m =>
      rw [hsc] at h
      simp only at h
      by_cases hm : markK (l.take m) ≠ 0
      · rw [if_pos hm] at h
        injection h with h1 h2 h3 h4
        subst h4
        exact .inr (.inl ⟨hs0, rfl, hm, h1.symm, h2.symm, h3.symm⟩)
      · rw [if_neg hm] at h
        by_cases hu : (unqL (l.take m)).2 ≠ 0
        · rw [if_pos hu] at h; cases h
        · rw [if_neg hu] at h
          injection h with h1 h2 h3 h4
          subst h4
          refine .inr (.inr ⟨hs0, rfl, by omega, ?_, h1.symm, h3.symm⟩)
          have : (unqL (l.take m)).2 = 0 := by omega
          rw [← h2, ← this]
theorem signK_cases (c : UInt8) : (c.toNat = 123 ∧ signK c = 2) ∨ (c.toNat = 125 ∧ signK c = 3) ∨ (c.toNat = 59 ∧ signK c = 4) ∨ (c.toNat ≠ 123 ∧ c.toNat ≠ 125 ∧ c.toNat ≠ 59 ∧ signK c = 0) := by
  unfold signK
  by_cases h1 : c.toNat = 123
  · rw [if_pos h1]; omega
  · rw [if_neg h1]
    by_cases h2 : c.toNat = 125
    · rw [if_pos h2]; omega
    · rw [if_neg h2]
      by_cases h3 : c.toNat = 59
      · rw [if_pos h3]; omega
      · rw [if_neg h3]; omega
theorem takeD_good {c : UInt8} {r : List UInt8} {k : Int} {w : List UInt8} {b : Int} {n : Nat} (hg : gapO (c :: r) = some 0) (h : takeD (c :: r) = .tok k w b n) : goodB c k := by
  obtain ⟨hb, h35⟩ := gapO_zero hg
  have hb2 : ¬ (c.toNat = 32 ∨ c.toNat = 9 ∨ c.toNat = 10 ∨ c.toNat = 13) := of_decide_eq_false hb
  have hc := takeD_cases h
  simp only [List.headD_cons] at hc
  have hs := signK_cases c
  have hk : (signK c ≠ 0 ∧ k = signK c) ∨ (signK c = 0 ∧ (k = 5 ∨ k = 1)) := by
    rcases hc with ⟨h1, h2, _⟩ | ⟨h1, _, _, h2, _⟩ | ⟨h1, _, _, _, h2, _⟩
    · exact .inl ⟨h1, h2⟩
    · exact .inr ⟨h1, .inl h2⟩
    · exact .inr ⟨h1, .inr h2⟩
  unfold goodB
  clear hc h hg hb
  omega
theorem Rising.more {s : List UInt8} {p q : Nat} {l : List Tok} (h : Rising s q l) (hpq : p ≤ q) : Rising s p l := by
  cases l with
  | nil => trivial
  | cons t r => exact ⟨by have := h.1; omega, h.2⟩
theorem rising_of (l : List UInt8) : ∀ (s : List UInt8) (p : Nat) (a : List Tok), s.drop p = l → lexL p l = .ok a → Rising s p a := by
  induction l using step_ind with
  | h0 => intro s p a _ h; rw [lexL_nil] at h; injection h with h; subst h; trivial
  | hs l n he h ih =>
    intro s p a hd hp
    have hn := stepD_skip h
    rw [lexL_skip _ he h] at hp
    exact (ih s (p + n) a (by rw [← hd, List.drop_drop]) hp).more (by omega)
  | ht l k w b n he h ih =>
    intro s p a hd hp
    obtain ⟨hn1, hn2, hg, ht⟩ := stepD_tok he h
    rw [lexL_tok _ he h] at hp
    cases hr : lexL (p + n) (l.drop n) with
    | bad q e => rw [hr] at hp; cases hp
    | ok a' =>
      rw [hr] at hp
      injection hp with hp
      subst hp
      refine ⟨Nat.le_refl _, ?_, (ih s (p + n) a' (by rw [← hd, List.drop_drop]) hr).more (by simp only; omega)⟩
      match l, he, hd, hg, ht with
      | c :: r, _, hd, hg, ht =>
        refine ⟨c, ?_, takeD_good hg ht⟩
        have e : (s.drop p)[0]? = some c := by rw [hd]; rfl
        rw [List.getElem?_drop] at e
        simpa using e
  | hb l e he h => intro s p a _ hp; rw [lexL_bad _ he h] at hp; cases hp
theorem bad_lt (l : List UInt8) : ∀ (p q : Nat) (e : Int), lexL p l = .bad q e → p ≤ q ∧ q < p + l.length ∧ e ≠ 0 := by
  induction l using step_ind with
  | h0 => intro p q e h; rw [lexL_nil] at h; cases h
  | hs l n he h ih =>
    intro p q e hp
    have hn := stepD_skip h
    rw [lexL_skip _ he h] at hp
    have := ih _ _ _ hp
    rw [List.length_drop] at this
    omega
  | ht l k w b n he h ih =>
    intro p q e hp
    have hn := stepD_tok he h
    rw [lexL_tok _ he h] at hp
    cases hr : lexL (p + n) (l.drop n) with
    | ok a => rw [hr] at hp; cases hp
    | bad q' e' =>
      rw [hr] at hp
      injection hp with h1 h2
      subst h1; subst h2
      have := ih _ _ _ hr
      rw [List.length_drop] at this
      omega
  | hb l e' he h =>
    intro p q e hp
    rw [lexL_bad _ he h] at hp
    injection hp with h1 h2
    subst h1; subst h2
    refine ⟨Nat.le_refl _, by have := List.length_pos_iff.2 he; omega, ?_⟩
    unfold stepD at h
    cases hg : gapO l with
    | none => rw [hg] at h; injection h with h; omega
    | some m =>
      rw [hg] at h
      match m, h with
      | 0, h => exact takeD_bad h
      | m + 1, h => cases h
theorem lexL_len (l : List UInt8) : ∀ (p : Nat) (a : List Tok), lexL p l = .ok a → a.length ≤ l.length := by
  induction l using step_ind with
  | h0 => intro p a h; rw [lexL_nil] at h; injection h with h; subst h; simp
  | hs l n he h ih =>
    intro p a hp
    rw [lexL_skip _ he h] at hp
    have := ih _ _ hp
    rw [List.length_drop] at this
    omega
  | ht l k w b n he h ih =>
    intro p a hp
    have hn := stepD_tok he h
    rw [lexL_tok _ he h] at hp
    cases hr : lexL (p + n) (l.drop n) with
    | bad q e => rw [hr] at hp; cases hp
    | ok a' =>
      rw [hr] at hp
      injection hp with hp
      subst hp
      have := ih _ _ hr
      rw [List.length_drop] at this
      simp only [List.singleton_append, List.length_cons]
      omega
  | hb l e he h => intro p a hp; rw [lexL_bad _ he h] at hp; cases hp
end Go.Proofs.Ytokhflpeeibeeaa.W
