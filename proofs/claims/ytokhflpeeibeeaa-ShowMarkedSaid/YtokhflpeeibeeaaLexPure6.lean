/-
  Plain laws on bytes for layer 2 (lex): words as they are written, each with a sign, blanks or a comment behind, are read as Names of these words. Condition: words of at most 40 bytes.
-/
import Derived.Test.YtokhflpeeibeeaaLexPure5
namespace Go.Proofs.Ytokhflpeeibeeaa.W

/-- What may stand behind a word: it ends the word, and holds no Name. -/
def SignOk (C : List UInt8) : Prop := C.length ≤ 6 ∧ (∀ r, stops (C ++ r)) ∧ ∀ (r : List UInt8) (p : Nat), ∃ b : List Tok, (∀ t ∈ b, t.kind ≠ 1) ∧ b.length ≤ 1 ∧ lexL p (C ++ r) = (lexL (p + C.length) r).pre b
theorem sign_skip (C : List UInt8) (c : UInt8) (C' : List UInt8) (hC : C = c :: C') (h6 : C.length ≤ 6) (hc : plainB c = false) (h : ∀ (r : List UInt8) (p : Nat), lexL p (C ++ r) = lexL (p + C.length) r) : SignOk C := by
  subst hC
  exact ⟨h6, fun r => stops_cons c _ hc, fun r p => ⟨[], by simp, by simp, by rw [h, pre_nil]⟩⟩
theorem lex_blank (c : UInt8) (r : List UInt8) (p : Nat) (h : blankB c = true) : lexL p (c :: r) = lexL (p + 1) r := by
  rw [lexL_skip (n := 1) p (by simp) (stepD_gap (n := 0) (by simp only [gapO]; rw [if_pos h])), List.drop_succ_cons, List.drop_zero]
theorem sign_sign (c : UInt8) (h : c.toNat = 123 ∨ c.toNat = 125 ∨ c.toNat = 59) : SignOk [c] := by
  have hp : plainB c = false := by unfold plainB; simp; omega
  refine ⟨by simp, fun r => stops_cons c _ hp, fun r p => ⟨[⟨signK c, p, [], 0⟩], ?_, by simp, ?_⟩⟩
  · intro t ht; simp at ht; subst ht; have := signK_cases c; simp only; omega
  · rw [List.singleton_append, lexL_tok p (by simp) (step_sign c r h), List.drop_succ_cons, List.drop_zero]; rfl
theorem ok_32 : SignOk [32] := sign_skip _ 32 [] rfl (by decide) (by decide) (fun r p => lex_blank 32 r p (by decide))
theorem ok_123 : SignOk [123] := sign_sign 123 (by decide)
theorem ok_125 : SignOk [125] := sign_sign 125 (by decide)
theorem ok_59 : SignOk [59] := sign_sign 59 (by decide)
theorem ok_10 : SignOk [10] := sign_skip _ 10 [] rfl (by decide) (by decide) (fun r p => lex_blank 10 r p (by decide))
theorem ok_line : SignOk [35, 120, 10] := sign_skip _ 35 [120, 10] rfl (by decide) (by decide) (fun r p => lex_short p [120] r (by decide))
theorem ok_star : SignOk [32, 47, 42, 32, 42, 47] := sign_skip _ 32 [47, 42, 32, 42, 47] rfl (by decide) (by decide) (fun r p => by
  show lexL p (32 :: 47 :: 42 :: ([32] ++ 42 :: 47 :: r)) = _
  rw [lex_blank 32 _ p (by decide), lex_long (p + 1) [32] r (by decide)]
  rfl)

def rowC (C : List UInt8) (ws : List (List UInt8)) : List UInt8 := ws.flatMap fun x => quoteL x ++ C
/-- The words of the Names. -/
def names : List Tok → List (List UInt8)
  | [] => []
  | t :: l => if t.kind = 1 then t.word :: names l else names l
theorem names_other (b l : List Tok) (h : ∀ t ∈ b, t.kind ≠ 1) : names (b ++ l) = names l := by
  induction b with
  | nil => rfl
  | cons t b ih =>
    simp only [List.cons_append, names]
    rw [if_neg (h t (by simp)), ih (fun x hx => h x (by simp [hx]))]
theorem lex_row (C : List UInt8) (hC : SignOk C) : ∀ (ws : List (List UInt8)) (p : Nat), (∀ x ∈ ws, x.length ≤ 40) → ∃ a, lexL p (rowC C ws) = .ok a ∧ names a = ws ∧ a.length ≤ 2 * ws.length
  | [], p, _ => ⟨[], rfl, rfl, by simp⟩
  | x :: ws, p, h => by
    have e : rowC C (x :: ws) = quoteL x ++ (C ++ rowC C ws) := by simp [rowC]
    have hne : quoteL x ++ (C ++ rowC C ws) ≠ [] := by
      have := quote_pos x
      intro e; rw [List.append_eq_nil_iff] at e; rw [e.1] at this; simp at this
    obtain ⟨b, hb1, hb2, hb⟩ := hC.2.2 (rowC C ws) (p + (quoteL x).length)
    obtain ⟨a, ha, hn, hl⟩ := lex_row C hC ws (p + (quoteL x).length + C.length) (fun y hy => h y (by simp [hy]))
    refine ⟨⟨1, p, x, 0⟩ :: (b ++ a), ?_, ?_, ?_⟩
    · rw [e, lexL_tok p hne (step_name x _ (h x (by simp)) (hC.2.1 _)), List.drop_left, hb, ha]; rfl
    · simp only [names, if_true]; rw [names_other b a hb1, hn]
    · simp only [List.length_cons, List.length_append]; omega
theorem row_len (C : List UInt8) (hC : C.length ≤ 6) (ws : List (List UInt8)) (h : ∀ x ∈ ws, x.length ≤ 40) : (rowC C ws).length ≤ 168 * ws.length := by
  induction ws with
  | nil => simp [rowC]
  | cons x ws ih =>
    have h1 := ih (fun y hy => h y (by simp [hy]))
    have h2 := (quote_len x).2
    have h3 := h x (by simp)
    have e : rowC C (x :: ws) = quoteL x ++ (C ++ rowC C ws) := by simp [rowC]
    rw [e]
    simp only [List.length_append, List.length_cons]
    omega
theorem names_skip {l : List Tok} {k : Nat} (h : k < l.length) {kd : Int} {pos : Nat} {wd : List UInt8} {b : Int} (ht : l[k] = ⟨kd, pos, wd, b⟩) (hk : kd ≠ 1) : names (l.drop k) = names (l.drop (k + 1)) := by
  rw [List.drop_eq_getElem_cons h, ht]; simp only [names]; rw [if_neg hk]
theorem names_hit {l : List Tok} {k : Nat} (h : k < l.length) {pos : Nat} {wd : List UInt8} {b : Int} (ht : l[k] = ⟨1, pos, wd, b⟩) : names (l.drop k) = wd :: names (l.drop (k + 1)) := by
  rw [List.drop_eq_getElem_cons h, ht]; simp only [names, if_true]
theorem drop_hit {α : Type} {ws : List α} {j : Nat} {x : α} {r : List α} (h : ws.drop j = x :: r) : ∃ hj : j < ws.length, ws[j] = x ∧ ws.drop (j + 1) = r := by
  have hj : j < ws.length := by
    rcases Nat.lt_or_ge j ws.length with h1 | h1
    · exact h1
    · rw [List.drop_of_length_le h1] at h; cases h
  rw [List.drop_eq_getElem_cons hj] at h
  injection h with h1 h2
  exact ⟨hj, h1, h2⟩
end Go.Proofs.Ytokhflpeeibeeaa.W
