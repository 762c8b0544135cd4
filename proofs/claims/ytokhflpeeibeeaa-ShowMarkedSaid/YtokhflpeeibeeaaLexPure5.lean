/-
  Plain laws on bytes for layer 2 (lex): what a token is written as is read as that token, whatever stands behind, if it ends a word. Condition: words of at most 40 bytes.
-/
import Derived.Test.YtokhflpeeibeeaaLexPure4
namespace Go.Proofs.Ytokhflpeeibeeaa.W

theorem stops_nil : stops [] := by intro c h; simp at h
theorem stops_cons (c : UInt8) (r : List UInt8) (h : plainB c = false) : stops (c :: r) := by intro d hd; simp at hd; subst hd; exact h
theorem bare_plain {w : List UInt8} (h : bareL w = true) : w.all plainB = true ∧ w ≠ [] ∧ reservedL w = false := by
  unfold bareL allPlainL at h
  simp only [Bool.and_eq_true, Bool.not_eq_true'] at h
  exact ⟨h.1.1, by intro e; rw [e] at h; simp at h, h.2⟩
theorem plainRun_full (l r : List UInt8) (h : l.all plainB = true) (hr : stops r) : plainRun (l ++ r) = l.length := by
  rw [plainRun_stops l r hr]
  unfold plainRun
  have := List.takeWhile_append_of_pos (p := plainB) (l₁ := l) (l₂ := []) (fun a ha => List.all_eq_true.1 h a ha)
  simp only [List.append_nil, List.takeWhile_nil] at this
  rw [this]
theorem scanD_plain (l r : List UInt8) (hl : l ≠ []) (h : l.all plainB = true) (hr : stops r) : scanD (l ++ r) = some l.length := by
  match l, hl with
  | c :: l', _ =>
    have hrun := plainRun_full (c :: l') r h hr
    have hc := plainB_range (List.all_eq_true.1 h c (by simp))
    simp only [List.cons_append, scanD] at hrun ⊢
    rw [if_neg (by omega), hrun, if_neg (by simp)]
theorem scanD_q (w r : List UInt8) (hr : stops r) : scanD (quoteL w ++ r) = some (quoteL w).length := by
  unfold quoteL
  cases hb : bareL w with
  | true =>
    rw [if_pos rfl]
    exact scanD_plain w r (bare_plain hb).2.1 (bare_plain hb).1 hr
  | false =>
    rw [if_neg (by simp)]
    have e : quotedL w ++ r = 34 :: (encL w ++ 34 :: r) := by simp [quotedL]
    rw [e]
    simp only [scanD]
    rw [if_pos (show (34 : UInt8).toNat = 34 from rfl), quotedRun_encL]
    simp [quotedL]
/-- A first byte that begins a word. -/
theorem gap_word (c : UInt8) (r : List UInt8) (h : plainB c = true ∨ c.toNat = 34) (hp : Lib.hasPrefix (c :: r) [47, 42] = false) : gapO (c :: r) = some 0 ∧ signK c = 0 := by
  have hr : (42 ≤ c.toNat ∧ c.toNat ≤ 122 ∧ c.toNat ≠ 59) ∨ c.toNat = 34 := by
    rcases h with h | h
    · left
      unfold plainB at h; have := of_decide_eq_true h; omega
    · exact .inr h
  refine ⟨?_, ?_⟩
  · simp only [gapO]
    rw [if_neg (by unfold blankB; simp; omega), if_neg (by omega), if_neg (by simp [hp])]
  · have := signK_cases c; omega
theorem pre2_stops (w r : List UInt8) (hw : w ≠ []) (h : Lib.hasPrefix w [47, 42] = false) (hr : stops r) : Lib.hasPrefix (w ++ r) [47, 42] = false := by
  match w, hw, h with
  | [c], _, _ =>
    match r, hr with
    | [], _ => simp [Lib.hasPrefix, List.isPrefixOf]
    | d :: r, hr =>
      have hd := hr d rfl
      have : ¬ d = 42 := by intro e; subst e; revert hd; decide
      simp [Lib.hasPrefix, List.isPrefixOf]
      intro _ h2; exact this h2.symm
  | c :: d :: w, _, h => simpa [Lib.hasPrefix, List.isPrefixOf] using h
theorem mark_of {w : List UInt8} (h : reservedL w = false) : markK w = 0 := by
  unfold reservedL at h
  simp only [Bool.or_eq_false_iff] at h
  unfold markK
  rw [if_neg (by rw [h.1.1]; simp), if_neg (by rw [h.1.2]; simp)]
theorem mark_q (w : List UInt8) : markK (quoteL w) = 0 := by
  unfold quoteL
  cases hb : bareL w with
  | true => rw [if_pos rfl]; exact mark_of (bare_plain hb).2.2
  | false => rw [if_neg (by simp)]; simp [markK, quotedL, inactiveL, protectL]
theorem step_name (w r : List UInt8) (h40 : w.length ≤ 40) (hr : stops r) : stepD (quoteL w ++ r) = .tok 1 w 0 (quoteL w).length := by
  have hg : gapO (quoteL w ++ r) = some 0 ∧ signK ((quoteL w ++ r).headD 0) = 0 := by
    unfold quoteL
    cases hb : bareL w with
    | true =>
      rw [if_pos rfl]
      obtain ⟨h1, h2, h3⟩ := bare_plain hb
      have hp : Lib.hasPrefix w [47, 42] = false := by
        unfold reservedL at h3; simp only [Bool.or_eq_false_iff] at h3; exact h3.2
      have hp2 := pre2_stops w r h2 hp hr
      match w, h2, h1, hp2 with
      | c :: w', _, h1, hp2 => exact gap_word c (w' ++ r) (.inl (List.all_eq_true.1 h1 c (by simp))) hp2
    | false =>
      rw [if_neg (by simp)]
      have e : quotedL w ++ r = 34 :: (encL w ++ 34 :: r) := by simp [quotedL]
      rw [e]
      exact gap_word 34 _ (.inr rfl) (by simp [Lib.hasPrefix, List.isPrefixOf])
  rw [stepD_take hg.1]
  unfold takeD
  rw [if_neg (fun h => h hg.2), scanD_q w r hr]
  simp only [List.take_left]
  rw [if_neg (by simp [mark_q]), unq_quote w h40, if_neg (by simp)]
theorem step_sign (c : UInt8) (r : List UInt8) (h : c.toNat = 123 ∨ c.toNat = 125 ∨ c.toNat = 59) : stepD (c :: r) = .tok (signK c) [] 0 1 := by
  have hp : ¬ Lib.hasPrefix (c :: r) [47, 42] = true := by
    intro hp
    have : c = 47 := by
      cases r <;> simp [Lib.hasPrefix, List.isPrefixOf] at hp
      exact hp.1.symm
    subst this; revert h; decide
  have hg : gapO (c :: r) = some 0 := by
    simp only [gapO]
    rw [if_neg (by unfold blankB; simp; omega), if_neg (by omega), if_neg hp]
  rw [stepD_take hg]
  unfold takeD
  rw [List.headD_cons, if_pos (by have := signK_cases c; omega)]
theorem step_mark (m r : List UInt8) (h : m = inactiveL ∨ m = protectL) (hr : stops r) : stepD (m ++ r) = .tok 5 [] (markK m) m.length := by
  have hm : m.all plainB = true ∧ m ≠ [] ∧ Lib.hasPrefix m [47, 42] = false ∧ markK m ≠ 0 := by
    rcases h with rfl | rfl
    · exact ⟨by decide, by decide, by decide, by decide⟩
    · exact ⟨by decide, by decide, by decide, by decide⟩
  obtain ⟨h1, h2, h3, h4⟩ := hm
  have hp2 := pre2_stops m r h2 h3 hr
  have hg : gapO (m ++ r) = some 0 ∧ signK ((m ++ r).headD 0) = 0 := by
    match m, h2, h1, hp2 with
    | c :: m', _, h1, hp2 => exact gap_word c (m' ++ r) (.inl (List.all_eq_true.1 h1 c (by simp))) hp2
  rw [stepD_take hg.1]
  unfold takeD
  rw [if_neg (fun h => h hg.2), scanD_plain m r h2 h1 hr]
  simp only [List.take_left]
  rw [if_pos h4]

/-- A token as All makes it. -/
def GoodTok (t : Tok) : Prop := (t.kind = 1 ∧ t.word.length ≤ 40 ∧ t.bit = 0) ∨ ((t.kind = 2 ∨ t.kind = 3 ∨ t.kind = 4) ∧ t.word = [] ∧ t.bit = 0) ∨ (t.kind = 5 ∧ t.word = [] ∧ (t.bit = 1 ∨ t.bit = 2))
def tokText (t : Tok) : List UInt8 :=
  if t.kind = 1 then quoteL t.word else if t.kind = 2 then [123] else if t.kind = 3 then [125] else if t.kind = 4 then [59] else if t.bit = 1 then inactiveL else protectL
def sepText (l : List Tok) : List UInt8 := l.flatMap fun t => 32 :: tokText t
def textL (l : List Tok) : List UInt8 := (sepText l).drop 1
theorem sep_stops (l : List Tok) : stops (sepText l) := by
  cases l with
  | nil => exact stops_nil
  | cons t l => exact stops_cons 32 _ (by decide)
theorem markK_cases (l : List UInt8) : markK l = 0 ∨ markK l = 1 ∨ markK l = 2 := by
  unfold markK; split
  · simp
  · split <;> simp
theorem takeD_goodTok {l : List UInt8} {k : Int} {w : List UInt8} {b : Int} {n p : Nat} (h : takeD l = .tok k w b n) : GoodTok ⟨k, p, w, b⟩ := by
  rcases takeD_cases h with ⟨h1, rfl, rfl, rfl, _⟩ | ⟨_, _, h1, rfl, rfl, rfl⟩ | ⟨_, _, _, hu, rfl, rfl⟩
  · have := signK_cases (l.headD 0)
    exact .inr (.inl ⟨by simp only; omega, rfl, rfl⟩)
  · have := markK_cases (l.take n)
    exact .inr (.inr ⟨rfl, rfl, by simp only; omega⟩)
  · exact .inl ⟨rfl, (unq_len hu).1, rfl⟩
theorem lexL_good (l : List UInt8) : ∀ (p : Nat) (a : List Tok), lexL p l = .ok a → ∀ t ∈ a, GoodTok t := by
  induction l using step_ind with
  | h0 => intro p a h; rw [lexL_nil] at h; injection h with h; subst h; simp
  | hs l n he h ih => intro p a hp; rw [lexL_skip _ he h] at hp; exact ih _ _ hp
  | ht l k w b n he h ih =>
    intro p a hp
    have hn := stepD_tok he h
    rw [lexL_tok _ he h] at hp
    cases hr : lexL (p + n) (l.drop n) with
    | bad q e => rw [hr] at hp; cases hp
    | ok a' =>
      rw [hr] at hp
      injection hp with hp
      subst hp
      intro t ht
      rcases List.mem_append.1 ht with ht | ht
      · simp at ht; subst ht; exact takeD_goodTok hn.2.2.2
      · exact ih _ _ hr t ht
  | hb l e he h => intro p a hp; rw [lexL_bad _ he h] at hp; cases hp
theorem step_text (t : Tok) (r : List UInt8) (h : GoodTok t) (hr : stops r) : stepD (tokText t ++ r) = .tok t.kind t.word t.bit (tokText t).length ∧ tokText t ≠ [] := by
  obtain ⟨k, p, w, b⟩ := t
  unfold GoodTok at h
  simp only at h
  rcases h with ⟨rfl, h40, rfl⟩ | ⟨hk, rfl, rfl⟩ | ⟨rfl, rfl, hb⟩
  · have e : tokText ⟨1, p, w, 0⟩ = quoteL w := by simp [tokText]
    rw [e]
    exact ⟨step_name w r h40 hr, by have := quote_pos w; intro e; rw [e] at this; simp at this⟩
  · rcases hk with rfl | rfl | rfl
    · exact ⟨step_sign 123 r (by decide), by simp [tokText]⟩
    · exact ⟨step_sign 125 r (by decide), by simp [tokText]⟩
    · exact ⟨step_sign 59 r (by decide), by simp [tokText]⟩
  · rcases hb with rfl | rfl
    · exact ⟨step_mark inactiveL r (.inl rfl) hr, by simp [tokText, inactiveL]⟩
    · exact ⟨step_mark protectL r (.inr rfl) hr, by simp [tokText, protectL]⟩
theorem alike_nil : Alike [] [] := ⟨rfl, fun i h => by simp at h⟩
theorem alike_cons {t u : Tok} {a b : List Tok} (h : t.kind = u.kind ∧ t.word = u.word ∧ t.bit = u.bit) (hab : Alike a b) : Alike (t :: a) (u :: b) := by
  refine ⟨by simp [hab.1], fun i h1 h2 => ?_⟩
  match i with
  | 0 => exact h
  | i + 1 => exact hab.2 i (by simpa using h1) (by simpa using h2)
/-- Tokens, a blank ahead of each, are read as these tokens. -/
theorem lex_sep : ∀ (l : List Tok) (p : Nat), (∀ t ∈ l, GoodTok t) → ∃ a, lexL p (sepText l) = .ok a ∧ Alike l a
  | [], p, _ => ⟨[], rfl, alike_nil⟩
  | t :: l, p, h => by
    have e : sepText (t :: l) = 32 :: (tokText t ++ sepText l) := by simp [sepText]
    obtain ⟨hs, hne⟩ := step_text t (sepText l) (h t (by simp)) (sep_stops l)
    have hne2 : tokText t ++ sepText l ≠ [] := by simp [hne]
    obtain ⟨a, ha, hal⟩ := lex_sep l (p + 1 + (tokText t).length) (fun x hx => h x (by simp [hx]))
    refine ⟨⟨t.kind, p + 1, t.word, t.bit⟩ :: a, ?_, alike_cons ⟨rfl, rfl, rfl⟩ hal⟩
    rw [e, lexL_skip (n := 1) p (by simp) (stepD_gap (n := 0) (by simp [gapO, blankB])), List.drop_succ_cons, List.drop_zero, lexL_tok _ hne2 hs, List.drop_left, ha]
    rfl
theorem lex_text (l : List Tok) (h : ∀ t ∈ l, GoodTok t) : ∃ a, lexL 0 (textL l) = .ok a ∧ Alike l a := by
  cases l with
  | nil => exact ⟨[], rfl, alike_nil⟩
  | cons t l =>
    obtain ⟨hs, hne⟩ := step_text t (sepText l) (h t (by simp)) (sep_stops l)
    have hne2 : tokText t ++ sepText l ≠ [] := by simp [hne]
    obtain ⟨a, ha, hal⟩ := lex_sep l (0 + (tokText t).length) (fun x hx => h x (by simp [hx]))
    refine ⟨⟨t.kind, 0, t.word, t.bit⟩ :: a, ?_, alike_cons ⟨rfl, rfl, rfl⟩ hal⟩
    have e : textL (t :: l) = tokText t ++ sepText l := by simp [textL, sepText]
    rw [e, lexL_tok _ hne2 hs, List.drop_left, ha]
    rfl
theorem sep_next (l : List Tok) (k : Nat) (h : k < l.length) : sepText (l.take (k + 1)) = sepText (l.take k) ++ 32 :: tokText l[k] := by
  rw [List.take_succ_eq_append_getElem h]; unfold sepText; rw [List.flatMap_append]; simp
theorem sep_pos (l : List Tok) (k : Nat) (h : k < l.length) (hk : 0 < k) : 1 ≤ (sepText (l.take k)).length := by
  obtain ⟨j, rfl⟩ : ∃ j, k = j + 1 := ⟨k - 1, by omega⟩
  rw [sep_next l j (by omega)]; simp; omega
theorem text_first (l : List Tok) (h : 0 < l.length) : textL (l.take 1) = tokText l[0] := by
  unfold textL; rw [sep_next l 0 h]; simp [sepText]
theorem text_next (l : List Tok) (k : Nat) (h : k < l.length) (hk : 0 < k) : textL (l.take (k + 1)) = textL (l.take k) ++ 32 :: tokText l[k] := by
  unfold textL; rw [sep_next l k h, List.drop_append_of_le_length (sep_pos l k h hk)]
theorem tokText_len (t : Tok) (h : GoodTok t) : (tokText t).length ≤ 162 := by
  obtain ⟨k, p, w, b⟩ := t
  unfold GoodTok at h
  simp only at h
  rcases h with ⟨rfl, h40, rfl⟩ | ⟨hk, rfl, rfl⟩ | ⟨rfl, rfl, hb⟩
  · have e : tokText ⟨1, p, w, 0⟩ = quoteL w := by simp [tokText]
    rw [e]
    have := (quote_len w).2; omega
  · rcases hk with rfl | rfl | rfl <;> simp [tokText]
  · rcases hb with rfl | rfl <;> simp [tokText, inactiveL, protectL]
theorem sep_len (l : List Tok) (h : ∀ t ∈ l, GoodTok t) : (sepText l).length ≤ 163 * l.length := by
  induction l with
  | nil => simp [sepText]
  | cons t l ih =>
    have h1 := ih (fun x hx => h x (by simp [hx]))
    have h2 := tokText_len t (h t (by simp))
    have e : sepText (t :: l) = 32 :: (tokText t ++ sepText l) := by simp [sepText]
    rw [e]
    simp only [List.length_cons, List.length_append]
    omega
theorem text_len (l : List Tok) (h : ∀ t ∈ l, GoodTok t) : (textL l).length ≤ 163 * l.length := by
  have := sep_len l h
  unfold textL; rw [List.length_drop]; omega
end Go.Proofs.Ytokhflpeeibeeaa.W
