/-
  Plain definitions and laws for layers 4 and 5 (the text of a tree, and how a text is read), without the program. Condition: a tree where a law says so.
-/
import Derived.Test.YtkifapbiimlafaaPureW
import Derived.Test.YtkifapbiimlafaaPureT

namespace Go.Proofs.Ytkifapbiimlafaa.S
open T (Ln at_ dp wd RightT)
open W (Tok Res Step lexL stepD quoteL inactiveL protectL stops signK)

def blanksL (n : Nat) : List UInt8 := List.replicate (2 * n) 32
def markT (m : Int) : List UInt8 := (if m % 2 = 1 then inactiveL ++ [32] else []) ++ (if 1 < m then protectL ++ [32] else [])
/-- Does something stand under the line at i? -/
def openB (t : List Ln) (i : Nat) : Bool := decide (i + 1 < t.length ∧ dp t i < dp t (i + 1))
/-- The depth of the line behind, or 0. -/
def nextD (t : List Ln) (i : Nat) : Nat := if i + 1 < t.length then (dp t (i + 1)).toNat else 0
/-- The ends of all parts from depth d - 1 down to nd. -/
def closeT : Nat → Nat → List UInt8
  | 0, _ => []
  | d + 1, nd => if nd ≤ d then blanksL d ++ [125, 10] ++ closeT d nd else []
def lineT (t : List Ln) (i : Nat) : List UInt8 := blanksL (dp t i).toNat ++ markT (at_ t i).mark ++ quoteL (wd t i) ++ (if openB t i = true then [32, 123, 10] else [59, 10])
def rowT (t : List Ln) (i : Nat) : List UInt8 := lineT t i ++ closeT (dp t i).toNat (nextD t i)
def textTo (t : List Ln) (k : Nat) : List UInt8 := (List.range k).flatMap (rowT t)
def textL (t : List Ln) : List UInt8 := textTo t t.length
theorem text_next (t : List Ln) (k : Nat) : textTo t (k + 1) = textTo t k ++ rowT t k := by
  unfold textTo; rw [List.range_succ, List.flatMap_append]; simp

/-- A token without its place. -/
abbrev Trip := Int × List UInt8 × Int
def strip (t : Tok) : Trip := (t.kind, t.word, t.bit)
/-- The tokens of a text, without their places. -/
def lexS (l : List UInt8) : Option (List Trip) := match lexL 0 l with | .ok a => some (a.map strip) | .bad _ _ => none
theorem strip_shift (q : Nat) (a : List Tok) : (a.map (Tok.shift q)).map strip = a.map strip := by
  rw [List.map_map]; rfl
theorem lexS_at (p : Nat) (l : List UInt8) : (match lexL p l with | .ok a => some (a.map strip) | .bad _ _ => none) = lexS l := by
  have := W.lexL_shift l 0 p
  rw [Nat.zero_add] at this
  rw [this]
  unfold lexS
  cases h : lexL 0 l with
  | ok a => simp only [Res.shift]; rw [strip_shift]
  | bad p e => rfl
theorem lexS_tok {l : List UInt8} {k : Int} {w : List UInt8} {b : Int} {n : Nat} (hl : l ≠ []) (h : stepD l = .tok k w b n) : lexS l = (lexS (l.drop n)).map ((k, w, b) :: ·) := by
  have e := lexS_at (0 + n) (l.drop n)
  unfold lexS at e ⊢
  rw [W.lexL_tok 0 hl h]
  rw [← e]
  cases lexL (0 + n) (l.drop n) with
  | ok a => rfl
  | bad p e => rfl
theorem lexS_blank (c : UInt8) (r : List UInt8) (h : W.blankB c = true) : lexS (c :: r) = lexS r := by
  have e := lexS_at 1 r
  unfold lexS at e ⊢
  rw [W.lex_blank c r 0 h]
  exact e
theorem lexS_blanks (n : Nat) (r : List UInt8) : lexS (blanksL n ++ r) = lexS r := by
  have key : ∀ (m : Nat) (r : List UInt8), lexS (List.replicate m 32 ++ r) = lexS r := by
    intro m
    induction m with
    | zero => intro r; rfl
    | succ m ih => intro r; rw [List.replicate_succ, List.cons_append, lexS_blank 32 _ (by decide), ih]
  exact key _ r
theorem lexS_sign (c : UInt8) (r : List UInt8) (h : c.toNat = 123 ∨ c.toNat = 125 ∨ c.toNat = 59) : lexS (c :: r) = (lexS r).map ((signK c, [], 0) :: ·) := by
  rw [lexS_tok (List.cons_ne_nil _ _) (W.step_sign c r h)]; rfl
theorem lexS_name (w r : List UInt8) (h40 : w.length ≤ 40) (hr : stops r) : lexS (quoteL w ++ r) = (lexS r).map ((1, w, 0) :: ·) := by
  have hne : quoteL w ++ r ≠ [] := by have := W.quote_pos w; intro h; have h2 := congrArg List.length h; rw [List.length_append, List.length_nil] at h2; omega
  rw [lexS_tok hne (W.step_name w r h40 hr), List.drop_left]
theorem lexS_mark (m r : List UInt8) (h : m = inactiveL ∨ m = protectL) (hr : stops r) : lexS (m ++ r) = (lexS r).map ((5, [], W.markK m) :: ·) := by
  have hne : m ++ r ≠ [] := by rcases h with rfl | rfl <;> simp [inactiveL, protectL]
  rw [lexS_tok hne (W.step_mark m r h hr), List.drop_left]

def markK (m : Int) : List Trip := (if m % 2 = 1 then [(5, [], 1)] else []) ++ (if 1 < m then [(5, [], 2)] else [])
def toksRow (t : List Ln) (i : Nat) : List Trip :=
  markK (at_ t i).mark ++ ((1, wd t i, 0) :: (if openB t i = true then (2, [], 0) else (4, [], 0)) :: List.replicate ((dp t i).toNat - nextD t i) (3, [], 0))
theorem map_app (o : Option (List Trip)) (a b : List Trip) : (o.map (b ++ ·)).map (a ++ ·) = o.map ((a ++ b) ++ ·) := by cases o <;> simp
theorem map_cons (o : Option (List Trip)) (x : Trip) : o.map (x :: ·) = o.map ([x] ++ ·) := rfl
theorem map_nil (o : Option (List Trip)) : o.map ([] ++ ·) = o := by cases o <;> rfl
theorem stops_of (c : UInt8) (r : List UInt8) (h : W.plainB c = false) : stops (c :: r) := W.stops_cons c r h
theorem lexS_marks (m : Int) (r : List UInt8) : lexS (markT m ++ r) = (lexS r).map (markK m ++ ·) := by
  have one : ∀ (x : List UInt8) (h : x = inactiveL ∨ x = protectL) (r : List UInt8), lexS (x ++ [32] ++ r) = (lexS r).map ([(5, [], W.markK x)] ++ ·) := by
    intro x h r
    rw [List.append_assoc, lexS_mark x ([32] ++ r) h (stops_of 32 r (by decide)), List.singleton_append, lexS_blank 32 r (by decide)]
    rfl
  unfold markT markK
  by_cases h1 : m % 2 = 1
  · rw [if_pos h1, if_pos h1]
    by_cases h2 : 1 < m
    · rw [if_pos h2, if_pos h2, List.append_assoc, one _ (.inl rfl), one _ (.inr rfl), map_app]; rfl
    · rw [if_neg h2, if_neg h2, List.append_nil, List.append_nil, one _ (.inl rfl)]; rfl
  · rw [if_neg h1, if_neg h1, List.nil_append, List.nil_append]
    by_cases h2 : 1 < m
    · rw [if_pos h2, if_pos h2, one _ (.inr rfl)]; rfl
    · rw [if_neg h2, if_neg h2, List.nil_append, map_nil]
theorem lexS_close : ∀ (d nd : Nat) (r : List UInt8), lexS (closeT d nd ++ r) = (lexS r).map (List.replicate (d - nd) ((3, [], 0) : Trip) ++ ·)
  | 0, nd, r => by rw [Nat.zero_sub]; exact (map_nil _).symm
  | d + 1, nd, r => by
    unfold closeT
    by_cases h : nd ≤ d
    · rw [if_pos h, List.append_assoc, List.append_assoc, lexS_blanks, List.cons_append, lexS_sign 125 _ (by decide), List.singleton_append, lexS_blank 10 _ (by decide), lexS_close d nd r, show d + 1 - nd = (d - nd) + 1 by omega, List.replicate_succ, map_cons, map_app]
      rfl
    · rw [if_neg h, show d + 1 - nd = 0 by omega]; exact (map_nil _).symm
theorem RightT.lexS_row {t : List Ln} (h : RightT t) (i : Nat) (hi : i < t.length) (r : List UInt8) : lexS (rowT t i ++ r) = (lexS r).map (toksRow t i ++ ·) := by
  unfold rowT lineT toksRow
  rw [List.append_assoc, List.append_assoc, List.append_assoc, List.append_assoc, lexS_blanks, lexS_marks]
  cases openB t i with
  | true =>
    rw [if_pos rfl, if_pos rfl, List.cons_append, lexS_name _ _ (h.long i hi) (stops_of 32 _ (by decide)), lexS_blank 32 _ (by decide), List.cons_append, lexS_sign 123 _ (by decide), List.singleton_append, lexS_blank 10 _ (by decide), lexS_close, map_cons, map_cons, map_app, map_app, map_app, show signK 123 = 2 from by decide]
    simp only [List.append_assoc, List.nil_append, List.cons_append]
  | false =>
    rw [if_neg (by decide), if_neg (by decide), List.cons_append, lexS_name _ _ (h.long i hi) (stops_of 59 _ (by decide)), lexS_sign 59 _ (by decide), List.singleton_append, lexS_blank 10 _ (by decide), lexS_close, map_cons, map_cons, map_app, map_app, map_app, show signK 59 = 4 from by decide]
    simp only [List.append_assoc, List.nil_append, List.cons_append]
def toksFrom (t : List Ln) : Nat → Nat → List Trip
  | 0, _ => []
  | f + 1, k => toksRow t k ++ toksFrom t f (k + 1)
def textFrom (t : List Ln) : Nat → Nat → List UInt8
  | 0, _ => []
  | f + 1, k => rowT t k ++ textFrom t f (k + 1)
theorem textFrom_snoc (t : List Ln) : ∀ (f k : Nat), textFrom t (f + 1) k = textFrom t f k ++ rowT t (k + f)
  | 0, k => by simp [textFrom]
  | f + 1, k => by
    rw [textFrom, textFrom_snoc t f (k + 1)]
    rw [show k + 1 + f = k + (f + 1) by omega, ← List.append_assoc]; rfl
theorem text_from (t : List Ln) : ∀ f : Nat, textTo t f = textFrom t f 0
  | 0 => rfl
  | f + 1 => by rw [text_next, textFrom_snoc, text_from t f, Nat.zero_add]
theorem RightT.lexS_from {t : List Ln} (h : RightT t) : ∀ (f k : Nat), k + f ≤ t.length → lexS (textFrom t f k) = some (toksFrom t f k)
  | 0, k, _ => rfl
  | f + 1, k, hk => by rw [textFrom, RightT.lexS_row h k (by omega), RightT.lexS_from h f (k + 1) (by omega)]; rfl
/-- The tokens of a tree's text. -/
theorem RightT.lexS_text {t : List Ln} (h : RightT t) : lexS (textL t) = some (toksFrom t t.length 0) := by
  unfold textL; rw [text_from]; exact RightT.lexS_from h _ 0 (by omega)

/-- The lines that tokens make: a depth, and the marks so far. -/
def readS : Int → Int → List Trip → List Ln
  | _, _, [] => []
  | d, m, (k, w, b) :: l =>
    if k = 5 then readS d (m + b) l else if k = 1 then ⟨d, w, m⟩ :: readS d 0 l else if k = 2 then readS (d + 1) 0 l else if k = 3 then readS (d - 1) 0 l else readS d 0 l
theorem read_close (m : Nat) : ∀ (d : Int) (l : List Trip), readS d 0 (List.replicate m ((3, [], 0) : Trip) ++ l) = readS (d - m) 0 l := by
  induction m with
  | zero => intro d l; simp
  | succ m ih =>
    intro d l
    rw [List.replicate_succ, List.cons_append]
    simp only [readS]
    rw [if_neg (by decide), if_neg (by decide), if_neg (by decide), if_pos trivial, ih]
    congr 1; omega
theorem read_mark (m : Int) (h : 0 ≤ m ∧ m ≤ 3) (d : Int) (l : List Trip) : readS d 0 (markK m ++ l) = readS d m l := by
  have hm : m = 0 ∨ m = 1 ∨ m = 2 ∨ m = 3 := by omega
  rcases hm with rfl | rfl | rfl | rfl <;> simp [markK, readS]
theorem RightT.read_row {t : List Ln} (h : RightT t) (i : Nat) (hi : i < t.length) (l : List Trip) : readS (dp t i) 0 (toksRow t i ++ l) = at_ t i :: readS (nextD t i) 0 l := by
  have hd := h.deep i hi
  unfold toksRow
  rw [List.append_assoc, read_mark _ (h.mark i hi), List.cons_append]
  simp only [readS]
  rw [if_neg (by decide), if_pos trivial]
  congr 1
  have hn : nextD t i = (if i + 1 < t.length then (dp t (i + 1)).toNat else 0) := rfl
  cases ho : openB t i with
  | true =>
    have ho2 := of_decide_eq_true ho
    have hs := h.step i ho2.1
    rw [if_pos ho2.1] at hn
    rw [if_pos rfl, List.cons_append]
    simp only [readS]
    rw [if_neg (by decide), if_neg (by decide), if_pos trivial, show (dp t i).toNat - nextD t i = 0 by omega]
    show readS (dp t i + 1) 0 l = _
    congr 1; omega
  | false =>
    rw [if_neg (by decide), List.cons_append]
    simp only [readS]
    rw [if_neg (by decide), if_neg (by decide), if_neg (by decide), if_neg (by decide), read_close]
    congr 1
    by_cases hl : i + 1 < t.length
    · rw [if_pos hl] at hn
      have hle : dp t (i + 1) ≤ dp t i := by
        have := of_decide_eq_false ho
        omega
      have := (h.deep (i + 1) hl).1
      omega
    · rw [if_neg hl] at hn; omega
theorem RightT.read_from {t : List Ln} (h : RightT t) : ∀ (f k : Nat) (d : Int), k + f = t.length → (0 < f → d = dp t k) → readS d 0 (toksFrom t f k) = t.drop k
  | 0, k, d, hk, _ => by rw [List.drop_of_length_le (by omega)]; rfl
  | f + 1, k, d, hk, hd => by
    rw [toksFrom, hd (by omega), RightT.read_row h k (by omega)]
    rw [RightT.read_from h f (k + 1) (nextD t k) (by omega) (fun hf => by
      unfold nextD
      rw [if_pos (by omega)]
      have := (h.deep (k + 1) (by omega)).1
      omega)]
    have hk2 : k < t.length := by omega
    rw [List.drop_eq_getElem_cons hk2]
    congr 1
    unfold at_ List.getD
    rw [List.getElem?_eq_getElem hk2]; rfl
theorem RightT.read_toks {t : List Ln} (h : RightT t) : readS 0 0 (toksFrom t t.length 0) = t := by
  rw [RightT.read_from h t.length 0 0 (by omega) (fun hp => (h.first hp).symm)]; rfl
/-- Unlike trees have unlike texts. -/
theorem text_inj {a b : List Ln} (ha : RightT a) (hb : RightT b) (h : textL a = textL b) : a = b := by
  have e1 := RightT.lexS_text ha
  rw [h, RightT.lexS_text hb] at e1
  injection e1 with e1
  rw [← RightT.read_toks ha, ← e1, RightT.read_toks hb]
end Go.Proofs.Ytkifapbiimlafaa.S

namespace Go.Proofs.Ytkifapbiimlafaa.S
open T (Ln at_ dp wd RightT endL subL leafB leafN)
open W (quoteL inactiveL protectL)

/-- The ends of parts, one depth at a time. -/
theorem close_low : ∀ (d nd : Nat), d ≤ nd → closeT d nd = []
  | 0, _, _ => rfl
  | d + 1, nd, h => by unfold closeT; rw [if_neg (by omega)]
theorem close_step (d nd : Nat) : closeT (d + 1) nd = (if nd ≤ d then blanksL d ++ [125, 10] else []) ++ closeT d nd := by
  conv => lhs; unfold closeT
  by_cases h : nd ≤ d
  · rw [if_pos h, if_pos h]
  · rw [if_neg h, if_neg h, close_low d nd (by omega)]; rfl
theorem leaf_open {t : List Ln} {i : Nat} (hi : i < t.length) : openB t i = !leafB t i := by
  obtain ⟨g1, g2, g3, g4⟩ := T.end_spec t i hi
  unfold openB leafB
  by_cases h : endL t i = i + 1
  · rw [h]
    have : ¬ (i + 1 < t.length ∧ dp t i < dp t (i + 1)) := fun ⟨a, b⟩ => by
      have := g4 (by omega); rw [h] at this; omega
    simp [this]
  · have hlt : i + 1 < endL t i := by omega
    have := g3 (i + 1) (by omega) hlt
    have h2 : i + 1 < t.length ∧ dp t i < dp t (i + 1) := ⟨by omega, this⟩
    simp [h, h2]
/-- Whether a part ends behind the line at i. -/
theorem RightT.closer_iff {t : List Ln} (h : RightT t) {i k d : Nat} (hi : i < t.length) (hd : (d : Int) < dp t i) (hk : k ≤ i) (hall : ∀ m, k < m → m ≤ i → (d : Int) < dp t m) (hst : dp t k ≤ d) : endL t k = i + 1 ↔ nextD t i ≤ d := by
  have hki : k < i := by
    rcases Nat.lt_or_ge k i with hlt | hge
    · exact hlt
    · obtain rfl : k = i := by omega
      omega
  have hkd : dp t k = d := by
    have h1 := hall (k + 1) (by omega) (by omega)
    have h2 := h.step k (by omega)
    omega
  obtain ⟨g1, g2, g3, g4⟩ := T.end_spec t k (by omega)
  have hge : i + 1 ≤ endL t k := by
    rcases Nat.lt_or_ge (endL t k) (i + 1) with hlt | hge
    · have := g4 (by omega); have := hall (endL t k) g1 (by omega); omega
    · exact hge
  unfold nextD
  by_cases hl : i + 1 < t.length
  · rw [if_pos hl]
    have hp := (h.deep (i + 1) hl).1
    constructor
    · intro e
      have := g4 (by omega)
      rw [e] at this; omega
    · intro e
      rcases Nat.eq_or_lt_of_le hge with he | he
      · exact he.symm
      · have := g3 (i + 1) (by omega) he; omega
  · rw [if_neg hl]
    exact ⟨fun _ => Nat.zero_le _, fun _ => by omega⟩

/-- Bytes that a text may have. -/
def okB (b : UInt8) : Prop := b.toNat = 10 ∨ (32 ≤ b.toNat ∧ b.toNat ≤ 126)
theorem blanks_ok (n : Nat) : ∀ b ∈ blanksL n, b = 32 := by
  intro b hb; exact (List.mem_replicate.1 hb).2
theorem mark_ok (m : Int) : ∀ b ∈ markT m, 32 ≤ b.toNat ∧ b.toNat ≤ 126 := by
  have h1 : ∀ b ∈ inactiveL ++ [32], 32 ≤ b.toNat ∧ b.toNat ≤ 126 := by decide
  have h2 : ∀ b ∈ protectL ++ [32], 32 ≤ b.toNat ∧ b.toNat ≤ 126 := by decide
  intro b hb
  unfold markT at hb
  rcases List.mem_append.1 hb with hb | hb
  · by_cases h : m % 2 = 1
    · rw [if_pos h] at hb; exact h1 b hb
    · rw [if_neg h] at hb; cases hb
  · by_cases h : 1 < m
    · rw [if_pos h] at hb; exact h2 b hb
    · rw [if_neg h] at hb; cases hb
/-- A piece of a row ahead of its end. -/
def Quiet (l : List UInt8) : Prop := ∀ b ∈ l, 32 ≤ b.toNat ∧ b.toNat ≤ 126
theorem Quiet.app {a b : List UInt8} (ha : Quiet a) (hb : Quiet b) : Quiet (a ++ b) := fun x hx => (List.mem_append.1 hx).elim (ha x) (hb x)
theorem quiet_blanks (n : Nat) : Quiet (blanksL n) := fun b hb => by rw [blanks_ok n b hb]; decide
/-- A row: quiet bytes, then one of three signs, then a byte 10. -/
inductive Rows : List UInt8 → Nat → Prop
  | nil : Rows [] 0
  | row {l : List UInt8} {n : Nat} (q : List UInt8) (c : UInt8) (hq : Quiet q) (hc : c.toNat = 59 ∨ c.toNat = 123 ∨ c.toNat = 125) (h : Rows l n) : Rows (q ++ [c, 10] ++ l) (n + 1)
theorem Rows.app {a b : List UInt8} {m n : Nat} (ha : Rows a m) (hb : Rows b n) : Rows (a ++ b) (m + n) := by
  induction ha with
  | nil => simpa using hb
  | row q c hq hc h ih =>
    have := Rows.row q c hq hc ih
    rw [List.append_assoc, show ∀ k : Nat, k + 1 + n = k + n + 1 from fun k => by omega]
    exact this
theorem Rows.one (q : List UInt8) (c : UInt8) (hq : Quiet q) (hc : c.toNat = 59 ∨ c.toNat = 123 ∨ c.toNat = 125) : Rows (q ++ [c, 10]) 1 := by
  have := Rows.row q c hq hc Rows.nil
  simpa using this
theorem close_rows : ∀ d nd : Nat, Rows (closeT d nd) (d - nd)
  | 0, nd => by rw [Nat.zero_sub]; exact Rows.nil
  | d + 1, nd => by
    by_cases h : nd ≤ d
    · unfold closeT
      rw [if_pos h, show d + 1 - nd = (d - nd) + 1 by omega]
      exact Rows.row (blanksL d) 125 (quiet_blanks d) (by decide) (close_rows d nd)
    · rw [close_low _ _ (by omega), show d + 1 - nd = 0 by omega]; exact Rows.nil
theorem line_rows (t : List Ln) (i : Nat) : Rows (lineT t i) 1 := by
  have hq : Quiet (blanksL (dp t i).toNat ++ markT (at_ t i).mark ++ quoteL (wd t i)) := ((quiet_blanks _).app (mark_ok _)).app (W.quote_bytes _)
  unfold lineT
  cases openB t i with
  | true =>
    rw [if_pos rfl]
    have := Rows.one _ 123 (hq.app (b := [32]) (by unfold Quiet; decide)) (by decide)
    simpa using this
  | false =>
    rw [if_neg (by decide)]
    exact Rows.one _ 59 hq (by decide)
theorem row_rows (t : List Ln) (i : Nat) : Rows (rowT t i) (1 + ((dp t i).toNat - nextD t i)) := (line_rows t i).app (close_rows _ _)
/-- How many of the first k lines have something under them. -/
def openN (t : List Ln) (k : Nat) : Nat := ((List.range k).filter (openB t)).length
theorem openN_next (t : List Ln) (k : Nat) : openN t (k + 1) = openN t k + if openB t k = true then 1 else 0 := by
  unfold openN
  rw [List.range_succ, List.filter_append, List.length_append]
  cases h : openB t k <;> simp [h]
def depthAt (t : List Ln) (k : Nat) : Nat := if k < t.length then (dp t k).toNat else 0
theorem RightT.rows_to {t : List Ln} (h : RightT t) : ∀ k, k ≤ t.length → ∃ n, Rows (textTo t k) n ∧ n + depthAt t k = k + openN t k
  | 0, _ => by
    refine ⟨0, Rows.nil, ?_⟩
    unfold depthAt openN
    by_cases hp : 0 < t.length
    · rw [if_pos hp, h.first hp]; simp
    · rw [if_neg hp]; simp
  | k + 1, hk => by
    obtain ⟨n, h1, h2⟩ := RightT.rows_to h k (by omega)
    refine ⟨n + (1 + ((dp t k).toNat - nextD t k)), by rw [text_next]; exact h1.app (row_rows t k), ?_⟩
    rw [openN_next]
    have hd := (h.deep k (by omega)).1
    have e1 : depthAt t k = (dp t k).toNat := by unfold depthAt; rw [if_pos (by omega)]
    have e2 : depthAt t (k + 1) = nextD t k := rfl
    rw [e1] at h2
    rw [e2]
    cases ho : openB t k with
    | true =>
      have ho2 := of_decide_eq_true ho
      have hs := h.step k ho2.1
      have hn : nextD t k = (dp t (k + 1)).toNat := by unfold nextD; rw [if_pos ho2.1]
      rw [if_pos rfl]; omega
    | false =>
      rw [if_neg (by decide)]
      have hn : nextD t k ≤ (dp t k).toNat := by
        unfold nextD
        by_cases hl : k + 1 < t.length
        · rw [if_pos hl]; have := of_decide_eq_false ho; omega
        · rw [if_neg hl]; omega
      omega
theorem open_leaf (t : List Ln) : ∀ k, k ≤ t.length → openN t k + leafN t k = k
  | 0, _ => rfl
  | k + 1, hk => by
    have ih := open_leaf t k (by omega)
    rw [openN_next, T.leafN_next, leaf_open (by omega)]
    cases leafB t k <;> simp <;> omega
/-- How many rows a tree's text has. -/
theorem RightT.rows_text {t : List Ln} (h : RightT t) : ∃ n, Rows (textL t) n ∧ n + leafN t t.length = 2 * t.length := by
  obtain ⟨n, h1, h2⟩ := RightT.rows_to h t.length (Nat.le_refl _)
  have e : depthAt t t.length = 0 := by unfold depthAt; rw [if_neg (by omega)]
  have := open_leaf t t.length (Nat.le_refl _)
  exact ⟨n, h1, by omega⟩
end Go.Proofs.Ytkifapbiimlafaa.S

namespace Go.Proofs.Ytkifapbiimlafaa.S
open T (Ln at_ dp wd RightT endL subL)
open W (quoteL inactiveL protectL)

theorem Rows.bytes {l : List UInt8} {n : Nat} (h : Rows l n) : ∀ b ∈ l, okB b := by
  induction h with
  | nil => intro b hb; cases hb
  | row q c hq hc _ ih =>
    intro b hb
    rcases List.mem_append.1 hb with hb | hb
    · rcases List.mem_append.1 hb with hb | hb
      · exact .inr (hq b hb)
      · simp at hb
        rcases hb with rfl | rfl
        · exact .inr (by omega)
        · exact .inl rfl
    · exact ih b hb
/-- How many bytes 10. -/
def tens (l : List UInt8) : Nat := (l.filter fun b => decide (b.toNat = 10)).length
theorem tens_app (a b : List UInt8) : tens (a ++ b) = tens a + tens b := by unfold tens; rw [List.filter_append, List.length_append]
theorem tens_quiet {q : List UInt8} (h : Quiet q) : tens q = 0 := by
  unfold tens
  rw [List.length_eq_zero_iff, List.filter_eq_nil_iff]
  intro b hb; have := h b hb; simp; omega
theorem Rows.tens {l : List UInt8} {n : Nat} (h : Rows l n) : S.tens l = n := by
  induction h with
  | nil => rfl
  | row q c hq hc _ ih =>
    rw [tens_app, tens_app, tens_quiet hq, ih]
    have : S.tens [c, 10] = 1 := by
      unfold S.tens
      have : ¬ c.toNat = 10 := by omega
      simp [this]
    omega
theorem Rows.prev {l : List UInt8} {n : Nat} (h : Rows l n) : ∀ (i : Nat) (b : UInt8), l[i]? = some b → b.toNat = 10 → 0 < i ∧ ∃ c, l[i - 1]? = some c ∧ (c.toNat = 59 ∨ c.toNat = 123 ∨ c.toNat = 125) := by
  induction h with
  | nil => intro i b hb; simp at hb
  | @row l n q c hq hc _ ih =>
    intro i b hb h10
    rcases Nat.lt_trichotomy i (q.length + 1) with hlt | heq | hgt
    · rw [List.append_assoc] at hb
      rcases Nat.lt_or_ge i q.length with h1 | h1
      · rw [List.getElem?_append_left h1] at hb
        have := hq b (List.mem_of_getElem? hb); omega
      · rw [List.getElem?_append_right h1, show i - q.length = 0 by omega] at hb
        simp at hb; subst hb; omega
    · subst heq
      refine ⟨by omega, c, ?_, hc⟩
      rw [List.append_assoc, Nat.add_sub_cancel, List.getElem?_append_right (Nat.le_refl _), Nat.sub_self]; rfl
    · obtain ⟨j, rfl⟩ : ∃ j, i = (q ++ [c, 10]).length + j := ⟨i - (q.length + 2), by simp; omega⟩
      rw [List.getElem?_append_right (by omega), Nat.add_sub_cancel_left] at hb
      obtain ⟨h0, d, hd, hdc⟩ := ih j b hb h10
      refine ⟨by omega, d, ?_, hdc⟩
      rw [List.getElem?_append_right (by omega), show (q ++ [c, 10]).length + j - 1 - (q ++ [c, 10]).length = j - 1 by omega]
      exact hd
theorem Rows.last {l : List UInt8} {n : Nat} (h : Rows l n) : l ≠ [] → l.getLast? = some 10 := by
  induction h with
  | nil => intro h; exact absurd rfl h
  | @row l n q c hq hc _ ih =>
    intro _
    by_cases hl : l = []
    · subst hl; simp
    · rw [List.getLast?_append, ih hl]; rfl

theorem blanks_len (n : Nat) : (blanksL n).length = 2 * n := by unfold blanksL; rw [List.length_replicate]
theorem mark_len (m : Int) : (markT m).length = (if m % 2 = 1 then 10 else 0) + (if 1 < m then 9 else 0) := by
  unfold markT
  rw [List.length_append]
  by_cases h1 : m % 2 = 1 <;> by_cases h2 : 1 < m <;> simp [h1, h2, inactiveL, protectL]
theorem close_len : ∀ d nd : Nat, d ≤ 15 → (closeT d nd).length ≤ 32 * d
  | 0, nd, _ => by simp [closeT]
  | d + 1, nd, h => by
    rw [close_step, List.length_append]
    have := close_len d nd (by omega)
    by_cases hn : nd ≤ d
    · rw [if_pos hn, List.length_append, blanks_len]; simp; omega
    · rw [if_neg hn]; simp; omega
theorem RightT.row_len {t : List Ln} (h : RightT t) {i : Nat} (hi : i < t.length) : (rowT t i).length ≤ 1000 := by
  have hd := h.deep i hi
  have hc := close_len (dp t i).toNat (nextD t i) (by omega)
  have hq := (W.quote_len (wd t i)).2
  have hw := h.long i hi
  have hm : (markT (at_ t i).mark).length ≤ 19 := by rw [mark_len]; split <;> split <;> omega
  have he : (if openB t i = true then [32, 123, 10] else [59, 10] : List UInt8).length ≤ 3 := by split <;> simp
  unfold rowT lineT
  rw [List.length_append, List.length_append, List.length_append, List.length_append, blanks_len]
  omega
theorem RightT.text_len {t : List Ln} (h : RightT t) : ∀ k, k ≤ t.length → (textTo t k).length ≤ 1000 * k
  | 0, _ => by simp [textTo]
  | k + 1, hk => by
    have := RightT.text_len h k (by omega)
    have := RightT.row_len h (show k < t.length by omega)
    rw [text_next, List.length_append]; omega

/-- The rows of a part of Depth 0 are those of its lines. -/
theorem RightT.sub_row {t : List Ln} (h : RightT t) {m : Nat} (hm : m < t.length) (hd : dp t m = 0) {j : Nat} (hj : j < endL t m - m) : rowT (subL t m) j = rowT t (m + j) := by
  obtain ⟨g1, g2, g3, g4⟩ := T.end_spec t m hm
  have hl := T.sub_len t m hm
  have ha : ∀ k, k < endL t m - m → at_ (subL t m) k = at_ t (m + k) := fun k hk => by
    rw [T.sub_at t m k hm hk, hd]
    show (⟨(at_ t (m + k)).depth - 0, (at_ t (m + k)).word, (at_ t (m + k)).mark⟩ : Ln) = _
    rw [Int.sub_zero]
  have hdp : ∀ k, k < endL t m - m → dp (subL t m) k = dp t (m + k) := fun k hk => by unfold dp; rw [ha k hk]
  have hwd : wd (subL t m) j = wd t (m + j) := by unfold wd; rw [ha j hj]
  have hend : endL t m < t.length → dp t (endL t m) = 0 := fun hlt => by have := g4 hlt; have := (h.deep _ hlt).1; omega
  have hop : openB (subL t m) j = openB t (m + j) := by
    unfold openB
    rw [hl]
    by_cases h1 : j + 1 < endL t m - m
    · rw [hdp j hj, hdp (j + 1) h1]
      have h2 : m + j + 1 < t.length := by omega
      rw [Bool.eq_iff_iff, decide_eq_true_iff, decide_eq_true_iff]
      exact ⟨fun x => ⟨h2, x.2⟩, fun x => ⟨h1, x.2⟩⟩
    · have he : m + j + 1 = endL t m := by omega
      have hdj := (h.deep (m + j) (by omega)).1
      rw [he]
      have : ¬ (endL t m < t.length ∧ dp t (m + j) < dp t (endL t m)) := fun ⟨a, b⟩ => by rw [hend a] at b; omega
      simp [h1, this]
  have hnx : nextD (subL t m) j = nextD t (m + j) := by
    unfold nextD
    rw [hl]
    by_cases h1 : j + 1 < endL t m - m
    · rw [if_pos h1, if_pos (by omega), hdp (j + 1) h1]; rfl
    · rw [if_neg h1]
      have he : m + j + 1 = endL t m := by omega
      rw [he]
      by_cases h2 : endL t m < t.length
      · rw [if_pos h2, hend h2]; rfl
      · rw [if_neg h2]
  unfold rowT lineT
  rw [hop, hnx, hdp j hj, hwd, ha j hj]
theorem RightT.sub_text {t : List Ln} (h : RightT t) {m : Nat} (hm : m < t.length) (hd : dp t m = 0) : textTo t m ++ textL (subL t m) = textTo t (endL t m) := by
  have hl := T.sub_len t m hm
  have he := T.end_spec t m hm
  have key : ∀ k, k ≤ endL t m - m → textTo t m ++ textTo (subL t m) k = textTo t (m + k) := by
    intro k
    induction k with
    | zero => intro _; simp [textTo]
    | succ k ih =>
      intro hk
      rw [text_next, ← List.append_assoc, ih (by omega), RightT.sub_row h hm hd (by omega), ← text_next]; rfl
  unfold textL
  rw [hl, key _ (Nat.le_refl _), show m + (endL t m - m) = endL t m by omega]

/-- A tree with another mark of one line. -/
def setM (t : List Ln) (k : Nat) (m : Int) : List Ln := t.set k ⟨dp t k, wd t k, m⟩
theorem setM_len (t : List Ln) (k : Nat) (m : Int) : (setM t k m).length = t.length := by unfold setM; rw [List.length_set]
theorem setM_at (t : List Ln) (k : Nat) (m : Int) (i : Nat) (hk : k < t.length) : at_ (setM t k m) i = if i = k then ⟨dp t k, wd t k, m⟩ else at_ t i := by
  unfold setM at_ List.getD
  rw [List.getElem?_set]
  by_cases h : i = k
  · subst h; simp [hk]
  · rw [if_neg (fun e => h e.symm), if_neg h]
theorem setM_dp (t : List Ln) (k : Nat) (m : Int) (i : Nat) (hk : k < t.length) : dp (setM t k m) i = dp t i := by
  unfold dp; rw [setM_at t k m i hk]
  by_cases h : i = k
  · rw [if_pos h, h]; rfl
  · rw [if_neg h]
theorem setM_wd (t : List Ln) (k : Nat) (m : Int) (i : Nat) (hk : k < t.length) : wd (setM t k m) i = wd t i := by
  unfold wd; rw [setM_at t k m i hk]
  by_cases h : i = k
  · rw [if_pos h, h]; rfl
  · rw [if_neg h]
theorem RightT.setM {t : List Ln} (h : RightT t) {k : Nat} (hk : k < t.length) {m : Int} (hm : 0 ≤ m ∧ m ≤ 3) : RightT (setM t k m) := by
  have hl := setM_len t k m
  have d := fun i => setM_dp t k m i hk
  have w := fun i => setM_wd t k m i hk
  refine ⟨by rw [hl]; exact h.len, fun i hi => by rw [d]; exact h.deep i (by omega), fun i hi => by rw [w]; exact h.long i (by omega), fun i hi => ?_, fun hp => by rw [d]; exact h.first (by omega), fun i hi => by rw [d, d]; exact h.step i (by omega), fun i j h1 h2 h3 h4 => ?_⟩
  · rw [setM_at t k m i hk]
    by_cases he : i = k
    · rw [if_pos he]; exact hm
    · rw [if_neg he]; exact h.mark i (by omega)
  · rw [w, w]
    rw [d, d] at h3
    exact h.rise i j h1 (by omega) h3 (fun x a b => by have := h4 x a b; rw [d, d] at this; exact this)
theorem setM_row (t : List Ln) (k : Nat) (m : Int) (i : Nat) (hk : k < t.length) : (rowT (setM t k m) i).length + (if i = k then (markT 0).length else 0) = (rowT (setM t k 0) i).length + (if i = k then (markT m).length else 0) := by
  have e1 : ∀ x : Int, openB (setM t k x) i = openB t i := fun x => by unfold openB; rw [setM_len, setM_dp t k x i hk, setM_dp t k x (i + 1) hk]
  have e2 : ∀ x : Int, nextD (setM t k x) i = nextD t i := fun x => by unfold nextD; rw [setM_len, setM_dp t k x (i + 1) hk]
  have e3 : ∀ x : Int, (rowT (setM t k x) i).length = (blanksL (dp t i).toNat).length + (markT (at_ (setM t k x) i).mark).length + (quoteL (wd t i)).length + (if openB t i = true then [32, 123, 10] else [59, 10] : List UInt8).length + (closeT (dp t i).toNat (nextD t i)).length := fun x => by
    unfold rowT lineT
    rw [List.length_append, List.length_append, List.length_append, List.length_append, e1, e2, setM_dp t k x i hk, setM_wd t k x i hk]
  rw [e3 m, e3 0, setM_at t k m i hk, setM_at t k 0 i hk]
  by_cases h : i = k
  · rw [if_pos h, if_pos h, if_pos h, if_pos h]; simp only; omega
  · rw [if_neg h, if_neg h, if_neg h, if_neg h]
theorem setM_text (t : List Ln) (k : Nat) (m : Int) (hk : k < t.length) : ∀ j, (textTo (setM t k m) j).length = (textTo (setM t k 0) j).length + (if k < j then (markT m).length else 0)
  | 0 => by simp [textTo]
  | j + 1 => by
    have ih := setM_text t k m hk j
    have hr := setM_row t k m j hk
    have h0 : (markT 0).length = 0 := rfl
    rw [text_next, text_next, List.length_append, List.length_append, ih]
    rw [h0] at hr
    rcases Nat.lt_trichotomy k j with hlt | heq | hgt
    · rw [if_pos hlt, if_pos (by omega)]
      rw [if_neg (by omega), if_neg (by omega)] at hr; omega
    · subst heq
      rw [if_neg (by omega), if_pos (by omega)]
      rw [if_pos rfl, if_pos rfl] at hr; omega
    · rw [if_neg (by omega), if_neg (by omega)]
      rw [if_neg (by omega), if_neg (by omega)] at hr; omega
/-- A mark more makes a text longer by its words. -/
theorem marked_len (t : List Ln) (k : Nat) (hk : k < t.length) : (textL (setM t k 1)).length = (textL (setM t k 0)).length + 10 ∧ (textL (setM t k 3)).length = (textL (setM t k 1)).length + 9 := by
  unfold textL
  rw [setM_len, setM_len, setM_len, setM_text t k 1 hk t.length, setM_text t k 3 hk t.length, if_pos hk, if_pos hk]
  have h1 : (markT 1).length = 10 := by decide
  have h3 : (markT 3).length = 19 := by decide
  omega
end Go.Proofs.Ytkifapbiimlafaa.S

namespace Go.Proofs.Ytkifapbiimlafaa.T

/-- The line of a path, or -1. -/
def findI (t : List Ln) (p : Pth) : Int := match (List.range t.length).find? fun i => pathL t i == p with | some i => (i : Int) | none => -1
theorem findI_some {N : Nat} {t : List Ln} (h : RightN N t) {p : Pth} {i : Nat} (hi : i < t.length) (e : pathL t i = p) : findI t p = i := by
  unfold findI
  cases hf : (List.range t.length).find? fun i => pathL t i == p with
  | none =>
    have := List.find?_eq_none.1 hf i (List.mem_range.2 hi)
    simp [e] at this
  | some k =>
    have h1 := List.find?_some hf
    have h2 := List.mem_range.1 (List.mem_of_find?_eq_some hf)
    have e1 : pathL t k = p := by simpa using h1
    show (k : Int) = i
    rw [h.path_inj (max k i) k i (Nat.le_max_left ..) (Nat.le_max_right ..) h2 hi (by rw [e1, e])]
theorem findI_none {t : List Ln} {p : Pth} (h : ∀ i, i < t.length → pathL t i ≠ p) : findI t p = -1 := by
  unfold findI
  rw [List.find?_eq_none.2 fun i hi => by simpa using h i (List.mem_range.1 hi)]
theorem findI_cases (t : List Ln) (p : Pth) : (findI t p = -1 ∧ ∀ i, i < t.length → pathL t i ≠ p) ∨ ∃ i, i < t.length ∧ findI t p = (i : Int) ∧ pathL t i = p := by
  unfold findI
  cases hf : (List.range t.length).find? fun i => pathL t i == p with
  | none => exact .inl ⟨rfl, fun i hi => by have := List.find?_eq_none.1 hf i (List.mem_range.2 hi); simpa using this⟩
  | some k => exact .inr ⟨k, List.mem_range.1 (List.mem_of_find?_eq_some hf), rfl, by simpa using List.find?_some hf⟩
theorem findI_nil (t : List Ln) : findI t [] = -1 := findI_none fun _ _ => path_ne
/-- Is there a line of the path, or is it none's? -/
def Open (t : List Ln) (p : Pth) : Prop := p = [] ∨ ∃ i, i < t.length ∧ pathL t i = p
theorem Open.up {N : Nat} {t : List Ln} (h : RightN N t) {p : Pth} (ho : Open t p) : (-1 ≤ findI t p ∧ findI t p < t.length) ∧ pathI t (findI t p) = p := by
  rcases ho with rfl | ⟨i, hi, e⟩
  · rw [findI_nil]; exact ⟨by omega, pathI_none t⟩
  · rw [findI_some h hi e]; exact ⟨by omega, by rw [pathI_nat]; exact e⟩
/-- Where a line of that word belongs under another. -/
def posL (t : List Ln) (up : Int) (w : List UInt8) : Nat := ((kidsL t up).find? fun k => Op.bytesLess w (wd t k)).getD (endI t up)
/-- The lines with one more. -/
def putL (t : List Ln) (p : Pth) (w : List UInt8) (m : Int) : List Ln := putT t (posL t (findI t p) w) (p ++ [w], m)
theorem find_first {l : List Nat} {f : Nat → Bool} {k : Nat} (h : l.find? f = some k) : ∃ a b, l = a ++ k :: b ∧ ∀ x ∈ a, f x = false := by
  induction l with
  | nil => simp at h
  | cons y l ih =>
    rw [List.find?_cons] at h
    cases hy : f y with
    | true => rw [hy] at h; injection h with h; subst h; exact ⟨[], l, rfl, fun x hx => by cases hx⟩
    | false =>
      rw [hy] at h
      obtain ⟨a, b, e, hx⟩ := ih h
      refine ⟨y :: a, b, by rw [e]; rfl, fun x hm => ?_⟩
      rcases List.mem_cons.1 hm with rfl | hm
      · exact hy
      · exact hx x hm
theorem kids_sorted (t : List Ln) (i : Int) : (kidsL t i).Pairwise (· < ·) := List.Pairwise.filter _ List.pairwise_lt_range
theorem RightN.put_pos {N : Nat} {t : List Ln} (h : RightN N t) {p : Pth} (ho : Open t p) {w : List UInt8} (hn : ∀ i, i < t.length → pathL t i ≠ p ++ [w]) :
    (∀ i, i < posL t (findI t p) w → i < t.length → pless (pathL t i) (p ++ [w]) = true) ∧ (∀ i, posL t (findI t p) w ≤ i → i < t.length → pless (p ++ [w]) (pathL t i) = true) := by
  obtain ⟨hu, hp⟩ := ho.up h
  have hnew : ∀ c, c < t.length → underL t c = findI t p → wd t c ≠ w := fun c hc hcu e => hn c hc (by rw [path_under t c, hcu, hp, e])
  unfold posL
  cases hf : (kidsL t (findI t p)).find? fun k => Op.bytesLess w (wd t k) with
  | some k =>
    obtain ⟨a, b, e, hx⟩ := find_first hf
    have hkm : k ∈ kidsL t (findI t p) := List.mem_of_find?_eq_some hf
    obtain ⟨hk1, hk2⟩ := (mem_kids t _ k).1 hkm
    have hkw : Op.bytesLess w (wd t k) = true := by simpa using List.find?_some hf
    have := h.put_ahead hu hk1 hk2 hkw (fun c hck hcu => by
      have hcm : c ∈ kidsL t (findI t p) := (mem_kids t _ c).2 ⟨by omega, hcu⟩
      have hs := kids_sorted t (findI t p)
      rw [e] at hcm hs
      have hca : c ∈ a := by
        rcases List.mem_append.1 hcm with h1 | h1
        · exact h1
        · rcases List.mem_cons.1 h1 with h1 | h1
          · omega
          · have := (List.pairwise_cons.1 (List.pairwise_append.1 hs).2.1).1 c h1; omega
      have h1 := hx c hca
      rcases less_tri (wd t c) w with h2 | h2 | h2
      · exact h2
      · exact absurd h2 (hnew c (by omega) hcu)
      · rw [h1] at h2; cases h2)
    rw [hp] at this
    exact this
  | none =>
    have := h.put_end hu (w := w) (fun c hc hcu => by
      have h1 := List.find?_eq_none.1 hf c ((mem_kids t _ c).2 ⟨hc, hcu⟩)
      rcases less_tri (wd t c) w with h2 | h2 | h2
      · exact h2
      · exact absurd h2 (hnew c hc hcu)
      · exact absurd h2 h1)
    rw [hp] at this
    exact this
/-- A tree with one line more is a tree, and has one path more. -/
theorem RightN.putL {N : Nat} {t : List Ln} (h : RightN N t) {p : Pth} (ho : Open t p) {w : List UInt8} {m : Int} (hn : ∀ i, i < t.length → pathL t i ≠ p ++ [w]) (h200 : t.length < N) (hdeep : p.length < 16) (hw : w.length ≤ 40) (hm : 0 ≤ m ∧ m ≤ 3) :
    RightN N (putL t p w m) ∧ ∀ x, x ∈ entries (T.putL t p w m) ↔ x = (p ++ [w], m) ∨ x ∈ entries t := by
  obtain ⟨h1, h2⟩ := h.put_pos ho hn
  obtain ⟨r1, r2⟩ := h.put (at' := posL t (findI t p) w) (x := (p ++ [w], m)) h200 h1 h2 (by simp) (by simp; omega) (by rw [last_snoc]; exact hw) hm (fun q v e hq => by
    obtain ⟨e1, _⟩ := List.append_inj' e rfl
    rcases ho with rfl | ho
    · exact absurd e1.symm hq
    · rw [← e1]; exact ho)
  refine ⟨r1, fun x => ?_⟩
  unfold T.putL
  rw [r2, mem_ins]
theorem putL_len (t : List Ln) (p : Pth) (w : List UInt8) (m : Int) : (putL t p w m).length = t.length + 1 := by
  unfold putL putT; rw [List.length_append, List.length_cons, List.length_take, List.length_drop]; omega
theorem RightN.path_mem {t : List Ln} (p : Pth) : (∃ i, i < t.length ∧ pathL t i = p) ↔ ∃ m, (p, m) ∈ entries t := by
  constructor
  · rintro ⟨i, hi, e⟩; exact ⟨_, (mem_entries t p _).2 ⟨i, hi, e, rfl⟩⟩
  · rintro ⟨m, hm⟩; obtain ⟨i, hi, e, _⟩ := (mem_entries t p m).1 hm; exact ⟨i, hi, e⟩
end Go.Proofs.Ytkifapbiimlafaa.T

namespace Go.Proofs.Ytkifapbiimlafaa.S
open T (Ln Pth at_ dp wd RightT pathL pathI underL findI putL entries)
open W (Tok)

inductive Mode where
  | start
  | marks (m : Int)
  | named (p : Pth)
structure PSt where
  mode : Mode
  t : List Ln
  path : Pth
/-- A mark, or a name. -/
def nameStep (m : Int) (t : List Ln) (path : Pth) (x : Trip) : PSt ⊕ Int :=
  if x.1 = 5 then (if (x.2.2 = 1 ∧ m % 2 = 1) ∨ (x.2.2 = 2 ∧ 1 < m) then .inr 2 else .inl ⟨.marks (m + x.2.2), t, path⟩)
  else if x.1 ≠ 1 then .inr 2
  else if path.length = 16 then .inr 6
  else if 0 ≤ findI t (path ++ [x.2.1]) then .inr 4
  else if t.length = 200 then .inr 5
  else .inl ⟨.named (path ++ [x.2.1]), putL t path x.2.1 m, path⟩
/-- One token more. -/
def pstep (s : PSt) (x : Trip) : PSt ⊕ Int :=
  match s.mode with
  | .start => if x.1 = 3 then (if s.path = [] then .inr 2 else .inl ⟨.start, s.t, s.path.dropLast⟩) else nameStep 0 s.t s.path x
  | .marks m => nameStep m s.t s.path x
  | .named p => if x.1 = 2 then .inl ⟨.start, s.t, p⟩ else if x.1 = 4 then .inl ⟨.start, s.t, s.path⟩ else .inr 2
inductive PRes where
  | ok (t : List Ln)
  | bad (at' : Nat) (e : Int)
def pend (n : Nat) (s : PSt) : PRes := match s.mode with | .start => if s.path = [] then .ok s.t else .bad n 2 | _ => .bad n 2
def parseT (n : Nat) : PSt → List Tok → PRes
  | s, [] => pend n s
  | s, x :: l => match pstep s (strip x) with | .inl s' => parseT n s' l | .inr e => .bad x.pos e
def init : PSt := ⟨.start, [], []⟩
/-- A text's tree, or where there is none, and why. -/
def parseL (l : List UInt8) : PRes := match W.lexL 0 l with | .bad p e => .bad p e | .ok a => parseT l.length init a

def runS : PSt → List Trip → Option PSt
  | s, [] => some s
  | s, x :: l => match pstep s x with | .inl s' => runS s' l | .inr _ => none
theorem runS_app : ∀ (a : List Trip) (s : PSt) (b : List Trip), runS s (a ++ b) = (runS s a).bind fun s' => runS s' b
  | [], s, b => rfl
  | x :: a, s, b => by
    simp only [List.cons_append, runS]
    cases pstep s x with
    | inl s' => exact runS_app a s' b
    | inr e => rfl
theorem parse_run (n : Nat) : ∀ (l : List Tok) (s s' : PSt), runS s (l.map strip) = some s' → parseT n s l = pend n s'
  | [], s, s', h => by injection h with h; subst h; rfl
  | x :: l, s, s', h => by
    simp only [List.map_cons, runS] at h
    unfold parseT
    cases hp : pstep s (strip x) with
    | inl s2 => rw [hp] at h; exact parse_run n l s2 s' h
    | inr e => rw [hp] at h; cases h

/-- The first lines of a tree have the paths that they have. -/
theorem underF_take (t : List Ln) (d : Int) (k : Nat) : ∀ n, n ≤ k → T.underF (t.take k) d n = T.underF t d n
  | 0, _ => rfl
  | n + 1, h => by
    have e : dp (t.take k) n = dp t n := by unfold dp; rw [T.at_take t k n (by omega)]
    simp only [T.underF]
    rw [e, underF_take t d k n (by omega)]
theorem path_takeL (t : List Ln) (k : Nat) : ∀ (n i : Nat), i ≤ n → i < k → pathL (t.take k) i = pathL t i
  | n, i, hn, hi => by
    have e : dp (t.take k) i = dp t i := by unfold dp; rw [T.at_take t k i hi]
    have ew : wd (t.take k) i = wd t i := by unfold wd; rw [T.at_take t k i hi]
    have eu : underL (t.take k) i = underL t i := by unfold underL; rw [e, underF_take t _ k i (by omega)]
    rw [T.path_under, T.path_under t i, eu, ew]
    congr 1
    have hl := T.under_lt t i
    by_cases h : underL t i = -1
    · rw [h, T.pathI_none, T.pathI_none]
    · obtain ⟨u, hu⟩ := Int.eq_ofNat_of_zero_le (show 0 ≤ underL t i by omega)
      rw [hu, T.pathI_nat, T.pathI_nat]
      match n, hn with
      | 0, hn => omega
      | n + 1, hn => exact path_takeL t k n u (by omega) (by omega)
theorem take_len {t : List Ln} {k : Nat} (h : k ≤ t.length) : (t.take k).length = k := by rw [List.length_take]; omega
theorem mem_take (t : List Ln) {k : Nat} (hk : k ≤ t.length) (x : Pth × Int) : x ∈ entries (t.take k) ↔ ∃ i, i < k ∧ x = (pathL t i, (at_ t i).mark) := by
  obtain ⟨p, m⟩ := x
  rw [T.mem_entries, take_len hk]
  constructor
  · rintro ⟨i, hi, e1, e2⟩
    rw [path_takeL t k i i (Nat.le_refl _) hi] at e1
    rw [T.at_take t k i hi] at e2
    exact ⟨i, hi, by rw [e1, e2]⟩
  · rintro ⟨i, hi, e⟩
    injection e with e1 e2
    exact ⟨i, hi, by rw [path_takeL t k i i (Nat.le_refl _) hi, e1], by rw [T.at_take t k i hi, e2]⟩
/-- The path under which the line at k goes; none behind the last one. -/
def upTo (t : List Ln) (k : Nat) : Pth := if k < t.length then pathI t (underL t k) else []
theorem upTo_len {t : List Ln} (h : RightT t) {k : Nat} (hk : k < t.length) : ((upTo t k).length : Int) = dp t k := by
  have := h.path_len k k (Nat.le_refl _) hk
  rw [T.path_under t k, List.length_append, List.length_singleton] at this
  unfold upTo; rw [if_pos hk]; omega
theorem upTo_open {t : List Ln} {k : Nat} (hk : k < t.length) : T.Open (t.take k) (upTo t k) := by
  unfold upTo
  rw [if_pos hk]
  have hl := T.under_lt t k
  by_cases h : underL t k = -1
  · rw [h, T.pathI_none]; exact .inl rfl
  · obtain ⟨u, hu⟩ := Int.eq_ofNat_of_zero_le (show 0 ≤ underL t k by omega)
    rw [hu, T.pathI_nat]
    exact .inr ⟨u, by rw [take_len (by omega)]; omega, path_takeL t k u u (Nat.le_refl _) (by omega)⟩
/-- The next line, put behind. -/
theorem put_next {t : List Ln} (h : RightT t) {k : Nat} (hk : k < t.length) : (∀ i, i < (t.take k).length → pathL (t.take k) i ≠ upTo t k ++ [wd t k]) ∧ putL (t.take k) (upTo t k) (wd t k) (at_ t k).mark = t.take (k + 1) := by
  have hup : upTo t k ++ [wd t k] = pathL t k := by rw [T.path_under t k]; unfold upTo; rw [if_pos hk]
  have hnew : ∀ i, i < (t.take k).length → pathL (t.take k) i ≠ upTo t k ++ [wd t k] := fun i hi e => by
    rw [take_len (by omega)] at hi
    rw [path_takeL t k i i (Nat.le_refl _) hi, hup] at e
    have := h.path_inj (max i k) i k (Nat.le_max_left ..) (Nat.le_max_right ..) (by omega) hk e
    omega
  refine ⟨hnew, ?_⟩
  have hlen := h.len
  have hd := (h.deep k hk)
  have hul := upTo_len h hk
  obtain ⟨r1, r2⟩ := (h.take k).putL (upTo_open hk) (m := (at_ t k).mark) hnew (by rw [take_len (by omega)]; omega) (by omega) (h.long k hk) (h.mark k hk)
  refine r1.ext (h.take (k + 1)) fun x => ?_
  rw [r2 x, mem_take t (by omega) x, mem_take t (by omega) x, hup]
  constructor
  · rintro (e | ⟨i, hi, e⟩)
    · exact ⟨k, by omega, e⟩
    · exact ⟨i, by omega, e⟩
  · rintro ⟨i, hi, e⟩
    rcases Nat.lt_or_ge i k with hlt | hge
    · exact .inr ⟨i, hlt, e⟩
    · obtain rfl : i = k := by omega
      exact .inl e
/-- The path behind a line that is not deeper. -/
theorem upTo_next {t : List Ln} (h : RightT t) {i : Nat} (hi : i < t.length) (ho : openB t i = false) : upTo t (i + 1) = (upTo t i).take (nextD t i) := by
  unfold nextD
  by_cases hl : i + 1 < t.length
  · have hle : dp t (i + 1) ≤ dp t i := by have := of_decide_eq_false ho; omega
    rw [if_pos hl]
    have hd1 := h.deep (i + 1) hl
    obtain ⟨e, he⟩ := Int.eq_ofNat_of_zero_le hd1.1
    obtain ⟨a, a1, a2, a3⟩ : ∃ a, a ≤ i ∧ dp t a ≤ e ∧ ∀ m, a < m → m ≤ i → (e : Int) < dp t m := by
      rcases T.under_spec t ((e : Int) + 1) (i + 1) with ⟨_, h2⟩ | ⟨u, u1, u2, u3, u4⟩
      · have := h2 0 (by omega); have := h.first (by omega); omega
      · exact ⟨u, by omega, by omega, fun m h1 h2 => by have := u4 m h1 (by omega); omega⟩
    have hae : dp t a = e := by
      rcases Nat.eq_or_lt_of_le a1 with rfl | hlt
      · omega
      · have h1 := a3 (a + 1) (by omega) (by omega)
        have h2 := h.step a (by omega)
        omega
    have hal : a < t.length := by omega
    obtain ⟨g1, g2, g3, g4⟩ := T.end_spec t a hal
    have hie : i < T.endL t a := by
      rcases Nat.lt_or_ge i (T.endL t a) with hlt | hge
      · exact hlt
      · have := g4 (by omega)
        have := a3 (T.endL t a) g1 hge
        omega
    obtain ⟨rest, hr⟩ := T.part_prefix hal i i (Nat.le_refl _) a1 hie
    have hu : underL t (i + 1) = underL t a := by
      unfold underL
      rw [he, hae]
      refine T.underF_same t e a (i + 1) (by omega) (fun j h1 h2 => ?_)
      rcases Nat.eq_or_lt_of_le h1 with rfl | h1
      · omega
      · have := a3 j h1 (by omega); omega
    have ea : (pathI t (underL t a)).length = e := by
      have := h.path_len a a (Nat.le_refl _) hal
      rw [T.path_under t a, List.length_append, List.length_singleton] at this
      omega
    have e1 : upTo t (i + 1) = pathI t (underL t a) := by unfold upTo; rw [if_pos hl, hu]
    have e2 : upTo t i = pathI t (underL t i) := by unfold upTo; rw [if_pos hi]
    rw [T.path_under t a, T.path_under t i, List.append_assoc] at hr
    have hul := upTo_len h hi
    have h3 := congrArg (List.take e) hr
    rw [List.take_append_of_le_length (by rw [← e2]; omega), ← ea, List.take_left] at h3
    rw [e1, e2, he, Int.toNat_natCast, ← ea]
    exact h3.symm
  · rw [if_neg hl]
    unfold upTo
    rw [if_neg hl]; simp
theorem run_close (t : List Ln) : ∀ (m : Nat) (p : Pth) (l : List Trip), m ≤ p.length → runS ⟨.start, t, p⟩ (List.replicate m ((3, [], 0) : Trip) ++ l) = runS ⟨.start, t, p.take (p.length - m)⟩ l
  | 0, p, l, _ => by simp
  | m + 1, p, l, h => by
    have hp : p ≠ [] := fun e => by subst e; simp at h
    rw [List.replicate_succ, List.cons_append]
    simp only [runS, pstep]
    rw [if_pos trivial, if_neg hp]
    simp only
    rw [run_close t m p.dropLast l (by rw [List.length_dropLast]; omega), List.length_dropLast, List.dropLast_eq_take, List.take_take]
    congr 2
    congr 1
    omega
theorem run_marks {t : List Ln} {p : Pth} {m : Int} (h : 0 ≤ m ∧ m ≤ 3) (x : Trip) (hx : x.1 = 1) (l : List Trip) : runS ⟨.start, t, p⟩ (markK m ++ x :: l) = (match nameStep m t p x with | .inl s' => runS s' l | .inr _ => none) := by
  have hm : m = 0 ∨ m = 1 ∨ m = 2 ∨ m = 3 := by omega
  have h3 : ¬ x.1 = 3 := by rw [hx]; decide
  rcases hm with rfl | rfl | rfl | rfl
  · show runS _ (x :: l) = _
    simp only [runS, pstep]; rw [if_neg h3]
  · show runS _ ((5, [], 1) :: x :: l) = _
    simp [runS, pstep, nameStep]
  · show runS _ ((5, [], 2) :: x :: l) = _
    simp [runS, pstep, nameStep]
  · show runS _ ((5, [], 1) :: (5, [], 2) :: x :: l) = _
    simp [runS, pstep, nameStep]
theorem run_row {t : List Ln} (h : RightT t) {k : Nat} (hk : k < t.length) (l : List Trip) : runS ⟨.start, t.take k, upTo t k⟩ (toksRow t k ++ l) = runS ⟨.start, t.take (k + 1), upTo t (k + 1)⟩ l := by
  obtain ⟨hnew, hput⟩ := put_next h hk
  have hul := upTo_len h hk
  have hd := h.deep k hk
  have hlen := h.len
  unfold toksRow
  rw [List.append_assoc, List.cons_append, run_marks (h.mark k hk) _ rfl]
  have hname : nameStep (at_ t k).mark (t.take k) (upTo t k) ((1, wd t k, 0) : Trip) = .inl ⟨.named (upTo t k ++ [wd t k]), t.take (k + 1), upTo t k⟩ := by
    unfold nameStep
    rw [if_neg (show ¬ ((1 : Int) = 5) by decide), if_neg (show ¬ ((1 : Int) ≠ 1) by decide), if_neg (by omega)]
    simp only
    rw [T.findI_none hnew, if_neg (by decide), take_len (by omega), if_neg (by omega), hput]
  rw [hname]
  simp only
  cases ho : openB t k with
  | true =>
    have ho2 := of_decide_eq_true ho
    have hs := h.step k ho2.1
    have hn : nextD t k = (dp t (k + 1)).toNat := by unfold nextD; rw [if_pos ho2.1]
    rw [if_pos rfl, List.cons_append, show (dp t k).toNat - nextD t k = 0 by omega]
    simp only [runS, pstep]
    rw [if_pos trivial]
    simp only [List.replicate_zero, List.nil_append]
    have e : upTo t (k + 1) = upTo t k ++ [wd t k] := by
      unfold upTo
      rw [if_pos ho2.1, if_pos hk, T.under_next t k ho2.2, T.pathI_nat, ← T.path_under t k]
    rw [e]
  | false =>
    rw [if_neg (by decide), List.cons_append]
    simp only [runS, pstep]
    rw [if_neg (by decide), if_pos trivial]
    simp only
    have hn : nextD t k ≤ (dp t k).toNat := by
      unfold nextD
      by_cases hl : k + 1 < t.length
      · rw [if_pos hl]; have := of_decide_eq_false ho; omega
      · rw [if_neg hl]; omega
    rw [run_close _ _ _ _ (by omega), upTo_next h hk ho, show (upTo t k).length - ((dp t k).toNat - nextD t k) = nextD t k by omega]
theorem run_from {t : List Ln} (h : RightT t) : ∀ (f k : Nat), k + f = t.length → runS ⟨.start, t.take k, upTo t k⟩ (toksFrom t f k) = some ⟨.start, t, []⟩
  | 0, k, hk => by
    have e : upTo t k = [] := by unfold upTo; rw [if_neg (by omega)]
    rw [e, List.take_of_length_le (by omega)]; rfl
  | f + 1, k, hk => by rw [toksFrom, run_row h (by omega), run_from h f (k + 1) (by omega)]
theorem upTo_zero {t : List Ln} : upTo t 0 = [] := by
  unfold upTo
  by_cases h : 0 < t.length
  · rw [if_pos h]; exact T.pathI_none t
  · rw [if_neg h]
/-- The text of a tree is that tree. -/
theorem parse_text {t : List Ln} (h : RightT t) : parseL (textL t) = .ok t := by
  have hl := RightT.lexS_text h
  unfold lexS at hl
  unfold parseL
  cases hx : W.lexL 0 (textL t) with
  | bad p e => rw [hx] at hl; cases hl
  | ok a =>
    rw [hx] at hl
    injection hl with hl
    have hr := run_from h t.length 0 (by omega)
    rw [List.take_zero, upTo_zero, ← hl] at hr
    show parseT _ init a = _
    rw [parse_run _ a init _ hr]
    rfl
end Go.Proofs.Ytkifapbiimlafaa.S

namespace Go.Proofs.Ytkifapbiimlafaa.S
open T (Ln Pth at_ dp wd RightT pathL pathI underL findI putL entries)
open W (Tok)

def GoodTrip (x : Trip) : Prop := (x.1 = 1 → x.2.1.length ≤ 40) ∧ (x.1 = 5 → x.2.2 = 1 ∨ x.2.2 = 2)
theorem good_strip {t : Tok} (h : W.GoodTok t) : GoodTrip (strip t) := by
  unfold GoodTrip strip
  rcases h with ⟨h1, h2, _⟩ | ⟨h1, _, _⟩ | ⟨h1, _, h3⟩
  · exact ⟨fun _ => h2, fun h5 => by simp only at h5; omega⟩
  · exact ⟨fun h5 => by simp only at h5; omega, fun h5 => by simp only at h5; omega⟩
  · exact ⟨fun h5 => by simp only at h5; omega, fun _ => h3⟩
/-- What holds while a text is read. -/
structure PInv (s : PSt) : Prop where
  right : RightT s.t
  path : T.Open s.t s.path
  deep : s.path.length ≤ 16
  mode : match s.mode with | .start => True | .marks m => 0 ≤ m ∧ m ≤ 3 | .named p => T.Open s.t p ∧ p.length ≤ 16
theorem right_nil : RightT [] := ⟨by simp, fun i h => by simp at h, fun i h => by simp at h, fun i h => by simp at h, fun h => by simp at h, fun i h => by simp at h, fun i k _ h => by simp at h⟩
theorem inv_init : PInv init := ⟨right_nil, .inl rfl, by simp [init], trivial⟩
theorem open_drop {t : List Ln} {p : Pth} (ho : T.Open t p) : T.Open t p.dropLast := by
  rcases ho with rfl | ⟨i, hi, e⟩
  · exact .inl rfl
  · rw [T.path_under t i] at e
    rw [← e, List.dropLast_concat]
    have hl := T.under_lt t i
    by_cases h1 : underL t i = -1
    · rw [h1, T.pathI_none]; exact .inl rfl
    · obtain ⟨u, hu⟩ := Int.eq_ofNat_of_zero_le (show 0 ≤ underL t i by omega)
      rw [hu, T.pathI_nat]; exact .inr ⟨u, by omega, rfl⟩
theorem open_put {t : List Ln} {p q : Pth} {w : List UInt8} {m : Int} (hr : ∀ x, x ∈ entries (putL t p w m) ↔ x = (p ++ [w], m) ∨ x ∈ entries t) (hq : T.Open t q) : T.Open (putL t p w m) q := by
  rcases hq with rfl | hq
  · exact .inl rfl
  · obtain ⟨k, hk⟩ := (T.RightN.path_mem q).1 hq
    exact .inr ((T.RightN.path_mem q).2 ⟨k, (hr _).2 (.inr hk)⟩)
theorem inv_name {m : Int} {t : List Ln} {path : Pth} {x : Trip} {s' : PSt} (hr : RightT t) (ho : T.Open t path) (hd : path.length ≤ 16) (hm : 0 ≤ m ∧ m ≤ 3) (hx : GoodTrip x) (h : nameStep m t path x = .inl s') : PInv s' := by
  unfold nameStep at h
  by_cases h5 : x.1 = 5
  · rw [if_pos h5] at h
    by_cases hdup : (x.2.2 = 1 ∧ m % 2 = 1) ∨ (x.2.2 = 2 ∧ 1 < m)
    · rw [if_pos hdup] at h; cases h
    · rw [if_neg hdup] at h
      injection h with h
      subst h
      refine ⟨hr, ho, hd, ?_⟩
      show 0 ≤ m + x.2.2 ∧ m + x.2.2 ≤ 3
      have hb := hx.2 h5
      have hcases : m = 0 ∨ m = 1 ∨ m = 2 ∨ m = 3 := by omega
      rcases hb with hb | hb <;> rw [hb] at hdup ⊢ <;> rcases hcases with rfl | rfl | rfl | rfl <;> simp at hdup ⊢
  · rw [if_neg h5] at h
    by_cases h1 : x.1 ≠ 1
    · rw [if_pos h1] at h; cases h
    · rw [if_neg h1] at h
      by_cases h16 : path.length = 16
      · rw [if_pos h16] at h; cases h
      · rw [if_neg h16] at h
        by_cases hf : 0 ≤ findI t (path ++ [x.2.1])
        · rw [if_pos hf] at h; cases h
        · rw [if_neg hf] at h
          by_cases h200 : t.length = 200
          · rw [if_pos h200] at h; cases h
          · rw [if_neg h200] at h
            injection h with h
            subst h
            have hnew : ∀ i, i < t.length → pathL t i ≠ path ++ [x.2.1] := by
              rcases T.findI_cases t (path ++ [x.2.1]) with ⟨_, hn⟩ | ⟨i, _, hi, _⟩
              · exact hn
              · omega
            obtain ⟨r1, r2⟩ := hr.putL ho (m := m) hnew (by have := hr.len; omega) (by omega) (hx.1 (by omega)) hm
            refine ⟨r1, open_put r2 ho, hd, ?_⟩
            exact ⟨.inr ((T.RightN.path_mem _).2 ⟨m, (r2 _).2 (.inl rfl)⟩), by simp; omega⟩
theorem inv_step {s s' : PSt} {x : Trip} (h : PInv s) (hx : GoodTrip x) (hs : pstep s x = .inl s') : PInv s' := by
  obtain ⟨mode, t, path⟩ := s
  obtain ⟨hr, ho, hd, hm⟩ := h
  unfold pstep at hs
  cases mode with
  | start =>
    simp only at hs
    by_cases h3 : x.1 = 3
    · rw [if_pos h3] at hs
      by_cases hp : path = []
      · rw [if_pos hp] at hs; cases hs
      · rw [if_neg hp] at hs
        injection hs with hs
        subst hs
        exact ⟨hr, open_drop ho, by rw [List.length_dropLast]; simp only at hd; omega, trivial⟩
    · rw [if_neg h3] at hs
      exact inv_name hr ho hd (by omega) hx hs
  | marks m => exact inv_name hr ho hd hm hx hs
  | named p =>
    simp only at hs
    by_cases h2 : x.1 = 2
    · rw [if_pos h2] at hs; injection hs with hs; subst hs; exact ⟨hr, hm.1, hm.2, trivial⟩
    · rw [if_neg h2] at hs
      by_cases h4 : x.1 = 4
      · rw [if_pos h4] at hs; injection hs with hs; subst hs; exact ⟨hr, ho, hd, trivial⟩
      · rw [if_neg h4] at hs; cases hs
theorem parse_right (n : Nat) : ∀ (l : List Tok) (s : PSt) (t : List Ln), PInv s → (∀ x ∈ l, W.GoodTok x) → parseT n s l = .ok t → RightT t
  | [], s, t, h, _, e => by
    unfold parseT pend at e
    obtain ⟨mode, t0, path⟩ := s
    cases mode with
    | start =>
      simp only at e
      by_cases hp : path = []
      · rw [if_pos hp] at e; injection e with e; subst e; exact h.right
      · rw [if_neg hp] at e; cases e
    | marks m => cases e
    | named p => cases e
  | x :: l, s, t, h, hg, e => by
    unfold parseT at e
    cases hs : pstep s (strip x) with
    | inl s2 =>
      rw [hs] at e
      exact parse_right n l s2 t (inv_step h (good_strip (hg x (by simp))) hs) (fun y hy => hg y (by simp [hy])) e
    | inr er => rw [hs] at e; cases e
/-- What a text is read as is a tree. -/
theorem parseL_right {l : List UInt8} {t : List Ln} (h : parseL l = .ok t) : RightT t := by
  unfold parseL at h
  cases hx : W.lexL 0 l with
  | bad p e => rw [hx] at h; cases h
  | ok a => rw [hx] at h; exact parse_right _ a init t inv_init (W.lexL_good l 0 a hx) h

/-- A row of a tree's text, read behind whatever lines: one path more. -/
theorem run_rowU {t : List Ln} (h : RightT t) {k : Nat} (hk : k < t.length) {U : List Ln} (hn : findI U (pathL t k) < 0) (h200 : U.length < 200) (l : List Trip) :
    runS ⟨.start, U, upTo t k⟩ (toksRow t k ++ l) = runS ⟨.start, putL U (upTo t k) (wd t k) (at_ t k).mark, upTo t (k + 1)⟩ l := by
  have hul := upTo_len h hk
  have hd := h.deep k hk
  have hup : upTo t k ++ [wd t k] = pathL t k := by rw [T.path_under t k]; unfold upTo; rw [if_pos hk]
  unfold toksRow
  rw [List.append_assoc, List.cons_append, run_marks (h.mark k hk) _ rfl]
  have hname : nameStep (at_ t k).mark U (upTo t k) ((1, wd t k, 0) : Trip) = .inl ⟨.named (upTo t k ++ [wd t k]), putL U (upTo t k) (wd t k) (at_ t k).mark, upTo t k⟩ := by
    unfold nameStep
    rw [if_neg (show ¬ ((1 : Int) = 5) by decide), if_neg (show ¬ ((1 : Int) ≠ 1) by decide), if_neg (by omega)]
    simp only
    rw [hup, if_neg (by omega), if_neg (by omega)]
  rw [hname]
  simp only
  cases ho : openB t k with
  | true =>
    have ho2 := of_decide_eq_true ho
    have hs := h.step k ho2.1
    have hx : nextD t k = (dp t (k + 1)).toNat := by unfold nextD; rw [if_pos ho2.1]
    rw [if_pos rfl, List.cons_append, show (dp t k).toNat - nextD t k = 0 by omega]
    simp only [runS, pstep]
    rw [if_pos trivial]
    simp only [List.replicate_zero, List.nil_append]
    have e : upTo t (k + 1) = upTo t k ++ [wd t k] := by
      unfold upTo
      rw [if_pos ho2.1, if_pos hk, T.under_next t k ho2.2, T.pathI_nat, ← T.path_under t k]
    rw [e]
  | false =>
    rw [if_neg (by decide), List.cons_append]
    simp only [runS, pstep]
    rw [if_neg (by decide), if_pos trivial]
    simp only
    have hx : nextD t k ≤ (dp t k).toNat := by
      unfold nextD
      by_cases hl : k + 1 < t.length
      · rw [if_pos hl]; have := of_decide_eq_false ho; omega
      · rw [if_neg hl]; omega
    rw [run_close _ _ _ _ (by omega), upTo_next h hk ho, show (upTo t k).length - ((dp t k).toNat - nextD t k) = nextD t k by omega]
/-- No word of Depth 0 is in both. -/
def Apart (a b : List Ln) : Prop := ∀ i j, i < a.length → j < b.length → dp a i = 0 → dp b j = 0 → wd a i ≠ wd b j
theorem root_of {t : List Ln} (h : RightT t) {k : Nat} (hk : k < t.length) : ∃ r s, r < t.length ∧ dp t r = 0 ∧ pathL t k = wd t r :: s := by
  have hne := T.path_ne (t := t) (i := k)
  cases e : pathL t k with
  | nil => exact absurd e hne
  | cons w s =>
    obtain ⟨r, hr, er⟩ := h.path_take k k 1 (Nat.le_refl _) hk (by omega) (by rw [e]; simp)
    rw [e] at er
    have hl := h.path_len r r (Nat.le_refl _) hr
    have er : pathL t r = [w] := by simpa using er
    rw [er] at hl
    have hd : dp t r = 0 := by simp at hl; omega
    rw [T.path_under t r] at er
    have e2 := List.append_inj' (t₁ := [wd t r]) (t₂ := [w]) (s₂ := []) er rfl
    have e3 : wd t r = w := by injection e2.2
    exact ⟨r, s, hr, hd, by rw [e3]⟩
theorem apart_paths {a b : List Ln} (ha : RightT a) (hb : RightT b) (h : Apart a b) {i j : Nat} (hi : i < a.length) (hj : j < b.length) : pathL a i ≠ pathL b j := by
  intro e
  obtain ⟨r, s, hr, hd, e1⟩ := root_of ha hi
  obtain ⟨r2, s2, hr2, hd2, e2⟩ := root_of hb hj
  rw [e, e2] at e1
  injection e1 with e1 _
  exact h r r2 hr hr2 hd hd2 e1.symm
/-- The text of a tree, read behind another one that has none of its words of Depth 0, adds its paths. -/
theorem run_on {a b : List Ln} (ha : RightT a) (hb : RightT b) (h : Apart a b) (hl : a.length + b.length ≤ 200) : ∀ (f k : Nat) (U : List Ln), k + f = b.length → RightT U → U.length = a.length + k → (∀ x, x ∈ entries U ↔ x ∈ entries a ∨ x ∈ entries (b.take k)) →
    ∃ V, runS ⟨.start, U, upTo b k⟩ (toksFrom b f k) = some ⟨.start, V, []⟩ ∧ RightT V ∧ V.length = a.length + b.length ∧ ∀ x, x ∈ entries V ↔ x ∈ entries a ∨ x ∈ entries b
  | 0, k, U, hk, hr, hlen, he => by
    have e : upTo b k = [] := by unfold upTo; rw [if_neg (by omega)]
    refine ⟨U, by rw [e]; rfl, hr, by omega, fun x => ?_⟩
    rw [he x, List.take_of_length_le (by omega)]
  | f + 1, k, U, hk, hr, hlen, he => by
    have hkb : k < b.length := by omega
    have hup : upTo b k ++ [wd b k] = pathL b k := by rw [T.path_under b k]; unfold upTo; rw [if_pos hkb]
    have hul := upTo_len hb hkb
    have hd := hb.deep k hkb
    have hnew : ∀ i, i < U.length → pathL U i ≠ pathL b k := fun i hi e => by
      have := (he (pathL U i, (at_ U i).mark)).1 ((T.mem_entries U _ _).2 ⟨i, hi, rfl, rfl⟩)
      rcases this with hm | hm
      · obtain ⟨j, hj, e2, _⟩ := (T.mem_entries a _ _).1 hm
        exact apart_paths ha hb h hj hkb (by rw [e2, e])
      · obtain ⟨j, hj, e2⟩ := (mem_take b (by omega) _).1 hm
        injection e2 with e2 _
        have := hb.path_inj (max j k) j k (Nat.le_max_left ..) (Nat.le_max_right ..) (by omega) hkb (by rw [← e2, e])
        omega
    have hopen : T.Open U (upTo b k) := by
      rcases upTo_open hkb with h0 | h0
      · exact .inl h0
      · obtain ⟨m, hm⟩ := (T.RightN.path_mem _).1 h0
        exact .inr ((T.RightN.path_mem _).2 ⟨m, (he _).2 (.inr hm)⟩)
    obtain ⟨r1, r2⟩ := hr.putL hopen (m := (at_ b k).mark) (by rw [hup]; exact hnew) (by omega) (by omega) (hb.long k hkb) (hb.mark k hkb)
    obtain ⟨V, v1, v2, v3, v4⟩ := run_on ha hb h hl f (k + 1) _ (by omega) r1 (by rw [T.putL_len, hlen]; omega) (fun x => by
      rw [r2 x, he x, mem_take b (by omega) x, mem_take b (by omega) x, hup]
      constructor
      · rintro (e | e | ⟨i, hi, e⟩)
        · exact .inr ⟨k, by omega, e⟩
        · exact .inl e
        · exact .inr ⟨i, by omega, e⟩
      · rintro (e | ⟨i, hi, e⟩)
        · exact .inr (.inl e)
        · rcases Nat.lt_or_ge i k with hlt | hge
          · exact .inr (.inr ⟨i, hlt, e⟩)
          · obtain rfl : i = k := by omega
            exact .inl e)
    refine ⟨V, ?_, v2, v3, v4⟩
    rw [toksFrom, run_rowU hb hkb (by rw [T.findI_none hnew]; omega) (by omega)]
    exact v1
end Go.Proofs.Ytkifapbiimlafaa.S
