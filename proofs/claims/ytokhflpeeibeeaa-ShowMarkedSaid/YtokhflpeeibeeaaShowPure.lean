/-
  Plain definitions and laws for layer 4 (show), without the program: the text of a tree, its tokens, and the lines that tokens make; unlike trees have unlike texts. Condition: a tree where it says so.
-/
import Derived.Test.YtokhflpeeibeeaaLexPure6
import Derived.Test.YtokhflpeeibeeaaTreePure7
namespace Go.Proofs.Ytokhflpeeibeeaa.S
open T (Ln at_ dp wd RightT)
open W (Tok Res Step lexL stepD quoteL inactiveL protectL stops signK)

def blanksL (n : Nat) : List UInt8 := List.replicate (2 * n) 32
def markT (m : Int) : List UInt8 := (if m % 2 = 1 then inactiveL ++ [32] else []) ++ (if 1 < m then protectL ++ [32] else [])
/-- Does something stand under the line at i? -/
def openB (t : List Ln) (i : Nat) : Bool := decide (i + 1 < t.length ∧ dp t i < dp t (i + 1))
/-- The depth of the line behind, or 0. -/
def nextD (t : List Ln) (i : Nat) : Nat := if i + 1 < t.length then (dp t (i + 1)).toNat else 0
/-- The ends of all parts from depth d - 1 down to nd. -/
def closeT : Nat → Nat → List UInt8
  | 0, _ => []
  | d + 1, nd => if nd ≤ d then blanksL d ++ [125, 10] ++ closeT d nd else []
def lineT (t : List Ln) (i : Nat) : List UInt8 := blanksL (dp t i).toNat ++ markT (at_ t i).mark ++ quoteL (wd t i) ++ (if openB t i = true then [32, 123, 10] else [59, 10])
def rowT (t : List Ln) (i : Nat) : List UInt8 := lineT t i ++ closeT (dp t i).toNat (nextD t i)
def textTo (t : List Ln) (k : Nat) : List UInt8 := (List.range k).flatMap (rowT t)
def textL (t : List Ln) : List UInt8 := textTo t t.length
theorem text_next (t : List Ln) (k : Nat) : textTo t (k + 1) = textTo t k ++ rowT t k := by
  unfold textTo; rw [List.range_succ, List.flatMap_append]; simp

/-- A token without its place. -/
abbrev Trip := Int × List UInt8 × Int
def strip (t : Tok) : Trip := (t.kind, t.word, t.bit)
/-- The tokens of a text, without their places. -/
def lexS (l : List UInt8) : Option (List Trip) := match lexL 0 l with | .ok a => some (a.map strip) | .bad _ _ => none
theorem strip_shift (q : Nat) (a : List Tok) : (a.map (Tok.shift q)).map strip = a.map strip := by
  rw [List.map_map]; rfl
theorem lexS_at (p : Nat) (l : List UInt8) : (match lexL p l with | .ok a => some (a.map strip) | .bad _ _ => none) = lexS l := by
  have := W.lexL_shift l 0 p
  rw [Nat.zero_add] at this
  rw [this]
  unfold lexS
  cases h : lexL 0 l with
  | ok a => simp only [Res.shift]; rw [strip_shift]
  | bad p e => rfl
theorem lexS_tok {l : List UInt8} {k : Int} {w : List UInt8} {b : Int} {n : Nat} (hl : l ≠ []) (h : stepD l = .tok k w b n) : lexS l = (lexS (l.drop n)).map ((k, w, b) :: ·) := by
  have e := lexS_at (0 + n) (l.drop n)
  unfold lexS at e ⊢
  rw [W.lexL_tok 0 hl h]
  rw [← e]
  cases lexL (0 + n) (l.drop n) with
  | ok a => rfl
  | bad p e => rfl
theorem lexS_blank (c : UInt8) (r : List UInt8) (h : W.blankB c = true) : lexS (c :: r) = lexS r := by
  have e := lexS_at 1 r
  unfold lexS at e ⊢
  rw [W.lex_blank c r 0 h]
  exact e
theorem lexS_blanks (n : Nat) (r : List UInt8) : lexS (blanksL n ++ r) = lexS r := by
  have key : ∀ (m : Nat) (r : List UInt8), lexS (List.replicate m 32 ++ r) = lexS r := by
    intro m
    induction m with
    | zero => intro r; rfl
    | succ m ih => intro r; rw [List.replicate_succ, List.cons_append, lexS_blank 32 _ (by decide), ih]
  exact key _ r
theorem lexS_sign (c : UInt8) (r : List UInt8) (h : c.toNat = 123 ∨ c.toNat = 125 ∨ c.toNat = 59) : lexS (c :: r) = (lexS r).map ((signK c, [], 0) :: ·) := by
  rw [lexS_tok (List.cons_ne_nil _ _) (W.step_sign c r h)]; rfl
theorem lexS_name (w r : List UInt8) (h40 : w.length ≤ 40) (hr : stops r) : lexS (quoteL w ++ r) = (lexS r).map ((1, w, 0) :: ·) := by
  have hne : quoteL w ++ r ≠ [] := by have := W.quote_pos w; intro h; have h2 := congrArg List.length h; rw [List.length_append, List.length_nil] at h2; omega
  rw [lexS_tok hne (W.step_name w r h40 hr), List.drop_left]
theorem lexS_mark (m r : List UInt8) (h : m = inactiveL ∨ m = protectL) (hr : stops r) : lexS (m ++ r) = (lexS r).map ((5, [], W.markK m) :: ·) := by
  have hne : m ++ r ≠ [] := by rcases h with rfl | rfl <;> simp [inactiveL, protectL]
  rw [lexS_tok hne (W.step_mark m r h hr), List.drop_left]

def markK (m : Int) : List Trip := (if m % 2 = 1 then [(5, [], 1)] else []) ++ (if 1 < m then [(5, [], 2)] else [])
def toksRow (t : List Ln) (i : Nat) : List Trip :=
  markK (at_ t i).mark ++ ((1, wd t i, 0) :: (if openB t i = true then (2, [], 0) else (4, [], 0)) :: List.replicate ((dp t i).toNat - nextD t i) (3, [], 0))
theorem map_app (o : Option (List Trip)) (a b : List Trip) : (o.map (b ++ ·)).map (a ++ ·) = o.map ((a ++ b) ++ ·) := by cases o <;> simp
theorem map_cons (o : Option (List Trip)) (x : Trip) : o.map (x :: ·) = o.map ([x] ++ ·) := rfl
theorem map_nil (o : Option (List Trip)) : o.map ([] ++ ·) = o := by cases o <;> rfl
theorem stops_of (c : UInt8) (r : List UInt8) (h : W.plainB c = false) : stops (c :: r) := W.stops_cons c r h
theorem lexS_marks (m : Int) (r : List UInt8) : lexS (markT m ++ r) = (lexS r).map (markK m ++ ·) := by
  have one : ∀ (x : List UInt8) (h : x = inactiveL ∨ x = protectL) (r : List UInt8), lexS (x ++ [32] ++ r) = (lexS r).map ([(5, [], W.markK x)] ++ ·) := by
    intro x h r
    rw [List.append_assoc, lexS_mark x ([32] ++ r) h (stops_of 32 r (by decide)), List.singleton_append, lexS_blank 32 r (by decide)]
    rfl
  unfold markT markK
  by_cases h1 : m % 2 = 1
  · rw [if_pos h1, if_pos h1]
    by_cases h2 : 1 < m
    · rw [if_pos h2, if_pos h2, List.append_assoc, one _ (.inl rfl), one _ (.inr rfl), map_app]; rfl
    · rw [if_neg h2, if_neg h2, List.append_nil, List.append_nil, one _ (.inl rfl)]; rfl
  · rw [if_neg h1, if_neg h1, List.nil_append, List.nil_append]
    by_cases h2 : 1 < m
    · rw [if_pos h2, if_pos h2, one _ (.inr rfl)]; rfl
    · rw [if_neg h2, if_neg h2, List.nil_append, map_nil]
theorem lexS_close : ∀ (d nd : Nat) (r : List UInt8), lexS (closeT d nd ++ r) = (lexS r).map (List.replicate (d - nd) ((3, [], 0) : Trip) ++ ·)
  | 0, nd, r => by rw [Nat.zero_sub]; exact (map_nil _).symm
  | d + 1, nd, r => by
    unfold closeT
    by_cases h : nd ≤ d
    · rw [if_pos h, List.append_assoc, List.append_assoc, lexS_blanks, List.cons_append, lexS_sign 125 _ (by decide), List.singleton_append, lexS_blank 10 _ (by decide), lexS_close d nd r, show d + 1 - nd = (d - nd) + 1 by omega, List.replicate_succ, map_cons, map_app]
      rfl
    · rw [if_neg h, show d + 1 - nd = 0 by omega]; exact (map_nil _).symm
theorem RightT.lexS_row {t : List Ln} (h : RightT t) (i : Nat) (hi : i < t.length) (r : List UInt8) : lexS (rowT t i ++ r) = (lexS r).map (toksRow t i ++ ·) := by
  unfold rowT lineT toksRow
  rw [List.append_assoc, List.append_assoc, List.append_assoc, List.append_assoc, lexS_blanks, lexS_marks]
  cases openB t i with
  | true =>
    rw [if_pos rfl, if_pos rfl, List.cons_append, lexS_name _ _ (h.long i hi) (stops_of 32 _ (by decide)), lexS_blank 32 _ (by decide), List.cons_append, lexS_sign 123 _ (by decide), List.singleton_append, lexS_blank 10 _ (by decide), lexS_close, map_cons, map_cons, map_app, map_app, map_app, show signK 123 = 2 from by decide]
    simp only [List.append_assoc, List.nil_append, List.cons_append]
  | false =>
    rw [if_neg (by decide), if_neg (by decide), List.cons_append, lexS_name _ _ (h.long i hi) (stops_of 59 _ (by decide)), lexS_sign 59 _ (by decide), List.singleton_append, lexS_blank 10 _ (by decide), lexS_close, map_cons, map_cons, map_app, map_app, map_app, show signK 59 = 4 from by decide]
    simp only [List.append_assoc, List.nil_append, List.cons_append]
def toksFrom (t : List Ln) : Nat → Nat → List Trip
  | 0, _ => []
  | f + 1, k => toksRow t k ++ toksFrom t f (k + 1)
def textFrom (t : List Ln) : Nat → Nat → List UInt8
  | 0, _ => []
  | f + 1, k => rowT t k ++ textFrom t f (k + 1)
theorem textFrom_snoc (t : List Ln) : ∀ (f k : Nat), textFrom t (f + 1) k = textFrom t f k ++ rowT t (k + f)
  | 0, k => by simp [textFrom]
  | f + 1, k => by
    rw [textFrom, textFrom_snoc t f (k + 1)]
    rw [show k + 1 + f = k + (f + 1) by omega, ← List.append_assoc]; rfl
theorem text_from (t : List Ln) : ∀ f : Nat, textTo t f = textFrom t f 0
  | 0 => rfl
  | f + 1 => by rw [text_next, textFrom_snoc, text_from t f, Nat.zero_add]
theorem RightT.lexS_from {t : List Ln} (h : RightT t) : ∀ (f k : Nat), k + f ≤ t.length → lexS (textFrom t f k) = some (toksFrom t f k)
  | 0, k, _ => rfl
  | f + 1, k, hk => by rw [textFrom, RightT.lexS_row h k (by omega), RightT.lexS_from h f (k + 1) (by omega)]; rfl
/-- The tokens of a tree's text. -/
theorem RightT.lexS_text {t : List Ln} (h : RightT t) : lexS (textL t) = some (toksFrom t t.length 0) := by
  unfold textL; rw [text_from]; exact RightT.lexS_from h _ 0 (by omega)

/-- The lines that tokens make: a depth, and the marks so far. -/
def readS : Int → Int → List Trip → List Ln
  | _, _, [] => []
  | d, m, (k, w, b) :: l =>
    if k = 5 then readS d (m + b) l else if k = 1 then ⟨d, w, m⟩ :: readS d 0 l else if k = 2 then readS (d + 1) 0 l else if k = 3 then readS (d - 1) 0 l else readS d 0 l
theorem read_close (m : Nat) : ∀ (d : Int) (l : List Trip), readS d 0 (List.replicate m ((3, [], 0) : Trip) ++ l) = readS (d - m) 0 l := by
  induction m with
  | zero => intro d l; simp
  | succ m ih =>
    intro d l
    rw [List.replicate_succ, List.cons_append]
    simp only [readS]
    rw [if_neg (by decide), if_neg (by decide), if_neg (by decide), if_pos trivial, ih]
    congr 1; omega
theorem read_mark (m : Int) (h : 0 ≤ m ∧ m ≤ 3) (d : Int) (l : List Trip) : readS d 0 (markK m ++ l) = readS d m l := by
  have hm : m = 0 ∨ m = 1 ∨ m = 2 ∨ m = 3 := by omega
  rcases hm with rfl | rfl | rfl | rfl <;> simp [markK, readS]
theorem RightT.read_row {t : List Ln} (h : RightT t) (i : Nat) (hi : i < t.length) (l : List Trip) : readS (dp t i) 0 (toksRow t i ++ l) = at_ t i :: readS (nextD t i) 0 l := by
  have hd := h.deep i hi
  unfold toksRow
  rw [List.append_assoc, read_mark _ (h.mark i hi), List.cons_append]
  simp only [readS]
  rw [if_neg (by decide), if_pos trivial]
  congr 1
  have hn : nextD t i = (if i + 1 < t.length then (dp t (i + 1)).toNat else 0) := rfl
  cases ho : openB t i with
  | true =>
    have ho2 := of_decide_eq_true ho
    have hs := h.step i ho2.1
    rw [if_pos ho2.1] at hn
    rw [if_pos rfl, List.cons_append]
    simp only [readS]
    rw [if_neg (by decide), if_neg (by decide), if_pos trivial, show (dp t i).toNat - nextD t i = 0 by omega]
    show readS (dp t i + 1) 0 l = _
    congr 1; omega
  | false =>
    rw [if_neg (by decide), List.cons_append]
    simp only [readS]
    rw [if_neg (by decide), if_neg (by decide), if_neg (by decide), if_neg (by decide), read_close]
    congr 1
    by_cases hl : i + 1 < t.length
    · rw [if_pos hl] at hn
      have hle : dp t (i + 1) ≤ dp t i := by
        have := of_decide_eq_false ho
        omega
      have := (h.deep (i + 1) hl).1
      omega
    · rw [if_neg hl] at hn; omega
theorem RightT.read_from {t : List Ln} (h : RightT t) : ∀ (f k : Nat) (d : Int), k + f = t.length → (0 < f → d = dp t k) → readS d 0 (toksFrom t f k) = t.drop k
  | 0, k, d, hk, _ => by rw [List.drop_of_length_le (by omega)]; rfl
  | f + 1, k, d, hk, hd => by
    rw [toksFrom, hd (by omega), RightT.read_row h k (by omega)]
    rw [RightT.read_from h f (k + 1) (nextD t k) (by omega) (fun hf => by
      unfold nextD
      rw [if_pos (by omega)]
      have := (h.deep (k + 1) (by omega)).1
      omega)]
    have hk2 : k < t.length := by omega
    rw [List.drop_eq_getElem_cons hk2]
    congr 1
    unfold at_ List.getD
    rw [List.getElem?_eq_getElem hk2]; rfl
theorem RightT.read_toks {t : List Ln} (h : RightT t) : readS 0 0 (toksFrom t t.length 0) = t := by
  rw [RightT.read_from h t.length 0 0 (by omega) (fun hp => (h.first hp).symm)]; rfl
/-- Unlike trees have unlike texts. -/
theorem text_inj {a b : List Ln} (ha : RightT a) (hb : RightT b) (h : textL a = textL b) : a = b := by
  have e1 := RightT.lexS_text ha
  rw [h, RightT.lexS_text hb] at e1
  injection e1 with e1
  rw [← RightT.read_toks ha, ← e1, RightT.read_toks hb]
end Go.Proofs.Ytokhflpeeibeeaa.S
