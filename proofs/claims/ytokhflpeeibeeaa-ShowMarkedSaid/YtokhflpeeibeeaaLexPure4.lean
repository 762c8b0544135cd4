/-
  Plain laws on bytes for layer 2 (lex): a comment turns nothing but places; two results that differ in places alone. No conditions but those that each law says.
-/
import Derived.Test.YtokhflpeeibeeaaLexPure3
namespace Go.Proofs.Ytokhflpeeibeeaa.W

theorem starEnd_note : ∀ (note t : List UInt8), (∀ c ∈ note, c.toNat ≠ 42) → starEnd (note ++ 42 :: 47 :: t) = some (note.length + 2)
  | [], t, _ => by simp [starEnd]
  | [c], t, h => by
    have hc := h c (by simp)
    simp only [List.singleton_append, starEnd, List.length_singleton]
    rw [if_neg (by omega), if_pos ⟨rfl, rfl⟩]; rfl
  | c :: d :: l, t, h => by
    have hc := h c (by simp)
    have ih := starEnd_note (d :: l) t (fun x hx => h x (by simp [hx]))
    rw [List.cons_append] at ih
    simp only [List.cons_append, starEnd]
    rw [if_neg (by omega), ih]
    simp
theorem lex_long (p : Nat) (note t : List UInt8) (h : ∀ c ∈ note, c.toNat ≠ 42) : lexL p (47 :: 42 :: (note ++ 42 :: 47 :: t)) = lexL (p + (note.length + 4)) t := by
  have hg : gapO (47 :: 42 :: (note ++ 42 :: 47 :: t)) = some (note.length + 3 + 1) := by
    simp only [gapO]
    rw [if_neg (by decide), if_neg (by decide), if_pos (by simp [Lib.hasPrefix, List.isPrefixOf]), List.drop_succ_cons, List.drop_zero, starEnd_note _ _ h]
    rfl
  rw [lexL_skip _ (by simp) (stepD_gap hg)]
  have e : (47 :: 42 :: (note ++ 42 :: 47 :: t)).drop (note.length + 3 + 1) = t := by
    have : note.length + 3 + 1 = (note.length + 2) + 1 + 1 := by omega
    rw [this, List.drop_succ_cons, List.drop_succ_cons, List.drop_append]
    simp
  rw [e]
theorem lineRun_note (note t : List UInt8) (h : ∀ c ∈ note, c.toNat ≠ 10) : lineRun (note ++ 10 :: t) = note.length := by
  unfold lineRun
  rw [List.takeWhile_append_of_pos (fun c hc => by simp [lineB, h c hc])]
  simp [lineB]
theorem lex_short (p : Nat) (note t : List UInt8) (h : ∀ c ∈ note, c.toNat ≠ 10) : lexL p (35 :: (note ++ 10 :: t)) = lexL (p + (note.length + 2)) t := by
  have hl := lineRun_note (35 :: note) t (by intro c hc; rcases List.mem_cons.1 hc with rfl | hc; decide; exact h c hc)
  rw [List.cons_append] at hl
  have hg : gapO (35 :: (note ++ 10 :: t)) = some (note.length + 1) := by
    simp only [gapO]
    rw [if_neg (by decide), if_pos (by decide), hl]; rfl
  rw [lexL_skip _ (by simp) (stepD_gap hg), List.drop_succ_cons, List.drop_left, lexL_lf]
  congr 1

/-- Tokens that differ in places alone. -/
def Alike (a b : List Tok) : Prop := a.length = b.length ∧ ∀ i (h : i < a.length) (h2 : i < b.length), a[i].kind = b[i].kind ∧ a[i].word = b[i].word ∧ a[i].bit = b[i].bit
theorem alike_shift (a b : List Tok) (p q : Nat) : Alike (a ++ b.map (Tok.shift p)) (a ++ b.map (Tok.shift q)) := by
  refine ⟨by simp, fun i h h2 => ?_⟩
  by_cases hi : i < a.length
  · rw [List.getElem_append_left hi, List.getElem_append_left hi]; exact ⟨rfl, rfl, rfl⟩
  · rw [List.getElem_append_right (by omega), List.getElem_append_right (by omega)]
    simp [Tok.shift]
theorem res_alike (r : Res) (a : List Tok) (p q : Nat) : Alike ((r.shift p).pre a).toks ((r.shift q).pre a).toks ∧ ((r.shift p).pre a).err = ((r.shift q).pre a).err := by
  cases r with
  | ok b => exact ⟨alike_shift a b p q, rfl⟩
  | bad _ _ => exact ⟨⟨rfl, fun i h => by simp [Res.shift, Res.pre, Res.toks] at h⟩, rfl⟩
theorem res_len (r : Res) (a : List Tok) (p : Nat) : ((r.shift p).pre a).toks.length ≤ a.length + r.toks.length := by
  cases r with
  | ok b => simp [Res.shift, Res.pre, Res.toks]
  | bad _ _ => simp [Res.shift, Res.pre, Res.toks]
theorem toks_len (p : Nat) (l : List UInt8) : (lexL p l).toks.length ≤ l.length := by
  cases h : lexL p l with
  | ok a => exact lexL_len _ _ _ h
  | bad _ _ => simp [Res.toks]
end Go.Proofs.Ytokhflpeeibeeaa.W
