/-
  Plain laws for layer 4 (show): what rows say of a text's bytes; a text's length; the text of a part of Depth 0; marks. Condition: a tree where it says so.
-/
import Derived.Test.YtokhflpeeibeeaaShowPure2
namespace Go.Proofs.Ytokhflpeeibeeaa.S
open T (Ln at_ dp wd RightT endL subL)
open W (quoteL inactiveL protectL)

theorem Rows.bytes {l : List UInt8} {n : Nat} (h : Rows l n) : ∀ b ∈ l, okB b := by
  induction h with
  | nil => intro b hb; cases hb
  | row q c hq hc _ ih =>
    intro b hb
    rcases List.mem_append.1 hb with hb | hb
    · rcases List.mem_append.1 hb with hb | hb
      · exact .inr (hq b hb)
      · simp at hb
        rcases hb with rfl | rfl
        · exact .inr (by omega)
        · exact .inl rfl
    · exact ih b hb
/-- How many bytes 10. -/
def tens (l : List UInt8) : Nat := (l.filter fun b => decide (b.toNat = 10)).length
theorem tens_app (a b : List UInt8) : tens (a ++ b) = tens a + tens b := by unfold tens; rw [List.filter_append, List.length_append]
theorem tens_quiet {q : List UInt8} (h : Quiet q) : tens q = 0 := by
  unfold tens
  rw [List.length_eq_zero_iff, List.filter_eq_nil_iff]
  intro b hb; have := h b hb; simp; omega
theorem Rows.tens {l : List UInt8} {n : Nat} (h : Rows l n) : S.tens l = n := by
  induction h with
  | nil => rfl
  | row q c hq hc _ ih =>
    rw [tens_app, tens_app, tens_quiet hq, ih]
    have : S.tens [c, 10] = 1 := by
      unfold S.tens
      have : ¬ c.toNat = 10 := by omega
      simp [this]
    omega
theorem Rows.prev {l : List UInt8} {n : Nat} (h : Rows l n) : ∀ (i : Nat) (b : UInt8), l[i]? = some b → b.toNat = 10 → 0 < i ∧ ∃ c, l[i - 1]? = some c ∧ (c.toNat = 59 ∨ c.toNat = 123 ∨ c.toNat = 125) := by
  induction h with
  | nil => intro i b hb; simp at hb
  | @row l n q c hq hc _ ih =>
    intro i b hb h10
    rcases Nat.lt_trichotomy i (q.length + 1) with hlt | heq | hgt
    · rw [List.append_assoc] at hb
      rcases Nat.lt_or_ge i q.length with h1 | h1
      · rw [List.getElem?_append_left h1] at hb
        have := hq b (List.mem_of_getElem? hb); omega
      · rw [List.getElem?_append_right h1, show i - q.length = 0 by omega] at hb
        simp at hb; subst hb; omega
    · subst heq
      refine ⟨by omega, c, ?_, hc⟩
      rw [List.append_assoc, Nat.add_sub_cancel, List.getElem?_append_right (Nat.le_refl _), Nat.sub_self]; rfl
    · obtain ⟨j, rfl⟩ : ∃ j, i = (q ++ [c, 10]).length + j := ⟨i - (q.length + 2), by simp; omega⟩
      rw [List.getElem?_append_right (by omega), Nat.add_sub_cancel_left] at hb
      obtain ⟨h0, d, hd, hdc⟩ := ih j b hb h10
      refine ⟨by omega, d, ?_, hdc⟩
      rw [List.getElem?_append_right (by omega), show (q ++ [c, 10]).length + j - 1 - (q ++ [c, 10]).length = j - 1 by omega]
      exact hd
theorem Rows.last {l : List UInt8} {n : Nat} (h : Rows l n) : l ≠ [] → l.getLast? = some 10 := by
  induction h with
  | nil => intro h; exact absurd rfl h
  | @row l n q c hq hc _ ih =>
    intro _
    by_cases hl : l = []
    · subst hl; simp
    · rw [List.getLast?_append, ih hl]; rfl

theorem blanks_len (n : Nat) : (blanksL n).length = 2 * n := by unfold blanksL; rw [List.length_replicate]
theorem mark_len (m : Int) : (markT m).length = (if m % 2 = 1 then 10 else 0) + (if 1 < m then 9 else 0) := by
  unfold markT
  rw [List.length_append]
  by_cases h1 : m % 2 = 1 <;> by_cases h2 : 1 < m <;> simp [h1, h2, inactiveL, protectL]
theorem close_len : ∀ d nd : Nat, d ≤ 15 → (closeT d nd).length ≤ 32 * d
  | 0, nd, _ => by simp [closeT]
  | d + 1, nd, h => by
    rw [close_step, List.length_append]
    have := close_len d nd (by omega)
    by_cases hn : nd ≤ d
    · rw [if_pos hn, List.length_append, blanks_len]; simp; omega
    · rw [if_neg hn]; simp; omega
theorem RightT.row_len {t : List Ln} (h : RightT t) {i : Nat} (hi : i < t.length) : (rowT t i).length ≤ 1000 := by
  have hd := h.deep i hi
  have hc := close_len (dp t i).toNat (nextD t i) (by omega)
  have hq := (W.quote_len (wd t i)).2
  have hw := h.long i hi
  have hm : (markT (at_ t i).mark).length ≤ 19 := by rw [mark_len]; split <;> split <;> omega
  have he : (if openB t i = true then [32, 123, 10] else [59, 10] : List UInt8).length ≤ 3 := by split <;> simp
  unfold rowT lineT
  rw [List.length_append, List.length_append, List.length_append, List.length_append, blanks_len]
  omega
theorem RightT.text_len {t : List Ln} (h : RightT t) : ∀ k, k ≤ t.length → (textTo t k).length ≤ 1000 * k
  | 0, _ => by simp [textTo]
  | k + 1, hk => by
    have := RightT.text_len h k (by omega)
    have := RightT.row_len h (show k < t.length by omega)
    rw [text_next, List.length_append]; omega

/-- The rows of a part of Depth 0 are those of its lines. -/
theorem RightT.sub_row {t : List Ln} (h : RightT t) {m : Nat} (hm : m < t.length) (hd : dp t m = 0) {j : Nat} (hj : j < endL t m - m) : rowT (subL t m) j = rowT t (m + j) := by
  obtain ⟨g1, g2, g3, g4⟩ := T.end_spec t m hm
  have hl := T.sub_len t m hm
  have ha : ∀ k, k < endL t m - m → at_ (subL t m) k = at_ t (m + k) := fun k hk => by
    rw [T.sub_at t m k hm hk, hd]
    show (⟨(at_ t (m + k)).depth - 0, (at_ t (m + k)).word, (at_ t (m + k)).mark⟩ : Ln) = _
    rw [Int.sub_zero]
  have hdp : ∀ k, k < endL t m - m → dp (subL t m) k = dp t (m + k) := fun k hk => by unfold dp; rw [ha k hk]
  have hwd : wd (subL t m) j = wd t (m + j) := by unfold wd; rw [ha j hj]
  have hend : endL t m < t.length → dp t (endL t m) = 0 := fun hlt => by have := g4 hlt; have := (h.deep _ hlt).1; omega
  have hop : openB (subL t m) j = openB t (m + j) := by
    unfold openB
    rw [hl]
    by_cases h1 : j + 1 < endL t m - m
    · rw [hdp j hj, hdp (j + 1) h1]
      have h2 : m + j + 1 < t.length := by omega
      rw [Bool.eq_iff_iff, decide_eq_true_iff, decide_eq_true_iff]
      exact ⟨fun x => ⟨h2, x.2⟩, fun x => ⟨h1, x.2⟩⟩
    · have he : m + j + 1 = endL t m := by omega
      have hdj := (h.deep (m + j) (by omega)).1
      rw [he]
      have : ¬ (endL t m < t.length ∧ dp t (m + j) < dp t (endL t m)) := fun ⟨a, b⟩ => by rw [hend a] at b; omega
      simp [h1, this]
  have hnx : nextD (subL t m) j = nextD t (m + j) := by
    unfold nextD
    rw [hl]
    by_cases h1 : j + 1 < endL t m - m
    · rw [if_pos h1, if_pos (by omega), hdp (j + 1) h1]; rfl
    · rw [if_neg h1]
      have he : m + j + 1 = endL t m := by omega
      rw [he]
      by_cases h2 : endL t m < t.length
      · rw [if_pos h2, hend h2]; rfl
      · rw [if_neg h2]
  unfold rowT lineT
  rw [hop, hnx, hdp j hj, hwd, ha j hj]
theorem RightT.sub_text {t : List Ln} (h : RightT t) {m : Nat} (hm : m < t.length) (hd : dp t m = 0) : textTo t m ++ textL (subL t m) = textTo t (endL t m) := by
  have hl := T.sub_len t m hm
  have he := T.end_spec t m hm
  have key : ∀ k, k ≤ endL t m - m → textTo t m ++ textTo (subL t m) k = textTo t (m + k) := by
    intro k
    induction k with
    | zero => intro _; simp [textTo]
    | succ k ih =>
      intro hk
      rw [text_next, ← List.append_assoc, ih (by omega), RightT.sub_row h hm hd (by omega), ← text_next]; rfl
  unfold textL
  rw [hl, key _ (Nat.le_refl _), show m + (endL t m - m) = endL t m by omega]

/-- A tree with another mark of one line. -/
def setM (t : List Ln) (k : Nat) (m : Int) : List Ln := t.set k ⟨dp t k, wd t k, m⟩
theorem setM_len (t : List Ln) (k : Nat) (m : Int) : (setM t k m).length = t.length := by unfold setM; rw [List.length_set]
theorem setM_at (t : List Ln) (k : Nat) (m : Int) (i : Nat) (hk : k < t.length) : at_ (setM t k m) i = if i = k then ⟨dp t k, wd t k, m⟩ else at_ t i := by
  unfold setM at_ List.getD
  rw [List.getElem?_set]
  by_cases h : i = k
  · subst h; simp [hk]
  · rw [if_neg (fun e => h e.symm), if_neg h]
theorem setM_dp (t : List Ln) (k : Nat) (m : Int) (i : Nat) (hk : k < t.length) : dp (setM t k m) i = dp t i := by
  unfold dp; rw [setM_at t k m i hk]
  by_cases h : i = k
  · rw [if_pos h, h]; rfl
  · rw [if_neg h]
theorem setM_wd (t : List Ln) (k : Nat) (m : Int) (i : Nat) (hk : k < t.length) : wd (setM t k m) i = wd t i := by
  unfold wd; rw [setM_at t k m i hk]
  by_cases h : i = k
  · rw [if_pos h, h]; rfl
  · rw [if_neg h]
theorem RightT.setM {t : List Ln} (h : RightT t) {k : Nat} (hk : k < t.length) {m : Int} (hm : 0 ≤ m ∧ m ≤ 3) : RightT (setM t k m) := by
  have hl := setM_len t k m
  have d := fun i => setM_dp t k m i hk
  have w := fun i => setM_wd t k m i hk
  refine ⟨by rw [hl]; exact h.len, fun i hi => by rw [d]; exact h.deep i (by omega), fun i hi => by rw [w]; exact h.long i (by omega), fun i hi => ?_, fun hp => by rw [d]; exact h.first (by omega), fun i hi => by rw [d, d]; exact h.step i (by omega), fun i j h1 h2 h3 h4 => ?_⟩
  · rw [setM_at t k m i hk]
    by_cases he : i = k
    · rw [if_pos he]; exact hm
    · rw [if_neg he]; exact h.mark i (by omega)
  · rw [w, w]
    rw [d, d] at h3
    exact h.rise i j h1 (by omega) h3 (fun x a b => by have := h4 x a b; rw [d, d] at this; exact this)
theorem setM_row (t : List Ln) (k : Nat) (m : Int) (i : Nat) (hk : k < t.length) : (rowT (setM t k m) i).length + (if i = k then (markT 0).length else 0) = (rowT (setM t k 0) i).length + (if i = k then (markT m).length else 0) := by
  have e1 : ∀ x : Int, openB (setM t k x) i = openB t i := fun x => by unfold openB; rw [setM_len, setM_dp t k x i hk, setM_dp t k x (i + 1) hk]
  have e2 : ∀ x : Int, nextD (setM t k x) i = nextD t i := fun x => by unfold nextD; rw [setM_len, setM_dp t k x (i + 1) hk]
  have e3 : ∀ x : Int, (rowT (setM t k x) i).length = (blanksL (dp t i).toNat).length + (markT (at_ (setM t k x) i).mark).length + (quoteL (wd t i)).length + (if openB t i = true then [32, 123, 10] else [59, 10] : List UInt8).length + (closeT (dp t i).toNat (nextD t i)).length := fun x => by
    unfold rowT lineT
    rw [List.length_append, List.length_append, List.length_append, List.length_append, e1, e2, setM_dp t k x i hk, setM_wd t k x i hk]
  rw [e3 m, e3 0, setM_at t k m i hk, setM_at t k 0 i hk]
  by_cases h : i = k
  · rw [if_pos h, if_pos h, if_pos h, if_pos h]; simp only; omega
  · rw [if_neg h, if_neg h, if_neg h, if_neg h]
theorem setM_text (t : List Ln) (k : Nat) (m : Int) (hk : k < t.length) : ∀ j, (textTo (setM t k m) j).length = (textTo (setM t k 0) j).length + (if k < j then (markT m).length else 0)
  | 0 => by simp [textTo]
  | j + 1 => by
    have ih := setM_text t k m hk j
    have hr := setM_row t k m j hk
    have h0 : (markT 0).length = 0 := rfl
    rw [text_next, text_next, List.length_append, List.length_append, ih]
    rw [h0] at hr
    rcases Nat.lt_trichotomy k j with hlt | heq | hgt
    · rw [if_pos hlt, if_pos (by omega)]
      rw [if_neg (by omega), if_neg (by omega)] at hr; omega
    · subst heq
      rw [if_neg (by omega), if_pos (by omega)]
      rw [if_pos rfl, if_pos rfl] at hr; omega
    · rw [if_neg (by omega), if_neg (by omega)]
      rw [if_neg (by omega), if_neg (by omega)] at hr; omega
/-- A mark more makes a text longer by its words. -/
theorem marked_len (t : List Ln) (k : Nat) (hk : k < t.length) : (textL (setM t k 1)).length = (textL (setM t k 0)).length + 10 ∧ (textL (setM t k 3)).length = (textL (setM t k 1)).length + 9 := by
  unfold textL
  rw [setM_len, setM_len, setM_len, setM_text t k 1 hk t.length, setM_text t k 3 hk t.length, if_pos hk, if_pos hk]
  have h1 : (markT 1).length = 10 := by decide
  have h3 : (markT 3).length = 19 := by decide
  omega
end Go.Proofs.Ytokhflpeeibeeaa.S
