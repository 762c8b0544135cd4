/-
  Plain laws for layer 4 (show): the bytes of a tree's text, its rows, its ends of parts, its parts, its marks. Condition: a tree where it says so.
-/
import Derived.Test.YtokhflpeeibeeaaShowPure
namespace Go.Proofs.Ytokhflpeeibeeaa.S
open T (Ln at_ dp wd RightT endL subL leafB leafN)
open W (quoteL inactiveL protectL)

/-- The ends of parts, one depth at a time. -/
theorem close_low : ∀ (d nd : Nat), d ≤ nd → closeT d nd = []
  | 0, _, _ => rfl
  | d + 1, nd, h => by unfold closeT; rw [if_neg (by omega)]
theorem close_step (d nd : Nat) : closeT (d + 1) nd = (if nd ≤ d then blanksL d ++ [125, 10] else []) ++ closeT d nd := by
  conv => lhs; unfold closeT
  by_cases h : nd ≤ d
  · rw [if_pos h, if_pos h]
  · rw [if_neg h, if_neg h, close_low d nd (by omega)]; rfl
theorem leaf_open {t : List Ln} {i : Nat} (hi : i < t.length) : openB t i = !leafB t i := by
  obtain ⟨g1, g2, g3, g4⟩ := T.end_spec t i hi
  unfold openB leafB
  by_cases h : endL t i = i + 1
  · rw [h]
    have : ¬ (i + 1 < t.length ∧ dp t i < dp t (i + 1)) := fun ⟨a, b⟩ => by
      have := g4 (by omega); rw [h] at this; omega
    simp [this]
  · have hlt : i + 1 < endL t i := by omega
    have := g3 (i + 1) (by omega) hlt
    have h2 : i + 1 < t.length ∧ dp t i < dp t (i + 1) := ⟨by omega, this⟩
    simp [h, h2]
/-- Whether a part ends behind the line at i. -/
theorem RightT.closer_iff {t : List Ln} (h : RightT t) {i k d : Nat} (hi : i < t.length) (hd : (d : Int) < dp t i) (hk : k ≤ i) (hall : ∀ m, k < m → m ≤ i → (d : Int) < dp t m) (hst : dp t k ≤ d) : endL t k = i + 1 ↔ nextD t i ≤ d := by
  have hki : k < i := by
    rcases Nat.lt_or_ge k i with hlt | hge
    · exact hlt
    · obtain rfl : k = i := by omega
      omega
  have hkd : dp t k = d := by
    have h1 := hall (k + 1) (by omega) (by omega)
    have h2 := h.step k (by omega)
    omega
  obtain ⟨g1, g2, g3, g4⟩ := T.end_spec t k (by omega)
  have hge : i + 1 ≤ endL t k := by
    rcases Nat.lt_or_ge (endL t k) (i + 1) with hlt | hge
    · have := g4 (by omega); have := hall (endL t k) g1 (by omega); omega
    · exact hge
  unfold nextD
  by_cases hl : i + 1 < t.length
  · rw [if_pos hl]
    have hp := (h.deep (i + 1) hl).1
    constructor
    · intro e
      have := g4 (by omega)
      rw [e] at this; omega
    · intro e
      rcases Nat.eq_or_lt_of_le hge with he | he
      · exact he.symm
      · have := g3 (i + 1) (by omega) he; omega
  · rw [if_neg hl]
    exact ⟨fun _ => Nat.zero_le _, fun _ => by omega⟩

/-- Bytes that a text may have. -/
def okB (b : UInt8) : Prop := b.toNat = 10 ∨ (32 ≤ b.toNat ∧ b.toNat ≤ 126)
theorem blanks_ok (n : Nat) : ∀ b ∈ blanksL n, b = 32 := by
  intro b hb; exact (List.mem_replicate.1 hb).2
theorem mark_ok (m : Int) : ∀ b ∈ markT m, 32 ≤ b.toNat ∧ b.toNat ≤ 126 := by
  have h1 : ∀ b ∈ inactiveL ++ [32], 32 ≤ b.toNat ∧ b.toNat ≤ 126 := by decide
  have h2 : ∀ b ∈ protectL ++ [32], 32 ≤ b.toNat ∧ b.toNat ≤ 126 := by decide
  intro b hb
  unfold markT at hb
  rcases List.mem_append.1 hb with hb | hb
  · by_cases h : m % 2 = 1
    · rw [if_pos h] at hb; exact h1 b hb
    · rw [if_neg h] at hb; cases hb
  · by_cases h : 1 < m
    · rw [if_pos h] at hb; exact h2 b hb
    · rw [if_neg h] at hb; cases hb
/-- A piece of a row ahead of its end. -/
def Quiet (l : List UInt8) : Prop := ∀ b ∈ l, 32 ≤ b.toNat ∧ b.toNat ≤ 126
theorem Quiet.app {a b : List UInt8} (ha : Quiet a) (hb : Quiet b) : Quiet (a ++ b) := fun x hx => (List.mem_append.1 hx).elim (ha x) (hb x)
theorem quiet_blanks (n : Nat) : Quiet (blanksL n) := fun b hb => by rw [blanks_ok n b hb]; decide
/-- A row: quiet bytes, then one of three signs, then a byte 10. -/
inductive Rows : List UInt8 → Nat → Prop
  | nil : Rows [] 0
  | row {l : List UInt8} {n : Nat} (q : List UInt8) (c : UInt8) (hq : Quiet q) (hc : c.toNat = 59 ∨ c.toNat = 123 ∨ c.toNat = 125) (h : Rows l n) : Rows (q ++ [c, 10] ++ l) (n + 1)
theorem Rows.app {a b : List UInt8} {m n : Nat} (ha : Rows a m) (hb : Rows b n) : Rows (a ++ b) (m + n) := by
  induction ha with
  | nil => simpa using hb
  | row q c hq hc h ih =>
    have := Rows.row q c hq hc ih
    rw [List.append_assoc, show ∀ k : Nat, k + 1 + n = k + n + 1 from fun k => by omega]
    exact this
theorem Rows.one (q : List UInt8) (c : UInt8) (hq : Quiet q) (hc : c.toNat = 59 ∨ c.toNat = 123 ∨ c.toNat = 125) : Rows (q ++ [c, 10]) 1 := by
  have := Rows.row q c hq hc Rows.nil
  simpa using this
theorem close_rows : ∀ d nd : Nat, Rows (closeT d nd) (d - nd)
  | 0, nd => by rw [Nat.zero_sub]; exact Rows.nil
  | d + 1, nd => by
    by_cases h : nd ≤ d
    · unfold closeT
      rw [if_pos h, show d + 1 - nd = (d - nd) + 1 by omega]
      exact Rows.row (blanksL d) 125 (quiet_blanks d) (by decide) (close_rows d nd)
    · rw [close_low _ _ (by omega), show d + 1 - nd = 0 by omega]; exact Rows.nil
theorem line_rows (t : List Ln) (i : Nat) : Rows (lineT t i) 1 := by
  have hq : Quiet (blanksL (dp t i).toNat ++ markT (at_ t i).mark ++ quoteL (wd t i)) := ((quiet_blanks _).app (mark_ok _)).app (W.quote_bytes _)
  unfold lineT
  cases openB t i with
  | true =>
    rw [if_pos rfl]
    have := Rows.one _ 123 (hq.app (b := [32]) (by unfold Quiet; decide)) (by decide)
    simpa using this
  | false =>
    rw [if_neg (by decide)]
    exact Rows.one _ 59 hq (by decide)
theorem row_rows (t : List Ln) (i : Nat) : Rows (rowT t i) (1 + ((dp t i).toNat - nextD t i)) := (line_rows t i).app (close_rows _ _)
/-- How many of the first k lines have something under them. -/
def openN (t : List Ln) (k : Nat) : Nat := ((List.range k).filter (openB t)).length
theorem openN_next (t : List Ln) (k : Nat) : openN t (k + 1) = openN t k + if openB t k = true then 1 else 0 := by
  unfold openN
  rw [List.range_succ, List.filter_append, List.length_append]
  cases h : openB t k <;> simp [h]
def depthAt (t : List Ln) (k : Nat) : Nat := if k < t.length then (dp t k).toNat else 0
theorem RightT.rows_to {t : List Ln} (h : RightT t) : ∀ k, k ≤ t.length → ∃ n, Rows (textTo t k) n ∧ n + depthAt t k = k + openN t k
  | 0, _ => by
    refine ⟨0, Rows.nil, ?_⟩
    unfold depthAt openN
    by_cases hp : 0 < t.length
    · rw [if_pos hp, h.first hp]; simp
    · rw [if_neg hp]; simp
  | k + 1, hk => by
    obtain ⟨n, h1, h2⟩ := RightT.rows_to h k (by omega)
    refine ⟨n + (1 + ((dp t k).toNat - nextD t k)), by rw [text_next]; exact h1.app (row_rows t k), ?_⟩
    rw [openN_next]
    have hd := (h.deep k (by omega)).1
    have e1 : depthAt t k = (dp t k).toNat := by unfold depthAt; rw [if_pos (by omega)]
    have e2 : depthAt t (k + 1) = nextD t k := rfl
    rw [e1] at h2
    rw [e2]
    cases ho : openB t k with
    | true =>
      have ho2 := of_decide_eq_true ho
      have hs := h.step k ho2.1
      have hn : nextD t k = (dp t (k + 1)).toNat := by unfold nextD; rw [if_pos ho2.1]
      rw [if_pos rfl]; omega
    | false =>
      rw [if_neg (by decide)]
      have hn : nextD t k ≤ (dp t k).toNat := by
        unfold nextD
        by_cases hl : k + 1 < t.length
        · rw [if_pos hl]; have := of_decide_eq_false ho; omega
        · rw [if_neg hl]; omega
      omega
theorem open_leaf (t : List Ln) : ∀ k, k ≤ t.length → openN t k + leafN t k = k
  | 0, _ => rfl
  | k + 1, hk => by
    have ih := open_leaf t k (by omega)
    rw [openN_next, T.leafN_next, leaf_open (by omega)]
    cases leafB t k <;> simp <;> omega
/-- How many rows a tree's text has. -/
theorem RightT.rows_text {t : List Ln} (h : RightT t) : ∃ n, Rows (textL t) n ∧ n + leafN t t.length = 2 * t.length := by
  obtain ⟨n, h1, h2⟩ := RightT.rows_to h t.length (Nat.le_refl _)
  have e : depthAt t t.length = 0 := by unfold depthAt; rw [if_neg (by omega)]
  have := open_leaf t t.length (Nat.le_refl _)
  exact ⟨n, h1, by omega⟩
end Go.Proofs.Ytokhflpeeibeeaa.S
