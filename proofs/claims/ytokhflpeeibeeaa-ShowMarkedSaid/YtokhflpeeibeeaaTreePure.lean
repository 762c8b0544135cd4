/-
  Plain definitions on lines for layer 3 (tree), without the program: under which line one stands, where its part ends, its path; a tree; no two lines of a tree have one path. No conditions but a tree where it says so.
-/
import Derived.Laws.Strings
namespace Go.Proofs.Ytokhflpeeibeeaa.T

structure Ln where
  depth : Int
  word : List UInt8
  mark : Int

def L0 : Ln := ⟨0, [], 0⟩
def at_ (t : List Ln) (i : Nat) : Ln := t.getD i L0
def dp (t : List Ln) (i : Nat) : Int := (at_ t i).depth
def wd (t : List Ln) (i : Nat) : List UInt8 := (at_ t i).word

/-- The last of the first n lines that has a lower depth than d; -1: there is none. -/
def underF (t : List Ln) (d : Int) : Nat → Int
  | 0 => -1
  | k + 1 => if dp t k < d then (k : Int) else underF t d k
def underL (t : List Ln) (i : Nat) : Int := underF t (dp t i) i
/-- Behind a part. -/
def endL (t : List Ln) (i : Nat) : Nat := i + 1 + ((t.drop (i + 1)).takeWhile fun x => decide (dp t i < x.depth)).length
def pathF (t : List Ln) : Nat → Int → List (List UInt8)
  | 0, _ => []
  | f + 1, i => if i < 0 then [] else pathF t f (underL t i.toNat) ++ [wd t i.toNat]
def pathL (t : List Ln) (i : Nat) : List (List UInt8) := pathF t (i + 1) i

/-- A tree. -/
structure RightT (t : List Ln) : Prop where
  len : t.length ≤ 200
  deep : ∀ i, i < t.length → 0 ≤ dp t i ∧ dp t i ≤ 15
  long : ∀ i, i < t.length → (wd t i).length ≤ 40
  mark : ∀ i, i < t.length → 0 ≤ (at_ t i).mark ∧ (at_ t i).mark ≤ 3
  first : 0 < t.length → dp t 0 = 0
  step : ∀ i, i + 1 < t.length → dp t (i + 1) ≤ dp t i + 1
  rise : ∀ i k, i < k → k < t.length → dp t k = dp t i → (∀ j, i < j → j < k → dp t i ≤ dp t j) → Op.bytesLess (wd t i) (wd t k) = true

theorem less_irr : ∀ l : List UInt8, Op.bytesLess l l = false
  | [] => by simp [Op.bytesLess]
  | c :: l => by simp [Op.bytesLess, less_irr l]

theorem under_spec (t : List Ln) (d : Int) : ∀ n : Nat, (underF t d n = -1 ∧ ∀ k, k < n → d ≤ dp t k) ∨ ∃ k, k < n ∧ underF t d n = (k : Int) ∧ dp t k < d ∧ ∀ j, k < j → j < n → d ≤ dp t j
  | 0 => .inl ⟨rfl, fun k hk => by omega⟩
  | n + 1 => by
    simp only [underF]
    by_cases h : dp t n < d
    · rw [if_pos h]
      exact .inr ⟨n, by omega, rfl, h, fun j h1 h2 => by omega⟩
    · rw [if_neg h]
      rcases under_spec t d n with ⟨h1, h2⟩ | ⟨k, h1, h2, h3, h4⟩
      · refine .inl ⟨h1, fun k hk => ?_⟩
        rcases Nat.lt_or_ge k n with hlt | hge
        · exact h2 k hlt
        · obtain rfl : k = n := by omega
          omega
      · refine .inr ⟨k, by omega, h2, h3, fun j hj1 hj2 => ?_⟩
        rcases Nat.lt_or_ge j n with hlt | hge
        · exact h4 j hj1 hlt
        · obtain rfl : j = n := by omega
          omega
theorem under_lt (t : List Ln) (i : Nat) : -1 ≤ underL t i ∧ underL t i < i := by
  unfold underL
  rcases under_spec t (dp t i) i with ⟨h1, _⟩ | ⟨k, h1, h2, _⟩
  · rw [h1]; omega
  · rw [h2]; omega
/-- In a tree a line of depth 0 stands under none, each other one under one of one depth less. -/
theorem RightT.under {t : List Ln} (h : RightT t) (i : Nat) (hi : i < t.length) :
    (dp t i = 0 ∧ underL t i = -1) ∨ ∃ k, k < i ∧ underL t i = (k : Int) ∧ dp t k + 1 = dp t i ∧ ∀ j, k < j → j < i → dp t i ≤ dp t j := by
  unfold underL
  rcases under_spec t (dp t i) i with ⟨h1, h2⟩ | ⟨k, h1, h2, h3, h4⟩
  · refine .inl ⟨?_, h1⟩
    have h0 := h.first (by omega)
    have hd := (h.deep i hi).1
    rcases Nat.eq_zero_or_pos i with rfl | hp
    · exact h0
    · have := h2 0 hp; omega
  · refine .inr ⟨k, h1, h2, ?_, h4⟩
    have hs := h.step k (by omega)
    rcases Nat.lt_or_ge (k + 1) i with hlt | hge
    · have := h4 (k + 1) (by omega) hlt; omega
    · obtain rfl : k + 1 = i := by omega
      omega
theorem pathF_fuel (t : List Ln) : ∀ (f g : Nat) (i : Int), i < f → i < g → pathF t f i = pathF t g i
  | 0, 0, i, _, _ => rfl
  | 0, g + 1, i, hf, _ => by
    simp only [pathF]; rw [if_pos (by omega)]
  | f + 1, 0, i, _, hg => by
    simp only [pathF]; rw [if_pos (by omega)]
  | f + 1, g + 1, i, hf, hg => by
    simp only [pathF]
    by_cases h : i < 0
    · rw [if_pos h, if_pos h]
    · rw [if_neg h, if_neg h]
      have := under_lt t i.toNat
      rw [pathF_fuel t f g _ (by omega) (by omega)]
theorem path_root {t : List Ln} {i : Nat} (h : underL t i = -1) : pathL t i = [wd t i] := by
  unfold pathL
  simp only [pathF]
  rw [if_neg (by omega), Int.toNat_natCast, h]
  cases i with
  | zero => rfl
  | succ i => simp [pathF]
theorem path_step {t : List Ln} {i k : Nat} (h : underL t i = (k : Int)) : pathL t i = pathL t k ++ [wd t i] := by
  have hl := under_lt t i
  unfold pathL
  rw [pathF, if_neg (by omega), Int.toNat_natCast, h]
  rw [pathF_fuel t i (k + 1) k (by omega) (by omega)]
theorem path_ne {t : List Ln} {i : Nat} : pathL t i ≠ [] := by
  unfold pathL; rw [pathF, if_neg (by omega)]; simp
theorem RightT.path_len {t : List Ln} (h : RightT t) : ∀ (n i : Nat), i ≤ n → i < t.length → ((pathL t i).length : Int) = dp t i + 1
  | n, i, hn, hi => by
    rcases h.under i hi with ⟨h1, h2⟩ | ⟨k, h1, h2, h3, _⟩
    · rw [path_root h2, h1]; rfl
    · match n, hn with
      | 0, hn => omega
      | n + 1, hn =>
        have ih := RightT.path_len h n k (by omega) (by omega)
        rw [path_step h2, List.length_append, List.length_singleton]
        omega
/-- No two lines of a tree have one path. -/
theorem RightT.path_inj {t : List Ln} (h : RightT t) : ∀ (n i k : Nat), i ≤ n → k ≤ n → i < t.length → k < t.length → pathL t i = pathL t k → i = k
  | n, i, k, hin, hkn, hi, hk, e => by
    have same : ∀ a b : Nat, a < b → b < t.length → dp t b = dp t a → wd t a = wd t b → (∀ j, a < j → j < b → dp t a ≤ dp t j) → False := by
      intro a b hab hb hd hw hj
      have := h.rise a b hab hb hd hj
      rw [hw, less_irr] at this
      cases this
    have li := h.path_len i i (Nat.le_refl _) hi
    have lk := h.path_len k k (Nat.le_refl _) hk
    rw [e] at li
    have hd : dp t i = dp t k := by omega
    rcases h.under i hi with ⟨a1, a2⟩ | ⟨u, a1, a2, a3, a4⟩
    · rcases h.under k hk with ⟨b1, b2⟩ | ⟨v, b1, b2, b3, b4⟩
      · rw [path_root a2, path_root b2] at e
        injection e with e _
        rcases Nat.lt_trichotomy i k with hlt | heq | hgt
        · exact absurd (same i k hlt hk (by omega) e (fun j _ hj => by have := (h.deep j (by omega)).1; omega)) id
        · exact heq
        · exact absurd (same k i hgt hi (by omega) e.symm (fun j _ hj => by have := (h.deep j (by omega)).1; omega)) id
      · have := (h.deep v (by omega)).1; omega
    · rcases h.under k hk with ⟨b1, b2⟩ | ⟨v, b1, b2, b3, b4⟩
      · have := (h.deep u (by omega)).1; omega
      · match n, hin, hkn with
        | 0, hin, _ => omega
        | n + 1, hin, hkn =>
          rw [path_step a2, path_step b2] at e
          obtain ⟨e1, e2⟩ := List.append_inj' e rfl
          injection e2 with e2 _
          obtain rfl := RightT.path_inj h n u v (by omega) (by omega) (by omega) (by omega) e1
          rcases Nat.lt_trichotomy i k with hlt | heq | hgt
          · exact absurd (same i k hlt hk (by omega) e2 (fun j h1 h2 => by have := b4 j (by omega) h2; omega)) id
          · exact heq
          · exact absurd (same k i hgt hi (by omega) e2.symm (fun j h1 h2 => by have := a4 j (by omega) h2; omega)) id
end Go.Proofs.Ytokhflpeeibeeaa.T
