/-
  Plain laws on lines for layer 3 (tree): when lines are a tree, line by line. No conditions.
-/
import Derived.Test.YtokhflpeeibeeaaTreePure4
namespace Go.Proofs.Ytokhflpeeibeeaa.T

def aheadL (t : List Ln) (k : Nat) : Int := if k = 0 then -1 else dp t (k - 1)
def Fits (t : List Ln) (k : Nat) : Prop := ((0 ≤ dp t k ∧ dp t k ≤ 15) ∧ (wd t k).length ≤ 40 ∧ 0 ≤ (at_ t k).mark ∧ (at_ t k).mark ≤ 3) ∧ dp t k ≤ aheadL t k + 1
def Rise (t : List Ln) (i k : Nat) : Prop := dp t k = dp t i → (∀ j, i < j → j < k → dp t i ≤ dp t j) → Op.bytesLess (wd t i) (wd t k) = true
theorem right_of {t : List Ln} (h200 : t.length ≤ 200) (hf : ∀ k, k < t.length → Fits t k) (hr : ∀ i k, i < k → k < t.length → Rise t i k) : RightT t := by
  refine ⟨h200, fun i hi => (hf i hi).1.1, fun i hi => (hf i hi).1.2.1, fun i hi => (hf i hi).1.2.2, fun h0 => ?_, fun i hi => ?_, fun i k h1 h2 => hr i k h1 h2⟩
  · obtain ⟨⟨⟨h1, _⟩, _⟩, h2⟩ := hf 0 h0
    unfold aheadL at h2
    rw [if_pos rfl] at h2
    omega
  · have h2 := (hf (i + 1) hi).2
    unfold aheadL at h2
    rw [if_neg (by omega), Nat.add_sub_cancel] at h2
    exact h2
theorem RightT.fits {t : List Ln} (h : RightT t) {k : Nat} (hk : k < t.length) : Fits t k := by
  refine ⟨⟨h.deep k hk, h.long k hk, h.mark k hk⟩, ?_⟩
  unfold aheadL
  by_cases h0 : k = 0
  · rw [if_pos h0]; subst h0; have := h.first hk; omega
  · rw [if_neg h0]
    have := h.step (k - 1) (by omega)
    have e : k - 1 + 1 = k := by omega
    rw [e] at this
    exact this
theorem ahead_next (t : List Ln) (k : Nat) : aheadL t (k + 1) = dp t k := by unfold aheadL; rw [if_neg (by omega), Nat.add_sub_cancel]

/-- The newest word of each depth up to that of the line ahead. -/
def LastOk (t : List Ln) (k : Nat) (f : Nat → List UInt8) : Prop := ∀ d : Nat, (d : Int) ≤ aheadL t k → ∃ j, j < k ∧ dp t j = d ∧ f d = wd t j ∧ ∀ m, j < m → m < k → (d : Int) < dp t m
theorem LastOk.start (t : List Ln) (f : Nat → List UInt8) : LastOk t 0 f := fun d h => by unfold aheadL at h; rw [if_pos rfl] at h; omega
theorem LastOk.next {t : List Ln} {k e : Nat} {f : Nat → List UInt8} (h : LastOk t k f) (hd : dp t k = e) (hs : (e : Int) ≤ aheadL t k + 1) : LastOk t (k + 1) (fun d => if d = e then wd t k else f d) := by
  intro d hle
  rw [ahead_next, hd] at hle
  by_cases he : d = e
  · subst he
    exact ⟨k, by omega, hd, if_pos rfl, fun m h1 h2 => by omega⟩
  · obtain ⟨j, h1, h2, h3, h4⟩ := h d (by omega)
    refine ⟨j, by omega, h2, by show (if d = e then _ else _) = _; rw [if_neg he]; exact h3, fun m hm1 hm2 => ?_⟩
    rcases Nat.lt_or_ge m k with hlt | hge
    · exact h4 m hm1 hlt
    · obtain rfl : m = k := by omega
      omega
/-- The pairs of the first k lines. -/
def RiseTo (t : List Ln) (k : Nat) : Prop := ∀ i c, i < c → c < k → Rise t i c
theorem RiseTo.next {t : List Ln} {k : Nat} {f : Nat → List UInt8} {e : Nat} (h : RiseTo t k) (hl : LastOk t k f) (hd : dp t k = e) (hs : (e : Int) ≤ aheadL t k + 1)
    (hw : (e : Int) ≤ aheadL t k → Op.bytesLess (f e) (wd t k) = true) : RiseTo t (k + 1) := by
  intro i c hic hc
  rcases Nat.lt_or_ge c k with hlt | hge
  · exact h i c hic hlt
  · obtain rfl : c = k := by omega
    intro hdi hb
    have hne : c ≠ 0 := by omega
    by_cases ha : (e : Int) ≤ aheadL t c
    · obtain ⟨j, j1, j2, j3, j4⟩ := hl e ha
      have hw := hw ha
      rw [j3] at hw
      rcases Nat.lt_trichotomy i j with hij | hij | hij
      · exact less_trans _ _ _ (h i j hij j1 (by omega) (fun m h1 h2 => hb m h1 (by omega))) hw
      · subst hij; exact hw
      · have := j4 i hij hic; omega
    · have hae : aheadL t c = dp t (c - 1) := by unfold aheadL; rw [if_neg hne]
      rcases Nat.lt_or_ge i (c - 1) with h1 | h1
      · have := hb (c - 1) h1 (by omega); omega
      · obtain rfl : i = c - 1 := by omega
        omega
theorem RightT.last {t : List Ln} (h : RightT t) {k e : Nat} (hk : k < t.length) {f : Nat → List UInt8} (hl : LastOk t k f) (hd : dp t k = e) (ha : (e : Int) ≤ aheadL t k) : Op.bytesLess (f e) (wd t k) = true := by
  obtain ⟨j, j1, j2, j3, j4⟩ := hl e ha
  rw [j3]
  exact h.rise j k j1 hk (by omega) (fun m h1 h2 => by have := j4 m h1 h2; omega)
theorem leq_less (a b : List UInt8) : (Op.bytesLess a b || a == b) = !(Op.bytesLess b a) := by
  rcases less_tri a b with h | h | h
  · rw [h, less_asymm h]; rfl
  · subst h; rw [less_irr]; simp
  · rw [h, less_asymm h]
    have : (a == b) = false := beq_eq_false_iff_ne.2 fun e => by subst e; rw [less_irr] at h; cases h
    rw [this]; rfl
/-- The second half of the document's way: pair by pair. -/
def PairTo (t : List Ln) (i k : Nat) : Prop := (∀ m, i < m → m < k → dp t i ≤ dp t m) ∧ ∀ m, i < m → m < k → dp t m = dp t i → Op.bytesLess (wd t i) (wd t m) = true
theorem PairTo.start (t : List Ln) (i : Nat) : PairTo t i (i + 1) := ⟨fun m h1 h2 => by omega, fun m h1 h2 => by omega⟩
theorem PairTo.next {t : List Ln} {i k : Nat} (h : PairTo t i k) (h1 : dp t i ≤ dp t k) (h2 : dp t k = dp t i → Op.bytesLess (wd t i) (wd t k) = true) : PairTo t i (k + 1) := by
  refine ⟨fun m a b => ?_, fun m a b => ?_⟩
  · rcases Nat.lt_or_ge m k with hlt | hge
    · exact h.1 m a hlt
    · obtain rfl : m = k := by omega
      exact h1
  · rcases Nat.lt_or_ge m k with hlt | hge
    · exact h.2 m a hlt
    · obtain rfl : m = k := by omega
      exact h2
theorem PairTo.done {t : List Ln} {i k : Nat} (h : PairTo t i k) (hik : i < k) (hs : k < t.length → dp t k < dp t i) : ∀ c, i < c → c < t.length → Rise t i c := by
  intro c h1 h2 hd hb
  rcases Nat.lt_trichotomy c k with hlt | heq | hgt
  · exact h.2 c h1 hlt hd
  · subst heq; have := hs h2; omega
  · have := hb k hik hgt; have := hs (by omega); omega
theorem PairTo.bad {t : List Ln} {i k : Nat} (h : PairTo t i k) (hik : i < k) (hk : k < t.length) (hd : dp t k = dp t i) (hn : Op.bytesLess (wd t i) (wd t k) = false) : ¬ RightT t := by
  intro hr
  have := hr.rise i k hik hk hd h.1
  rw [hn] at this; cases this
end Go.Proofs.Ytokhflpeeibeeaa.T
