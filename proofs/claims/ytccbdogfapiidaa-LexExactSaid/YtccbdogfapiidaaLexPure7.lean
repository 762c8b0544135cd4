/-
  Plain laws on bytes for layer 2 (lex): all that is left off from a place on, in one. No conditions.
-/
import Derived.Test.YtccbdogfapiidaaLexPure2
namespace Go.Proofs.Ytccbdogfapiidaa.W

def gapF : Nat → List UInt8 → Option Nat
  | 0, _ => some 0
  | f + 1, l => match gapO l with
    | none => none
    | some 0 => some 0
    | some (n + 1) => (gapF f (l.drop (n + 1))).map (· + (n + 1))
/-- So many bytes are left off, from the front on, up to a token or the end; none: a comment does not end. -/
def gapD (l : List UInt8) : Option Nat := gapF l.length l
theorem gapF_fuel : ∀ (f g : Nat) (l : List UInt8), l.length ≤ f → l.length ≤ g → gapF f l = gapF g l
  | 0, g, l, hf, _ => by
    have : l = [] := List.eq_nil_of_length_eq_zero (by omega)
    subst this; cases g <;> rfl
  | f + 1, 0, l, _, hg => by
    have : l = [] := List.eq_nil_of_length_eq_zero (by omega)
    subst this; rfl
  | f + 1, g + 1, l, hf, hg => by
    simp only [gapF]
    cases h : gapO l with
    | none => rfl
    | some m =>
      match m, h with
      | 0, _ => rfl
      | m + 1, h =>
        have := gapO_le l _ h
        simp only []
        rw [gapF_fuel f g]
        · rw [List.length_drop]; omega
        · rw [List.length_drop]; omega
theorem gapD_open {l : List UInt8} (h : gapO l = none) : gapD l = none := by
  match l, h with
  | [], h => simp [gapO] at h
  | c :: r, h => simp only [gapD, List.length_cons, gapF, h]
theorem gapD_zero {l : List UInt8} (h : gapO l = some 0) : gapD l = some 0 := by
  match l, h with
  | [], h => rfl
  | c :: r, h => simp only [gapD, List.length_cons, gapF, h]
theorem gapD_skip {l : List UInt8} {n : Nat} (h : gapO l = some (n + 1)) : gapD l = (gapD (l.drop (n + 1))).map (· + (n + 1)) := by
  match l, h with
  | [], h => simp [gapO] at h
  | c :: r, h =>
    simp only [gapD, List.length_cons, gapF, h]
    rw [gapF_fuel r.length ((c :: r).drop (n + 1)).length]
    · rw [List.length_drop, List.length_cons]; omega
    · exact Nat.le_refl _
theorem gapD_some (l : List UInt8) : ∀ (p n : Nat), gapD l = some n → n ≤ l.length ∧ gapO (l.drop n) = some 0 ∧ lexL p l = lexL (p + n) (l.drop n) := by
  induction l using step_ind with
  | h0 => intro p n h; have : (some 0 : Option Nat) = some n := h; injection this with this; subst this; exact ⟨Nat.le_refl _, rfl, rfl⟩
  | hs l m he h ih =>
    intro p n hn
    obtain ⟨h1, h2, hg⟩ := stepD_skip h
    obtain ⟨m', rfl⟩ : ∃ m', m = m' + 1 := ⟨m - 1, by omega⟩
    rw [gapD_skip hg] at hn
    cases hd : gapD (l.drop (m' + 1)) with
    | none => rw [hd] at hn; cases hn
    | some q =>
      rw [hd] at hn
      simp only [Option.map_some, Option.some.injEq] at hn
      obtain ⟨i1, i2, i3⟩ := ih (p + (m' + 1)) q hd
      rw [List.length_drop] at i1
      rw [List.drop_drop] at i2 i3
      have e : m' + 1 + q = n := by omega
      rw [e] at i2 i3
      refine ⟨by omega, i2, ?_⟩
      rw [lexL_skip p he h, i3]
      congr 1; omega
  | ht l k w b m he h ih =>
    intro p n hn
    have hg := (stepD_tok he h).2.2.1
    rw [gapD_zero hg] at hn
    injection hn with hn
    subst hn
    exact ⟨Nat.zero_le _, hg, rfl⟩
  | hb l e he h =>
    intro p n hn
    unfold stepD at h
    cases hg : gapO l with
    | none => rw [gapD_open hg] at hn; cases hn
    | some m =>
      rw [hg] at h
      match m, hg, h with
      | 0, hg, _ =>
        rw [gapD_zero hg] at hn
        injection hn with hn
        subst hn
        exact ⟨Nat.zero_le _, hg, rfl⟩
      | m + 1, hg, h => cases h
/-- From k0 on all is left off up to k. -/
def GapAt (s : ByteArray) (k0 k : Nat) : Prop := k0 ≤ k ∧ k ≤ s.size ∧ gapD (s.data.toList.drop k0) = (gapD (s.data.toList.drop k)).map (· + (k - k0))
theorem GapAt.start (s : ByteArray) (k : Nat) (h : k ≤ s.size) : GapAt s k k := ⟨Nat.le_refl _, h, by cases gapD (s.data.toList.drop k) <;> simp⟩
theorem GapAt.skip {s : ByteArray} {k0 k n : Nat} (h : GapAt s k0 k) (hg : gapO (s.data.toList.drop k) = some (n + 1)) : GapAt s k0 (k + (n + 1)) := by
  have hn := gapO_le _ _ hg
  rw [List.length_drop, ← Lib.size_eq] at hn
  have h1 := h.1
  refine ⟨by omega, by omega, ?_⟩
  rw [h.2.2, gapD_skip hg, List.drop_drop]
  cases gapD (s.data.toList.drop (k + (n + 1))) <;> simp; omega
theorem GapAt.line {s : ByteArray} {k0 k j : Nat} (h : GapAt s k0 k) (hk : k < s.size) (hb : blankB s[k] = false) (h35 : s[k].toNat = 35) (hj : k ≤ j) (hl : lineRun (s.data.toList.drop k) = j - k) : GapAt s k0 j := by
  have hlt : k < j := by
    rcases Nat.lt_or_ge k j with h | h
    · exact h
    · have : lineRun (s.data.toList.drop k) = lineRun (s.data.toList.drop (k + 1)) + 1 := lineRun_at s k hk (by omega)
      omega
  have := h.skip (n := j - k - 1) (by rw [gap_line s k hk hb h35, hl]; congr 1; omega)
  have e : k + (j - k - 1 + 1) = j := by omega
  rw [e] at this
  exact this
theorem GapAt.star {s : ByteArray} {k0 k j : Nat} (h : GapAt s k0 k) (hk : k < s.size) (hb : blankB s[k] = false) (h35 : s[k].toNat ≠ 35) (hp : Lib.hasPrefix (s.data.toList.drop k) [47, 42] = true) (hj : k + 2 ≤ j) (hs : starEnd (s.data.toList.drop (k + 2)) = some (j - (k + 2) + 2)) : GapAt s k0 (j + 2) := by
  have := h.skip (n := j - k + 1) (by rw [gap_star s k hk hb h35 hp, hs]; simp; omega)
  have e : k + (j - k + 1 + 1) = j + 2 := by omega
  rw [e] at this
  exact this
theorem GapAt.unstar {s : ByteArray} {k0 k : Nat} (h : GapAt s k0 k) (hk : k < s.size) (hb : blankB s[k] = false) (h35 : s[k].toNat ≠ 35) (hp : Lib.hasPrefix (s.data.toList.drop k) [47, 42] = true) (hs : starEnd (s.data.toList.drop (k + 2)) = none) : gapD (s.data.toList.drop k0) = none := by
  rw [h.2.2, gapD_open (by rw [gap_star s k hk hb h35 hp, hs]; rfl)]; rfl
theorem GapAt.stop {s : ByteArray} {k0 k : Nat} (h : GapAt s k0 k) (hg : gapO (s.data.toList.drop k) = some 0) : gapD (s.data.toList.drop k0) = some (k - k0) := by
  rw [h.2.2, gapD_zero hg]; simp
theorem GapAt.over {s : ByteArray} {k0 k : Nat} (h : GapAt s k0 k) (hk : s.size ≤ k) : gapD (s.data.toList.drop k0) = some (k - k0) :=
  h.stop (by rw [drop_over s k hk]; rfl)
theorem pre2_at (s : ByteArray) (k : Nat) (a b : UInt8) (h : k + 1 < s.size) : Lib.hasPrefix (s.data.toList.drop k) [a, b] = (decide ((s[k]'(by omega)).toNat = a.toNat) && decide (s[k + 1].toNat = b.toNat)) := by
  rw [drop_at s k (by omega), drop_at s (k + 1) h]
  rw [Bool.eq_iff_iff]
  simp only [Lib.hasPrefix, List.isPrefixOf, Bool.and_true, Bool.and_eq_true, beq_iff_eq, decide_eq_true_eq, UInt8.toNat_inj]
  exact ⟨fun ⟨h1, h2⟩ => ⟨h1.symm, h2.symm⟩, fun ⟨h1, h2⟩ => ⟨h1.symm, h2.symm⟩⟩
theorem pre2_end (s : ByteArray) (k : Nat) (a b : UInt8) (h : s.size ≤ k + 1) : Lib.hasPrefix (s.data.toList.drop k) [a, b] = false := by
  cases hp : Lib.hasPrefix (s.data.toList.drop k) [a, b] with
  | false => rfl
  | true => have := pre2_size s k a b hp; omega
theorem Starred.ends {s : ByteArray} {k j : Nat} (h : Starred s k j) (hj : s.size ≤ j + 1) : starEnd (s.data.toList.drop k) = none := by
  by_cases hlt : j < s.size
  · exact (h.next hlt (pre2_end s j 42 47 hj)).over (by omega)
  · exact h.over (by omega)
theorem blank_is4 {c : UInt8} (h : blankB c = true) : c.toNat = 32 ∨ c.toNat = 9 ∨ c.toNat = 10 ∨ c.toNat = 13 := of_decide_eq_true h
theorem blank_not4 {c : UInt8} (h : blankB c = false) : ¬ (c.toNat = 32 ∨ c.toNat = 9 ∨ c.toNat = 10 ∨ c.toNat = 13) := of_decide_eq_false h
/-- Where a comment does not end there is a byte, that is left off, or begins it. -/
theorem gapD_none_lt {s : ByteArray} {k : Nat} (h : gapD (s.data.toList.drop k) = none) : k < s.size := by
  rcases Nat.lt_or_ge k s.size with h1 | h1
  · exact h1
  · rw [drop_over s k h1] at h; cases h
/-- A comment that does not end is ahead, and the tokens from k0 on are those from k on. -/
def OpenAt (s : ByteArray) (k0 k : Nat) : Prop := gapD (s.data.toList.drop k) = none ∧ lexL k0 (s.data.toList.drop k0) = lexL k (s.data.toList.drop k)
theorem OpenAt.lt {s : ByteArray} {k0 k : Nat} (h : OpenAt s k0 k) : k < s.size := gapD_none_lt h.1
theorem OpenAt.skip {s : ByteArray} {k0 k n : Nat} (h : OpenAt s k0 k) (hg : gapO (s.data.toList.drop k) = some (n + 1)) : OpenAt s k0 (k + (n + 1)) := by
  refine ⟨?_, ?_⟩
  · have := h.1
    rw [gapD_skip hg, List.drop_drop] at this
    cases hd : gapD (s.data.toList.drop (k + (n + 1))) with
    | none => rfl
    | some m => rw [hd] at this; cases this
  · rw [h.2, lexL_skip _ (ne_drop s k h.lt) (stepD_gap hg), List.drop_drop]
theorem OpenAt.prefix_ {s : ByteArray} {k0 k : Nat} (h : OpenAt s k0 k) (hk : k < s.size) (hb : blankB s[k] = false) (h35 : s[k].toNat ≠ 35) : Lib.hasPrefix (s.data.toList.drop k) [47, 42] = true := by
  cases hp : Lib.hasPrefix (s.data.toList.drop k) [47, 42] with
  | true => rfl
  | false => have := h.1; rw [gapD_zero (gap_no s k hk hb h35 hp)] at this; cases this
theorem OpenAt.line {s : ByteArray} {k0 k j : Nat} (h : OpenAt s k0 k) (hk : k < s.size) (hb : blankB s[k] = false) (h35 : s[k].toNat = 35) (hl : Lined s k j) : j < s.size ∧ (lineRun (s.data.toList.drop j) = 0 → k < j ∧ OpenAt s k0 j) := by
  have h1 := hl.1
  have hlr : lineRun (s.data.toList.drop k) = lineRun (s.data.toList.drop (k + 1)) + 1 := lineRun_at s k hk (by omega)
  have hsk := h.skip (n := lineRun (s.data.toList.drop (k + 1))) (by rw [gap_line s k hk hb h35, hlr])
  have hlt := hsk.lt
  have h2 := hl.2.2
  refine ⟨by omega, fun h0 => ?_⟩
  have e : k + (lineRun (s.data.toList.drop (k + 1)) + 1) = j := by omega
  rw [e] at hsk
  exact ⟨by omega, hsk⟩
theorem OpenAt.star {s : ByteArray} {k0 k j : Nat} (h : OpenAt s k0 k) (hk : k < s.size) (hb : blankB s[k] = false) (h35 : s[k].toNat ≠ 35) (hp : Lib.hasPrefix (s.data.toList.drop k) [47, 42] = true) (hj : k + 2 ≤ j) (hs : starEnd (s.data.toList.drop (k + 2)) = some (j - (k + 2) + 2)) : OpenAt s k0 (j + 2) := by
  have := h.skip (n := j - k + 1) (by rw [gap_star s k hk hb h35 hp, hs]; simp; omega)
  have e : k + (j - k + 1 + 1) = j + 2 := by omega
  rw [e] at this
  exact this
theorem OpenAt.bad {s : ByteArray} {k0 k : Nat} (h : OpenAt s k0 k) (hk : k < s.size) (hb : blankB s[k] = false) (h35 : s[k].toNat ≠ 35) (hp : Lib.hasPrefix (s.data.toList.drop k) [47, 42] = true) (hs : starEnd (s.data.toList.drop (k + 2)) = none) : lexL k0 (s.data.toList.drop k0) = .bad k 2 := by
  rw [h.2, lexL_bad _ (ne_drop s k hk) (stepD_open (by rw [gap_star s k hk hb h35 hp, hs]; rfl))]
end Go.Proofs.Ytccbdogfapiidaa.W
