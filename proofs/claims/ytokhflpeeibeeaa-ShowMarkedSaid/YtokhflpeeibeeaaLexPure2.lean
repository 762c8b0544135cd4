/-
  Plain laws on bytes for layer 2 (lex), as its loops want them: a text seen from a place on. No conditions.
-/
import Derived.Test.YtokhflpeeibeeaaLexPure
namespace Go.Proofs.Ytokhflpeeibeeaa.W

theorem ne_drop (s : ByteArray) (k : Nat) (h : k < s.size) : s.data.toList.drop k ≠ [] := by rw [drop_at s k h]; simp
theorem gap_blank (s : ByteArray) (k : Nat) (h : k < s.size) (hb : blankB s[k] = true) : gapO (s.data.toList.drop k) = some 1 := by
  rw [drop_at s k h]; simp only [gapO]; rw [if_pos hb]
theorem gap_line (s : ByteArray) (k : Nat) (h : k < s.size) (hb : blankB s[k] = false) (h35 : s[k].toNat = 35) : gapO (s.data.toList.drop k) = some (lineRun (s.data.toList.drop k)) := by
  have e := drop_at s k h
  rw [e]; simp only [gapO]; rw [if_neg (by simp [hb]), if_pos h35]
theorem gap_star (s : ByteArray) (k : Nat) (h : k < s.size) (hb : blankB s[k] = false) (h35 : s[k].toNat ≠ 35) (hp : Lib.hasPrefix (s.data.toList.drop k) [47, 42] = true) : gapO (s.data.toList.drop k) = (starEnd (s.data.toList.drop (k + 2))).map (· + 2) := by
  have e := drop_at s k h
  rw [e] at hp ⊢
  simp only [gapO]; rw [if_neg (by simp [hb]), if_neg h35, if_pos hp, List.drop_drop]
theorem gap_no (s : ByteArray) (k : Nat) (h : k < s.size) (hb : blankB s[k] = false) (h35 : s[k].toNat ≠ 35) (hp : Lib.hasPrefix (s.data.toList.drop k) [47, 42] = false) : gapO (s.data.toList.drop k) = some 0 := by
  have e := drop_at s k h
  rw [e] at hp ⊢
  simp only [gapO]; rw [if_neg (by simp [hb]), if_neg h35, if_neg (by simp [hp])]
theorem lineRun_at (s : ByteArray) (k : Nat) (h : k < s.size) (hp : s[k].toNat ≠ 10) : lineRun (s.data.toList.drop k) = lineRun (s.data.toList.drop (k + 1)) + 1 := by
  have : lineB s[k] = true := by simp [lineB, hp]
  rw [drop_at s k h]; simp [lineRun, this]
theorem lineRun_stop (s : ByteArray) (k : Nat) (h : k < s.size) (hp : s[k].toNat = 10) : lineRun (s.data.toList.drop k) = 0 := by
  have : lineB s[k] = false := by simp [lineB, hp]
  rw [drop_at s k h]; simp [lineRun, this]
theorem lineRun_over (s : ByteArray) (k : Nat) (h : s.size ≤ k) : lineRun (s.data.toList.drop k) = 0 := by
  rw [drop_over s k h]; simp [lineRun]
theorem star_hit {l : List UInt8} (h : Lib.hasPrefix l [42, 47] = true) : starEnd l = some 2 := by
  match l, h with
  | [], h => simp [Lib.hasPrefix, List.isPrefixOf] at h
  | [c], h => simp [Lib.hasPrefix, List.isPrefixOf] at h
  | c :: d :: r, h =>
    simp [Lib.hasPrefix, List.isPrefixOf] at h
    simp only [starEnd]
    rw [← h.1, ← h.2, if_pos ⟨rfl, rfl⟩]
theorem star_miss {l : List UInt8} (h : Lib.hasPrefix l [42, 47] = false) : starEnd l = (starEnd (l.drop 1)).map (· + 1) := by
  match l, h with
  | [], h => rfl
  | [c], h => rfl
  | c :: d :: r, h =>
    simp [Lib.hasPrefix, List.isPrefixOf] at h
    simp only [starEnd, List.drop_succ_cons, List.drop_zero]
    rw [if_neg ?_]
    rintro ⟨h1, h2⟩
    exact h (UInt8.toNat_inj.1 h1).symm (UInt8.toNat_inj.1 h2).symm
theorem star_over (s : ByteArray) (k : Nat) (h : s.size ≤ k) : starEnd (s.data.toList.drop k) = none := by rw [drop_over s k h]; rfl
theorem pre2_size (s : ByteArray) (k : Nat) (a b : UInt8) (h : Lib.hasPrefix (s.data.toList.drop k) [a, b] = true) : k + 2 ≤ s.size := by
  have hl : (s.data.toList.drop k).length = s.size - k := by rw [List.length_drop, ← Lib.size_eq]
  match hd : s.data.toList.drop k, h with
  | [], h => simp [Lib.hasPrefix, List.isPrefixOf] at h
  | [c], h => simp [Lib.hasPrefix, List.isPrefixOf] at h
  | c :: d :: r, _ => rw [hd] at hl; simp at hl; omega

/-- The state of a reader of s: at the place k, with the tokens acc. -/
def Reading (s : ByteArray) (k : Nat) (acc : List Tok) : Prop := k ≤ s.size ∧ acc.length ≤ k ∧ lexL 0 s.data.toList = (lexL k (s.data.toList.drop k)).pre acc
theorem Reading.start (s : ByteArray) : Reading s 0 [] := ⟨Nat.zero_le _, Nat.le_refl _, by rw [List.drop_zero, pre_nil]⟩
theorem Reading.skip {s : ByteArray} {k : Nat} {acc : List Tok} (hr : Reading s k acc) {n : Nat} (hk : k < s.size) (h : gapO (s.data.toList.drop k) = some (n + 1)) : Reading s (k + (n + 1)) acc := by
  have hn := gapO_le _ _ h
  rw [List.length_drop, ← Lib.size_eq] at hn
  refine ⟨by omega, by have := hr.2.1; omega, ?_⟩
  rw [hr.2.2, lexL_skip _ (ne_drop s k hk) (stepD_gap h), List.drop_drop]
theorem Reading.open_ {s : ByteArray} {k : Nat} {acc : List Tok} (hr : Reading s k acc) (hk : k < s.size) (h : gapO (s.data.toList.drop k) = none) : lexL 0 s.data.toList = .bad k 2 := by
  rw [hr.2.2, lexL_bad _ (ne_drop s k hk) (stepD_open h)]; rfl
theorem Reading.bad {s : ByteArray} {k : Nat} {acc : List Tok} (hr : Reading s k acc) (hk : k < s.size) (h : gapO (s.data.toList.drop k) = some 0) {e : Int} (ht : takeD (s.data.toList.drop k) = .bad e) : lexL 0 s.data.toList = .bad k e := by
  rw [hr.2.2, lexL_bad _ (ne_drop s k hk) ((stepD_take h).trans ht)]; rfl
theorem Reading.tok {s : ByteArray} {k : Nat} {acc : List Tok} (hr : Reading s k acc) (hk : k < s.size) (h : gapO (s.data.toList.drop k) = some 0) {kd : Int} {wd : List UInt8} {b : Int} {n : Nat} (ht : takeD (s.data.toList.drop k) = .tok kd wd b n) : Reading s (k + n) (acc ++ [⟨kd, k, wd, b⟩]) := by
  have hn := takeD_tok (ne_drop s k hk) ht
  rw [List.length_drop, ← Lib.size_eq] at hn
  refine ⟨by omega, by have := hr.2.1; simp only [List.length_append, List.length_singleton]; omega, ?_⟩
  rw [hr.2.2, lexL_tok _ (ne_drop s k hk) ((stepD_take h).trans ht), List.drop_drop, pre_pre]
theorem Reading.done {s : ByteArray} {k : Nat} {acc : List Tok} (hr : Reading s k acc) (hk : s.size ≤ k) : lexL 0 s.data.toList = .ok acc := by
  rw [hr.2.2, drop_over s k hk, lexL_nil]; simp [Res.pre]
/-- A line of a comment, from k on, of which j is the place up to which no byte 10 is. -/
def Lined (s : ByteArray) (k j : Nat) : Prop := k ≤ j ∧ j ≤ s.size ∧ lineRun (s.data.toList.drop k) = j - k + lineRun (s.data.toList.drop j)
theorem Lined.start (s : ByteArray) (k : Nat) (h : k ≤ s.size) : Lined s k k := ⟨Nat.le_refl _, h, by simp⟩
theorem Lined.next {s : ByteArray} {k j : Nat} (h : Lined s k j) (hj : j < s.size) (hp : s[j].toNat ≠ 10) : Lined s k (j + 1) :=
  ⟨by have := h.1; omega, hj, by have := h.1; rw [h.2.2, lineRun_at s j hj hp]; omega⟩
theorem Lined.stop {s : ByteArray} {k j : Nat} (h : Lined s k j) (hj : j < s.size) (hp : s[j].toNat = 10) : lineRun (s.data.toList.drop k) = j - k := by
  rw [h.2.2, lineRun_stop s j hj hp]; omega
theorem Lined.over {s : ByteArray} {k j : Nat} (h : Lined s k j) (hj : s.size ≤ j) : lineRun (s.data.toList.drop k) = j - k := by
  rw [h.2.2, lineRun_over s j hj]; omega
theorem Reading.line {s : ByteArray} {k j : Nat} {acc : List Tok} (hr : Reading s k acc) (hk : k < s.size) (hb : blankB s[k] = false) (h35 : s[k].toNat = 35) (hj : k ≤ j) (hl : lineRun (s.data.toList.drop k) = j - k) : Reading s j acc := by
  have hlt : k < j := by
    rcases Nat.lt_or_ge k j with h | h
    · exact h
    · have : lineRun (s.data.toList.drop k) = lineRun (s.data.toList.drop (k + 1)) + 1 := lineRun_at s k hk (by omega)
      omega
  have := hr.skip (n := j - k - 1) hk (by rw [gap_line s k hk hb h35, hl]; congr 1; omega)
  have e : k + (j - k - 1 + 1) = j := by omega
  rw [e] at this
  exact this
/-- Inside a comment from k on: up to j no star and slash is. -/
def Starred (s : ByteArray) (k j : Nat) : Prop := k ≤ j ∧ j ≤ s.size ∧ starEnd (s.data.toList.drop k) = (starEnd (s.data.toList.drop j)).map (· + (j - k))
theorem Starred.start (s : ByteArray) (k : Nat) (h : k ≤ s.size) : Starred s k k := ⟨Nat.le_refl _, h, by cases starEnd (s.data.toList.drop k) <;> simp⟩
theorem Starred.next {s : ByteArray} {k j : Nat} (h : Starred s k j) (hj : j < s.size) (hp : Lib.hasPrefix (s.data.toList.drop j) [42, 47] = false) : Starred s k (j + 1) :=
  ⟨by have := h.1; omega, hj, by
    have := h.1
    rw [h.2.2, star_miss hp, List.drop_drop]
    cases starEnd (s.data.toList.drop (j + 1)) <;> simp; omega⟩
theorem Starred.stop {s : ByteArray} {k j : Nat} (h : Starred s k j) (hp : Lib.hasPrefix (s.data.toList.drop j) [42, 47] = true) : starEnd (s.data.toList.drop k) = some (j - k + 2) := by
  rw [h.2.2, star_hit hp]; simp; omega
theorem Starred.over {s : ByteArray} {k j : Nat} (h : Starred s k j) (hj : s.size ≤ j) : starEnd (s.data.toList.drop k) = none := by
  rw [h.2.2, star_over s j hj]; rfl
theorem Reading.star {s : ByteArray} {k j : Nat} {acc : List Tok} (hr : Reading s k acc) (hk : k < s.size) (hb : blankB s[k] = false) (h35 : s[k].toNat ≠ 35) (hp : Lib.hasPrefix (s.data.toList.drop k) [47, 42] = true) (hj : k + 2 ≤ j) (hs : starEnd (s.data.toList.drop (k + 2)) = some (j - (k + 2) + 2)) : Reading s (j + 2) acc := by
  have := hr.skip (n := j - k + 1) hk (by rw [gap_star s k hk hb h35 hp, hs]; simp; omega)
  have e : k + (j - k + 1 + 1) = j + 2 := by omega
  rw [e] at this
  exact this
theorem Reading.unstar {s : ByteArray} {k : Nat} {acc : List Tok} (hr : Reading s k acc) (hk : k < s.size) (hb : blankB s[k] = false) (h35 : s[k].toNat ≠ 35) (hp : Lib.hasPrefix (s.data.toList.drop k) [47, 42] = true) (hs : starEnd (s.data.toList.drop (k + 2)) = none) : lexL 0 s.data.toList = .bad k 2 :=
  hr.open_ hk (by rw [gap_star s k hk hb h35 hp, hs]; rfl)
theorem takeD_bad {l : List UInt8} {e : Int} (h : takeD l = .bad e) : e ≠ 0 := by
  unfold takeD at h
  split at h
  · cases h
  · cases hs : scanD l with
    | none => rw [hs] at h; injection h with h; omega
    | some m =>
      rw [hs] at h
      simp only at h
      split at h
      · cases h
      · split at h
        · rename_i h0; injection h with h; rw [← h]; exact h0
        · cases h
end Go.Proofs.Ytokhflpeeibeeaa.W
