/-
  Plain laws on bytes for layer 1 (word), without the program: reading a quoted text byte by byte; what is written is read as it was; where it ends. No conditions.
-/
import Derived.Test.YtokhflpeeibeeaaWordPure2
namespace Go.Proofs.Ytokhflpeeibeeaa.W

theorem codedD_len {l : List UInt8} {b : UInt8} (h : codedD l = some b) : 2 ≤ l.length := by
  match l, h with
  | _ :: _ :: r, _ => simp
theorem oneD_pos {l : List UInt8} {b : UInt8} {n : Nat} (h : oneD l = some (b, n)) : 1 ≤ n ∧ n ≤ 4 ∧ n ≤ l.length := by
  match l, h with
  | c :: r, h =>
    simp only [oneD] at h
    split at h
    · cases h
    · split at h
      · injection h with h; injection h with _ h; subst h; simp
      · match r, h with
        | e :: r', h =>
          simp only at h
          split at h
          · injection h with h; injection h with _ h; subst h; simp
          · split at h
            · cases hc : codedD r' with
              | none => rw [hc] at h; cases h
              | some x =>
                have := codedD_len hc
                rw [hc] at h; injection h with h; injection h with _ h; subst h; simp; omega
            · cases h
theorem decF_fuel : ∀ (f g : Nat) (l : List UInt8), l.length ≤ f → l.length ≤ g → decF f l = decF g l
  | 0, g, l, hf, _ => by
    have : l = [] := List.eq_nil_of_length_eq_zero (by omega)
    subst this; cases g <;> rfl
  | f + 1, 0, l, _, hg => by
    have : l = [] := List.eq_nil_of_length_eq_zero (by omega)
    subst this; rfl
  | f + 1, g + 1, [], _, _ => rfl
  | f + 1, g + 1, c :: r, hf, hg => by
    simp only [decF]
    cases h : oneD (c :: r) with
    | none => rfl
    | some p =>
      obtain ⟨b, n⟩ := p
      have hn := oneD_pos h
      simp only []
      rw [decF_fuel f g]
      · simp only [List.length_drop, List.length_cons] at hf ⊢; omega
      · simp only [List.length_drop, List.length_cons] at hg ⊢; omega
theorem decL_nil : decL [] = some [] := rfl
theorem decL_none {l : List UInt8} (hl : l ≠ []) (h : oneD l = none) : decL l = none := by
  match l, hl, h with
  | c :: r, _, h => simp only [decL, List.length_cons, decF, h]
theorem decL_some {l : List UInt8} {b : UInt8} {n : Nat} (h : oneD l = some (b, n)) : decL l = (decL (l.drop n)).map (b :: ·) := by
  match l, h with
  | c :: r, h =>
    have hn := oneD_pos h
    simp only [decL, List.length_cons, decF, h]
    rw [decF_fuel r.length ((c :: r).drop n).length]
    · simp only [List.length_drop, List.length_cons]; omega
    · exact Nat.le_refl _
theorem decL_len : ∀ (f : Nat) (l x : List UInt8), l.length ≤ f → decL l = some x → x.length ≤ l.length
  | f, [], x, _, h => by rw [decL_nil] at h; injection h with h; subst h; simp
  | 0, c :: r, x, hf, _ => by simp at hf
  | f + 1, c :: r, x, hf, h => by
    cases ho : oneD (c :: r) with
    | none => rw [decL_none (by simp) ho] at h; cases h
    | some p =>
      obtain ⟨b, n⟩ := p
      have hn := oneD_pos ho
      rw [decL_some ho] at h
      cases hd : decL ((c :: r).drop n) with
      | none => rw [hd] at h; cases h
      | some y =>
        rw [hd] at h
        injection h with h
        subst h
        have := decL_len f _ y (by simp only [List.length_drop, List.length_cons] at hf ⊢; omega) hd
        simp only [List.length_drop, List.length_cons] at this ⊢
        omega
theorem map_acc (o : Option (List UInt8)) (acc : List UInt8) (b : UInt8) : (o.map (b :: ·)).map (acc ++ ·) = o.map ((acc ++ [b]) ++ ·) := by
  cases o <;> simp
theorem head_at (s : ByteArray) (h : 0 < s.size) : s.data.toList.head? = some s[0] := by
  have := drop_at s 0 h
  rw [List.drop_zero] at this
  rw [this]; rfl
theorem last_at (s : ByteArray) (h : 0 < s.size) : s.data.toList.getLast? = some (s[s.size - 1]'(by omega)) := by
  have h1 : s.data.toList.length - 1 < s.data.toList.length := by rw [← Lib.size_eq]; omega
  rw [List.getLast?_eq_getElem?, List.getElem?_eq_getElem h1]
  rfl
theorem byte_eq {c : UInt8} {n : Nat} (hn : n < 256) : some c = some (UInt8.ofNat n) ↔ c.toNat = n := by
  constructor
  · intro h; injection h with h; subst h; simp; omega
  · intro h; congr 1; apply UInt8.toNat_inj.1; simp; omega
theorem meant_plain (s : ByteArray) (h : allPlainL s.data.toList = true) : meantL s.data.toList = if reservedL s.data.toList = true then none else some s.data.toList := by
  unfold meantL; rw [if_pos h]
theorem meant_short (s : ByteArray) (h : allPlainL s.data.toList = false) (h2 : s.size < 2) : meantL s.data.toList = none := by
  unfold meantL; rw [if_neg (by simp [h]), if_pos (Or.inl (by rw [← Lib.size_eq]; exact h2))]
theorem meant_head (s : ByteArray) (h : allPlainL s.data.toList = false) (h2 : 0 < s.size) (h3 : s[0].toNat ≠ 34) : meantL s.data.toList = none := by
  unfold meantL
  rw [if_neg (by simp [h]), if_pos (Or.inr (Or.inl ?_))]
  rw [head_at s h2]
  exact fun e => h3 ((byte_eq (n := 34) (by omega)).1 e)
theorem meant_last (s : ByteArray) (h : allPlainL s.data.toList = false) (h2 : 0 < s.size) (h3 : (s[s.size - 1]'(by omega)).toNat ≠ 34) : meantL s.data.toList = none := by
  unfold meantL
  rw [if_neg (by simp [h]), if_pos (Or.inr (Or.inr ?_))]
  rw [last_at s h2]
  exact fun e => h3 ((byte_eq (n := 34) (by omega)).1 e)
theorem meant_quoted (s : ByteArray) (h : allPlainL s.data.toList = false) (h2 : 2 ≤ s.size) (h3 : (s[0]'(by omega)).toNat = 34) (h4 : (s[s.size - 1]'(by omega)).toNat = 34) : meantL s.data.toList = decL (s.extract 1 (s.size - 1)).data.toList := by
  unfold meantL
  rw [if_neg (by simp [h]), if_neg ?_]
  · rw [Lib.extract_data, ← Lib.size_eq]
    have : s.size - 1 - 1 = s.size - 2 := by omega
    rw [this]
  · rw [← Lib.size_eq, head_at s (by omega), last_at s (by omega)]
    have e1 := (byte_eq (c := s[0]'(by omega)) (n := 34) (by omega)).2 h3
    have e2 := (byte_eq (c := s[s.size - 1]'(by omega)) (n := 34) (by omega)).2 h4
    rintro (h | h | h)
    · omega
    · exact h e1
    · exact h e2
theorem quote_len (l : List UInt8) : l.length ≤ (quoteL l).length ∧ (quoteL l).length ≤ 4 * l.length + 2 := by
  have := encL_len l
  unfold quoteL; split
  · omega
  · simp only [quotedL, List.length_cons, List.length_append, List.length_nil]; omega
theorem unq_none {l : List UInt8} (h : meantL l = none) : unqL l = ([], 2) := by unfold unqL; rw [h]
theorem unq_long {l y : List UInt8} (h : meantL l = some y) (h2 : 40 < y.length) : unqL l = ([], 5) := by unfold unqL; rw [h]; simp only [if_pos h2]
theorem unq_ok {l y : List UInt8} (h : meantL l = some y) (h2 : ¬ 40 < y.length) : unqL l = (y, 0) := by unfold unqL; rw [h]; simp only [if_neg h2]
end Go.Proofs.Ytokhflpeeibeeaa.W
