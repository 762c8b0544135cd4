/-
  Plain laws for layer 11: the texts of thousandths (thoL: what a text means; thoT: the text), each read back. No conditions.
-/
import Derived.Test.YtgjfjjdljngklaaDoorAddrP
namespace Go.Proofs.YtgjfjjdljngklaaDoor
namespace F
open T (decL decL_small decL_big decL_len)
open N (digB valL val_snoc dig_of digB_of val_dec dec_dig dec_ne dec_head dec_one dec_val val_lt)
set_option linter.unusedVariables false

/-- Digits ahead of the point: 1 to 6, the first one not 0, but for 0 itself. -/
def intOk (a : List UInt8) : Bool := !a.isEmpty && decide (a.length ≤ 6) && !(decide (a.head? = some 48) && decide (1 < a.length))
/-- Nothing, or a point and 1 to 3 digits, the last one not 0. -/
def fracOk : List UInt8 → Bool
  | [] => true
  | c :: f => decide (c = 46) && !f.isEmpty && decide (f.getLast? ≠ some 48) && decide (f.length ≤ 3) && f.all digB
/-- The thousandths of which a text, without its sign, is the text. -/
def thoL (s : List UInt8) : Option Nat := if (intOk (s.takeWhile digB) && fracOk (s.dropWhile digB)) = true then some (valL (s.takeWhile digB ++ (s.dropWhile digB).tail) * 10 ^ (3 - (s.dropWhile digB).tail.length)) else none
def digC (n : Nat) : UInt8 := UInt8.ofNat (48 + n)
/-- The digits behind the point. -/
def fracT (k : Nat) : List UInt8 := if k % 100 = 0 then [digC (k / 100)] else if k % 10 = 0 then [digC (k / 100), digC (k / 10 % 10)] else [digC (k / 100), digC (k / 10 % 10), digC (k % 10)]
/-- The text of thousandths. -/
def thoT (n : Nat) : List UInt8 := decL (n / 1000) ++ if n % 1000 = 0 then [] else 46 :: fracT (n % 1000)
theorem digC_nat {n : Nat} (h : n < 10) : (digC n).toNat = 48 + n := dig_of n h
theorem digC_B {n : Nat} (h : n < 10) : digB (digC n) = true := digB_of n h
theorem digC_ne {n : Nat} (h : n < 10) (h0 : n ≠ 0) : digC n ≠ 48 := fun e => by
  have := digC_nat h
  rw [e] at this
  have e2 : (48 : UInt8).toNat = 48 := rfl
  omega
theorem digC_of {c : UInt8} (h : digB c = true) : ∃ d, d < 10 ∧ c = digC d ∧ c.toNat - 48 = d := by
  unfold digB at h
  simp only [Bool.and_eq_true, decide_eq_true_eq] at h
  refine ⟨c.toNat - 48, by omega, ?_, rfl⟩
  unfold digC
  rw [show 48 + (c.toNat - 48) = c.toNat by omega]
  exact (UInt8.ofNat_toNat).symm
theorem take_digs {a r : List UInt8} (ha : ∀ c ∈ a, digB c = true) (hr : r = [] ∨ ∃ c f, r = c :: f ∧ digB c = false) : (a ++ r).takeWhile digB = a ∧ (a ++ r).dropWhile digB = r := by
  rw [List.takeWhile_append_of_pos ha, List.dropWhile_append_of_pos ha]
  rcases hr with rfl | ⟨c, f, rfl, hc⟩
  · simp
  · rw [List.takeWhile_cons, List.dropWhile_cons, hc]; simp
theorem tho_is {a r : List UInt8} (ha : ∀ c ∈ a, digB c = true) (hr : r = [] ∨ ∃ c f, r = c :: f ∧ digB c = false) : thoL (a ++ r) = if (intOk a && fracOk r) = true then some (valL (a ++ r.tail) * 10 ^ (3 - r.tail.length)) else none := by
  obtain ⟨h1, h2⟩ := take_digs ha hr
  unfold thoL
  rw [h1, h2]
theorem frac_three (k : Nat) : (k % 100 = 0 ∧ fracT k = [digC (k / 100)]) ∨ (k % 100 ≠ 0 ∧ k % 10 = 0 ∧ fracT k = [digC (k / 100), digC (k / 10 % 10)]) ∨ (k % 10 ≠ 0 ∧ fracT k = [digC (k / 100), digC (k / 10 % 10), digC (k % 10)]) := by
  unfold fracT
  by_cases h1 : k % 100 = 0
  · exact .inl ⟨h1, if_pos h1⟩
  · rw [if_neg h1]
    by_cases h2 : k % 10 = 0
    · exact .inr (.inl ⟨h1, h2, if_pos h2⟩)
    · exact .inr (.inr ⟨h2, if_neg h2⟩)
theorem frac_dig {k : Nat} (hk : k < 1000) (h0 : k ≠ 0) : fracOk (46 :: fracT k) = true := by
  rcases frac_three k with ⟨h, e⟩ | ⟨h, h', e⟩ | ⟨h, e⟩
  · have h1 := digC_B (n := k / 100) (by omega)
    have h2 := digC_ne (n := k / 100) (by omega) (by omega)
    rw [e]; simp [fracOk, h1, h2]
  · have h1 := digC_B (n := k / 100) (by omega)
    have h3 := digC_B (n := k / 10 % 10) (by omega)
    have h2 := digC_ne (n := k / 10 % 10) (by omega) (by omega)
    rw [e]; simp [fracOk, h1, h2, h3]
  · have h1 := digC_B (n := k / 100) (by omega)
    have h3 := digC_B (n := k / 10 % 10) (by omega)
    have h4 := digC_B (n := k % 10) (by omega)
    have h2 := digC_ne (n := k % 10) (by omega) (by omega)
    rw [e]; simp [fracOk, h1, h2, h3, h4]
theorem frac_val (a : List UInt8) {k : Nat} (hk : k < 1000) : valL (a ++ fracT k) * 10 ^ (3 - (fracT k).length) = valL a * 1000 + k := by
  unfold fracT
  split
  · rw [val_snoc, digC_nat (by omega)]
    show (10 * valL a + (48 + k / 100 - 48)) * 10 ^ 2 = _
    omega
  · split
    · rw [show a ++ [digC (k / 100), digC (k / 10 % 10)] = (a ++ [digC (k / 100)]) ++ [digC (k / 10 % 10)] by simp, val_snoc, val_snoc, digC_nat (by omega), digC_nat (by omega)]
      show (10 * (10 * valL a + (48 + k / 100 - 48)) + (48 + k / 10 % 10 - 48)) * 10 ^ 1 = _
      omega
    · rw [show a ++ [digC (k / 100), digC (k / 10 % 10), digC (k % 10)] = ((a ++ [digC (k / 100)]) ++ [digC (k / 10 % 10)]) ++ [digC (k % 10)] by simp, val_snoc, val_snoc, val_snoc, digC_nat (by omega), digC_nat (by omega), digC_nat (by omega)]
      show (10 * (10 * (10 * valL a + (48 + k / 100 - 48)) + (48 + k / 10 % 10 - 48)) + (48 + k % 10 - 48)) * 10 ^ 0 = _
      omega
theorem int_dec {n : Nat} (h : n < 1000000) : intOk (decL n) = true := by
  have h1 : (decL n).isEmpty = false := by have := dec_ne n; cases hd : decL n with | nil => exact absurd hd this | cons => rfl
  have h2 := decL_len 5 n h
  unfold intOk
  rw [h1, decide_eq_true h2]
  by_cases h3 : (decL n).head? = some 48
  · have := dec_one n h3
    rw [decide_eq_false (show ¬ 1 < (decL n).length by omega)]; simp
  · rw [decide_eq_false h3]; rfl
/-- The text of thousandths is read as they are. -/
theorem tho_text {n : Nat} (h : n < 1000000000) : thoL (thoT n) = some n := by
  unfold thoT
  split
  · rename_i h0
    rw [tho_is (dec_dig _) (.inl rfl), int_dec (by omega)]
    show some (valL (decL (n / 1000) ++ []) * 10 ^ 3) = _
    rw [List.append_nil, val_dec]
    congr 1
    omega
  · rename_i h0
    rw [tho_is (dec_dig _) (.inr ⟨46, _, rfl, by decide⟩), int_dec (by omega), frac_dig (Nat.mod_lt _ (by omega)) h0]
    show some (valL (decL (n / 1000) ++ fracT (n % 1000)) * 10 ^ (3 - (fracT (n % 1000)).length)) = _
    rw [frac_val _ (Nat.mod_lt _ (by omega)), val_dec]
    congr 1
    omega
theorem digC_inj {a b : Nat} (ha : a < 10) (hb : b < 10) (h : digC a = digC b) : a = b := by
  have h1 := digC_nat ha
  have h2 := digC_nat hb
  rw [h] at h1; omega
theorem frac_cases {f : List UInt8} (h : fracOk (46 :: f) = true) : ∃ k, k < 1000 ∧ k ≠ 0 ∧ fracT k = f := by
  unfold fracOk at h
  simp only [Bool.and_eq_true, decide_eq_true_eq, Bool.not_eq_true', ne_eq] at h
  obtain ⟨⟨⟨⟨_, h1⟩, h2⟩, h3⟩, h4⟩ := h
  have hall : ∀ c ∈ f, digB c = true := List.all_eq_true.1 h4
  match f, h1, h2, h3, hall with
  | [], h1, _, _, _ => cases h1
  | [x], _, h2, _, hall =>
    obtain ⟨d, hd, rfl, _⟩ := digC_of (hall x (by simp))
    have h0 : d ≠ 0 := fun e => h2 (by rw [e]; rfl)
    refine ⟨d * 100, by omega, by omega, ?_⟩
    unfold fracT
    rw [if_pos (by omega), show d * 100 / 100 = d by omega]
  | [x, y], _, h2, _, hall =>
    obtain ⟨d, hd, rfl, _⟩ := digC_of (hall x (by simp))
    obtain ⟨e, he, rfl, _⟩ := digC_of (hall y (by simp))
    have h0 : e ≠ 0 := fun k => h2 (by rw [k]; rfl)
    refine ⟨d * 100 + e * 10, by omega, by omega, ?_⟩
    unfold fracT
    rw [if_neg (by omega), if_pos (by omega), show (d * 100 + e * 10) / 100 = d by omega, show (d * 100 + e * 10) / 10 % 10 = e by omega]
  | [x, y, z], _, h2, _, hall =>
    obtain ⟨d, hd, rfl, _⟩ := digC_of (hall x (by simp))
    obtain ⟨e, he, rfl, _⟩ := digC_of (hall y (by simp))
    obtain ⟨g, hg, rfl, _⟩ := digC_of (hall z (by simp))
    have h0 : g ≠ 0 := fun k => h2 (by rw [k]; rfl)
    refine ⟨d * 100 + e * 10 + g, by omega, by omega, ?_⟩
    unfold fracT
    rw [if_neg (by omega), if_neg (by omega), show (d * 100 + e * 10 + g) / 100 = d by omega, show (d * 100 + e * 10 + g) / 10 % 10 = e by omega, show (d * 100 + e * 10 + g) % 10 = g by omega]
  | x :: y :: z :: u :: r, _, _, h3, _ => simp at h3
/-- What is read of a text has that text. -/
theorem tho_cases (s : List UInt8) : thoL s = none ∨ ∃ n, n < 1000000000 ∧ thoL s = some n ∧ thoT n = s := by
  cases hc : intOk (s.takeWhile digB) && fracOk (s.dropWhile digB) with
  | false => left; unfold thoL; rw [hc]; rfl
  | true =>
    right
    obtain ⟨h1, h2⟩ := Bool.and_eq_true_iff.1 hc
    obtain ⟨a, ha⟩ : ∃ a, s.takeWhile digB = a := ⟨_, rfl⟩
    obtain ⟨r, hr⟩ : ∃ r, s.dropWhile digB = r := ⟨_, rfl⟩
    have hs : s = a ++ r := by rw [← ha, ← hr, List.takeWhile_append_dropWhile]
    rw [ha] at h1
    rw [hr] at h2
    have hd : a.all digB = true := by rw [← ha]; exact List.all_takeWhile
    unfold intOk at h1
    simp only [Bool.and_eq_true, decide_eq_true_eq, Bool.not_eq_true', Bool.and_eq_false_iff, decide_eq_false_iff_not] at h1
    obtain ⟨⟨h3, h4⟩, h5⟩ := h1
    have hne : a ≠ [] := fun e => by rw [e] at h3; cases h3
    have hlen : 0 < a.length := List.length_pos_iff.2 hne
    have hdec : decL (valL a) = a := dec_val a hd hne (by rcases h5 with h5 | h5 <;> first | exact .inr h5 | exact .inl (by omega))
    have hv := val_lt a hd 6 h4
    have hv6 : valL a < 1000000 := hv
    cases r with
    | nil =>
      have hT : thoT (valL a * 1000) = s := by
        unfold thoT
        rw [if_pos (by omega), show valL a * 1000 / 1000 = valL a by omega, hdec, hs]
      exact ⟨valL a * 1000, by omega, by rw [← hT]; exact tho_text (by omega), hT⟩
    | cons c f =>
      have hc46 : c = 46 := by
        unfold fracOk at h2
        simp only [Bool.and_eq_true, decide_eq_true_eq] at h2
        exact h2.1.1.1.1
      subst hc46
      obtain ⟨k, hk, hk0, hf⟩ := frac_cases h2
      have hT : thoT (valL a * 1000 + k) = s := by
        unfold thoT
        rw [show (valL a * 1000 + k) % 1000 = k by omega, if_neg hk0, show (valL a * 1000 + k) / 1000 = valL a by omega, hdec, hf, hs]
      exact ⟨valL a * 1000 + k, by omega, by rw [← hT]; exact tho_text (by omega), hT⟩
theorem thoT_inj {n m : Nat} (hn : n < 1000000000) (hm : m < 1000000000) (h : thoT n = thoT m) : n = m := by
  have h1 := tho_text hn
  rw [h, tho_text hm] at h1
  injection h1 with h1; exact h1.symm
theorem thoT_head (n : Nat) : (thoT n).head? ≠ some 45 ∧ thoT n ≠ [110, 97, 110] ∧ thoT n ≠ [105, 110, 102] := by
  have hd : ∃ c r, thoT n = c :: r ∧ digB c = true := by
    unfold thoT
    cases hc : decL (n / 1000) with
    | nil => exact absurd hc (dec_ne _)
    | cons c r => exact ⟨c, _, rfl, dec_dig (n / 1000) c (by rw [hc]; simp)⟩
  obtain ⟨c, r, e, hc⟩ := hd
  rw [e]
  refine ⟨fun h => ?_, fun h => ?_, fun h => ?_⟩
  · injection h with h; rw [h] at hc; exact absurd hc (by decide)
  · injection h with h; rw [h] at hc; exact absurd hc (by decide)
  · injection h with h; rw [h] at hc; exact absurd hc (by decide)
theorem thoT_len (n : Nat) (h : n < 1000000000) : (thoT n).length ≤ 10 := by
  have h1 := decL_len 5 (n / 1000) (by omega)
  unfold thoT
  rw [List.length_append]
  split
  · simp; omega
  · rw [List.length_cons]
    have : (fracT (n % 1000)).length ≤ 3 := by
      rcases frac_three (n % 1000) with ⟨_, e⟩ | ⟨_, _, e⟩ | ⟨_, e⟩ <;> rw [e] <;> simp
    omega
end F
end Go.Proofs.YtgjfjjdljngklaaDoor
