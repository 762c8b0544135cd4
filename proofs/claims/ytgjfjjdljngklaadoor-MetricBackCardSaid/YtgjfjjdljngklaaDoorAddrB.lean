/-
  Plain laws for layer 10's code: a text cut at a byte's first place; bits of numbers; a hardware address read byte by byte. No conditions.
-/
import Derived.Test.YtgjfjjdljngklaaDoorAddrP
import Derived.Lib.IndexLaws
import Derived.Laws.Bits64b
import Derived.Laws.BitsLemmas
namespace Go.Proofs.YtgjfjjdljngklaaDoor
namespace N
open T (decL)

-- CUT AT A BYTE
theorem index_cases (l : List UInt8) (c : UInt8) : (Lib.indexByte l c = -1 ∧ c ∉ l) ∨ (∃ i : Nat, Lib.indexByte l c = i ∧ i < l.length ∧ l = l.take i ++ c :: l.drop (i + 1) ∧ c ∉ l.take i) := by
  by_cases h : Lib.indexByte l c = -1
  · left
    refine ⟨h, fun hm => ?_⟩
    obtain ⟨k, hk, e⟩ := List.getElem_of_mem hm
    exact Lib.indexByte_none h k (by rw [List.getElem?_eq_getElem hk, e])
  · right
    have hge := Lib.indexByte_ge l c
    obtain ⟨i, hi⟩ := Int.eq_ofNat_of_zero_le (show 0 ≤ Lib.indexByte l c by omega)
    obtain ⟨h1, h2⟩ := Lib.indexByte_some hi
    obtain ⟨hlt, e⟩ := List.getElem?_eq_some_iff.1 h1
    refine ⟨i, hi, hlt, ?_, ?_⟩
    · conv => lhs; rw [← List.take_append_drop i l]
      rw [List.drop_eq_getElem_cons hlt, e]
    · intro hm
      obtain ⟨k, hk, e2⟩ := List.getElem_of_mem hm
      rw [List.length_take] at hk
      refine h2 k (by omega) ?_
      rw [List.getElem_take] at e2
      rw [List.getElem?_eq_getElem (by omega), e2]
theorem split_miss {l : List UInt8} {c : UInt8} (h : c ∉ l) : splitL c l = [l] := split_one h
theorem split_hit {l : List UInt8} {c : UInt8} {i : Nat} (e : l = l.take i ++ c :: l.drop (i + 1)) (h : c ∉ l.take i) : splitL c l = l.take i :: splitL c (l.drop (i + 1)) := by
  conv => lhs; rw [e]
  exact split_at h _
-- BITS
theorem bits_and_i64 (a b : Nat) (ha : a < 9223372036854775808) (hb : b < 9223372036854775808) : bits .and .i64 (a : Int) (b : Int) = ((a &&& b : Nat) : Int) := by
  have hx : a &&& b < 2 ^ 63 := Nat.and_lt_two_pow _ (by omega)
  have h1 : (BitVec.ofInt 64 (a : Int)).toNat = a := by
    rw [BitVec.ofInt_natCast, BitVec.toNat_ofNat]; exact Nat.mod_eq_of_lt (by omega)
  have h2 : (BitVec.ofInt 64 (b : Int)).toNat = b := by
    rw [BitVec.ofInt_natCast, BitVec.toNat_ofNat]; exact Nat.mod_eq_of_lt (by omega)
  show IntKind.i64.wrap ((BitVec.ofInt 64 (a : Int) &&& BitVec.ofInt 64 (b : Int)).toNat : Int) = _
  rw [BitVec.toNat_and, h1, h2, IntKind.wrap_i64]
  omega
theorem bits_or_i64 (a b : Nat) (ha : a < 9223372036854775808) (hb : b < 9223372036854775808) : bits .or .i64 (a : Int) (b : Int) = ((a ||| b : Nat) : Int) := by
  have hx : a ||| b < 2 ^ 63 := Nat.or_lt_two_pow (by omega) (by omega)
  have h1 : (BitVec.ofInt 64 (a : Int)).toNat = a := by
    rw [BitVec.ofInt_natCast, BitVec.toNat_ofNat]; exact Nat.mod_eq_of_lt (by omega)
  have h2 : (BitVec.ofInt 64 (b : Int)).toNat = b := by
    rw [BitVec.ofInt_natCast, BitVec.toNat_ofNat]; exact Nat.mod_eq_of_lt (by omega)
  show IntKind.i64.wrap ((BitVec.ofInt 64 (a : Int) ||| BitVec.ofInt 64 (b : Int)).toNat : Int) = _
  rw [BitVec.toNat_or, h1, h2, IntKind.wrap_i64]
  omega
theorem and_low (a k p : Nat) (hp : 2 ^ k = p) (ha : a < 9223372036854775808) (hk : p ≤ 9223372036854775808) : bits .and .i64 (a : Int) (((p - 1 : Nat) : Int)) = ((a % p : Nat) : Int) := by
  have h0 : 0 < p := by rw [← hp]; exact pow_pos2 k
  rw [bits_and_i64 a (p - 1) ha (by omega), ← hp, Nat.and_two_pow_sub_one_eq_mod]
theorem or_low (a b k p : Nat) (hp : 2 ^ k = p) (hb : b < p) (ha : p * a + b < 9223372036854775808) : bits .or .i64 ((p * a : Nat) : Int) (b : Int) = ((p * a + b : Nat) : Int) := by
  rw [bits_or_i64 (p * a) b (by omega) (by omega), ← hp, Nat.two_pow_add_eq_or_of_lt (by rw [hp]; exact hb)]
-- A HARDWARE ADDRESS, BYTE BY BYTE
/-- One byte more of a hardware address's text. -/
def macStep (i n : Nat) (c : UInt8) : Option Nat := if i % 3 = 2 then (if c = 58 then some n else none) else if hexV c < 0 then none else some (16 * n + (hexV c).toNat)
def macRun (i n : Nat) : List UInt8 → Option Nat
  | [] => some n
  | c :: r => match macStep i n c with
    | none => none
    | some m => macRun (i + 1) m r
theorem mac_colon {i n : Nat} {c : UInt8} (h : i % 3 = 2) : macStep i n c = if c = 58 then some n else none := by unfold macStep; rw [if_pos h]
theorem mac_digit {i n : Nat} {c : UInt8} (h : i % 3 ≠ 2) : macStep i n c = if hexV c < 0 then none else some (16 * n + (hexV c).toNat) := by unfold macStep; rw [if_neg h]
theorem run_colon {i n m : Nat} {c : UInt8} {r : List UInt8} (h : i % 3 = 2) (e : macRun i n (c :: r) = some m) : c = 58 ∧ macRun (i + 1) n r = some m := by
  unfold macRun at e
  rw [mac_colon h] at e
  by_cases hc : c = 58
  · rw [if_pos hc] at e; exact ⟨hc, e⟩
  · rw [if_neg hc] at e; cases e
theorem run_digit {i n m : Nat} {c : UInt8} {r : List UInt8} (h : i % 3 ≠ 2) (e : macRun i n (c :: r) = some m) : ∃ d, d < 16 ∧ hexC d = c ∧ macRun (i + 1) (16 * n + d) r = some m := by
  unfold macRun at e
  rw [mac_digit h] at e
  rcases hex_cases c with hc | ⟨d, hc, hd, hx⟩
  · rw [if_pos (by omega)] at e; cases e
  · rw [if_neg (by omega), hc, Int.toNat_natCast] at e
    exact ⟨d, hd, hx, e⟩
theorem run_colon_to {i n : Nat} {r : List UInt8} (h : i % 3 = 2) : macRun i n (58 :: r) = macRun (i + 1) n r := by
  show (match macStep i n 58 with | none => none | some m => macRun (i + 1) m r) = _
  rw [mac_colon h, if_pos rfl]
theorem run_digit_to {i n d : Nat} {r : List UInt8} (h : i % 3 ≠ 2) (hd : d < 16) : macRun i n (hexC d :: r) = macRun (i + 1) (16 * n + d) r := by
  show (match macStep i n (hexC d) with | none => none | some m => macRun (i + 1) m r) = _
  rw [mac_digit h, hexV_C d hd, if_neg (by omega), Int.toNat_natCast]
theorem run_pair {i n k : Nat} {r : List UInt8} (h : i % 3 = 0) (hk : k < 256) : macRun i n (pairT k ++ r) = macRun (i + 2) (256 * n + k) r := by
  show macRun i n (hexC (k / 16) :: hexC (k % 16) :: r) = _
  rw [run_digit_to (by omega) (by omega), run_digit_to (by omega) (by omega), show 16 * (16 * n + k / 16) + k % 16 = 256 * n + k by omega]
theorem run_text (n : Nat) (h : n < 281474976710656) : macRun 0 0 (macT n) = some n := by
  unfold macT
  rw [run_pair rfl (by omega), run_colon_to rfl, run_pair rfl (by omega), run_colon_to rfl, run_pair rfl (by omega), run_colon_to rfl, run_pair rfl (by omega), run_colon_to rfl, run_pair rfl (by omega), run_colon_to rfl]
  rw [← List.append_nil (pairT (n % 256)), run_pair rfl (by omega)]
  show some _ = some n
  congr 1
  omega
theorem run_un {i n m : Nat} {r : List UInt8} (h : i % 3 = 0) (hl : 2 ≤ r.length) (e : macRun i n r = some m) : ∃ k s, k < 256 ∧ r = pairT k ++ s ∧ macRun (i + 2) (256 * n + k) s = some m := by
  match r, hl with
  | a :: b :: s, _ =>
    obtain ⟨d, hd, hx, e1⟩ := run_digit (by omega) e
    obtain ⟨d2, hd2, hx2, e2⟩ := run_digit (by omega) e1
    refine ⟨16 * d + d2, s, by omega, ?_, by rw [← e2]; congr 1; omega⟩
    show _ = hexC ((16 * d + d2) / 16) :: hexC ((16 * d + d2) % 16) :: s
    rw [show (16 * d + d2) / 16 = d by omega, show (16 * d + d2) % 16 = d2 by omega, hx, hx2]
theorem run_un2 {i n m : Nat} {r : List UInt8} (h : i % 3 = 0) (hl : 3 ≤ r.length) (e : macRun i n r = some m) : ∃ k s, k < 256 ∧ r = pairT k ++ 58 :: s ∧ macRun (i + 3) (256 * n + k) s = some m := by
  obtain ⟨k, s, hk, rfl, e1⟩ := run_un h (by omega) e
  match s, hl with
  | [], hl => exact absurd hl (by rw [List.append_nil]; show ¬ 3 ≤ 2; omega)
  | c :: t, _ =>
    obtain ⟨rfl, e2⟩ := run_colon (by omega) e1
    exact ⟨k, t, hk, rfl, e2⟩
theorem pair_len (k : Nat) : (pairT k).length = 2 := rfl
theorem run_mac {l : List UInt8} {m : Nat} (hl : l.length = 17) (e : macRun 0 0 l = some m) : macL l = m := by
  obtain ⟨a, r1, ha, rfl, e1⟩ := run_un2 rfl (by omega) e
  rw [List.length_append, List.length_cons, pair_len] at hl
  obtain ⟨b, r2, hb, rfl, e2⟩ := run_un2 rfl (by omega) e1
  rw [List.length_append, List.length_cons, pair_len] at hl
  obtain ⟨c, r3, hc, rfl, e3⟩ := run_un2 rfl (by omega) e2
  rw [List.length_append, List.length_cons, pair_len] at hl
  obtain ⟨d, r4, hd, rfl, e4⟩ := run_un2 rfl (by omega) e3
  rw [List.length_append, List.length_cons, pair_len] at hl
  obtain ⟨f, r5, hf, rfl, e5⟩ := run_un2 rfl (by omega) e4
  rw [List.length_append, List.length_cons, pair_len] at hl
  obtain ⟨g, r6, hg, rfl, e6⟩ := run_un rfl (by omega) e5
  rw [List.length_append, pair_len] at hl
  obtain rfl : r6 = [] := List.eq_nil_of_length_eq_zero (by omega)
  have ez : 256 * (256 * (256 * (256 * (256 * (256 * 0 + a) + b) + c) + d) + f) + g = m := Option.some.inj e6
  rw [List.append_nil]
  unfold macL
  rw [split_at (pair_no _ ha), split_at (pair_no _ hb), split_at (pair_no _ hc), split_at (pair_no _ hd), split_at (pair_no _ hf), split_one (pair_no _ hg)]
  simp only []
  rw [pair_text _ ha, pair_text _ hb, pair_text _ hc, pair_text _ hd, pair_text _ hf, pair_text _ hg, if_neg (by omega)]
  omega
theorem mac_len17 (n : Nat) : (macT n).length = 17 := rfl
theorem mac_short {l : List UInt8} (hl : l.length ≠ 17) : macL l = -1 := by
  rcases mac_cases l with h | ⟨n, _, _, e⟩
  · exact h
  · exact absurd (by rw [← e]; exact mac_len17 n) hl
theorem mac_none {l : List UInt8} (h : macRun 0 0 l = none) : macL l = -1 := by
  rcases mac_cases l with h2 | ⟨n, _, hn, e⟩
  · exact h2
  · rw [← e, run_text n hn] at h; cases h
theorem run_app (a b : List UInt8) : ∀ i n, macRun i n (a ++ b) = match macRun i n a with | none => none | some m => macRun (i + a.length) m b := by
  induction a with
  | nil => intro i n; rfl
  | cons c r ih =>
    intro i n
    show (match macStep i n c with | none => none | some m => macRun (i + 1) m (r ++ b)) = match (match macStep i n c with | none => none | some m => macRun (i + 1) m r) with | none => none | some m => macRun (i + (r.length + 1)) m b
    cases macStep i n c with
    | none => rfl
    | some m =>
      show macRun (i + 1) m (r ++ b) = match macRun (i + 1) m r with | none => none | some m => macRun (i + (r.length + 1)) m b
      rw [ih, show i + 1 + r.length = i + (r.length + 1) by omega]
theorem run_none_at {l : List UInt8} {i m : Nat} (hi : i < l.length) (h : macRun 0 0 (l.take i) = some m) (hs : macStep i m l[i] = none) : macL l = -1 := by
  refine mac_none ?_
  rw [← List.take_append_drop i l, run_app, h]
  show macRun (0 + (l.take i).length) m (l.drop i) = none
  rw [List.length_take, Nat.min_eq_left (by omega), Nat.zero_add, List.drop_eq_getElem_cons hi]
  unfold macRun
  rw [hs]
theorem run_snoc {l : List UInt8} {i m k : Nat} (hi : i < l.length) (h : macRun 0 0 (l.take i) = some m) (hs : macStep i m l[i] = some k) : macRun 0 0 (l.take (i + 1)) = some k := by
  rw [List.take_succ_eq_append_getElem hi, run_app, h]
  show macRun (0 + (l.take i).length) m [l[i]] = some k
  rw [List.length_take, Nat.min_eq_left (by omega), Nat.zero_add]
  unfold macRun
  rw [hs]
  rfl
/-- Numbers on the way are small. -/
theorem run_lt : ∀ (l : List UInt8) (i n m : Nat), macRun i n l = some m → m < (n + 1) * 16 ^ l.length
  | [], i, n, m, h => by
    obtain rfl : n = m := Option.some.inj h
    show n < (n + 1) * 16 ^ 0
    omega
  | c :: r, i, n, m, h => by
    have hp : 0 < 16 ^ r.length := Nat.pow_pos (by omega)
    by_cases h3 : i % 3 = 2
    · obtain ⟨_, e⟩ := run_colon h3 h
      have h1 := run_lt r (i + 1) n m e
      rw [List.length_cons, Nat.pow_succ]
      have h2 : (n + 1) * 16 ^ r.length ≤ (n + 1) * (16 ^ r.length * 16) := Nat.mul_le_mul_left _ (by omega)
      omega
    · obtain ⟨d, hd, _, e⟩ := run_digit h3 h
      have h1 := run_lt r (i + 1) (16 * n + d) m e
      rw [List.length_cons, Nat.pow_succ, Nat.mul_comm (16 ^ r.length) 16, ← Nat.mul_assoc]
      have h2 : (16 * n + d + 1) * 16 ^ r.length ≤ (n + 1) * 16 * 16 ^ r.length := Nat.mul_le_mul_right _ (by omega)
      omega
-- THE DIGITS OF BASE 16, AS A TEXT
def hexDigs : List UInt8 := [48, 49, 50, 51, 52, 53, 54, 55, 56, 57, 97, 98, 99, 100, 101, 102]
theorem hexDigs_at : ∀ d, d < 16 → hexDigs[d]? = some (hexC d) := by decide +kernel
theorem hex_index (c : UInt8) : Lib.indexByte hexDigs c = hexV c := by
  rcases hex_cases c with h | ⟨d, h, hd, e⟩
  · rw [h]
    rcases index_cases hexDigs c with ⟨h2, _⟩ | ⟨i, h2, h3, _, _⟩
    · exact h2
    · obtain ⟨h4, _⟩ := Lib.indexByte_some h2
      rw [hexDigs_at i h3] at h4
      have e2 : hexC i = c := Option.some.inj h4
      rw [← e2, hexV_C i h3] at h
      omega
  · rw [h, ← e]
    have key : ∀ d, d < 16 → Lib.indexByte hexDigs (hexC d) = d := by decide +kernel
    exact key d hd
end N
end Go.Proofs.YtgjfjjdljngklaaDoor
