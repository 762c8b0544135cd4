/-
  Plain laws for layer 10's code: a text cut at a byte's first place; bits of numbers; a hardware address read byte by byte. No conditions.
  Layer 10's code: isBelow, isPrefix, number, Num, In. No conditions but the texts' length.
  What the library proves once of internal/stringslite.Index at one byte, strings.CutPrefix, and strings.TrimRight of one byte, at this program's numbers; strings.Cut at one byte, walked. No conditions.
  What the library proves once of strings.IndexByte and strconv.AppendInt, at this program's numbers. Condition: for AppendInt that the library's table uint64pow10 holds its numbers.
  Layer 10's code: IP, Prefix, MAC, In. Condition: texts of at most 100 bytes.
  Layer 10's code: MAC, IPText, PrefixText, MACText; all that addr does (addr_ok). Condition: texts of at most 100 bytes.
  Layer 11: what metric does, as one premise (MetricOk); a []float64 that comes in; and that 'awake' is true under it. No conditions.
  Plain laws for layer 11's code: rounding to a whole number by bits; a number times 1000, rounded, and divided again; a text without its sign, by what stands ahead of the first point and behind it; the digits behind the point; the least one so far. No conditions.
  Layer 11's code: what math.IsNaN, Signbit, Abs, Copysign, IsInf and Round do with a word. Condition: for Round a number from 0 on, below 2^32.
  Layer 11's code: Read. Condition: at most 100 bytes.
  Layer 11's code: thousandths, Read. Condition: at most 100 bytes.
-/
import Derived.Test.YtikjdjfpoohieaaDoorBase8
import Derived.Lib.IndexLaws
import Derived.Laws.Bits64b
import Derived.Laws.BitsLemmas
import Derived.IntWalk
import Derived.Shelf.Strings.Search2
import Derived.Shelf.Strings.Trim
import Derived.Shelf.Small.Wraps
import Derived.Deep.QuietTactic
import Derived.BigQuiet
import Derived.Shelf.Strconv.AppendIntPublic10
import Derived.Shelf.Small.Strs
import Derived.Lib.TrimByte
import Derived.Laws.BitsAllLaws
import Derived.Lib.ConvBytes
import Derived.Laws.Concat

namespace Go.Proofs.YtikjdjfpoohieaaDoor
namespace N
open T (decL)

-- CUT AT A BYTE
theorem index_cases (l : List UInt8) (c : UInt8) : (Lib.indexByte l c = -1 ∧ c ∉ l) ∨ (∃ i : Nat, Lib.indexByte l c = i ∧ i < l.length ∧ l = l.take i ++ c :: l.drop (i + 1) ∧ c ∉ l.take i) := by
  by_cases h : Lib.indexByte l c = -1
  · left
    refine ⟨h, fun hm => ?_⟩
    obtain ⟨k, hk, e⟩ := List.getElem_of_mem hm
    exact Lib.indexByte_none h k (by rw [List.getElem?_eq_getElem hk, e])
  · right
    have hge := Lib.indexByte_ge l c
    obtain ⟨i, hi⟩ := Int.eq_ofNat_of_zero_le (show 0 ≤ Lib.indexByte l c by omega)
    obtain ⟨h1, h2⟩ := Lib.indexByte_some hi
    obtain ⟨hlt, e⟩ := List.getElem?_eq_some_iff.1 h1
    refine ⟨i, hi, hlt, ?_, ?_⟩
    · conv => lhs; rw [← List.take_append_drop i l]
      rw [List.drop_eq_getElem_cons hlt, e]
    · intro hm
      obtain ⟨k, hk, e2⟩ := List.getElem_of_mem hm
      rw [List.length_take] at hk
      refine h2 k (by omega) ?_
      rw [List.getElem_take] at e2
      rw [List.getElem?_eq_getElem (by omega), e2]
theorem split_hit {l : List UInt8} {c : UInt8} {i : Nat} (e : l = l.take i ++ c :: l.drop (i + 1)) (h : c ∉ l.take i) : splitL c l = l.take i :: splitL c (l.drop (i + 1)) := by
  conv => lhs; rw [e]
  exact split_at h _
-- BITS
theorem bits_and_i64 (a b : Nat) (ha : a < 9223372036854775808) (hb : b < 9223372036854775808) : bits .and .i64 (a : Int) (b : Int) = ((a &&& b : Nat) : Int) := by
  have hx : a &&& b < 2 ^ 63 := Nat.and_lt_two_pow _ (by omega)
  have h1 : (BitVec.ofInt 64 (a : Int)).toNat = a := by
    rw [BitVec.ofInt_natCast, BitVec.toNat_ofNat]; exact Nat.mod_eq_of_lt (by omega)
  have h2 : (BitVec.ofInt 64 (b : Int)).toNat = b := by
    rw [BitVec.ofInt_natCast, BitVec.toNat_ofNat]; exact Nat.mod_eq_of_lt (by omega)
  show IntKind.i64.wrap ((BitVec.ofInt 64 (a : Int) &&& BitVec.ofInt 64 (b : Int)).toNat : Int) = _
  rw [BitVec.toNat_and, h1, h2, IntKind.wrap_i64]
  omega
theorem bits_or_i64 (a b : Nat) (ha : a < 9223372036854775808) (hb : b < 9223372036854775808) : bits .or .i64 (a : Int) (b : Int) = ((a ||| b : Nat) : Int) := by
  have hx : a ||| b < 2 ^ 63 := Nat.or_lt_two_pow (by omega) (by omega)
  have h1 : (BitVec.ofInt 64 (a : Int)).toNat = a := by
    rw [BitVec.ofInt_natCast, BitVec.toNat_ofNat]; exact Nat.mod_eq_of_lt (by omega)
  have h2 : (BitVec.ofInt 64 (b : Int)).toNat = b := by
    rw [BitVec.ofInt_natCast, BitVec.toNat_ofNat]; exact Nat.mod_eq_of_lt (by omega)
  show IntKind.i64.wrap ((BitVec.ofInt 64 (a : Int) ||| BitVec.ofInt 64 (b : Int)).toNat : Int) = _
  rw [BitVec.toNat_or, h1, h2, IntKind.wrap_i64]
  omega
theorem and_low (a k p : Nat) (hp : 2 ^ k = p) (ha : a < 9223372036854775808) (hk : p ≤ 9223372036854775808) : bits .and .i64 (a : Int) (((p - 1 : Nat) : Int)) = ((a % p : Nat) : Int) := by
  have h0 : 0 < p := by rw [← hp]; exact pow_pos2 k
  rw [bits_and_i64 a (p - 1) ha (by omega), ← hp, Nat.and_two_pow_sub_one_eq_mod]
theorem or_low (a b k p : Nat) (hp : 2 ^ k = p) (hb : b < p) (ha : p * a + b < 9223372036854775808) : bits .or .i64 ((p * a : Nat) : Int) (b : Int) = ((p * a + b : Nat) : Int) := by
  rw [bits_or_i64 (p * a) b (by omega) (by omega), ← hp, Nat.two_pow_add_eq_or_of_lt (by rw [hp]; exact hb)]
-- A HARDWARE ADDRESS, BYTE BY BYTE
/-- One byte more of a hardware address's text. -/
def macStep (i n : Nat) (c : UInt8) : Option Nat := if i % 3 = 2 then (if c = 58 then some n else none) else if hexV c < 0 then none else some (16 * n + (hexV c).toNat)
def macRun (i n : Nat) : List UInt8 → Option Nat
  | [] => some n
  | c :: r => match macStep i n c with
    | none => none
    | some m => macRun (i + 1) m r
theorem mac_colon {i n : Nat} {c : UInt8} (h : i % 3 = 2) : macStep i n c = if c = 58 then some n else none := by unfold macStep; rw [if_pos h]
theorem mac_digit {i n : Nat} {c : UInt8} (h : i % 3 ≠ 2) : macStep i n c = if hexV c < 0 then none else some (16 * n + (hexV c).toNat) := by unfold macStep; rw [if_neg h]
theorem run_colon {i n m : Nat} {c : UInt8} {r : List UInt8} (h : i % 3 = 2) (e : macRun i n (c :: r) = some m) : c = 58 ∧ macRun (i + 1) n r = some m := by
  unfold macRun at e
  rw [mac_colon h] at e
  by_cases hc : c = 58
  · rw [if_pos hc] at e; exact ⟨hc, e⟩
  · rw [if_neg hc] at e; cases e
theorem run_digit {i n m : Nat} {c : UInt8} {r : List UInt8} (h : i % 3 ≠ 2) (e : macRun i n (c :: r) = some m) : ∃ d, d < 16 ∧ hexC d = c ∧ macRun (i + 1) (16 * n + d) r = some m := by
  unfold macRun at e
  rw [mac_digit h] at e
  rcases hex_cases c with hc | ⟨d, hc, hd, hx⟩
  · rw [if_pos (by omega)] at e; cases e
  · rw [if_neg (by omega), hc, Int.toNat_natCast] at e
    exact ⟨d, hd, hx, e⟩
theorem run_colon_to {i n : Nat} {r : List UInt8} (h : i % 3 = 2) : macRun i n (58 :: r) = macRun (i + 1) n r := by
  show (match macStep i n 58 with | none => none | some m => macRun (i + 1) m r) = _
  rw [mac_colon h, if_pos rfl]
theorem run_digit_to {i n d : Nat} {r : List UInt8} (h : i % 3 ≠ 2) (hd : d < 16) : macRun i n (hexC d :: r) = macRun (i + 1) (16 * n + d) r := by
  show (match macStep i n (hexC d) with | none => none | some m => macRun (i + 1) m r) = _
  rw [mac_digit h, hexV_C d hd, if_neg (by omega), Int.toNat_natCast]
theorem run_pair {i n k : Nat} {r : List UInt8} (h : i % 3 = 0) (hk : k < 256) : macRun i n (pairT k ++ r) = macRun (i + 2) (256 * n + k) r := by
  show macRun i n (hexC (k / 16) :: hexC (k % 16) :: r) = _
  rw [run_digit_to (by omega) (by omega), run_digit_to (by omega) (by omega), show 16 * (16 * n + k / 16) + k % 16 = 256 * n + k by omega]
theorem run_text (n : Nat) (h : n < 281474976710656) : macRun 0 0 (macT n) = some n := by
  unfold macT
  rw [run_pair rfl (by omega), run_colon_to rfl, run_pair rfl (by omega), run_colon_to rfl, run_pair rfl (by omega), run_colon_to rfl, run_pair rfl (by omega), run_colon_to rfl, run_pair rfl (by omega), run_colon_to rfl]
  rw [← List.append_nil (pairT (n % 256)), run_pair rfl (by omega)]
  show some _ = some n
  congr 1
  omega
theorem run_un {i n m : Nat} {r : List UInt8} (h : i % 3 = 0) (hl : 2 ≤ r.length) (e : macRun i n r = some m) : ∃ k s, k < 256 ∧ r = pairT k ++ s ∧ macRun (i + 2) (256 * n + k) s = some m := by
  match r, hl with
  | a :: b :: s, _ =>
    obtain ⟨d, hd, hx, e1⟩ := run_digit (by omega) e
    obtain ⟨d2, hd2, hx2, e2⟩ := run_digit (by omega) e1
    refine ⟨16 * d + d2, s, by omega, ?_, by rw [← e2]; congr 1; omega⟩
    show _ = hexC ((16 * d + d2) / 16) :: hexC ((16 * d + d2) % 16) :: s
    rw [show (16 * d + d2) / 16 = d by omega, show (16 * d + d2) % 16 = d2 by omega, hx, hx2]
theorem run_un2 {i n m : Nat} {r : List UInt8} (h : i % 3 = 0) (hl : 3 ≤ r.length) (e : macRun i n r = some m) : ∃ k s, k < 256 ∧ r = pairT k ++ 58 :: s ∧ macRun (i + 3) (256 * n + k) s = some m := by
  obtain ⟨k, s, hk, rfl, e1⟩ := run_un h (by omega) e
  match s, hl with
  | [], hl => exact absurd hl (by rw [List.append_nil]; show ¬ 3 ≤ 2; omega)
  | c :: t, _ =>
    obtain ⟨rfl, e2⟩ := run_colon (by omega) e1
    exact ⟨k, t, hk, rfl, e2⟩
theorem pair_len (k : Nat) : (pairT k).length = 2 := rfl
theorem run_mac {l : List UInt8} {m : Nat} (hl : l.length = 17) (e : macRun 0 0 l = some m) : macL l = m := by
  obtain ⟨a, r1, ha, rfl, e1⟩ := run_un2 rfl (by omega) e
  rw [List.length_append, List.length_cons, pair_len] at hl
  obtain ⟨b, r2, hb, rfl, e2⟩ := run_un2 rfl (by omega) e1
  rw [List.length_append, List.length_cons, pair_len] at hl
  obtain ⟨c, r3, hc, rfl, e3⟩ := run_un2 rfl (by omega) e2
  rw [List.length_append, List.length_cons, pair_len] at hl
  obtain ⟨d, r4, hd, rfl, e4⟩ := run_un2 rfl (by omega) e3
  rw [List.length_append, List.length_cons, pair_len] at hl
  obtain ⟨f, r5, hf, rfl, e5⟩ := run_un2 rfl (by omega) e4
  rw [List.length_append, List.length_cons, pair_len] at hl
  obtain ⟨g, r6, hg, rfl, e6⟩ := run_un rfl (by omega) e5
  rw [List.length_append, pair_len] at hl
  obtain rfl : r6 = [] := List.eq_nil_of_length_eq_zero (by omega)
  have ez : 256 * (256 * (256 * (256 * (256 * (256 * 0 + a) + b) + c) + d) + f) + g = m := Option.some.inj e6
  rw [List.append_nil]
  unfold macL
  rw [split_at (pair_no _ ha), split_at (pair_no _ hb), split_at (pair_no _ hc), split_at (pair_no _ hd), split_at (pair_no _ hf), split_one (pair_no _ hg)]
  simp only []
  rw [pair_text _ ha, pair_text _ hb, pair_text _ hc, pair_text _ hd, pair_text _ hf, pair_text _ hg, if_neg (by omega)]
  omega
theorem mac_len17 (n : Nat) : (macT n).length = 17 := rfl
theorem mac_short {l : List UInt8} (hl : l.length ≠ 17) : macL l = -1 := by
  rcases mac_cases l with h | ⟨n, _, _, e⟩
  · exact h
  · exact absurd (by rw [← e]; exact mac_len17 n) hl
theorem mac_none {l : List UInt8} (h : macRun 0 0 l = none) : macL l = -1 := by
  rcases mac_cases l with h2 | ⟨n, _, hn, e⟩
  · exact h2
  · rw [← e, run_text n hn] at h; cases h
theorem run_app (a b : List UInt8) : ∀ i n, macRun i n (a ++ b) = match macRun i n a with | none => none | some m => macRun (i + a.length) m b := by
  induction a with
  | nil => intro i n; rfl
  | cons c r ih =>
    intro i n
    show (match macStep i n c with | none => none | some m => macRun (i + 1) m (r ++ b)) = match (match macStep i n c with | none => none | some m => macRun (i + 1) m r) with | none => none | some m => macRun (i + (r.length + 1)) m b
    cases macStep i n c with
    | none => rfl
    | some m =>
      show macRun (i + 1) m (r ++ b) = match macRun (i + 1) m r with | none => none | some m => macRun (i + (r.length + 1)) m b
      rw [ih, show i + 1 + r.length = i + (r.length + 1) by omega]
theorem run_none_at {l : List UInt8} {i m : Nat} (hi : i < l.length) (h : macRun 0 0 (l.take i) = some m) (hs : macStep i m l[i] = none) : macL l = -1 := by
  refine mac_none ?_
  rw [← List.take_append_drop i l, run_app, h]
  show macRun (0 + (l.take i).length) m (l.drop i) = none
  rw [List.length_take, Nat.min_eq_left (by omega), Nat.zero_add, List.drop_eq_getElem_cons hi]
  unfold macRun
  rw [hs]
theorem run_snoc {l : List UInt8} {i m k : Nat} (hi : i < l.length) (h : macRun 0 0 (l.take i) = some m) (hs : macStep i m l[i] = some k) : macRun 0 0 (l.take (i + 1)) = some k := by
  rw [List.take_succ_eq_append_getElem hi, run_app, h]
  show macRun (0 + (l.take i).length) m [l[i]] = some k
  rw [List.length_take, Nat.min_eq_left (by omega), Nat.zero_add]
  unfold macRun
  rw [hs]
  rfl
-- THE DIGITS OF BASE 16, AS A TEXT
def hexDigs : List UInt8 := [48, 49, 50, 51, 52, 53, 54, 55, 56, 57, 97, 98, 99, 100, 101, 102]
theorem hexDigs_at : ∀ d, d < 16 → hexDigs[d]? = some (hexC d) := by decide +kernel
theorem hex_index (c : UInt8) : Lib.indexByte hexDigs c = hexV c := by
  rcases hex_cases c with h | ⟨d, h, hd, e⟩
  · rw [h]
    rcases index_cases hexDigs c with ⟨h2, _⟩ | ⟨i, h2, h3, _, _⟩
    · exact h2
    · obtain ⟨h4, _⟩ := Lib.indexByte_some h2
      rw [hexDigs_at i h3] at h4
      have e2 : hexC i = c := Option.some.inj h4
      rw [← e2, hexV_C i h3] at h
      omega
  · rw [h, ← e]
    have key : ∀ d, d < 16 → Lib.indexByte hexDigs (hexC d) = d := by decide +kernel
    exact key d hd
end N
end Go.Proofs.YtikjdjfpoohieaaDoor

namespace Go.Proofs.YtikjdjfpoohieaaDoor
open Go.RowKit
set_option linter.unusedVariables false

set_option maxRecDepth 100000 in
theorem belowIP (n : Int) (r : Bool) (w : World) (h : (decide (0 ≤ n) && decide (n < 4294967296)) = r) : Calls Tryd.prog 92 #[.int .i64 n, .int .i64 32] w (fun e w' => e = .returned (.bool r) ∧ w = w') := by
  by_cases h0 : 0 ≤ n
  · have c0 : decide (0 ≤ n) = true := decide_eq_true h0
    rw [c0, Bool.true_and] at h
    go_enter Tryd.func92, Tryd.ntmps92
    go_wp2
    go_ret
    exact ⟨by rw [← h]; rfl, rfl⟩
  · have c0 : decide (0 ≤ n) = false := decide_eq_false h0
    rw [c0, Bool.false_and] at h
    subst h
    go_enter Tryd.func92, Tryd.ntmps92
    go_wp2
    go_ret
    exact ⟨rfl, rfl⟩
theorem and_lowC (a k p : Nat) (hp : 2 ^ k = p) (ha : (a : Int) < 4294967296) (hk : p ≤ 4294967296) : Go.bits .and .i64 (a : Int) (((p - 1 : Nat) : Int)) = ((a % p : Nat) : Int) := by
  have h1 : a < 9223372036854775808 := by omega
  have h2 : p ≤ 9223372036854775808 := by omega
  exact N.and_low a k p hp h1 h2
theorem sub1C {p q : Nat} (h : 0 < p) (hq : p - 1 = q) : (p : Int) - 1 = (q : Int) := by omega
theorem subC {p q : Nat} (h : p ≤ 4294967296) (hq : p - 1 = q) : q ≤ 4294967296 := by omega
theorem wrapC {p : Nat} (h : p ≤ 4294967296) : wrap64 (p : Int) = (p : Int) := Go.IntWalk.wrap64_in _ (by omega)
set_option maxRecDepth 100000 in
set_option maxHeartbeats 2000000 in
theorem isPref_any10 (n bits : Int) (r : Bool) (w : World) (hr : N.rightB n bits = r) : Calls Tryd.prog 73 #[.int .i64 n, .int .i64 bits] w (fun e w' => e = .returned (.bool r) ∧ w = w') := by
  by_cases h0 : 0 ≤ n ∧ n < 4294967296
  · have HB := Lib.hid (show (decide (0 ≤ n) && decide (n < 4294967296)) = true by rw [decide_eq_true h0.1, decide_eq_true h0.2]; rfl)
    by_cases h1 : 0 ≤ bits
    · have c1 : decide (0 ≤ bits) = true := decide_eq_true h1
      by_cases h2 : bits ≤ 32
      · have c2 : decide (bits ≤ 32) = true := decide_eq_true h2
        obtain ⟨k, hk⟩ : ∃ k : Nat, (32 - bits).toNat = k := ⟨_, rfl⟩
        have hk2 : 32 - bits = (k : Int) := by omega
        have hk3 : k ≤ 32 := by omega
        obtain ⟨nn, rfl⟩ := Int.eq_ofNat_of_zero_le h0.1
        obtain ⟨p, hp⟩ : ∃ p, 2 ^ k = p := ⟨_, rfl⟩
        have hpp : 0 < p := by rw [← hp]; exact N.pow_pos2 k
        have hpb : p ≤ 4294967296 := by rw [← hp]; exact Nat.le_trans (Nat.pow_le_pow_right (by omega) (show k ≤ 32 by omega)) (by decide)
        obtain ⟨q, hq⟩ : ∃ q, p - 1 = q := ⟨_, rfl⟩
        obtain ⟨d, hd⟩ : ∃ d, nn % p = d := ⟨_, rfl⟩
        have e1 : wrap64 (2 ^ (32 - bits).toNat) = (p : Int) := by
          rw [hk, show ((2 : Int) ^ k) = (p : Int) by rw [← hp, Int.natCast_pow]; rfl]; exact wrapC hpb
        have e0 : (p : Int) - 1 = (q : Int) := sub1C hpp hq
        have e2 : wrap64 ((p : Int) - 1) = (q : Int) := by rw [e0]; exact wrapC (subC hpb hq)
        have e3 : Go.bits .and .i64 (nn : Int) (q : Int) = (d : Int) := by rw [← hq, ← hd]; exact and_lowC nn k p hp h0.2 hpb
        have HR := Lib.hid (show (Go.bits .and .i64 (nn : Int) (wrap64 (wrap64 (2 ^ (32 - bits).toNat) - 1)) == 0) = r by
          rw [e1, e2, e3, ← hr]; unfold N.rightB
          rw [decide_eq_true (show (0 : Int) ≤ (nn : Int) by omega), decide_eq_true (show (nn : Int) < 4294967296 from h0.2), c1, c2, hk, hp]
          show _ = decide ((nn : Int) % (p : Int) = 0)
          rw [← Int.natCast_emod, hd, Bool.eq_iff_iff, decide_eq_true_eq, beq_iff_eq])
        clear hr hp hq hd h0 hk hk2 e0 e1 e2 e3 hpp hpb hk3
        go_enter Tryd.func73, Tryd.ntmps73
        go_wp2_with fail
        refine (belowIP _ true _ HB.out).mono ?_
        rintro e w1 ⟨rfl, rfl⟩
        go_wp2
        go_ret
        exact ⟨by rw [← HR.out]; rfl, rfl⟩
      · have c2 : decide (bits ≤ 32) = false := decide_eq_false h2
        have HR := Lib.hid (show false = r by rw [← hr]; unfold N.rightB; rw [c2, Bool.and_false, Bool.false_and])
        clear hr h0
        go_enter Tryd.func73, Tryd.ntmps73
        go_wp2_with fail
        refine (belowIP _ true _ HB.out).mono ?_
        rintro e w1 ⟨rfl, rfl⟩
        go_wp2
        go_ret
        exact ⟨by rw [← HR.out]; rfl, rfl⟩
    · have c1 : decide (0 ≤ bits) = false := decide_eq_false h1
      have HR := Lib.hid (show false = r by rw [← hr]; unfold N.rightB; rw [c1, Bool.and_false, Bool.false_and, Bool.false_and])
      clear hr h0
      go_enter Tryd.func73, Tryd.ntmps73
      go_wp2_with fail
      refine (belowIP _ true _ HB.out).mono ?_
      rintro e w1 ⟨rfl, rfl⟩
      go_wp2
      go_ret
      exact ⟨by rw [← HR.out]; rfl, rfl⟩
  · have hz : (decide (0 ≤ n) && decide (n < 4294967296)) = false := by
      cases hz : (decide (0 ≤ n) && decide (n < 4294967296)) with
      | false => rfl
      | true => rw [Bool.and_eq_true, decide_eq_true_eq, decide_eq_true_eq] at hz; exact absurd hz h0
    have HB := Lib.hid hz
    have HR := Lib.hid (show false = r by rw [← hr]; unfold N.rightB; rw [hz, Bool.false_and, Bool.false_and, Bool.false_and])
    clear hr h0 hz
    go_enter Tryd.func73, Tryd.ntmps73
    go_wp2_with fail
    refine (belowIP _ false _ HB.out).mono ?_
    rintro e w1 ⟨rfl, rfl⟩
    go_wp2
    go_ret
    exact ⟨by rw [← HR.out]; rfl, rfl⟩
theorem okA_nat (n : Nat) : okA (n : Int) = ((n : Int), true) := by unfold okA; rw [if_pos (by omega)]
set_option maxRecDepth 100000 in
set_option maxHeartbeats 2000000 in
theorem number_any (s : ByteArray) (w : World) (hs : s.size ≤ 1073741824) : Calls Tryd.prog 75 #[.string s] w (fun e w' => e = .returned (.tuple #[.int .i64 (okA (N.numL s.data.toList)).1, .bool (okA (N.numL s.data.toList)).2]) ∧ w = w') := by
  have hsz : s.data.toList.length = s.size := by simp
  by_cases h0 : s.size = 0
  · have HE := Lib.hid (show N.numL s.data.toList = -1 by rw [List.eq_nil_of_length_eq_zero (hsz.trans h0)]; rfl)
    have b1 : decide ((s.size : Int) < 1) = true := decide_eq_true (by omega)
    have b1b : decide (s.size < 1) = true := decide_eq_true (by omega)
    have b1c : decide (s.size = 0) = true := decide_eq_true h0
    have b1d : s.toList = [] := by rw [ByteArray.toList_eq, List.eq_nil_of_length_eq_zero (hsz.trans h0)]
    clear hsz h0
    go_enter Tryd.func75, Tryd.ntmps75
    go_wp2
    go_ret2
    exact ⟨by rw [HE.out]; rfl, rfl⟩
  have hpos : 0 < s.size := by omega
  have b1 : decide ((s.size : Int) < 1) = false := decide_eq_false (by omega)
  have b1b : decide (s.size < 1) = false := decide_eq_false (by omega)
  have b1c : decide (s.size = 0) = false := decide_eq_false h0
  have b1d : ¬ s.toList = [] := by rw [ByteArray.toList_eq]; exact fun e => h0 (by rw [← hsz, e]; rfl)
  have b1e : s.toList.isEmpty = false := by cases hx : s.toList with | nil => exact absurd hx b1d | cons => rfl
  by_cases h1 : 10 < s.size
  · have HE := Lib.hid (show N.numL s.data.toList = -1 by unfold N.numL; rw [if_pos (.inr (.inl (by rw [hsz]; exact h1)))])
    have b2 : decide ((10 : Int) < (s.size : Int)) = true := decide_eq_true (by omega)
    have b2b : decide (10 < s.size) = true := decide_eq_true h1
    clear hsz h0 h1
    go_enter Tryd.func75, Tryd.ntmps75
    go_wp2
    go_ret2
    exact ⟨by rw [HE.out]; rfl, rfl⟩
  have b2 : decide ((10 : Int) < (s.size : Int)) = false := decide_eq_false (by omega)
  have b2b : decide (10 < s.size) = false := decide_eq_false h1
  have hhd := head_is s hpos
  by_cases h2 : s[0].toNat = 48 ∧ 1 < s.size
  · have HE := Lib.hid (show N.numL s.data.toList = -1 by unfold N.numL; rw [if_pos (.inr (.inr (.inl ⟨by rw [hhd, show s[0] = 48 from UInt8.toNat_inj.1 h2.1], by rw [hsz]; exact h2.2⟩)))])
    have b3 : ((s[0].toNat : Int) == 48) = true := by simp; omega
    have b4 : decide ((1 : Int) < (s.size : Int)) = true := decide_eq_true (by omega)
    have b4b : decide (1 < s.size) = true := decide_eq_true h2.2
    clear hsz h0 h1 h2 hhd
    go_enter Tryd.func75, Tryd.ntmps75
    go_wp2
    go_ret2
    exact ⟨by rw [HE.out]; rfl, rfl⟩
  have HSZ := Lib.hid hsz
  have HNE := Lib.hid (show s.data.toList ≠ [] from fun e => h0 (by rw [← hsz, e]; rfl))
  have HH := Lib.hid (show ¬ (s.data.toList.head? = some 48 ∧ 1 < s.data.toList.length) by
    rintro ⟨e1, e2⟩
    rw [hhd] at e1
    injection e1 with e1
    exact h2 ⟨by rw [e1]; rfl, by omega⟩)
  by_cases h4 : 1 < s.size
  all_goals
    first
    | (have b3 : ((s[0].toNat : Int) == 48) = false := by (have : s[0].toNat ≠ 48 := fun e => h2 ⟨e, h4⟩; simp; omega)
       have b4 : decide ((1 : Int) < (s.size : Int)) = true := decide_eq_true (by omega)
       have b4b : decide (1 < s.size) = true := decide_eq_true (by omega))
    | (have b4 : decide ((1 : Int) < (s.size : Int)) = false := decide_eq_false (by omega)
       have b4b : decide (1 < s.size) = false := decide_eq_false (by omega))
    clear hsz h0 h2 h4 hhd
    go_enter Tryd.func75, Tryd.ntmps75
    go_wp2
    go_loopg [4, 5] s.size (fun gk vn vi wr => ∃ k v : Nat, Hid (k + gk = s.size) ∧ k ≤ s.size ∧ vi = .int .i64 (k : Int) ∧ vn = .int .i64 (v : Int) ∧ Hid (N.valL (s.data.toList.take k) = v) ∧ Hid ((s.data.toList.take k).all N.digB = true) ∧ w = wr)
    case atStart => exact ⟨0, 0, Nat.zero_add _, Nat.zero_le _, rfl, rfl, rfl, rfl, rfl⟩
    case round =>
      obtain ⟨k, v, HG, hk, rfl, rfl, HV, HD, rfl⟩ := hrel
      by_cases hlt : k < s.size
      · have blt : decide ((k : Int) < (s.size : Int)) = true := decide_eq_true (by omega)
        have blt2 : decide (k < s.size) = true := decide_eq_true hlt
        have hki : (k : Int) < (s.size : Int) := by omega
        have hsn := W.take_snoc s k hlt
        have hmem : s[k] ∈ s.data.toList := List.mem_of_mem_take (i := k + 1) (by rw [hsn]; simp)
        have hv : v < 10000000000 := by
          rw [← HV.out]
          exact N.val_lt _ HD.out 10 (by rw [List.length_take]; omega)
        have hc := s[k].toNat_lt
        by_cases hlo : s[k].toNat < 48
        · have c1 : decide ((s[k].toNat : Int) < 48) = true := decide_eq_true (by omega)
          have HE := Lib.hid (num_bad hmem (digB_lo hlo))
          clear hsn hmem hlo
          go_wp2
          go_ret2
          exact ⟨by rw [HE.out]; rfl, rfl⟩
        · have c1 : decide ((s[k].toNat : Int) < 48) = false := decide_eq_false (by omega)
          by_cases hhi : 57 < s[k].toNat
          · have c2 : decide ((57 : Int) < (s[k].toNat : Int)) = true := decide_eq_true (by omega)
            have c2b : decide (57 < s[k].toNat) = true := decide_eq_true hhi
            have HE := Lib.hid (num_bad hmem (digB_hi hhi))
            clear hsn hmem hlo hhi
            go_wp2
            go_ret2
            exact ⟨by rw [HE.out]; rfl, rfl⟩
          · have c2 : decide ((57 : Int) < (s[k].toNat : Int)) = false := decide_eq_false (by omega)
            have c2b : decide (57 < s[k].toNat) = false := decide_eq_false hhi
            have HSN := Lib.hid hsn
            have HD2 := Lib.hid (show (s.data.toList.take (k + 1)).all N.digB = true by rw [hsn, List.all_append, HD.out]; show ([s[k]] : List UInt8).all N.digB = true; rw [List.all_cons, digB_in (by omega) (by omega)]; rfl)
            have HV2 := Lib.hid (show N.valL (s.data.toList.take (k + 1)) = 10 * v + (s[k].toNat - 48) by rw [hsn, N.val_snoc, HV.out])
            have hgk := HG.out
            have hu : IntKind.u8.wrap ((s[k].toNat : Int) - 48) = ((s[k].toNat - 48 : Nat) : Int) := by rw [IntKind.wrap_u8]; omega
            clear hsn hmem
            go_wp2
            go_roundg (s.size - (k + 1))
            case rel => exact ⟨k + 1, 10 * v + (s[k].toNat - 48), (by show _ = _; omega), by omega, by go_num, by go_num, HV2, HD2, rfl⟩
            case measure => omega
      · have blt : decide ((k : Int) < (s.size : Int)) = false := decide_eq_false (by omega)
        have blt2 : decide (k < s.size) = false := decide_eq_false hlt
        have htk : s.data.toList.take k = s.data.toList := List.take_of_length_le (by have := HSZ.out; omega)
        have HE := Lib.hid (show N.numL s.data.toList = v by
          have h5 := HV.out
          have h6 := HD.out
          rw [htk] at h5 h6
          rw [num_all HNE.out (by rw [HSZ.out]; exact h1) HH.out h6, h5])
        clear htk
        go_wp2
        go_ret2
        exact ⟨by rw [HE.out, okA_nat]; rfl, rfl⟩
set_option maxRecDepth 100000 in
theorem num_any10 (s : ByteArray) (least most z : Int) (ok : Bool) (w : World) (hs : s.size ≤ 1073741824) (hz : numA s.data.toList least most = (z, ok)) : Calls Tryd.prog 47 #[.string s, .int .i64 least, .int .i64 most] w (fun e w' => e = .returned (.tuple #[.int .i64 z, .bool ok]) ∧ w = w') := by
  have HN := Lib.hid (number_any s w hs)
  rcases N.num_cases s.data.toList with h | ⟨n, h, _, _⟩
  · have e1 : okA (N.numL s.data.toList) = (0, false) := by rw [h]; rfl
    have e2 : numA s.data.toList least most = (0, false) := by unfold numA; rw [if_neg (by omega)]
    rw [e1] at HN
    rw [e2] at hz
    cases hz
    clear e1 e2 h
    go_enter Tryd.func47, Tryd.ntmps47
    go_wp2_with fail
    refine (HN.out).mono ?_
    rintro e w1 ⟨rfl, rfl⟩
    go_wp2
    go_ret2
    exact ⟨rfl, rfl⟩
  · have e1 : okA (N.numL s.data.toList) = ((n : Int), true) := by rw [h, okA_nat]
    rw [e1] at HN
    clear e1
    by_cases h1 : (n : Int) < least
    · have c1 : decide ((n : Int) < least) = true := decide_eq_true h1
      have e2 : numA s.data.toList least most = (0, false) := by unfold numA; rw [if_neg (by omega)]
      rw [e2] at hz
      cases hz
      clear e2 h h1
      go_enter Tryd.func47, Tryd.ntmps47
      go_wp2_with fail
      refine (HN.out).mono ?_
      rintro e w1 ⟨rfl, rfl⟩
      go_wp2
      go_ret2
      exact ⟨rfl, rfl⟩
    · have c1 : decide ((n : Int) < least) = false := decide_eq_false h1
      by_cases h2 : most < (n : Int)
      · have c2 : decide (most < (n : Int)) = true := decide_eq_true h2
        have e2 : numA s.data.toList least most = (0, false) := by unfold numA; rw [if_neg (by omega)]
        rw [e2] at hz
        cases hz
        clear e2 h h1 h2
        go_enter Tryd.func47, Tryd.ntmps47
        go_wp2_with fail
        refine (HN.out).mono ?_
        rintro e w1 ⟨rfl, rfl⟩
        go_wp2
        go_ret2
        exact ⟨rfl, rfl⟩
      · have c2 : decide (most < (n : Int)) = false := decide_eq_false h2
        have e2 : numA s.data.toList least most = ((n : Int), true) := by unfold numA; rw [if_pos (by omega), h]
        rw [e2] at hz
        cases hz
        clear e2 h h1 h2
        go_enter Tryd.func47, Tryd.ntmps47
        go_wp2_with fail
        refine (HN.out).mono ?_
        rintro e w1 ⟨rfl, rfl⟩
        go_wp2
        go_ret2
        exact ⟨rfl, rfl⟩
end Go.Proofs.YtikjdjfpoohieaaDoor

namespace Go.Proofs.YtikjdjfpoohieaaDoor
open Go.Shelf Go.RowKit
set_option linter.unusedVariables false

def ren219 : Go.Shelf.Ren := ⟨fun | 217 => 93 | 219 => 103 | 224 => 108 | 225 => 107 | 266 => 104 | 267 => 109 | 314 => 110 | n => n, fun | 3 => 3 | 4 => 4 | 5 => 5 | 9 => 9 | 46 => 94 | 51 => 111 | 146 => 112 | n => n, fun | 1 => 2 | n => n⟩
set_option maxRecDepth 100000 in
theorem lays219 : Go.Proofs.Lays.n219 Tryd.prog ren219 := {
  mixed := by kernel_rfl
  f217 := Tryd.func93.trans (congrArg some (by kernel_rfl))
  f219 := Tryd.func103.trans (congrArg some (by kernel_rfl))
  f224 := Tryd.func108.trans (congrArg some (by kernel_rfl))
  f225 := Tryd.func107.trans (congrArg some (by kernel_rfl))
  f266 := Tryd.func104.trans (congrArg some (by kernel_rfl))
  f267 := Tryd.func109.trans (congrArg some (by kernel_rfl))
  f314 := Tryd.func110.trans (congrArg some (by kernel_rfl))
  t3 := Tryd.underlying3
  a3 := Tryd.isAgg3
  z3 := Tryd.sizeOf3
  v3 := Tryd.zeroValue3
  t4 := Tryd.underlying4
  a4 := Tryd.isAgg4
  z4 := Tryd.sizeOf4
  v4 := Tryd.zeroValue4
  t5 := Tryd.underlying5
  a5 := Tryd.isAgg5
  z5 := Tryd.sizeOf5
  v5 := Tryd.zeroValue5
  t9 := Tryd.underlying9
  a9 := Tryd.isAgg9
  z9 := Tryd.sizeOf9
  v9 := Tryd.zeroValue9
  t46 := Tryd.underlying94
  a46 := Tryd.isAgg94
  z46 := Tryd.sizeOf94
  v46 := Tryd.zeroValue94
  t51 := Tryd.underlying111
  a51 := Tryd.isAgg111
  z51 := Tryd.sizeOf111
  v51 := Tryd.zeroValue111
  t146 := Tryd.underlying112
  a146 := Tryd.isAgg112
  z146 := Tryd.sizeOf112
  v146 := Tryd.zeroValue112
  g1 := by kernel_rfl }
def ren103 : Go.Shelf.Ren := ⟨fun | 103 => 78 | 206 => 105 | 210 => 95 | n => n, fun | 3 => 3 | 4 => 4 | 9 => 9 | 24 => 99 | n => n, fun  n => n⟩
set_option maxRecDepth 100000 in
theorem lays103 : Go.Proofs.Lays.n103 Tryd.prog ren103 := {
  mixed := by kernel_rfl
  f103 := Tryd.func78.trans (congrArg some (by kernel_rfl))
  f206 := Tryd.func105.trans (congrArg some (by kernel_rfl))
  f210 := Tryd.func95.trans (congrArg some (by kernel_rfl))
  t3 := Tryd.underlying3
  a3 := Tryd.isAgg3
  z3 := Tryd.sizeOf3
  v3 := Tryd.zeroValue3
  t4 := Tryd.underlying4
  a4 := Tryd.isAgg4
  z4 := Tryd.sizeOf4
  v4 := Tryd.zeroValue4
  t9 := Tryd.underlying9
  a9 := Tryd.isAgg9
  z9 := Tryd.sizeOf9
  v9 := Tryd.zeroValue9
  t24 := Tryd.underlying99
  a24 := Tryd.isAgg99
  z24 := Tryd.sizeOf99
  v24 := Tryd.zeroValue99 }
/-- internal/stringslite.Index of one byte. -/
theorem index_one (s : ByteArray) (c : UInt8) (w : World) : Calls Tryd.prog 103 #[.string s, .string ⟨#[c]⟩] w fun e w' => e = .returned (.int .i64 (Lib.indexByte s.data.toList c)) ∧ w' = w :=
  Any.stringslite_Index_one lays219 s c w
theorem below_drawnJ {B : Nat} {a w : World} (h : Below B a w) (q : Nat) : Below B a (w.drewN q) := ⟨h.os, h.tape, h.output, h.size, h.block⟩
/-- strings.Cut at one byte. -/
def CutIs (c : UInt8) (l : List UInt8) (a b : List UInt8) (f : Bool) : Prop := (f = false ∧ a = l ∧ b = [] ∧ c ∉ l) ∨ (f = true ∧ l = a ++ c :: b ∧ c ∉ a)
theorem cut_extract (s : ByteArray) (i : Nat) : s.extract 0 i = sB (s.data.toList.take i) ∧ s.extract (i + 1) s.size = sB (s.data.toList.drop (i + 1)) := by
  have hsz : s.data.toList.length = s.size := by simp
  refine ⟨?_, ?_⟩
  · refine ByteArray.ext (Array.ext' ?_)
    simp [sB, ByteArray.data_extract]
  · refine ByteArray.ext (Array.ext' ?_)
    have h1 : (s.extract (i + 1) s.size).data.toList = (s.data.toList.drop (i + 1)).take (s.size - (i + 1)) := by simp [ByteArray.data_extract, List.extract_eq_take_drop]
    rw [h1, List.take_of_length_le (by rw [List.length_drop, hsz]; omega)]
    rfl
set_option maxRecDepth 100000 in
set_option maxHeartbeats 2000000 in
theorem cutLite (s : ByteArray) (c : UInt8) (w : World) (hs : s.size ≤ 1073741824) : Calls Tryd.prog 91 #[.string s, .string ⟨#[c]⟩] w (fun e w' => (∃ a b f, e = .returned (.tuple #[.string (sB a), .string (sB b), .bool f]) ∧ CutIs c s.data.toList a b f) ∧ Below w.heap.size w w') := by
  have hsz : s.data.toList.length = s.size := by simp
  rcases N.index_cases s.data.toList c with ⟨hi, hn⟩ | ⟨i, hi, hlt, he, hn⟩
  · have HI := Lib.hid hi
    have HE := Lib.hid (show s = sB s.data.toList from (ByteArray.ext (Array.ext' (by simp [sB]))))
    have HC := Lib.hid (show CutIs c s.data.toList s.data.toList [] false from .inl ⟨rfl, rfl, rfl, hn⟩)
    clear hi hn hsz
    go_enter Tryd.func91, Tryd.ntmps91
    go_wp2_with fail
    refine (index_one _ _ _).mono ?_
    rintro e w1 ⟨rfl, rfl⟩
    rw [HI.out]
    go_wp2
    go_ret3
    exact ⟨⟨_, _, _, by rw [← HE.out]; rfl, HC.out⟩, Below.refl _ _⟩
  · have HI := Lib.hid hi
    obtain ⟨e1, e2⟩ := cut_extract s i
    have HE1 := Lib.hid e1
    have HE2 := Lib.hid e2
    have HC := Lib.hid (show CutIs c s.data.toList (s.data.toList.take i) (s.data.toList.drop (i + 1)) true from .inr ⟨rfl, he, hn⟩)
    have hlt2 : i < s.size := by omega
    have c1 : decide ((0 : Int) ≤ (i : Int)) = true := decide_eq_true (by omega)
    clear hi hn hsz he e1 e2 hlt
    go_enter Tryd.func91, Tryd.ntmps91
    go_wp2_with fail
    refine (index_one _ _ _).mono ?_
    rintro e w1 ⟨rfl, rfl⟩
    rw [HI.out]
    go_wp2
    go_quiet (fail)
    go_wp2
    go_ret3
    exact ⟨⟨_, _, _, by rw [← HE1.out, ← HE2.out]; rfl, HC.out⟩, below_drawnJ (Below.refl _ _) _⟩
set_option maxRecDepth 100000 in
theorem cut_any10 (s : ByteArray) (c : UInt8) (w : World) (hs : s.size ≤ 1073741824) : Calls Tryd.prog 72 #[.string s, .string ⟨#[c]⟩] w (fun e w' => (∃ a b f, e = .returned (.tuple #[.string (sB a), .string (sB b), .bool f]) ∧ CutIs c s.data.toList a b f) ∧ Below w.heap.size w w') := by
  go_enter Tryd.func72, Tryd.ntmps72
  go_wp2_with fail
  refine (cutLite s c _ hs).mono ?_
  rintro e w1 ⟨⟨a, b, f, rfl, hc⟩, hb⟩
  have HC := Lib.hid hc
  clear hc
  go_wp2
  go_ret3
  exact ⟨⟨a, b, f, rfl, HC.out⟩, hb⟩
/-- strings.CutPrefix. -/
theorem cutPrefix_any (s p : ByteArray) (w : World) : Calls Tryd.prog 78 #[.string s, .string p] w fun e w' => e = .returned (.tuple #[.string ⟨(Lib.trimPrefix s.data.toList p.data.toList).toArray⟩, .bool (Lib.hasPrefix s.data.toList p.data.toList)]) ∧ w' = w :=
  Any.strings_CutPrefix lays103 s p w
end Go.Proofs.YtikjdjfpoohieaaDoor

namespace Go.Proofs.YtikjdjfpoohieaaDoor
open Go.Shelf Go.RowKit
set_option linter.unusedVariables false

def ren137 : Go.Shelf.Ren := ⟨fun | 137 => 74 | 217 => 93 | 266 => 104 | n => n, fun | 3 => 3 | 5 => 5 | 9 => 9 | n => n, fun  n => n⟩
set_option maxRecDepth 100000 in
theorem lays137 : Go.Proofs.Lays.n137 Tryd.prog ren137 := {
  mixed := by kernel_rfl
  f137 := Tryd.func74.trans (congrArg some (by kernel_rfl))
  f217 := Tryd.func93.trans (congrArg some (by kernel_rfl))
  f266 := Tryd.func104.trans (congrArg some (by kernel_rfl))
  t3 := Tryd.underlying3
  a3 := Tryd.isAgg3
  z3 := Tryd.sizeOf3
  v3 := Tryd.zeroValue3
  t5 := Tryd.underlying5
  a5 := Tryd.isAgg5
  z5 := Tryd.sizeOf5
  v5 := Tryd.zeroValue5
  t9 := Tryd.underlying9
  a9 := Tryd.isAgg9
  z9 := Tryd.sizeOf9
  v9 := Tryd.zeroValue9 }
/-- strings.IndexByte. -/
theorem indexByte_any (s : ByteArray) (c : UInt8) (w : World) : Calls Tryd.prog 74 #[.string s, .int .u8 (c.toNat : Int)] w fun e w' => e = .returned (.int .i64 (Lib.indexByte s.data.toList c)) ∧ w' = w := by
  have h := Any.strings_IndexByte lays137 s (c.toNat : Int) w
  rw [Int.toNat_natCast, show c.toNat.toUInt8 = c from UInt8.ofNat_toNat] at h
  exact h
end Go.Proofs.YtikjdjfpoohieaaDoor

namespace Go.Proofs.YtikjdjfpoohieaaDoor
open Go.RowKit
set_option linter.unusedVariables false

theorem numA_oct (l : List UInt8) : numA l 0 255 = okA (N.octL l) := by
  rcases N.num_cases l with h | ⟨n, h, _, _⟩
  · unfold numA okA N.octL; rw [h]; rfl
  · unfold numA N.octL
    rw [h]
    by_cases h2 : n ≤ 255
    · rw [if_pos (by omega), if_neg (by omega), okA_nat]
    · rw [if_neg (by omega), if_pos (by omega)]; rfl
theorem shl8C {n : Nat} (h : n < 16777216) : (n : Int) * 256 = ((256 * n : Nat) : Int) := by omega
theorem or8C {n b : Nat} (h : n < 16777216) (hb : b < 256) : Go.bits .or .i64 ((256 * n : Nat) : Int) (b : Int) = ((256 * n + b : Nat) : Int) := by
  have h1 : 256 * n + b < 9223372036854775808 := by omega
  exact N.or_low n b 8 256 rfl hb h1
theorem sv_is (s : ByteArray) : sB s.data.toList = s := ByteArray.ext (Array.ext' (by simp [sB]))
theorem acc_snocC (L : List (List UInt8)) (a : List UInt8) (n b : Nat) (h1 : N.accL N.octL L = (n : Int)) (h2 : N.octL a = (b : Int)) : N.accL N.octL (L ++ [a]) = ((256 * n + b : Nat) : Int) := by rw [N.acc_snoc, h1, h2]; omega
theorem acc_smallC (L : List (List UInt8)) (n : Nat) (hl : L.length ≤ 3) (hg : ∀ x ∈ L, 0 ≤ N.octL x) (h : N.accL N.octL L = (n : Int)) : n < 16777216 := by
  have := (N.acc_range N.octL (fun x => (N.oct_range x).2) 3 L hl hg).2
  rw [h] at this
  have e : ((256 ^ 3 : Nat) : Int) = 16777216 := rfl
  rw [e] at this
  omega
/-- How far the address is read. -/
structure IpAt (s : List UInt8) (g : Nat) (L : List (List UInt8)) (r : List UInt8) (n : Nat) : Prop where
  len : L.length + g = 4
  good : ∀ x ∈ L, 0 ≤ N.octL x
  sum : N.accL N.octL L = (n : Int)
  more : 0 < g → N.splitL 46 s = L ++ N.splitL 46 r
  done : g = 0 → N.splitL 46 s = L
theorem IpAt.start (s : List UInt8) : IpAt s 4 [] s 0 := ⟨rfl, (fun x hx => by cases hx), rfl, (fun _ => rfl), (fun h => by cases h)⟩
theorem IpAt.bad {s : List UInt8} {g n : Nat} {L : List (List UInt8)} {r a : List UInt8} {t : List (List UInt8)} (h : IpAt s g L r n) (hg : 0 < g) (e : N.splitL 46 r = a :: t) (hb : N.octL a < 0) : N.ipL s = -1 :=
  N.ip_bad (h.more hg) (x := a) (by rw [e]; simp) hb
theorem IpAt.wrong {s : List UInt8} {g n : Nat} {L : List (List UInt8)} {r : List UInt8} (h : IpAt s g L r n) (hg : 0 < g) (hl : (N.splitL 46 r).length ≠ g) : N.ipL s = -1 :=
  N.ip_len (h.more hg) (by rw [List.length_append]; have := h.len; omega)
theorem IpAt.next {s : List UInt8} {g n b : Nat} {L : List (List UInt8)} {r a r2 : List UInt8} (h : IpAt s (g + 1) L r n) (hb : N.octL a = (b : Int)) (e : (0 < g ∧ N.splitL 46 r = a :: N.splitL 46 r2) ∨ (g = 0 ∧ N.splitL 46 r = [a])) : IpAt s g (L ++ [a]) r2 (256 * n + b) where
  len := by rw [List.length_append, List.length_singleton]; have := h.len; omega
  good := fun x hx => by
    rcases List.mem_append.1 hx with hx | hx
    · exact h.good x hx
    · rw [List.mem_singleton.1 hx, hb]; omega
  sum := acc_snocC L a n b h.sum hb
  more := fun hg => by
    rcases e with ⟨_, e⟩ | ⟨e, _⟩
    · rw [h.more (by omega), e, List.append_assoc]; rfl
    · omega
  done := fun hg => by
    rcases e with ⟨e, _⟩ | ⟨_, e⟩
    · omega
    · rw [h.more (by omega), e]
theorem IpAt.all {s : List UInt8} {n : Nat} {L : List (List UInt8)} {r : List UInt8} (h : IpAt s 0 L r n) : N.ipL s = (n : Int) := by
  rw [N.ip_good (h.done rfl) (by have := h.len; omega) h.good, h.sum]
theorem cut_false {l a b : List UInt8} {c : UInt8} (h : CutIs c l a b false) : N.splitL c l = [a] ∧ a.length = l.length := by
  rcases h with ⟨_, rfl, _, h⟩ | ⟨h, _⟩
  · exact ⟨N.split_one h, rfl⟩
  · cases h
theorem cut_true {l a b : List UInt8} {c : UInt8} (h : CutIs c l a b true) : N.splitL c l = a :: N.splitL c b ∧ l.length = a.length + (b.length + 1) := by
  rcases h with ⟨h, _⟩ | ⟨_, rfl, h⟩
  · cases h
  · exact ⟨N.split_at h b, by rw [List.length_append, List.length_cons]⟩
theorem CutIs.small {l a b : List UInt8} {c : UInt8} {f : Bool} (h : CutIs c l a b f) (hl : l.length ≤ 100) : a.length ≤ 100 ∧ b.length ≤ 100 := by
  rcases h with ⟨_, rfl, rfl, _⟩ | ⟨_, rfl, _⟩
  · exact ⟨hl, Nat.zero_le _⟩
  · rw [List.length_append, List.length_cons] at hl; omega
theorem split_pos (c : UInt8) (l : List UInt8) : 1 ≤ (N.splitL c l).length := List.length_pos_iff.2 (N.split_ne c l)
theorem oct_two (a : List UInt8) : (okA (N.octL a) = (0, false) ∧ N.octL a < 0) ∨ (∃ b : Nat, okA (N.octL a) = ((b : Int), true) ∧ N.octL a = (b : Int) ∧ b < 256) := by
  rcases N.oct_cases a with h | ⟨b, h, h2, _⟩
  · exact .inl ⟨by rw [h]; rfl, by rw [h]; decide⟩
  · exact .inr ⟨b, by rw [h, okA_nat], h, h2⟩
set_option maxRecDepth 100000 in
set_option maxHeartbeats 4000000 in
theorem ip_any10 (s : ByteArray) (z : Int) (ok : Bool) (w : World) (hs : s.size ≤ 100) (hz : okA (N.ipL s.data.toList) = (z, ok)) : Calls Tryd.prog 44 #[.string s] w (fun e w' => e = .returned (.tuple #[.int .i64 z, .bool ok]) ∧ Below w.heap.size w w') := by
  have hsz : s.data.toList.length = s.size := by simp
  obtain ⟨l, hl⟩ : ∃ l, s.data.toList = l := ⟨_, rfl⟩
  have hll : l.length ≤ 100 := by rw [← hl, hsz]; exact hs
  have HS := Lib.hid (show s = sB l by rw [← hl, sv_is])
  rw [hl] at hz
  have HZ := Lib.hid hz
  clear hz hsz hl hs
  obtain rfl := HS.out
  go_enter Tryd.func44, Tryd.ntmps44
  go_wp2
  go_loopg [0, 4, 5] 4 (fun gk vs vn vl wr => ∃ (L : List (List UInt8)) (r : List UInt8) (n : Nat) (y : Int), Hid (y + 1 = (gk : Int)) ∧ vs = .string (sB r) ∧ vn = .int .i64 (n : Int) ∧ vl = .int .i64 y ∧ Hid (r.length ≤ 100) ∧ Hid (IpAt l gk L r n) ∧ Hid (n < 4294967296) ∧ Below w.heap.size w wr)
  case atStart => exact ⟨[], l, 0, 3, rfl, rfl, rfl, rfl, hll, IpAt.start l, (by show 0 < _; omega), Below.refl _ _⟩
  case round =>
    obtain ⟨L, r, n, y0, HY, rfl, rfl, rfl, HR, HI, HN, hbr⟩ := hrel
    by_cases hy : 0 ≤ y0
    · obtain ⟨y, rfl⟩ := Int.eq_ofNat_of_zero_le hy
      have c1 : decide ((0 : Int) ≤ (y : Int)) = true := decide_eq_true hy
      obtain rfl : y + 1 = gk := by have := HY.out; omega
      have hL3 : L.length ≤ 3 := by have := HI.out.len; omega
      have HN2 := Lib.hid (acc_smallC L n hL3 HI.out.good HI.out.sum)
      have hsr : (sB r).size ≤ 1073741824 := by rw [sB_size]; have := HR.out; omega
      clear hL3 hy
      go_wp2_with fail
      refine (cut_any10 (sB r) 46 _ hsr).mono ?_
      rintro e w1 ⟨⟨a, b, f, rfl, hc⟩, hb1⟩
      rw [sB_data] at hc
      have HAB := Lib.hid (hc.small HR.out)
      have HB1 := Lib.hid (bthen hbr hb1)
      have has : (sB a).size ≤ 1073741824 := by rw [sB_size]; have := HAB.out.1; omega
      clear hb1 hsr
      rcases oct_two a with ⟨hoa, hneg⟩ | ⟨d, hoa, hod, hd⟩
      · have HNUM := Lib.hid (show numA (sB a).data.toList 0 255 = (0, false) by rw [sB_data, numA_oct, hoa])
        have HE := Lib.hid (show z = 0 ∧ ok = false by
          have e : N.ipL l = -1 := by
            cases f with
            | false => exact HI.out.bad (by omega) (cut_false hc).1 hneg
            | true => exact HI.out.bad (by omega) (cut_true hc).1 hneg
          have := HZ.out
          rw [e] at this
          exact ⟨(congrArg Prod.fst this).symm, (congrArg Prod.snd this).symm⟩)
        clear hc hoa hneg
        obtain ⟨rfl, rfl⟩ := HE.out
        go_wp2_with fail
        refine (num_any10 (sB a) 0 255 0 false _ has HNUM.out).mono ?_
        rintro e w2 ⟨rfl, rfl⟩
        go_wp2
        go_ret2
        exact ⟨rfl, HB1.out⟩
      · have HNUM := Lib.hid (show numA (sB a).data.toList 0 255 = ((d : Int), true) by rw [sB_data, numA_oct, hoa])
        have HD := Lib.hid hd
        have HOD := Lib.hid hod
        have e8 := shl8C HN2.out
        have e9 := or8C HN2.out hd
        obtain ⟨m, hm⟩ : ∃ m, 256 * n = m := ⟨_, rfl⟩
        obtain ⟨n2, hn2⟩ : ∃ k, 256 * n + d = k := ⟨_, rfl⟩
        rw [hn2] at e9
        rw [hm] at e8 e9
        have HM := Lib.hid hn2
        have HMB := Lib.hid (show n2 < 4294967296 by have := HN2.out; omega)
        have hmb : m < 4294967296 := by have := HN2.out; omega
        clear hd hod hoa hm hn2
        by_cases hy0 : y = 0
        · subst hy0
          cases f with
          | true =>
            have HE := Lib.hid (show z = 0 ∧ ok = false by
              have e : N.ipL l = -1 := HI.out.wrong (by omega) (by rw [(cut_true hc).1, List.length_cons]; have := split_pos 46 b; omega)
              have := HZ.out
              rw [e] at this
              exact ⟨(congrArg Prod.fst this).symm, (congrArg Prod.snd this).symm⟩)
            clear hc
            obtain ⟨rfl, rfl⟩ := HE.out
            go_wp2_with fail
            refine (num_any10 (sB a) 0 255 (d : Int) true _ has HNUM.out).mono ?_
            rintro e w2 ⟨rfl, rfl⟩
            go_wp2
            go_ret2
            exact ⟨rfl, HB1.out⟩
          | false =>
            have HI2 := Lib.hid (show IpAt l 0 (L ++ [a]) b n2 by rw [← HM.out]; exact HI.out.next HOD.out (.inr ⟨rfl, (cut_false hc).1⟩))
            clear hc
            go_wp2_with fail
            refine (num_any10 (sB a) 0 255 (d : Int) true _ has HNUM.out).mono ?_
            rintro e w2 ⟨rfl, rfl⟩
            go_wp2
            go_roundg 0
            case rel => exact ⟨L ++ [a], b, n2, -1, (by show _ = _; rfl), by go_num, by go_num, by go_num, HAB.out.2, HI2.out, HMB.out, HB1.out⟩
            case measure => omega
        · have c2 : decide ((0 : Int) < (y : Int)) = true := decide_eq_true (by omega)
          have c2b : decide (0 < y) = true := decide_eq_true (by omega)
          cases f with
          | false =>
            have HE := Lib.hid (show z = 0 ∧ ok = false by
              have e : N.ipL l = -1 := HI.out.wrong (by omega) (by rw [(cut_false hc).1, List.length_singleton]; omega)
              have := HZ.out
              rw [e] at this
              exact ⟨(congrArg Prod.fst this).symm, (congrArg Prod.snd this).symm⟩)
            clear hc
            obtain ⟨rfl, rfl⟩ := HE.out
            go_wp2_with fail
            refine (num_any10 (sB a) 0 255 (d : Int) true _ has HNUM.out).mono ?_
            rintro e w2 ⟨rfl, rfl⟩
            go_wp2
            go_ret2
            exact ⟨rfl, HB1.out⟩
          | true =>
            have HI2 := Lib.hid (show IpAt l y (L ++ [a]) b n2 by rw [← HM.out]; exact HI.out.next HOD.out (.inl ⟨by omega, (cut_true hc).1⟩))
            obtain ⟨y1, hy1⟩ : ∃ k, y - 1 = k := ⟨_, rfl⟩
            have HYP := Lib.hid (show (y1 : Int) + 1 = (y : Int) by omega)
            have e7 : (y : Int) - 1 = (y1 : Int) := by omega
            have hy1b : y1 ≤ 4 := by have := HI.out.len; omega
            clear hy1
            clear hc
            go_wp2_with fail
            refine (num_any10 (sB a) 0 255 (d : Int) true _ has HNUM.out).mono ?_
            rintro e w2 ⟨rfl, rfl⟩
            go_wp2
            go_roundg y
            case rel => exact ⟨L ++ [a], b, n2, (y1 : Int), HYP.out, by go_num, by go_num, by go_num, HAB.out.2, HI2.out, HMB.out, HB1.out⟩
            case measure => omega
    · have c1 : decide ((0 : Int) ≤ y0) = false := decide_eq_false hy
      obtain rfl : gk = 0 := by have := HY.out; omega
      have HE := Lib.hid (show z = (n : Int) ∧ ok = true by
        have := HZ.out
        rw [HI.out.all, okA_nat] at this
        exact ⟨(congrArg Prod.fst this).symm, (congrArg Prod.snd this).symm⟩)
      obtain ⟨rfl, rfl⟩ := HE.out
      go_wp2
      go_ret2
      exact ⟨rfl, hbr⟩
set_option maxRecDepth 100000 in
set_option maxHeartbeats 2000000 in
theorem in_any10 (n bits ip : Int) (r : Bool) (w : World) (hn : I64 n) (hb : I64 bits) (hi : I64 ip) (hr : N.inB n bits ip = r) : Calls Tryd.prog 102 #[.int .i64 n, .int .i64 bits, .int .i64 ip] w (fun e w' => e = .returned (.bool r) ∧ Below w.heap.size w w') := by
  obtain ⟨q, hq⟩ : ∃ q, N.rightB n bits = q := ⟨_, rfl⟩
  have HQ := Lib.hid hq
  cases q with
  | false =>
    have HE := Lib.hid (show false = r by rw [← hr]; unfold N.inB; rw [hq]; rfl)
    clear hr hq hn hb hi
    go_enter Tryd.func102, Tryd.ntmps102
    go_wp2
    go_quiet (first | (go_at_call 73; exact Calls.quiet_of_same (calls_sym (isPref_any10 _ _ _ _ HQ.out))) | (go_at_call 92; exact Calls.quiet_of_same (calls_sym (belowIP 0 true _ rfl))))
    go_wp2
    go_ret
    exact ⟨by rw [← HE.out]; rfl, below_drawn10 (Below.refl _ _) _⟩
  | true =>
    obtain ⟨g1, g2, g3, g4⟩ := right_nums hq
    obtain ⟨v, hv⟩ : ∃ v, (decide (0 ≤ ip) && decide (ip < 4294967296)) = v := ⟨_, rfl⟩
    have HV := Lib.hid hv
    cases v with
    | false =>
      have HE := Lib.hid (show false = r by rw [← hr]; unfold N.inB; rw [hq, Bool.true_and, hv]; rfl)
      clear hr hq hn hb hi hv g1 g2 g3 g4
      go_enter Tryd.func102, Tryd.ntmps102
      go_wp2
      go_quiet (first | (go_at_call 73; exact Calls.quiet_of_same (calls_sym (isPref_any10 _ _ _ _ HQ.out))) | (go_at_call 92; exact Calls.quiet_of_same (calls_sym (belowIP _ _ _ HV.out))))
      go_wp2
      go_ret
      exact ⟨by rw [← HE.out]; rfl, below_drawn10 (Below.refl _ _) _⟩
    | true =>
      have hv2 := hv
      rw [Bool.and_eq_true, decide_eq_true_eq, decide_eq_true_eq] at hv2
      obtain ⟨nn, rfl⟩ := Int.eq_ofNat_of_zero_le g1
      obtain ⟨ii, rfl⟩ := Int.eq_ofNat_of_zero_le hv2.1
      obtain ⟨k, hk⟩ : ∃ k : Nat, (32 - bits).toNat = k := ⟨_, rfl⟩
      have hk2 : 32 - bits = (k : Int) := by omega
      have hk3 : k ≤ 32 := by omega
      obtain ⟨p, hp⟩ : ∃ p, 2 ^ k = p := ⟨_, rfl⟩
      obtain ⟨qi, hqi⟩ : ∃ q, ii / p = q := ⟨_, rfl⟩
      obtain ⟨qn, hqn⟩ : ∃ q, nn / p = q := ⟨_, rfl⟩
      have d1 : (ii : Int) / (2 : Int) ^ k = (qi : Int) := by rw [← hqi, ← hp, Int.natCast_ediv, Int.natCast_pow]; rfl
      have d2 : (nn : Int) / (2 : Int) ^ k = (qn : Int) := by rw [← hqn, ← hp, Int.natCast_ediv, Int.natCast_pow]; rfl
      have sb : IntKind.i64.wrap (32 - bits) = (k : Int) := by rw [hk2]; rw [IntKind.wrap_i64]; omega
      have HF := Lib.hid (show ((ii : Int) / 2 ^ min k 64 == (nn : Int) / 2 ^ min k 64) = r by
        rw [← hr, show min k 64 = k by omega, d1, d2]; unfold N.inB
        rw [hq, decide_eq_true hv2.1, decide_eq_true hv2.2, hk, hp]
        show _ = decide ((ii : Int) / (p : Int) = (nn : Int) / (p : Int))
        rw [← Int.natCast_ediv, ← Int.natCast_ediv, hqi, hqn, Bool.eq_iff_iff, decide_eq_true_eq, beq_iff_eq])
      clear d1 d2 hr hq hqi hqn hk hp hk2 hk3 hv hv2 hn hb hi g1 g2 g3 g4
      go_enter Tryd.func102, Tryd.ntmps102
      go_wp2
      go_quiet (first | (go_at_call 73; exact Calls.quiet_of_same (calls_sym (isPref_any10 _ _ _ _ HQ.out))) | (go_at_call 92; exact Calls.quiet_of_same (calls_sym (belowIP _ _ _ HV.out))))
      go_wp2
      go_ret
      exact ⟨by rw [← HF.out]; rfl, below_drawn10 (Below.refl _ _) _⟩
/-- The prefix of a text, from its cut. -/
theorem pref_of {l a b : List UInt8} {f : Bool} (h : CutIs 47 l a b f) : N.prefL l = if N.rightB (N.ipL a) (N.numL b) = true then (N.ipL a, N.numL b) else (-1, 0) := by
  cases f with
  | false =>
    obtain ⟨e, _⟩ := cut_false h
    obtain rfl : b = [] := by
      rcases h with ⟨_, _, e, _⟩ | ⟨e, _⟩
      · exact e
      · cases e
    have hn : N.numL [] = -1 := rfl
    have hr : N.rightB (N.ipL a) (N.numL []) = false := by
      rw [hn]; unfold N.rightB; rw [decide_eq_false (show ¬ (0 : Int) ≤ -1 by omega), Bool.and_false, Bool.false_and, Bool.false_and]
    unfold N.prefL
    rw [e, hr]
    rfl
  | true =>
    obtain ⟨e, _⟩ := cut_true h
    unfold N.prefL
    rw [e]
    by_cases hm : (47 : UInt8) ∈ b
    · have hn : N.numL b = -1 := num_bad hm (by decide)
      have hr : N.rightB (N.ipL a) (N.numL b) = false := by
        rw [hn]; unfold N.rightB; rw [decide_eq_false (show ¬ (0 : Int) ≤ -1 by omega), Bool.and_false, Bool.false_and, Bool.false_and]
      rw [hr]
      split
      · rename_i x y hxy
        injection hxy with h1 h2
        rcases N.index_cases b 47 with ⟨_, h3⟩ | ⟨i, _, _, h4, h5⟩
        · exact absurd hm h3
        · rw [N.split_hit h4 h5] at h2
          injection h2 with h2 h6
          exact absurd h6 (N.split_ne _ _)
      · rfl
    · rw [N.split_one hm]
theorem prefA_none {l : List UInt8} (h : N.prefL l = (-1, 0)) : prefA l = (0, 0, false) := by unfold prefA; rw [h]; rfl
theorem not_right {n b : Int} (h : n < 0 ∨ b < 0 ∨ 32 < b) : N.rightB n b = false := by
  cases hr : N.rightB n b with
  | false => rfl
  | true => have := right_nums hr; omega
set_option maxRecDepth 100000 in
set_option maxHeartbeats 2000000 in
theorem pref_any10 (s : ByteArray) (n b : Int) (ok : Bool) (w : World) (hs : s.size ≤ 100) (hz : prefA s.data.toList = (n, b, ok)) : Calls Tryd.prog 45 #[.string s] w (fun e w' => e = .returned (.tuple #[.int .i64 n, .int .i64 b, .bool ok]) ∧ Below w.heap.size w w') := by
  have hsz : s.data.toList.length = s.size := by simp
  have HL := Lib.hid (show s.data.toList.length ≤ 100 by rw [hsz]; exact hs)
  have HZ := Lib.hid hz
  have hs2 : s.size ≤ 1073741824 := by omega
  clear hz hsz
  go_enter Tryd.func45, Tryd.ntmps45
  go_wp2_with fail
  refine (cut_any10 s 47 _ hs2).mono ?_
  rintro e w1 ⟨⟨x, y, f, rfl, hc⟩, hb1⟩
  have HAB := Lib.hid (hc.small HL.out)
  have HP := Lib.hid (pref_of hc)
  have HB1 := Lib.hid hb1
  have hxs : (sB x).size ≤ 100 := by rw [sB_size]; exact HAB.out.1
  have hys : (sB y).size ≤ 1073741824 := by rw [sB_size]; have := HAB.out.2; omega
  clear hb1 hc hs hs2
  rcases N.ip_cases x with hi | ⟨ni, hi, hi2, _⟩
  · have HI := Lib.hid (show okA (N.ipL (sB x).data.toList) = (0, false) by rw [sB_data, hi]; rfl)
    have HE := Lib.hid (show n = 0 ∧ b = 0 ∧ ok = false by
      have := HZ.out
      rw [prefA_none (by rw [HP.out, not_right (.inl (by omega)), if_neg (by decide)])] at this
      exact ⟨(congrArg Prod.fst this).symm, (congrArg (fun q => q.2.1) this).symm, (congrArg (fun q => q.2.2) this).symm⟩)
    obtain ⟨rfl, rfl, rfl⟩ := HE.out
    obtain ⟨zn, okn, hnum⟩ : ∃ zn okn, numA (sB y).data.toList 0 32 = (zn, okn) := ⟨_, _, rfl⟩
    have HNUM := Lib.hid hnum
    clear hi hnum
    go_wp2_with fail
    refine (ip_any10 (sB x) 0 false _ hxs HI.out).mono ?_
    rintro e w2 ⟨rfl, hx⟩
    have HB2 := Lib.hid (bthen HB1.out hx)
    clear hx
    go_wp2_with fail
    refine (num_any10 (sB y) 0 32 zn okn _ hys HNUM.out).mono ?_
    rintro e w3 ⟨rfl, rfl⟩
    go_wp2
    go_ret3
    exact ⟨rfl, HB2.out⟩
  · have HI := Lib.hid (show okA (N.ipL (sB x).data.toList) = ((ni : Int), true) by rw [sB_data, hi, okA_nat])
    rcases N.num_cases y with hn | ⟨k, hn, _, _⟩
    · have HNUM := Lib.hid (show numA (sB y).data.toList 0 32 = (0, false) by rw [sB_data]; unfold numA; rw [hn]; rfl)
      have HE := Lib.hid (show n = 0 ∧ b = 0 ∧ ok = false by
        have := HZ.out
        rw [prefA_none (by rw [HP.out, not_right (.inr (.inl (by omega))), if_neg (by decide)])] at this
        exact ⟨(congrArg Prod.fst this).symm, (congrArg (fun q => q.2.1) this).symm, (congrArg (fun q => q.2.2) this).symm⟩)
      obtain ⟨rfl, rfl, rfl⟩ := HE.out
      clear hi hi2 hn
      go_wp2_with fail
      refine (ip_any10 (sB x) (ni : Int) true _ hxs HI.out).mono ?_
      rintro e w2 ⟨rfl, hx⟩
      have HB2 := Lib.hid (bthen HB1.out hx)
      clear hx
      go_wp2_with fail
      refine (num_any10 (sB y) 0 32 0 false _ hys HNUM.out).mono ?_
      rintro e w3 ⟨rfl, rfl⟩
      go_wp2
      go_ret3
      exact ⟨rfl, HB2.out⟩
    · by_cases hk : k ≤ 32
      · have HNUM := Lib.hid (show numA (sB y).data.toList 0 32 = ((k : Int), true) by rw [sB_data]; unfold numA; rw [hn, if_pos (by omega)])
        obtain ⟨v, hv⟩ : ∃ v, N.rightB (ni : Int) (k : Int) = v := ⟨_, rfl⟩
        have HV := Lib.hid hv
        cases v with
        | false =>
          have HE := Lib.hid (show n = 0 ∧ b = 0 ∧ ok = false by
            have := HZ.out
            rw [prefA_none (by rw [HP.out, hi, hn, hv, if_neg (by decide)])] at this
            exact ⟨(congrArg Prod.fst this).symm, (congrArg (fun q => q.2.1) this).symm, (congrArg (fun q => q.2.2) this).symm⟩)
          obtain ⟨rfl, rfl, rfl⟩ := HE.out
          clear hi hi2 hn hv hk
          go_wp2_with fail
          refine (ip_any10 (sB x) (ni : Int) true _ hxs HI.out).mono ?_
          rintro e w2 ⟨rfl, hx⟩
          have HB2 := Lib.hid (bthen HB1.out hx)
          clear hx
          go_wp2_with fail
          refine (num_any10 (sB y) 0 32 (k : Int) true _ hys HNUM.out).mono ?_
          rintro e w3 ⟨rfl, rfl⟩
          go_wp2_with fail
          refine (isPref_any10 _ _ false _ HV.out).mono ?_
          rintro e w4 ⟨rfl, rfl⟩
          go_wp2
          go_ret3
          exact ⟨rfl, HB2.out⟩
        | true =>
          have HE := Lib.hid (show n = (ni : Int) ∧ b = (k : Int) ∧ ok = true by
            have := HZ.out
            unfold prefA at this
            rw [HP.out, hi, hn, hv, if_pos rfl, if_pos (show (0 : Int) ≤ (ni : Int) by omega)] at this
            exact ⟨(congrArg Prod.fst this).symm, (congrArg (fun q => q.2.1) this).symm, (congrArg (fun q => q.2.2) this).symm⟩)
          obtain ⟨rfl, rfl, rfl⟩ := HE.out
          clear hi hi2 hn hv hk
          go_wp2_with fail
          refine (ip_any10 (sB x) (ni : Int) true _ hxs HI.out).mono ?_
          rintro e w2 ⟨rfl, hx⟩
          have HB2 := Lib.hid (bthen HB1.out hx)
          clear hx
          go_wp2_with fail
          refine (num_any10 (sB y) 0 32 (k : Int) true _ hys HNUM.out).mono ?_
          rintro e w3 ⟨rfl, rfl⟩
          go_wp2_with fail
          refine (isPref_any10 _ _ true _ HV.out).mono ?_
          rintro e w4 ⟨rfl, rfl⟩
          go_wp2
          go_ret3
          exact ⟨rfl, HB2.out⟩
      · have HNUM := Lib.hid (show numA (sB y).data.toList 0 32 = (0, false) by rw [sB_data]; unfold numA; rw [hn, if_neg (by omega)])
        have HE := Lib.hid (show n = 0 ∧ b = 0 ∧ ok = false by
          have := HZ.out
          rw [prefA_none (by rw [HP.out, not_right (.inr (.inr (by omega))), if_neg (by decide)])] at this
          exact ⟨(congrArg Prod.fst this).symm, (congrArg (fun q => q.2.1) this).symm, (congrArg (fun q => q.2.2) this).symm⟩)
        obtain ⟨rfl, rfl, rfl⟩ := HE.out
        clear hi hi2 hn hk
        go_wp2_with fail
        refine (ip_any10 (sB x) (ni : Int) true _ hxs HI.out).mono ?_
        rintro e w2 ⟨rfl, hx⟩
        have HB2 := Lib.hid (bthen HB1.out hx)
        clear hx
        go_wp2_with fail
        refine (num_any10 (sB y) 0 32 0 false _ hys HNUM.out).mono ?_
        rintro e w3 ⟨rfl, rfl⟩
        go_wp2
        go_ret3
        exact ⟨rfl, HB2.out⟩
end Go.Proofs.YtikjdjfpoohieaaDoor

namespace Go.Proofs.YtikjdjfpoohieaaDoor
open Go.RowKit
set_option linter.unusedVariables false

theorem shl4C {n : Nat} (h : n < 281474976710656) : (n : Int) * 16 = ((16 * n : Nat) : Int) := by omega
theorem or4C {n b : Nat} (h : n < 281474976710656) (hb : b < 16) : Go.bits .or .i64 ((16 * n : Nat) : Int) (b : Int) = ((16 * n + b : Nat) : Int) := by
  have h1 : 16 * n + b < 9223372036854775808 := by omega
  exact N.or_low n b 4 16 rfl hb h1
theorem hexStr : (⟨#[48, 49, 50, 51, 52, 53, 54, 55, 56, 57, 97, 98, 99, 100, 101, 102]⟩ : ByteArray).data.toList = N.hexDigs := rfl
/-- Digits of a hardware address on the way: 12 at most of the 17 bytes. -/
theorem run_lt2 : ∀ (l : List UInt8) (i n m : Nat), N.macRun i n l = some m → m < (n + 1) * 16 ^ (l.length - (l.length + i % 3) / 3)
  | [], i, n, m, h => by
    obtain rfl : n = m := Option.some.inj h
    have hp : 0 < 16 ^ (([] : List UInt8).length - (([] : List UInt8).length + i % 3) / 3) := Nat.pow_pos (by omega)
    have := Nat.mul_le_mul_left (n + 1) hp
    omega
  | c :: r, i, n, m, h => by
    by_cases h3 : i % 3 = 2
    · obtain ⟨_, e⟩ := N.run_colon h3 h
      have h1 := run_lt2 r (i + 1) n m e
      have e2 : r.length - (r.length + (i + 1) % 3) / 3 = (c :: r).length - ((c :: r).length + i % 3) / 3 := by rw [List.length_cons]; omega
      rw [e2] at h1
      exact h1
    · obtain ⟨d, hd, _, e⟩ := N.run_digit h3 h
      have h1 := run_lt2 r (i + 1) (16 * n + d) m e
      have e2 : (c :: r).length - ((c :: r).length + i % 3) / 3 = (r.length - (r.length + (i + 1) % 3) / 3) + 1 := by rw [List.length_cons]; omega
      rw [e2, Nat.pow_succ, Nat.mul_comm (16 ^ _) 16, ← Nat.mul_assoc]
      have h2 : (16 * n + d + 1) * 16 ^ (r.length - (r.length + (i + 1) % 3) / 3) ≤ (n + 1) * 16 * 16 ^ (r.length - (r.length + (i + 1) % 3) / 3) := Nat.mul_le_mul_right _ (by omega)
      omega
theorem run_small {l : List UInt8} {m : Nat} (hl : l.length ≤ 17) (h : N.macRun 0 0 l = some m) : m < 281474976710656 := by
  have h1 := run_lt2 l 0 0 m h
  have h2 : 16 ^ (l.length - (l.length + 0 % 3) / 3) ≤ 16 ^ 12 := Nat.pow_le_pow_right (by omega) (by omega)
  have h3 : 16 ^ 12 = 281474976710656 := rfl
  rw [h3] at h2
  omega
set_option maxRecDepth 100000 in
set_option maxHeartbeats 4000000 in
theorem mac_any10 (s : ByteArray) (z : Int) (ok : Bool) (w : World) (hz : okA (N.macL s.data.toList) = (z, ok)) : Calls Tryd.prog 46 #[.string s] w (fun e w' => e = .returned (.tuple #[.int .i64 z, .bool ok]) ∧ w = w') := by
  have hsz : s.data.toList.length = s.size := by simp
  by_cases h17 : s.size = 17
  · have b1 : ((s.size : Int) == 17) = true := by simp; omega
    have b1b : (s.size == 17) = true := by simp; omega
    have b1c : ((s.size : Int) != 17) = false := by simp; omega
    have HSZ := Lib.hid (show s.data.toList.length = 17 by rw [hsz]; exact h17)
    have HZ := Lib.hid hz
    have H17 := Lib.hid h17
    clear hz hsz h17
    go_enter Tryd.func46, Tryd.ntmps46
    go_wp2
    go_loopg [4, 5] 17 (fun gk vn vi wr => ∃ (k n : Nat), Hid (k + gk = 17) ∧ vi = .int .i64 (k : Int) ∧ vn = .int .i64 (n : Int) ∧ Hid (N.macRun 0 0 (s.data.toList.take k) = some n) ∧ w = wr)
    case atStart => exact ⟨0, 0, (by show _ = _; rfl), rfl, rfl, rfl, rfl⟩
    case round =>
      obtain ⟨k, n, HG, rfl, rfl, HR, rfl⟩ := hrel
      have hgk := HG.out
      by_cases hlt : k < s.size
      · have blt : decide ((k : Int) < (s.size : Int)) = true := decide_eq_true (by omega)
        have blt2 : decide (k < s.size) = true := decide_eq_true hlt
        have hki : (k : Int) < (s.size : Int) := by omega
        have hx := s[k].toNat_lt
        have hk17 : k < 17 := by have := H17.out; omega
        have hll : k < s.data.toList.length := by rw [HSZ.out]; exact hk17
        have hget : s.data.toList[k] = s[k] := rfl
        have HN := Lib.hid (run_small (by rw [List.length_take]; omega) HR.out)
        by_cases hm : k % 3 = 2
        · have e1 : Int.tmod (k : Int) 3 = 2 := by rw [Int.tmod_eq_emod_of_nonneg (by omega)]; omega
          by_cases hc : s[k] = 58
          · have b2 : ((s[k].toNat : Int) == 58) = true := by rw [hc]; rfl
            have HS := Lib.hid (N.run_snoc hll HR.out (show N.macStep k n s.data.toList[k] = some n by rw [N.mac_colon hm, hget, if_pos hc]))
            clear hc hm hget
            go_wp2
            go_roundg (17 - (k + 1))
            case rel => exact ⟨k + 1, n, (by show _ = _; omega), by go_num, by go_num, HS.out, rfl⟩
            case measure => omega
          · have hne : s[k].toNat ≠ 58 := fun e => hc (UInt8.toNat_inj.1 e)
            have b2 : ((s[k].toNat : Int) == 58) = false := by simp; omega
            have HE := Lib.hid (show z = 0 ∧ ok = false by
              have := HZ.out
              rw [N.run_none_at hll HR.out (by rw [N.mac_colon hm, hget, if_neg hc])] at this
              exact ⟨(congrArg Prod.fst this).symm, (congrArg Prod.snd this).symm⟩)
            obtain ⟨rfl, rfl⟩ := HE.out
            clear hc hm hget hne
            go_wp2
            go_ret2
            exact ⟨rfl, rfl⟩
        · have hmi : Int.tmod (k : Int) 3 = ((k % 3 : Nat) : Int) := by rw [Int.tmod_eq_emod_of_nonneg (by omega)]; omega
          obtain ⟨m3, hm3⟩ : ∃ m, k % 3 = m := ⟨_, rfl⟩
          rw [hm3] at hmi
          have b2 : ((m3 : Int) == 2) = false := beq_eq_false_iff_ne.2 (by omega)
          have b2b : (m3 == 2) = false := beq_eq_false_iff_ne.2 (by omega)
          have HIX := Lib.hid (show Lib.indexByte (⟨#[48, 49, 50, 51, 52, 53, 54, 55, 56, 57, 97, 98, 99, 100, 101, 102]⟩ : ByteArray).data.toList s[k] = N.hexV s[k] by rw [hexStr]; exact N.hex_index _)
          rcases N.hex_cases s[k] with hh | ⟨d, hh, hd, _⟩
          · have HV := Lib.hid (HIX.out.trans hh)
            have HE := Lib.hid (show z = 0 ∧ ok = false by
              have := HZ.out
              rw [N.run_none_at hll HR.out (by rw [N.mac_digit hm, hget, if_pos (by omega)])] at this
              exact ⟨(congrArg Prod.fst this).symm, (congrArg Prod.snd this).symm⟩)
            obtain ⟨rfl, rfl⟩ := HE.out
            clear hm hget hh hm3
            go_wp2_with fail
            refine (indexByte_any _ _ _).mono ?_
            rintro e w1 ⟨rfl, rfl⟩
            rw [HV.out]
            go_wp2
            go_ret2
            exact ⟨rfl, rfl⟩
          · have HV := Lib.hid (HIX.out.trans hh)
            have HS := Lib.hid (N.run_snoc hll HR.out (show N.macStep k n s.data.toList[k] = some (16 * n + d) by rw [N.mac_digit hm, hget, hh, if_neg (by omega), Int.toNat_natCast]))
            have e8 := shl4C HN.out
            have e9 := or4C HN.out hd
            obtain ⟨m, hmm⟩ : ∃ m, 16 * n = m := ⟨_, rfl⟩
            obtain ⟨n2, hn2⟩ : ∃ k, 16 * n + d = k := ⟨_, rfl⟩
            have HN2 := Lib.hid hn2
            have hmb : m < 4503599627370496 := by have := HN.out; omega
            rw [hn2] at e9
            rw [hmm] at e8 e9
            clear hm hget hh hm3 hd hn2 hmm
            go_wp2_with fail
            refine (indexByte_any _ _ _).mono ?_
            rintro e w1 ⟨rfl, rfl⟩
            rw [HV.out]
            go_wp2
            go_roundg (17 - (k + 1))
            case rel => exact ⟨k + 1, n2, (by show _ = _; omega), by go_num, by go_num, by rw [← HN2.out]; exact HS.out, rfl⟩
            case measure => omega
      · have blt : decide ((k : Int) < (s.size : Int)) = false := decide_eq_false (by omega)
        have blt2 : decide (k < s.size) = false := decide_eq_false hlt
        have HE := Lib.hid (show z = (n : Int) ∧ ok = true by
          have h1 := HR.out
          rw [List.take_of_length_le (by rw [HSZ.out]; have := H17.out; omega)] at h1
          have := HZ.out
          rw [N.run_mac HSZ.out h1, okA_nat] at this
          exact ⟨(congrArg Prod.fst this).symm, (congrArg Prod.snd this).symm⟩)
        obtain ⟨rfl, rfl⟩ := HE.out
        go_wp2
        go_ret2
        exact ⟨rfl, rfl⟩
  · have b1 : ((s.size : Int) == 17) = false := by simp; omega
    have b1b : (s.size == 17) = false := by simp; omega
    rw [N.mac_short (by rw [hsz]; exact h17)] at hz
    have HE := Lib.hid (show z = 0 ∧ ok = false from ⟨(congrArg Prod.fst hz).symm, (congrArg Prod.snd hz).symm⟩)
    obtain ⟨rfl, rfl⟩ := HE.out
    clear hz hsz h17
    go_enter Tryd.func46, Tryd.ntmps46
    go_wp2
    go_ret2
    exact ⟨rfl, rfl⟩
-- TEXTS
end Go.Proofs.YtikjdjfpoohieaaDoor

namespace Go.Proofs.YtikjdjfpoohieaaDoor
open Go.ChangeShapes Go.WideShapes Go.ChangeAt Go.RowKit
open F
set_option linter.unusedVariables false

def Wd (l : List Nat) : Prop := ∀ x ∈ l, x < 18446744073709551616
end Go.Proofs.YtikjdjfpoohieaaDoor

namespace Go.Proofs.YtikjdjfpoohieaaDoor
namespace F
open Ieee
open T (decL decL_small decL_big decL_len)
open N (digB valL val_snoc)
set_option linter.unusedVariables false

/-- The sign, set. -/
theorem sign_set {x : Nat} (h : x < 9223372036854775808) : negW x = x + 9223372036854775808 := by
  obtain ⟨a, b, c⟩ := neg_parts (x := x) (by omega)
  have e : negB x = false := decide_eq_false (by omega)
  have e2 : rung x = x := Nat.mod_eq_of_lt h
  rw [e2] at a
  rw [e] at b
  have b2 : 9223372036854775808 ≤ negW x := of_decide_eq_true b
  unfold rung at a
  omega

/-- Digits, one or more, up to so many. -/
def digsB (l : List UInt8) (k : Nat) : Bool := !l.isEmpty && decide (l.length ≤ k) && l.all digB
def wholeB (a : List UInt8) : Bool := digsB a 6 && (decide (a = [48]) || decide (a.head? ≠ some 48))
def partB (b : List UInt8) : Bool := digsB b 3 && decide (b.getLast? ≠ some 48)
theorem int_whole (a : List UInt8) : (intOk a && a.all digB) = wholeB a := by
  unfold wholeB digsB intOk
  rcases a with _ | ⟨c, a⟩
  · rfl
  · cases h : (c :: a).all digB
    · simp
    · rcases a with _ | ⟨d, a⟩
      · simp
      · by_cases e : c = 48 <;> simp [e]
theorem part_frac (b : List UInt8) : fracOk (46 :: b) = partB b := by
  have e : fracOk (46 :: b) = (decide ((46 : UInt8) = 46) && !b.isEmpty && decide (b.getLast? ≠ some 48) && decide (b.length ≤ 3) && b.all digB) := rfl
  rw [e]
  unfold partB digsB
  generalize b.isEmpty = x; generalize b.all digB = y; generalize decide (b.getLast? ≠ some 48) = z; generalize decide (b.length ≤ 3) = u
  cases x <;> cases y <;> cases z <;> cases u <;> rfl
theorem dig_46 : digB 46 = false := by decide
theorem drop_bad (l : List UInt8) (h : l.all digB = false) : ∃ p c f, l = p ++ c :: f ∧ (∀ x ∈ p, digB x = true) ∧ digB c = false := by
  induction l with
  | nil => simp at h
  | cons x l ih =>
    cases hx : digB x
    · exact ⟨[], x, l, rfl, by simp, hx⟩
    · rw [List.all_cons, hx, Bool.true_and] at h
      obtain ⟨p, c, f, rfl, hp, hc⟩ := ih h
      exact ⟨x :: p, c, f, rfl, fun y hy => (List.mem_cons.1 hy).elim (fun e => e ▸ hx) (fun hy => hp y hy), hc⟩
theorem frac_bad {c : UInt8} (f : List UInt8) (h : c ≠ 46) : fracOk (c :: f) = false := by
  have e : fracOk (c :: f) = (decide (c = 46) && !f.isEmpty && decide (f.getLast? ≠ some 48) && decide (f.length ≤ 3) && f.all digB) := rfl
  rw [e, decide_eq_false h]; rfl
/-- A text without its sign, by what stands ahead of the first point and behind it. -/
theorem tho_cut {l a b : List UInt8} {f : Bool} (h : (f = false ∧ a = l ∧ b = [] ∧ (46 : UInt8) ∉ l) ∨ (f = true ∧ l = a ++ 46 :: b ∧ (46 : UInt8) ∉ a)) :
    thoL l = if (wholeB a && (!f || partB b)) = true then some (valL (a ++ b) * 10 ^ (3 - b.length)) else none := by
  cases hd : a.all digB with
  | false =>
    have hw : wholeB a = false := by unfold wholeB digsB; rw [hd]; simp
    rw [hw, Bool.false_and, if_neg (by decide)]
    obtain ⟨p, c, g, e, hp, hc⟩ := drop_bad a hd
    have h46 : c ≠ 46 := by
      intro e2
      rcases h with ⟨_, e1, _, hn⟩ | ⟨_, _, hn⟩
      · exact hn (by rw [← e1, e, e2]; simp)
      · exact hn (by rw [e, e2]; simp)
    obtain ⟨r, er⟩ : ∃ r, l = p ++ c :: r := by
      rcases h with ⟨_, e1, _, _⟩ | ⟨_, e1, _⟩
      · exact ⟨g, by rw [← e1, e]⟩
      · exact ⟨g ++ 46 :: b, by rw [e1, e]; simp⟩
    rw [er, tho_is hp (.inr ⟨c, r, rfl, hc⟩), frac_bad r h46, Bool.and_false, if_neg (by decide)]
  | true =>
    have ha : ∀ c ∈ a, digB c = true := fun c hc => List.all_eq_true.1 hd c hc
    have hw := int_whole a
    rw [hd, Bool.and_true] at hw
    rcases h with ⟨rfl, rfl, rfl, _⟩ | ⟨rfl, e1, _⟩
    · have := tho_is ha (r := []) (.inl rfl)
      rw [List.append_nil] at this
      rw [this, hw]
      simp [fracOk]
    · rw [e1, tho_is ha (.inr ⟨46, b, rfl, dig_46⟩), hw, part_frac]
      simp
end F
end Go.Proofs.YtikjdjfpoohieaaDoor

namespace Go.Proofs.YtikjdjfpoohieaaDoor
open Go.RowKit
open F
set_option linter.unusedVariables false

theorem F.clear_sign {x : Nat} (hx : x < 18446744073709551616) : bits .andNot .u64 (x : Int) 9223372036854775808 = ((rung x : Nat) : Int) := by
  have h := u64_andNot_nat x 9223372036854775808 hx (by omega)
  have e : x &&& (18446744073709551615 - 9223372036854775808) = rung x := by
    show x &&& (2 ^ 63 - 1) = x % 2 ^ 63
    exact Nat.and_two_pow_sub_one_eq_mod x 63
  rw [e] at h
  exact h
/-- The sign of -1, on a number without it. -/
theorem copysign_neg (x q : Nat) (w : World) (hx : x < 9223372036854775808) (hq : negW x = q) : Calls Tryd.prog 80 #[.float .f64 x, .float .f64 13830554455654793216] w (Yes w (.float .f64 q)) := by
  have HB := Lib.hid (ext_bits x w)
  have HB2 := Lib.hid (ext_bits 13830554455654793216 w)
  have HF := Lib.hid (ext_from q w)
  have HC := Lib.hid ((clear_sign (x := x) (by omega)).trans (show ((rung x : Nat) : Int) = (x : Int) by unfold rung; rw [Nat.mod_eq_of_lt hx]))
  have c2 : bits .and .u64 13830554455654793216 9223372036854775808 = 9223372036854775808 := by decide +kernel
  have HO : Hid (bits .or .u64 (x : Int) 9223372036854775808 = (q : Int)) := by
    refine Lib.hid ?_
    have h := bits_or_u64_nat x 9223372036854775808 (by omega) (by omega)
    refine h.trans ?_
    rw [← hq, sign_set hx]
    have e : x ||| 2 ^ 63 * 1 = 2 ^ 63 * 1 + x := by
      rw [Nat.or_comm]
      exact (Nat.two_pow_add_eq_or_of_lt hx 1).symm
    rw [show (9223372036854775808 : Nat) = 2 ^ 63 * 1 from rfl, e, Nat.add_comm]
  clear hq hx
  go_enter Tryd.func80, Tryd.ntmps80
  have hB := HB.out
  have hB2 := HB2.out
  have hF := HF.out
  have hC := HC.out
  have hO := HO.out
  go_wp2
  go_ret
  exact ⟨rfl, rfl⟩
end Go.Proofs.YtikjdjfpoohieaaDoor

namespace Go.Proofs.YtikjdjfpoohieaaDoor
open Go.RowKit
open F
open N (digB valL val_snoc val_lt)
set_option linter.unusedVariables false

theorem F.digs_parts {l : List UInt8} {k : Nat} (h0 : l ≠ []) (h1 : l.length ≤ k) : digsB l k = l.all digB := by
  unfold digsB
  rw [decide_eq_true h1]
  cases l with
  | nil => exact absurd rfl h0
  | cons => rfl
theorem F.all_more {l : List UInt8} {i : Nat} {c : UInt8} (h : (l.take i).all digB = true) (hc : l[i]? = some c) (hd : digB c = true) : (l.take (i + 1)).all digB = true := by
  obtain ⟨h5, h6⟩ := List.getElem?_eq_some_iff.1 hc
  rw [List.take_succ_eq_append_getElem h5, h6, List.all_append, h, List.all_cons, hd]; rfl
theorem F.all_not {l : List UInt8} {i : Nat} {c : UInt8} (hc : l[i]? = some c) (hd : digB c = false) : l.all digB = false := by
  cases h : l.all digB with
  | false => rfl
  | true =>
    have := List.all_eq_true.1 h c (List.mem_of_getElem? hc)
    rw [hd] at this; cases this
set_option maxRecDepth 100000 in
theorem areDigits_any (s : ByteArray) (k : Nat) (r : Bool) (w : World) (hs : s.size ≤ 1000) (hk : k ≤ 100) (hr : digsB s.data.toList k = r) : Calls Tryd.prog 106 #[.string s, .int .i64 (k : Int)] w (Yes w (.bool r)) := by
  obtain ⟨n, hn⟩ : ∃ n, s.size = n := ⟨_, rfl⟩
  have hln : s.data.toList.length = n := by rw [← Lib.size_eq]; exact hn
  have HNS := Lib.hid hn
  by_cases h0 : n = 0
  · have e0 : s.data.toList = [] := List.eq_nil_of_length_eq_zero (by rw [hln]; exact h0)
    have b0 : (s.toList == []) = true := by rw [Lib.toList_data, e0]; rfl
    have b0a : s.toList = [] := by rw [Lib.toList_data, e0]
    have HR := Lib.hid (show r = false by rw [← hr, e0]; rfl)
    clear hr e0 hln h0 hn
    go_enter Tryd.func106, Tryd.ntmps106
    go_wp2
    go_ret
    exact ⟨by rw [HR.out]; rfl, rfl⟩
  have e0 : s.data.toList ≠ [] := fun e => h0 (by rw [← hln, e]; rfl)
  have b0 : (s.toList == []) = false := by rw [Lib.toList_data]; exact beq_eq_false_iff_ne.2 e0
  have b0a : ¬ s.toList = [] := by rw [Lib.toList_data]; exact e0
  by_cases h1 : k < n
  · have b1 : decide ((n : Int) > (k : Int)) = true := decide_eq_true (by omega)
    have b1a : decide ((k : Int) < (n : Int)) = true := decide_eq_true (by omega)
    have b1b : decide (k < n) = true := decide_eq_true h1
    have HR := Lib.hid (show r = false by rw [← hr]; unfold digsB; rw [decide_eq_false (by omega : ¬ s.data.toList.length ≤ k), Bool.and_false, Bool.false_and])
    clear hr e0 hln h0 h1
    go_enter Tryd.func106, Tryd.ntmps106
    go_wp2
    go_ret
    exact ⟨by rw [HR.out]; rfl, rfl⟩
  have b1 : decide ((n : Int) > (k : Int)) = false := decide_eq_false (by omega)
  have b1a : decide ((k : Int) < (n : Int)) = false := decide_eq_false (by omega)
  have b1b : decide (k < n) = false := decide_eq_false h1
  have HR := Lib.hid (show s.data.toList.all digB = r by rw [← hr, digs_parts e0 (by omega)])
  have HLN := Lib.hid hln
  have hn1000 : n ≤ 1000 := by omega
  clear hr e0 hln h0 h1
  go_enter Tryd.func106, Tryd.ntmps106
  go_wp2
  go_loopg [5] n (fun gk vi wr => ∃ i : Nat, Hid (i + gk = n) ∧ i ≤ n ∧ vi = .int .i64 (i : Int) ∧ Hid ((s.data.toList.take i).all digB = true) ∧ wr = w)
  case atStart => exact ⟨0, Nat.zero_add _, Nat.zero_le _, rfl, rfl, rfl⟩
  case round =>
    obtain ⟨i, HG, hi, rfl, HD, rfl⟩ := hrel
    by_cases hlt0 : i < n
    · have blt : decide ((i : Int) < (n : Int)) = true := decide_eq_true (by omega)
      have blt2 : decide (i < n) = true := decide_eq_true hlt0
      have hii : (i : Int) < (n : Int) := by omega
      have hlt : i < s.size := by rw [HNS.out]; exact hlt0
      have hgk := HG.out
      have HAT := Lib.hid (at_of s i hlt)
      by_cases hlo : s[i].toNat < 48
      · have c1 : decide ((s[i].toNat : Int) < 48) = true := decide_eq_true (by omega)
        have c1b : decide (s[i].toNat < 48) = true := decide_eq_true hlo
        have HE := Lib.hid (show r = false by rw [← HR.out]; exact all_not HAT.out (digB_not (.inl hlo)))
        clear hlo
        go_wp2
        go_ret
        exact ⟨by rw [HE.out]; rfl, rfl⟩
      have c1 : decide ((s[i].toNat : Int) < 48) = false := decide_eq_false (by omega)
      have c1b : decide (s[i].toNat < 48) = false := decide_eq_false hlo
      by_cases hhi : 57 < s[i].toNat
      · have c2 : decide ((s[i].toNat : Int) > 57) = true := decide_eq_true (by omega)
        have c2a : decide ((57 : Int) < (s[i].toNat : Int)) = true := decide_eq_true (by omega)
        have c2b : decide (57 < s[i].toNat) = true := decide_eq_true hhi
        have HE := Lib.hid (show r = false by rw [← HR.out]; exact all_not HAT.out (digB_not (.inr hhi)))
        clear hlo hhi
        go_wp2
        go_ret
        exact ⟨by rw [HE.out]; rfl, rfl⟩
      have c2 : decide ((s[i].toNat : Int) > 57) = false := decide_eq_false (by omega)
      have c2a : decide ((57 : Int) < (s[i].toNat : Int)) = false := decide_eq_false (by omega)
      have c2b : decide (57 < s[i].toNat) = false := decide_eq_false hhi
      have HD2 := Lib.hid (all_more HD.out HAT.out (digB_yes (by omega) (by omega)))
      clear hlo hhi
      go_wp2
      go_roundg (n - (i + 1))
      case rel => exact ⟨i + 1, (by show _ = _; omega), by omega, by go_num, HD2.out, rfl⟩
      case measure => omega
    · have blt : decide ((i : Int) < (n : Int)) = false := decide_eq_false (by omega)
      have blt2 : decide (i < n) = false := decide_eq_false hlt0
      obtain rfl : i = n := by omega
      have HE := Lib.hid (show r = true by rw [← HR.out, ← HD.out, List.take_of_length_le (by rw [HLN.out]; omega)])
      go_wp2
      go_ret
      exact ⟨by rw [HE.out]; rfl, rfl⟩
set_option maxRecDepth 100000 in
theorem isWhole_any (s : ByteArray) (r : Bool) (w : World) (hs : s.size ≤ 1000) (hr : wholeB s.data.toList = r) : Calls Tryd.prog 96 #[.string s] w (Yes w (.bool r)) := by
  have HS := Lib.hid hs
  cases hd : digsB s.data.toList 6 with
  | false =>
    have HD := Lib.hid hd
    have HR := Lib.hid (show r = false by rw [← hr]; unfold wholeB; rw [hd]; rfl)
    clear hr hd hs
    go_enter Tryd.func96, Tryd.ntmps96
    go_wp2_with fail
    refine (areDigits_any s 6 false _ HS.out (by omega) HD.out).mono ?_
    rintro e w1 ⟨rfl, rfl⟩
    go_wp2
    go_ret
    exact ⟨by rw [HR.out]; rfl, rfl⟩
  | true =>
    have HD := Lib.hid hd
    have h0 : s.data.toList ≠ [] := by
      intro e; rw [e] at hd; cases hd
    have hpos : 0 < s.size := by rw [Lib.size_eq]; exact List.length_pos_iff.2 h0
    have hposi : (0 : Int) < (s.size : Int) := by omega
    have hat := at_of s 0 hpos
    by_cases h1 : s.data.toList = [48]
    · have b1 : (s.toList == [48]) = true := by rw [Lib.toList_data, h1]; rfl
      have HR := Lib.hid (show r = true by rw [← hr]; unfold wholeB; rw [hd, h1]; rfl)
      clear hr hd hs h0 h1 hat
      go_enter Tryd.func96, Tryd.ntmps96
      go_wp2_with fail
      refine (areDigits_any s 6 true _ HS.out (by omega) HD.out).mono ?_
      rintro e w1 ⟨rfl, rfl⟩
      go_wp2
      go_ret
      exact ⟨by rw [HR.out]; rfl, rfl⟩
    · have b1 : (s.toList == [48]) = false := by rw [Lib.toList_data]; exact beq_eq_false_iff_ne.2 h1
      have hh : s.data.toList.head? = some s[0] := by rw [List.head?_eq_getElem?]; exact hat
      have hr2 : r = decide (s[0] ≠ 48) := by
        rw [← hr]; unfold wholeB; rw [hd, hh, decide_eq_false h1, Bool.true_and, Bool.false_or]
        exact decide_eq_decide.2 ⟨fun h e => h (by rw [e]), fun h e => h (by injection e)⟩
      by_cases h48 : s[0].toNat = 48
      · have c1 : ((s[0].toNat : Int) != 48) = false := by simp; omega
        have c1b : (s[0].toNat != 48) = false := by simp; omega
        have HR := Lib.hid (show r = false by rw [hr2]; exact decide_eq_false (fun h => h (UInt8.toNat_inj.1 h48)))
        clear hr hd hs h0 h1 hat hh hr2 h48
        go_enter Tryd.func96, Tryd.ntmps96
        go_wp2_with fail
        refine (areDigits_any s 6 true _ HS.out (by omega) HD.out).mono ?_
        rintro e w1 ⟨rfl, rfl⟩
        go_wp2
        go_ret
        exact ⟨by rw [HR.out]; rfl, rfl⟩
      · have c1 : ((s[0].toNat : Int) != 48) = true := by simp; omega
        have c1b : (s[0].toNat != 48) = true := by simp; omega
        have HR := Lib.hid (show r = true by rw [hr2]; exact decide_eq_true (fun e => h48 (by rw [e]; rfl)))
        clear hr hd hs h0 h1 hat hh hr2 h48
        go_enter Tryd.func96, Tryd.ntmps96
        go_wp2_with fail
        refine (areDigits_any s 6 true _ HS.out (by omega) HD.out).mono ?_
        rintro e w1 ⟨rfl, rfl⟩
        go_wp2
        go_ret
        exact ⟨by rw [HR.out]; rfl, rfl⟩
set_option maxRecDepth 100000 in
theorem isPart_any (s : ByteArray) (r : Bool) (w : World) (hs : s.size ≤ 1000) (hr : partB s.data.toList = r) : Calls Tryd.prog 97 #[.string s] w (Yes w (.bool r)) := by
  have HS := Lib.hid hs
  cases hd : digsB s.data.toList 3 with
  | false =>
    have HD := Lib.hid hd
    have HR := Lib.hid (show r = false by rw [← hr]; unfold partB; rw [hd]; rfl)
    clear hr hd hs
    go_enter Tryd.func97, Tryd.ntmps97
    go_wp2_with fail
    refine (areDigits_any s 3 false _ HS.out (by omega) HD.out).mono ?_
    rintro e w1 ⟨rfl, rfl⟩
    go_wp2
    go_ret
    exact ⟨by rw [HR.out]; rfl, rfl⟩
  | true =>
    have HD := Lib.hid hd
    have h0 : s.data.toList ≠ [] := by
      intro e; rw [e] at hd; cases hd
    have hpos : 0 < s.size := by rw [Lib.size_eq]; exact List.length_pos_iff.2 h0
    obtain ⟨n, hn⟩ : ∃ n, s.size = n := ⟨_, rfl⟩
    obtain ⟨la, hla⟩ : ∃ la, n = la + 1 := ⟨n - 1, by omega⟩
    have hlas : la < s.size := by omega
    have hlai : (la : Int) < (n : Int) := by omega
    have wl : IntKind.i64.wrap ((n : Int) - 1) = (la : Int) := by rw [IntKind.wrap_i64]; omega
    have HNS := Lib.hid hn
    have hat := at_of s la hlas
    have hh : s.data.toList.getLast? = some s[la] := by
      rw [List.getLast?_eq_getElem?, show s.data.toList.length - 1 = la by rw [← Lib.size_eq]; omega]; exact hat
    have hr2 : r = decide (s[la] ≠ 48) := by
      rw [← hr]; unfold partB; rw [hd, hh, Bool.true_and]
      exact decide_eq_decide.2 ⟨fun h e => h (by rw [e]), fun h e => h (by injection e)⟩
    by_cases h48 : s[la].toNat = 48
    · have c1 : ((s[la].toNat : Int) != 48) = false := by simp; omega
      have c1b : (s[la].toNat != 48) = false := by simp; omega
      have HR := Lib.hid (show r = false by rw [hr2]; exact decide_eq_false (fun h => h (UInt8.toNat_inj.1 h48)))
      clear hr hd hs h0 hat hh hr2 h48 hla hpos
      go_enter Tryd.func97, Tryd.ntmps97
      go_wp2_with fail
      refine (areDigits_any s 3 true _ HS.out (by omega) HD.out).mono ?_
      rintro e w1 ⟨rfl, rfl⟩
      go_wp2
      go_ret
      exact ⟨by rw [HR.out]; rfl, rfl⟩
    · have c1 : ((s[la].toNat : Int) != 48) = true := by simp; omega
      have c1b : (s[la].toNat != 48) = true := by simp; omega
      have HR := Lib.hid (show r = true by rw [hr2]; exact decide_eq_true (fun e => h48 (by rw [e]; rfl)))
      clear hr hd hs h0 hat hh hr2 h48 hla hpos
      go_enter Tryd.func97, Tryd.ntmps97
      go_wp2_with fail
      refine (areDigits_any s 3 true _ HS.out (by omega) HD.out).mono ?_
      rintro e w1 ⟨rfl, rfl⟩
      go_wp2
      go_ret
      exact ⟨by rw [HR.out]; rfl, rfl⟩
end Go.Proofs.YtikjdjfpoohieaaDoor

namespace Go.Proofs.YtikjdjfpoohieaaDoor
open Go.RowKit
open F
open N (digB valL val_snoc val_lt)
set_option linter.unusedVariables false

theorem below_bytes11 (w : World) (t : TypeId) (q : ByteArray) : Below w.heap.size w (Lib.bytesWorld w t q) :=
  ⟨by rfl, by rfl, by rfl, by rw [Lib.bytesWorld_size]; omega, fun j hj => Lib.bytesWorld_at_old w t q j hj⟩
theorem conv_bytes11 (w : World) (q : ByteArray) (sz : Nat) (h : q.size = sz) : ∃ (cp : Nat) (wq : World), (convert 9 108 (.string q)).run Tryd.prog w = .ok (.slice (some ⟨w.heap.size, 0, none⟩) sz cp) wq ∧ Below w.heap.size w wq ∧ ∀ (j : Nat) (c : UInt8), q.data.toList[j]? = some c → wq.cell? ⟨w.heap.size, j, none⟩ = some (.int .u8 (c.toNat : Int)) := by
  refine ⟨_, _, by rw [← h]; exact Lib.run_convert_string_bytes w _ _ 5 q Tryd.underlying9 Tryd.underlying108 Tryd.underlying5, ?_, fun j c hc => ?_⟩
  · exact below_bytes11 w _ q
  · obtain ⟨h5, h6⟩ := List.getElem?_eq_some_iff.1 hc
    rw [Lib.bytesWorld_cell w _ q j (by rw [Lib.size_eq]; exact h5)]
    have e : q.data.toList.getD j 0 = c := by rw [List.getD_eq_getElem?_getD, hc]; rfl
    rw [e]
theorem F.val_thou {l : List UInt8} {m : Nat} (h : l.all digB = true) (hl : l.length + m ≤ 9) : valL l * 10 ^ m < 1000000000 := by
  have h1 := val_lt l h l.length (Nat.le_refl _)
  have h2 := Nat.mul_lt_mul_of_pos_right h1 (Nat.pow_pos (n := m) (show 0 < 10 by omega))
  rw [← Nat.pow_add] at h2
  have h3 : 10 ^ (l.length + m) ≤ 10 ^ 9 := Nat.pow_le_pow_right (by omega) hl
  exact Nat.lt_of_lt_of_le h2 h3
theorem F.val_nine {l : List UInt8} {i : Nat} (h : l.all digB = true) (hl : l.length ≤ 9) : valL (l.take i) < 1000000000 := by
  have h1 := val_lt (l.take i) (by
    rw [List.all_eq_true] at h ⊢
    exact fun x hx => h x (List.mem_of_mem_take hx)) 9 (by rw [List.length_take]; omega)
  exact h1
theorem F.pow_step {v u j m : Nat} (h : v * 10 ^ j = u) (hj : j ≤ m) (hm : v * 10 ^ m < 1000000000) : u < 1000000000 := by
  have h3 : 10 ^ j ≤ 10 ^ m := Nat.pow_le_pow_right (by omega) hj
  have := Nat.mul_le_mul_left v h3
  omega
theorem F.sub48 {c d : Nat} (h : c - 48 = d) (h2 : 48 ≤ c) (h3 : c < 256) : IntKind.u8.wrap ((c : Int) - 48) = (d : Int) := by rw [IntKind.wrap_u8]; omega
theorem F.times10 {v v1 : Nat} (h : v * 10 = v1) (h2 : v < 1000000000) : IntKind.i64.wrap ((v : Int) * 10) = (v1 : Int) := by rw [IntKind.wrap_i64]; omega
theorem F.plus10 {v v1 v2 d : Nat} (h : v * 10 = v1) (h2 : v1 + d = v2) (h3 : v < 1000000000) (h4 : d ≤ 9) : IntKind.i64.wrap ((v1 : Int) + (d : Int)) = (v2 : Int) := by rw [IntKind.wrap_i64]; omega
theorem F.small9 {d : Nat} (h : d ≤ 9) : IntKind.i64.wrap (d : Int) = (d : Int) := by rw [IntKind.wrap_i64]; omega
theorem F.whole_parts {a : List UInt8} (h : wholeB a = true) : a.length ≤ 6 ∧ a.all digB = true := by
  unfold wholeB digsB at h
  simp only [Bool.and_eq_true, decide_eq_true_eq] at h
  exact ⟨h.1.1.2, h.1.2⟩
theorem F.part_parts {b : List UInt8} (h : partB b = true) : b.length ≤ 3 ∧ b.all digB = true := by
  unfold partB digsB at h
  simp only [Bool.and_eq_true, decide_eq_true_eq] at h
  exact ⟨h.1.1.2, h.1.2⟩
/-- What thousandths answers. -/
def ThouIs (s : List UInt8) (n : Nat) (ok : Bool) : Prop := (ok = true ∧ n < 1000000000 ∧ thoL s = some n) ∨ (ok = false ∧ n = 0 ∧ thoL s = none)
set_option maxRecDepth 100000 in
set_option maxHeartbeats 4000000 in
theorem thousandths_any (s : ByteArray) (w : World) (hs : s.size ≤ 100) : Calls Tryd.prog 79 #[.string s] w (fun e w' => ∃ (n : Nat) (ok : Bool), e = .returned (.tuple #[.int .i64 (n : Int), .bool ok]) ∧ ThouIs s.data.toList n ok ∧ Below w.heap.size w w') := by
  go_enter Tryd.func79, Tryd.ntmps79
  go_wp2_with fail
  refine (cut_any10 s 46 _ (by omega)).mono ?_
  rintro e w1 ⟨⟨a, b, f, rfl, hc⟩, hb⟩
  have HT := Lib.hid (tho_cut hc)
  have hlen : a.length + b.length ≤ 100 := by
    have hz : s.data.toList.length = s.size := (Lib.size_eq s).symm
    rcases hc with ⟨_, e1, e2, _⟩ | ⟨_, e1, _⟩
    · rw [e1, e2]; simp; omega
    · have := congrArg List.length e1
      rw [List.length_append, List.length_cons] at this; omega
  have HLA := Lib.hid hlen
  have HB0 := Lib.hid (show f = false → b = [] from fun hf => by
    rcases hc with ⟨_, _, e2, _⟩ | ⟨e1, _, _⟩
    · exact e2
    · rw [hf] at e1; cases e1)
  obtain ⟨qa, hqa⟩ : ∃ q, sB a = q := ⟨_, rfl⟩
  obtain ⟨qb, hqb⟩ : ∃ q, sB b = q := ⟨_, rfl⟩
  rw [hqa, hqb]
  have HQA := Lib.hid hqa
  have HQB := Lib.hid hqb
  have HSA := Lib.hid (show qa.size ≤ 1000 by rw [← hqa, sB_size]; omega)
  have HSB := Lib.hid (show qb.size ≤ 1000 by rw [← hqb, sB_size]; omega)
  have HDQA := Lib.hid (show qa.data.toList = a by rw [← hqa, sB_data])
  have HDQB := Lib.hid (show qb.data.toList = b by rw [← hqb, sB_data])
  clear hc hlen hqa hqb hs
  cases hw : wholeB a with
  | false =>
    have HW := Lib.hid (show wholeB qa.data.toList = false by rw [HDQA.out]; exact hw)
    have HE := Lib.hid (show thoL s.data.toList = none by rw [HT.out, hw, Bool.false_and, if_neg (by decide)])
    clear hw
    go_wp2_with fail
    refine (isWhole_any qa false _ HSA.out HW.out).mono ?_
    rintro e w2 ⟨rfl, rfl⟩
    go_wp2
    go_ret2
    exact ⟨0, false, rfl, .inr ⟨rfl, rfl, HE.out⟩, hb⟩
  | true =>
  have HW := Lib.hid (show wholeB qa.data.toList = true by rw [HDQA.out]; exact hw)
  have HDA := Lib.hid (whole_parts hw).2
  have HLA2 := Lib.hid (whole_parts hw).1
  cases f with
  | false =>
    have hb0 := HB0.out rfl
    have HDB := Lib.hid (show b.all digB = true by rw [hb0]; rfl)
    have HLB2 := Lib.hid (show b.length ≤ 3 by rw [hb0]; exact Nat.zero_le _)
    have HOK := Lib.hid (show (wholeB a && (!false || partB b)) = true by rw [hw]; rfl)
    clear hw hb0
    go_wp2_with fail
    refine (isWhole_any qa true _ HSA.out HW.out).mono ?_
    rintro e w1 ⟨rfl, rfl⟩
    obtain ⟨qs, hqs⟩ : ∃ q, qa ++ qb = q := ⟨_, rfl⟩
    have hL : qs.data.toList = a ++ b := by rw [← hqs, ByteArray.data_append, Array.toList_append, ← HQA.out, ← HQB.out, sB_data, sB_data]
    obtain ⟨sz, hsz⟩ : ∃ sz, qs.size = sz := ⟨_, rfl⟩
    have hszl : sz = a.length + b.length := by rw [← hsz, Lib.size_eq, hL, List.length_append]
    have hadd : ∀ w : World, Sem.run Tryd.prog (Op.stringOp .add qa qb) w = .ok (.string qs) w := fun w => by
      rw [run_string_add_sum (P := Tryd.prog) (w := w) qa qb (by rw [← HQA.out, ← HQB.out, sB_size, sB_size]; have := HLA.out; omega), hqs]
    obtain ⟨cp, wq, hconv, hbq, hcl⟩ := conv_bytes11 w1 qs sz hsz
    have HCL := Lib.hid hcl
    have HL := Lib.hid hL
    have HBQ := Lib.hid (bthen hb hbq)
    have HSZ := Lib.hid hszl
    have hsz9 : sz ≤ 9 := by have := HLA2.out; have := HLB2.out; omega
    have HALL := Lib.hid (show (a ++ b).all digB = true by rw [List.all_append, HDA.out, HDB.out]; rfl)
    obtain ⟨m, hm⟩ : ∃ m, 3 - b.length = m := ⟨_, rfl⟩
    have hlb : b.length = qb.size := by rw [← HQB.out, sB_size]
    obtain ⟨lb, hlbe⟩ : ∃ lb, qb.size = lb := ⟨_, rfl⟩
    have wm : IntKind.i64.wrap (3 - (lb : Int)) = (m : Int) := by have := HLB2.out; rw [IntKind.wrap_i64]; omega
    have HM := Lib.hid hm
    have hm3 : m ≤ 3 := by omega
    have HV9 := Lib.hid (show valL (a ++ b) * 10 ^ m < 1000000000 from val_thou HALL.out (by rw [List.length_append]; have := HLA2.out; have := HLB2.out; omega))
    clear hqs hL hsz hszl hcl hbq hm hlb
    go_wp2
    go_loopg [7, 32] sz (fun gk vn vi wr => ∃ i v : Nat, Hid (i + gk = sz) ∧ i ≤ sz ∧ vi = .int .i64 (i : Int) ∧ vn = .int .i64 (v : Int) ∧ Hid (valL ((a ++ b).take i) = v) ∧ wr = wq)
    case atStart => exact ⟨0, 0, Nat.zero_add _, Nat.zero_le _, rfl, rfl, rfl, rfl⟩
    case round =>
      obtain ⟨i, v, HG, hi, rfl, rfl, HV, rfl⟩ := hrel
      by_cases hlt0 : i < sz
      · have blt : decide ((i : Int) < (sz : Int)) = true := decide_eq_true (by omega)
        have blt2 : decide (i < sz) = true := decide_eq_true hlt0
        have hii : (i : Int) < (sz : Int) := by omega
        have hgk := HG.out
        obtain ⟨c, hc⟩ : ∃ c, (a ++ b)[i]? = some c := ⟨_, List.getElem?_eq_getElem (by rw [List.length_append]; have := HSZ.out; omega)⟩
        have hcell := HCL.out i c (by rw [HL.out]; exact hc)
        have hcd : digB c = true := List.all_eq_true.1 HALL.out c (List.mem_of_getElem? hc)
        have hvb : v < 1000000000 := by rw [← HV.out]; exact val_nine HALL.out (by rw [List.length_append]; have := HSZ.out; omega)
        obtain ⟨d, hd, hd9⟩ : ∃ d, c.toNat - 48 = d ∧ (48 ≤ c.toNat ∧ d ≤ 9) := by
          unfold N.digB at hcd
          simp only [Bool.and_eq_true, decide_eq_true_eq] at hcd
          exact ⟨_, rfl, by omega, by omega⟩
        obtain ⟨v1, hv1⟩ : ∃ v1, v * 10 = v1 := ⟨_, rfl⟩
        obtain ⟨v2, hv2⟩ : ∃ v2, v1 + d = v2 := ⟨_, rfl⟩
        have hcb := c.toNat_lt
        have s1 : IntKind.u8.wrap ((c.toNat : Int) - 48) = (d : Int) := sub48 hd hd9.1 hcb
        have s2 : IntKind.i64.wrap ((v : Int) * 10) = (v1 : Int) := times10 hv1 hvb
        have s3 : IntKind.i64.wrap ((v1 : Int) + (d : Int)) = (v2 : Int) := plus10 hv1 hv2 hvb hd9.2
        have s4 : IntKind.i64.wrap (d : Int) = (d : Int) := small9 hd9.2
        have HV2 := Lib.hid (show valL ((a ++ b).take (i + 1)) = v2 by
          obtain ⟨h5, h6⟩ := List.getElem?_eq_some_iff.1 hc
          rw [List.take_succ_eq_append_getElem h5, h6, val_snoc, HV.out, hd, ← hv2, ← hv1, Nat.mul_comm])
        clear hc hcd hd hd9 hv1 hv2 hvb hcb
        go_wp2
        go_roundg (sz - (i + 1))
        case rel => exact ⟨i + 1, v2, (by show _ = _; omega), by omega, by go_num, rfl, HV2.out, rfl⟩
        case measure => omega
      · have blt : decide ((i : Int) < (sz : Int)) = false := decide_eq_false (by omega)
        have blt2 : decide (i < sz) = false := decide_eq_false hlt0
        obtain rfl : i = sz := by omega
        have HVV := Lib.hid (show valL (a ++ b) = v by rw [← HV.out, List.take_of_length_le (by rw [List.length_append]; have := HSZ.out; omega)])
        have HV10 := Lib.hid (show v * 10 ^ m < 1000000000 by rw [← HVV.out]; exact HV9.out)
        go_wp2
        go_loopg [7, 46] m (fun gk vn vi w2 => ∃ j u : Nat, Hid (j + gk = m) ∧ j ≤ m ∧ vi = .int .i64 (j : Int) ∧ vn = .int .i64 (u : Int) ∧ Hid (v * 10 ^ j = u) ∧ w2 = wr)
        case atStart => exact ⟨0, v, Nat.zero_add _, Nat.zero_le _, rfl, rfl, (by show _ = _; omega), rfl⟩
        case round =>
          obtain ⟨j, u, HG2, hj, rfl, rfl, HU, rfl⟩ := hrel
          by_cases hlt2 : j < m
          · have blt3 : decide ((j : Int) < (m : Int)) = true := decide_eq_true (by omega)
            have blt4 : decide (j < m) = true := decide_eq_true hlt2
            have hgk2 := HG2.out
            obtain ⟨u1, hu1⟩ : ∃ u1, u * 10 = u1 := ⟨_, rfl⟩
            have hub : u < 1000000000 := pow_step HU.out hj HV10.out
            have s2 : IntKind.i64.wrap ((u : Int) * 10) = (u1 : Int) := times10 hu1 hub
            have HU2 := Lib.hid (show v * 10 ^ (j + 1) = u1 by rw [Nat.pow_succ, ← Nat.mul_assoc, HU.out, hu1])
            clear hu1 hub
            go_wp2
            go_roundg (m - (j + 1))
            case rel => exact ⟨j + 1, u1, (by show _ = _; omega), by omega, by go_num, rfl, HU2.out, rfl⟩
            case measure => omega
          · have blt3 : decide ((j : Int) < (m : Int)) = false := decide_eq_false (by omega)
            have blt4 : decide (j < m) = false := decide_eq_false hlt2
            obtain rfl : j = m := by omega
            have HE := Lib.hid (show thoL s.data.toList = some u ∧ u < 1000000000 by
              rw [HT.out, if_pos HOK.out, HM.out, HVV.out, HU.out]
              exact ⟨rfl, by rw [← HU.out]; exact HV10.out⟩)
            go_wp2
            go_ret2
            exact ⟨u, true, rfl, .inl ⟨rfl, HE.out.2, HE.out.1⟩, HBQ.out⟩
  | true =>
  cases hp : partB b with
  | false =>
    have HP := Lib.hid (show partB qb.data.toList = false by rw [HDQB.out]; exact hp)
    have HE := Lib.hid (show thoL s.data.toList = none by rw [HT.out, hw, hp]; rfl)
    clear hw hp
    go_wp2_with fail
    refine (isWhole_any qa true _ HSA.out HW.out).mono ?_
    rintro e w2 ⟨rfl, rfl⟩
    go_wp2_with fail
    refine (isPart_any qb false _ HSB.out HP.out).mono ?_
    rintro e w2 ⟨rfl, rfl⟩
    go_wp2
    go_ret2
    exact ⟨0, false, rfl, .inr ⟨rfl, rfl, HE.out⟩, hb⟩
  | true =>
    have HP := Lib.hid (show partB qb.data.toList = true by rw [HDQB.out]; exact hp)
    have HDB := Lib.hid (part_parts hp).2
    have HLB2 := Lib.hid (part_parts hp).1
    have HOK := Lib.hid (show (wholeB a && (!true || partB b)) = true by rw [hw, hp]; rfl)
    clear hw hp
    go_wp2_with fail
    refine (isWhole_any qa true _ HSA.out HW.out).mono ?_
    rintro e w1 ⟨rfl, rfl⟩
    go_wp2_with fail
    refine (isPart_any qb true _ HSB.out HP.out).mono ?_
    rintro e w1 ⟨rfl, rfl⟩
    obtain ⟨qs, hqs⟩ : ∃ q, qa ++ qb = q := ⟨_, rfl⟩
    have hL : qs.data.toList = a ++ b := by rw [← hqs, ByteArray.data_append, Array.toList_append, ← HQA.out, ← HQB.out, sB_data, sB_data]
    obtain ⟨sz, hsz⟩ : ∃ sz, qs.size = sz := ⟨_, rfl⟩
    have hszl : sz = a.length + b.length := by rw [← hsz, Lib.size_eq, hL, List.length_append]
    have hadd : ∀ w : World, Sem.run Tryd.prog (Op.stringOp .add qa qb) w = .ok (.string qs) w := fun w => by
      rw [run_string_add_sum (P := Tryd.prog) (w := w) qa qb (by rw [← HQA.out, ← HQB.out, sB_size, sB_size]; have := HLA.out; omega), hqs]
    obtain ⟨cp, wq, hconv, hbq, hcl⟩ := conv_bytes11 w1 qs sz hsz
    have HCL := Lib.hid hcl
    have HL := Lib.hid hL
    have HBQ := Lib.hid (bthen hb hbq)
    have HSZ := Lib.hid hszl
    have hsz9 : sz ≤ 9 := by have := HLA2.out; have := HLB2.out; omega
    have HALL := Lib.hid (show (a ++ b).all digB = true by rw [List.all_append, HDA.out, HDB.out]; rfl)
    obtain ⟨m, hm⟩ : ∃ m, 3 - b.length = m := ⟨_, rfl⟩
    have hlb : b.length = qb.size := by rw [← HQB.out, sB_size]
    obtain ⟨lb, hlbe⟩ : ∃ lb, qb.size = lb := ⟨_, rfl⟩
    have wm : IntKind.i64.wrap (3 - (lb : Int)) = (m : Int) := by have := HLB2.out; rw [IntKind.wrap_i64]; omega
    have HM := Lib.hid hm
    have hm3 : m ≤ 3 := by omega
    have HV9 := Lib.hid (show valL (a ++ b) * 10 ^ m < 1000000000 from val_thou HALL.out (by rw [List.length_append]; have := HLA2.out; have := HLB2.out; omega))
    clear hqs hL hsz hszl hcl hbq hm hlb
    go_wp2
    go_loopg [7, 32] sz (fun gk vn vi wr => ∃ i v : Nat, Hid (i + gk = sz) ∧ i ≤ sz ∧ vi = .int .i64 (i : Int) ∧ vn = .int .i64 (v : Int) ∧ Hid (valL ((a ++ b).take i) = v) ∧ wr = wq)
    case atStart => exact ⟨0, 0, Nat.zero_add _, Nat.zero_le _, rfl, rfl, rfl, rfl⟩
    case round =>
      obtain ⟨i, v, HG, hi, rfl, rfl, HV, rfl⟩ := hrel
      by_cases hlt0 : i < sz
      · have blt : decide ((i : Int) < (sz : Int)) = true := decide_eq_true (by omega)
        have blt2 : decide (i < sz) = true := decide_eq_true hlt0
        have hii : (i : Int) < (sz : Int) := by omega
        have hgk := HG.out
        obtain ⟨c, hc⟩ : ∃ c, (a ++ b)[i]? = some c := ⟨_, List.getElem?_eq_getElem (by rw [List.length_append]; have := HSZ.out; omega)⟩
        have hcell := HCL.out i c (by rw [HL.out]; exact hc)
        have hcd : digB c = true := List.all_eq_true.1 HALL.out c (List.mem_of_getElem? hc)
        have hvb : v < 1000000000 := by rw [← HV.out]; exact val_nine HALL.out (by rw [List.length_append]; have := HSZ.out; omega)
        obtain ⟨d, hd, hd9⟩ : ∃ d, c.toNat - 48 = d ∧ (48 ≤ c.toNat ∧ d ≤ 9) := by
          unfold N.digB at hcd
          simp only [Bool.and_eq_true, decide_eq_true_eq] at hcd
          exact ⟨_, rfl, by omega, by omega⟩
        obtain ⟨v1, hv1⟩ : ∃ v1, v * 10 = v1 := ⟨_, rfl⟩
        obtain ⟨v2, hv2⟩ : ∃ v2, v1 + d = v2 := ⟨_, rfl⟩
        have hcb := c.toNat_lt
        have s1 : IntKind.u8.wrap ((c.toNat : Int) - 48) = (d : Int) := sub48 hd hd9.1 hcb
        have s2 : IntKind.i64.wrap ((v : Int) * 10) = (v1 : Int) := times10 hv1 hvb
        have s3 : IntKind.i64.wrap ((v1 : Int) + (d : Int)) = (v2 : Int) := plus10 hv1 hv2 hvb hd9.2
        have s4 : IntKind.i64.wrap (d : Int) = (d : Int) := small9 hd9.2
        have HV2 := Lib.hid (show valL ((a ++ b).take (i + 1)) = v2 by
          obtain ⟨h5, h6⟩ := List.getElem?_eq_some_iff.1 hc
          rw [List.take_succ_eq_append_getElem h5, h6, val_snoc, HV.out, hd, ← hv2, ← hv1, Nat.mul_comm])
        clear hc hcd hd hd9 hv1 hv2 hvb hcb
        go_wp2
        go_roundg (sz - (i + 1))
        case rel => exact ⟨i + 1, v2, (by show _ = _; omega), by omega, by go_num, rfl, HV2.out, rfl⟩
        case measure => omega
      · have blt : decide ((i : Int) < (sz : Int)) = false := decide_eq_false (by omega)
        have blt2 : decide (i < sz) = false := decide_eq_false hlt0
        obtain rfl : i = sz := by omega
        have HVV := Lib.hid (show valL (a ++ b) = v by rw [← HV.out, List.take_of_length_le (by rw [List.length_append]; have := HSZ.out; omega)])
        have HV10 := Lib.hid (show v * 10 ^ m < 1000000000 by rw [← HVV.out]; exact HV9.out)
        go_wp2
        go_loopg [7, 46] m (fun gk vn vi w2 => ∃ j u : Nat, Hid (j + gk = m) ∧ j ≤ m ∧ vi = .int .i64 (j : Int) ∧ vn = .int .i64 (u : Int) ∧ Hid (v * 10 ^ j = u) ∧ w2 = wr)
        case atStart => exact ⟨0, v, Nat.zero_add _, Nat.zero_le _, rfl, rfl, (by show _ = _; omega), rfl⟩
        case round =>
          obtain ⟨j, u, HG2, hj, rfl, rfl, HU, rfl⟩ := hrel
          by_cases hlt2 : j < m
          · have blt3 : decide ((j : Int) < (m : Int)) = true := decide_eq_true (by omega)
            have blt4 : decide (j < m) = true := decide_eq_true hlt2
            have hgk2 := HG2.out
            obtain ⟨u1, hu1⟩ : ∃ u1, u * 10 = u1 := ⟨_, rfl⟩
            have hub : u < 1000000000 := pow_step HU.out hj HV10.out
            have s2 : IntKind.i64.wrap ((u : Int) * 10) = (u1 : Int) := times10 hu1 hub
            have HU2 := Lib.hid (show v * 10 ^ (j + 1) = u1 by rw [Nat.pow_succ, ← Nat.mul_assoc, HU.out, hu1])
            clear hu1 hub
            go_wp2
            go_roundg (m - (j + 1))
            case rel => exact ⟨j + 1, u1, (by show _ = _; omega), by omega, by go_num, rfl, HU2.out, rfl⟩
            case measure => omega
          · have blt3 : decide ((j : Int) < (m : Int)) = false := decide_eq_false (by omega)
            have blt4 : decide (j < m) = false := decide_eq_false hlt2
            obtain rfl : j = m := by omega
            have HE := Lib.hid (show thoL s.data.toList = some u ∧ u < 1000000000 by
              rw [HT.out, if_pos HOK.out, HM.out, HVV.out, HU.out]
              exact ⟨rfl, by rw [← HU.out]; exact HV10.out⟩)
            go_wp2
            go_ret2
            exact ⟨u, true, rfl, .inl ⟨rfl, HE.out.2, HE.out.1⟩, HBQ.out⟩
theorem F.pre_minus (s : ByteArray) : (s.data.toList.head? = some 45 ∧ Lib.trimPrefix s.data.toList [45] = s.data.toList.tail ∧ Lib.hasPrefix s.data.toList [45] = true) ∨ (s.data.toList.head? ≠ some 45 ∧ Lib.trimPrefix s.data.toList [45] = s.data.toList ∧ Lib.hasPrefix s.data.toList [45] = false) := by
  unfold Lib.trimPrefix Lib.hasPrefix
  cases s.data.toList with
  | nil => right; exact ⟨by simp, rfl, rfl⟩
  | cons c l =>
    by_cases h : c = 45
    · subst h; left; exact ⟨rfl, by simp [List.isPrefixOf], by simp [List.isPrefixOf]⟩
    · right
      have e : ((45 : UInt8) == c) = false := beq_eq_false_iff_ne.2 (fun e => h e.symm)
      refine ⟨by simp [h], ?_, ?_⟩ <;> simp [List.isPrefixOf, e]
set_option maxRecDepth 100000 in
set_option maxHeartbeats 2000000 in
theorem read_any11 (s : ByteArray) (w : World) (hs : s.size ≤ 100) : Calls Tryd.prog 48 #[.string s] w (fun e w' => ∃ (x : Nat) (ok : Bool), e = .returned (.tuple #[.float .f64 x, .bool ok]) ∧ ReadIs s.data.toList x ok ∧ Below w.heap.size w w') := by
  by_cases h1 : s.data.toList = [110, 97, 110]
  · have b1 : (s.toList == [110, 97, 110]) = true := by rw [Lib.toList_data, h1]; rfl
    have HR := Lib.hid (show ReadIs s.data.toList 9221120237041090561 true from ⟨by omega, by unfold readM; rw [if_pos h1]; exact ⟨by decide, rfl⟩⟩)
    clear h1
    go_enter Tryd.func48, Tryd.ntmps48
    go_wp2_with fail
    refine (nanC _).mono ?_
    rintro e w1 ⟨rfl, rfl⟩
    go_wp2
    go_ret2
    exact ⟨_, _, rfl, HR.out, Below.refl _ _⟩
  have b1 : (s.toList == [110, 97, 110]) = false := by rw [Lib.toList_data]; exact beq_eq_false_iff_ne.2 h1
  by_cases h2 : s.data.toList = [105, 110, 102]
  · have b2 : (s.toList == [105, 110, 102]) = true := by rw [Lib.toList_data, h2]; rfl
    have HR := Lib.hid (show ReadIs s.data.toList posInf true from ⟨by decide, by unfold readM; rw [if_neg h1, if_pos h2]; exact ⟨rfl, rfl⟩⟩)
    clear h1 h2
    go_enter Tryd.func48, Tryd.ntmps48
    go_wp2_with fail
    refine (infC _).mono ?_
    rintro e w1 ⟨rfl, rfl⟩
    go_wp2
    go_ret2
    exact ⟨_, _, rfl, HR.out, Below.refl _ _⟩
  have b2 : (s.toList == [105, 110, 102]) = false := by rw [Lib.toList_data]; exact beq_eq_false_iff_ne.2 h2
  by_cases h3 : s.data.toList = [45, 105, 110, 102]
  · have b3 : (s.toList == [45, 105, 110, 102]) = true := by rw [Lib.toList_data, h3]; rfl
    have HR := Lib.hid (show ReadIs s.data.toList negInf true from ⟨by decide, by unfold readM; rw [if_neg h1, if_neg h2, if_pos h3]; exact ⟨rfl, rfl⟩⟩)
    clear h1 h2 h3
    go_enter Tryd.func48, Tryd.ntmps48
    go_wp2_with fail
    refine (ninfC _).mono ?_
    rintro e w1 ⟨rfl, rfl⟩
    go_wp2
    go_ret2
    exact ⟨_, _, rfl, HR.out, Below.refl _ _⟩
  have b3 : (s.toList == [45, 105, 110, 102]) = false := by rw [Lib.toList_data]; exact beq_eq_false_iff_ne.2 h3
  obtain ⟨q, hq⟩ : ∃ q : ByteArray, (⟨(Lib.trimPrefix s.data.toList [45]).toArray⟩ : ByteArray) = q := ⟨_, rfl⟩
  have hqd : q.data.toList = Lib.trimPrefix s.data.toList [45] := by rw [← hq]
  obtain ⟨mi, hmi⟩ : ∃ mi, Lib.hasPrefix s.data.toList [45] = mi := ⟨_, rfl⟩
  have HQE := Lib.hid hq
  have HMI := Lib.hid hmi
  have hql : q.size ≤ 100 := by
    rw [Lib.size_eq, hqd]
    have hz : s.data.toList.length = s.size := (Lib.size_eq s).symm
    rcases pre_minus s with ⟨_, e, _⟩ | ⟨_, e, _⟩ <;> rw [e]
    · rw [List.length_tail]; omega
    · omega
  have hno : thoL q.data.toList = none → ReadIs s.data.toList 0 false := by
    rw [hqd]
    rcases pre_minus s with ⟨h4, e, _⟩ | ⟨h4, e, _⟩ <;> rw [e]
    · exact (read_signed h1 h2 h3 h4).1
    · exact (read_plain h1 h2 h3 h4).1
  have hyes : ∀ n, n < 1000000000 → thoL q.data.toList = some n → ReadIs s.data.toList (if mi = true then negW (thouW n) else thouW n) true := by
    rw [hqd, ← hmi]
    rcases pre_minus s with ⟨h4, e, e2⟩ | ⟨h4, e, e2⟩ <;> rw [e, e2]
    · exact (read_signed h1 h2 h3 h4).2
    · exact (read_plain h1 h2 h3 h4).2
  have HNO := Lib.hid hno
  have HYES := Lib.hid hyes
  have HQL := Lib.hid hql
  clear h1 h2 h3 hq hmi hqd hql hno hyes hs
  go_enter Tryd.func48, Tryd.ntmps48
  go_wp2_with fail
  refine (cutPrefix_any s ⟨#[45]⟩ _).mono ?_
  rintro e w1 ⟨rfl, rfl⟩
  rw [show (⟨#[45]⟩ : ByteArray).data.toList = [45] from rfl, HQE.out, HMI.out]
  go_wp2_with fail
  refine (thousandths_any q _ HQL.out).mono ?_
  rintro e w2 ⟨n, ok, rfl, hth, hb⟩
  cases ok with
  | false =>
    have HR := Lib.hid (HNO.out (hth.elim (fun h => absurd h.1 (by decide)) (fun h => h.2.2)))
    clear hth
    go_wp2
    go_ret2
    exact ⟨_, _, rfl, HR.out, hb⟩
  | true =>
    have hth2 : n < 1000000000 ∧ thoL q.data.toList = some n := by
      rcases hth with ⟨_, h1, h2⟩ | ⟨h, _⟩
      · exact ⟨h1, h2⟩
      · cases h
    have HR := Lib.hid (HYES.out n hth2.1 hth2.2)
    have hd := thou_quo hth2.1
    obtain ⟨x, hx⟩ : ∃ x, thouW n = x := ⟨_, rfl⟩
    obtain ⟨g, hg⟩ : ∃ g, floatOfInt .f64 (n : Int) = g := ⟨_, rfl⟩
    have hxl : x < 9223372036854775808 := by rw [← hx]; have := (thou_word hth2.1).2.1; omega
    rw [hx, hg] at hd
    rw [hx] at HR
    have kd := fun (t : TypeId) (w : World) => run_float_arith (P := Tryd.prog) w .quo t .f64 g 4652007308841189376 x hd
    have HXL := Lib.hid hxl
    have HG := Lib.hid hg
    clear hth hth2 hd hx hxl
    cases mi with
    | false =>
      go_wp2
      go_ret2
      exact ⟨_, _, rfl, HR.out, hb⟩
    | true =>
      go_wp2_with fail
      refine (copysign_neg x _ _ HXL.out rfl).mono ?_
      rintro e w3 ⟨rfl, rfl⟩
      go_wp2
      go_ret2
      exact ⟨_, _, rfl, HR.out, hb⟩
end Go.Proofs.YtikjdjfpoohieaaDoor
