/-
  Part 7 of what the proofs of this claim stand on. No conditions but those that each theorem states.
-/
import Derived.Test.YtfcikfohmehmkaaGreatDoorTabs6
import Derived.Lib.Strings
import Derived.Deep.QuietTactic
import Derived.BigQuiet
import Derived.Deep.RegionHeld3

namespace Go.Proofs.YtfcikfohmehmkaaGreatDoor.F
set_option linter.unusedVariables false
open Ieee
theorem w_1000 : double.nearest false 1000 0 = 4652007308841189376 := by decide +kernel
def thouW (n : Nat) : Nat := if n = 0 then 0 else (double.div (double.nearest false n 0) (double.nearest false 1000 0)).getD 0
theorem ofint_nat (n : Nat) : floatOfInt .f64 (n : Int) = double.nearest false n 0 := by
 show double.nearest (decide ((n : Int) < 0)) (n : Int).natAbs 0 = _
 rw [decide_eq_false (by omega), Int.natAbs_natCast]
theorem thou_word {n : Nat} (h : n < 1000000000) : double.div (double.nearest false n 0) 4652007308841189376 = some (thouW n) ∧ thouW n < 9218868437227405312 ∧ (n ≠ 0 → 4503599627370496 ≤ thouW n) := by
 by_cases h0 : n = 0
 ·subst h0
  rw [near_nought, word_no]
  refine ⟨by decide +kernel, by decide, fun h => absurd rfl h⟩
 ·obtain ⟨r, h1, h2, h3, h4, _⟩ := thou_div n h0 (by omega)
  have e : thouW n = r := by unfold thouW; rw [if_neg h0, h1]; rfl
  rw [e, ← w_1000]
  exact ⟨h1, h4, fun _ => h3⟩
theorem thou_quo {n : Nat} (h : n < 1000000000) : floatBits .quo .f64 (floatOfInt .f64 (n : Int)) 4652007308841189376 = some (thouW n) := by
 rw [ofint_nat]; exact (thou_word h).1
def negW (x : Nat) : Nat := x ^^^ 9223372036854775808
theorem neg_parts {x : Nat} (hx : x < 18446744073709551616) : rung (negW x) = rung x ∧ negB (negW x) = !negB x ∧ negW x < 18446744073709551616 := by
 have e1 : (x ^^^ 2 ^ 63) % 2 ^ 63 = x % 2 ^ 63 := by rw [Nat.xor_mod_two_pow, Nat.mod_self, Nat.xor_zero]
 have e2 : (x ^^^ 2 ^ 63) / 2 ^ 63 = x / 2 ^ 63 ^^^ 1 := by rw [Nat.xor_div_two_pow, Nat.div_self (by omega)]
 have hn : negW x = x ^^^ 2 ^ 63 := rfl
 rw [← hn] at e1 e2
 have e3 : negW x % 9223372036854775808 = x % 9223372036854775808 := e1
 have e4 : negW x / 9223372036854775808 = x / 9223372036854775808 ^^^ 1 := e2
 have hq : x / 9223372036854775808 = 0 ∨ x / 9223372036854775808 = 1 := by omega
 unfold rung negB
 refine ⟨e3, ?_, ?_⟩
 ·rcases hq with hq | hq
  ·rw [hq] at e4
   have e5 : negW x / 9223372036854775808 = 1 := e4
   rw [decide_eq_true (by omega), decide_eq_false (by omega)]; rfl
  ·rw [hq] at e4
   have e5 : negW x / 9223372036854775808 = 0 := e4
   rw [decide_eq_false (by omega), decide_eq_true (by omega)]; rfl
 ·rcases hq with hq | hq
  ·rw [hq] at e4
   have e5 : negW x / 9223372036854775808 = 1 := e4
   omega
  ·rw [hq] at e4
   have e5 : negW x / 9223372036854775808 = 0 := e4
   omega
inductive RM where
 | no
 | nan
 | wd (x : Nat)
def posInf : Nat := 9218868437227405312
def negInf : Nat := 18442240474082181120
def readM (s : List UInt8) : RM :=
 if s = [110, 97, 110] then .nan else if s = [105, 110, 102] then .wd posInf else if s = [45, 105, 110, 102] then .wd negInf
 else if s.head? = some 45 then (match thoL s.tail with | none => .no | some n => .wd (negW (thouW n)))
 else match thoL s with | none => .no | some n => .wd (thouW n)
def ReadIs (s : List UInt8) (x : Nat) (ok : Bool) : Prop := x < 18446744073709551616 ∧ match readM s with
 | .no => x = 0 ∧ ok = false
 | .nan => nanB x = true ∧ ok = true
 | .wd y => x = y ∧ ok = true
end Go.Proofs.YtfcikfohmehmkaaGreatDoor.F
namespace Go.Proofs.YtfcikfohmehmkaaGreatDoor
open Go.RowKit
open F
open N (digB valL val_snoc val_lt)
set_option linter.unusedVariables false
theorem F.frac_cons (c : UInt8) (f : List UInt8) : fracOk (c :: f) = (decide (c = 46) && !f.isEmpty && decide (f.getLast? ≠ some 48) && decide (f.length ≤ 3) && f.all digB) := rfl
theorem F.tho_at {L : List UInt8} {i : Nat} (ha : (L.take i).all digB = true) (hr : L.drop i = [] ∨ ∃ c f, L.drop i = c :: f ∧ digB c = false) :
  thoL L = if (intOk (L.take i) && fracOk (L.drop i)) = true then some (valL (L.take i ++ (L.drop i).tail) * 10 ^ (3 - (L.drop i).tail.length)) else none := by
 have h := tho_is (a := L.take i) (r := L.drop i) (List.all_eq_true.1 ha) hr
 rwa [List.take_append_drop] at h
theorem F.tho_more {L : List UInt8} {k : Nat} (hk : k ≤ L.length) (ha : (L.take k).all digB = true) (h : 7 ≤ k ∨ (2 ≤ k ∧ L.head? = some 48)) : thoL L = none := by
 have e : L.takeWhile digB = L.take k ++ (L.drop k).takeWhile digB := by
  have := List.takeWhile_append_of_pos (l₁ := L.take k) (l₂ := L.drop k) (p := digB) (List.all_eq_true.1 ha)
  rwa [List.take_append_drop] at this
 have hi : intOk (L.takeWhile digB) = false := by
  unfold intOk
  rw [e]
  have hlen : (L.take k).length = k := by rw [List.length_take]; omega
  rcases h with h | ⟨h, hh⟩
  ·rw [decide_eq_false (show ¬ (L.take k ++ (L.drop k).takeWhile digB).length ≤ 6 by rw [List.length_append]; omega), Bool.and_false, Bool.false_and]
  ·have h2 : (L.take k ++ (L.drop k).takeWhile digB).head? = some 48 := by
    cases L with
    | nil => cases hh
    | cons c r =>
     obtain ⟨k, rfl⟩ : ∃ j, k = j + 1 := ⟨k - 1, by omega⟩
     exact hh
   rw [decide_eq_true h2, decide_eq_true (show 1 < (L.take k ++ (L.drop k).takeWhile digB).length by rw [List.length_append]; omega)]
   simp
 unfold thoL
 rw [hi]; rfl
theorem F.tho_nil {L : List UInt8} (hr : L = [] ∨ ∃ c, L[0]? = some c ∧ digB c = false) : thoL L = none := by
 have h := tho_at (L := L) (i := 0) rfl (by
  rcases hr with rfl | ⟨c, h1, h2⟩
  ·exact .inl rfl
  ·cases L with
   | nil => cases h1
   | cons x r => injection h1 with h1; exact .inr ⟨x, r, rfl, by rw [h1]; exact h2⟩)
 rw [h]; rfl
structure F.At (L : List UInt8) (i : Nat) : Prop where
 pos : 1 ≤ i
 few : i ≤ 6
 len : i ≤ L.length
 dig : (L.take i).all digB = true
 head : ¬ (2 ≤ i ∧ L.head? = some 48)
theorem F.At.int {L : List UInt8} {i : Nat} (h : At L i) : intOk (L.take i) = true := by
 have hl : (L.take i).length = i := by rw [List.length_take]; have := h.len; omega
 have h1 : (L.take i).isEmpty = false := by
  cases hc : L.take i with
  | nil => rw [hc] at hl; have := h.pos; simp at hl; omega
  | cons => rfl
 unfold intOk
 rw [h1, hl, decide_eq_true h.few]
 by_cases h2 : (L.take i).head? = some 48
 ·have h3 : L.head? = some 48 := by
   obtain ⟨k, rfl⟩ : ∃ k, i = k + 1 := ⟨i - 1, by have := h.pos; omega⟩
   cases L with
   | nil => simp at h2
   | cons c r => exact h2
  rw [decide_eq_false (show ¬ 1 < i from fun h4 => h.head ⟨h4, h3⟩), Bool.and_false]; rfl
 ·rw [decide_eq_false h2]; rfl
theorem F.At.done {L : List UInt8} {i : Nat} (h : At L i) (hi : i = L.length) : thoL L = some (valL (L.take i) * 1000) := by
 have hd : L.drop i = [] := by rw [hi]; exact List.drop_length
 rw [tho_at h.dig (.inl hd), h.int, hd]
 show some (valL (L.take i ++ []) * 10 ^ 3) = _
 rw [List.append_nil]
theorem F.drop_at {L : List UInt8} {i : Nat} {c : UInt8} (hc : L[i]? = some c) : L.drop i = c :: L.drop (i + 1) := by
 obtain ⟨h1, h2⟩ := List.getElem?_eq_some_iff.1 hc
 rw [← List.getElem_cons_drop h1, h2]
theorem F.At.other {L : List UInt8} {i : Nat} (h : At L i) {c : UInt8} (hc : L[i]? = some c) (hd : digB c = false) (h46 : c ≠ 46) : thoL L = none := by
 have e := drop_at hc
 rw [tho_at h.dig (.inr ⟨c, _, e, hd⟩), e]
 have : fracOk (c :: L.drop (i + 1)) = false := by rw [frac_cons, decide_eq_false h46]; rfl
 rw [this, Bool.and_false]; rfl
theorem F.At.frac {L : List UInt8} {i : Nat} (h : At L i) (hc : L[i]? = some 46) : thoL L = if fracOk (46 :: L.drop (i + 1)) = true then some (valL (L.take i ++ L.drop (i + 1)) * 10 ^ (3 - (L.drop (i + 1)).length)) else none := by
 have e := drop_at hc
 rw [tho_at h.dig (.inr ⟨46, _, e, by decide⟩), e, h.int, Bool.true_and]; rfl
theorem F.At.short {L : List UInt8} {i : Nat} (h : At L i) (hc : L[i]? = some 46) (hi : i + 1 = L.length) : thoL L = none := by
 rw [h.frac hc, hi, List.drop_length]; rfl
theorem F.At.last {L : List UInt8} {i : Nat} (h : At L i) (hc : L[i]? = some 46) (hi : i + 1 < L.length) (hl : L[L.length - 1]? = some 48) : thoL L = none := by
 have e : (L.drop (i + 1)).getLast? = some 48 := by
  rw [List.getLast?_eq_getElem?, List.length_drop, List.getElem?_drop, show i + 1 + (L.length - (i + 1) - 1) = L.length - 1 by omega, hl]
 rw [h.frac hc, if_neg]
 rw [frac_cons, decide_eq_false (show ¬ ((L.drop (i + 1)).getLast? ≠ some 48) from fun k => k e)]
 simp
theorem F.At.bad {L : List UInt8} {i : Nat} (h : At L i) (hc : L[i]? = some 46) {c : UInt8} (hm : c ∈ L.drop (i + 1)) (hd : digB c = false) : thoL L = none := by
 have e : (L.drop (i + 1)).all digB = false := by
  rcases Bool.eq_false_or_eq_true ((L.drop (i + 1)).all digB) with k | k
  ·have := List.all_eq_true.1 k c hm; rw [this] at hd; cases hd
  ·exact k
 rw [h.frac hc, if_neg]
 rw [frac_cons, e]; simp
theorem F.At.long {L : List UInt8} {i : Nat} (h : At L i) (hc : L[i]? = some 46) (hl : i + 1 + 3 < L.length) : thoL L = none := by
 rw [h.frac hc, if_neg]
 rw [frac_cons, decide_eq_false (show ¬ (L.drop (i + 1)).length ≤ 3 by rw [List.length_drop]; omega)]
 simp
theorem F.At.all {L : List UInt8} {i : Nat} (h : At L i) (hc : L[i]? = some 46) (hi : i + 1 < L.length) (hl : L[L.length - 1]? ≠ some 48) (h3 : L.length ≤ i + 1 + 3) (hd : (L.drop (i + 1)).all digB = true) : thoL L = some (valL (L.take i ++ L.drop (i + 1)) * 10 ^ (3 - (L.length - (i + 1)))) := by
 have e : (L.drop (i + 1)).getLast? ≠ some 48 := by
  rw [List.getLast?_eq_getElem?, List.length_drop, List.getElem?_drop, show i + 1 + (L.length - (i + 1) - 1) = L.length - 1 by omega]; exact hl
 have hne : (L.drop (i + 1)).isEmpty = false := by
  cases hx : L.drop (i + 1) with
  | nil => have := congrArg List.length hx; rw [List.length_drop] at this; simp at this; omega
  | cons => rfl
 rw [h.frac hc, if_pos, List.length_drop]
 rw [frac_cons, hne, hd, decide_eq_true e, decide_eq_true (show (L.drop (i + 1)).length ≤ 3 by rw [List.length_drop]; omega)]
 decide
theorem nanC (w : World) : Calls Tryz.prog 155 #[] w (Yes w (.float .f64 9221120237041090561)) := by
 have h : ∀ w : World, (callFunc 176 #[.int .u64 9221120237041090561]).run Tryz.prog w = .ok (.value (.float .f64 9221120237041090561)) w := fun w => ext_from 9221120237041090561 w
 go_enter Tryz.func155, Tryz.ntmps155
 go_wp2
 go_ret
 exact ⟨rfl, rfl⟩
theorem infC (w : World) : Calls Tryz.prog 156 #[.int .i64 1] w (Yes w (.float .f64 posInf)) := by
 have h : ∀ w : World, (callFunc 176 #[.int .u64 9218868437227405312]).run Tryz.prog w = .ok (.value (.float .f64 9218868437227405312)) w := fun w => ext_from 9218868437227405312 w
 go_enter Tryz.func156, Tryz.ntmps156
 go_wp2
 go_ret
 exact ⟨rfl, rfl⟩
theorem ninfC (w : World) : Calls Tryz.prog 156 #[.int .i64 (-1)] w (Yes w (.float .f64 negInf)) := by
 have h : ∀ w : World, (callFunc 176 #[.int .u64 18442240474082181120]).run Tryz.prog w = .ok (.value (.float .f64 18442240474082181120)) w := fun w => ext_from 18442240474082181120 w
 go_enter Tryz.func156, Tryz.ntmps156
 go_wp2
 go_ret
 exact ⟨rfl, rfl⟩
def ReadW (w : World) (s : List UInt8) (e : Ending) (w' : World) : Prop := ∃ (x : Nat) (ok : Bool), e = .returned (.tuple #[.float .f64 x, .bool ok]) ∧ ReadIs s x ok ∧ w' = w
theorem at_of (q : ByteArray) (k : Nat) (h : k < q.size) : q.data.toList[k]? = some q[k] := by
 rw [List.getElem?_eq_getElem (by simpa using h)]; rfl
theorem digB_not {c : UInt8} (h : c.toNat < 48 ∨ 57 < c.toNat) : digB c = false := by
 unfold N.digB
 rcases h with h | h
 ·rw [decide_eq_false (by omega)]; rfl
 ·rw [decide_eq_false (show ¬ c.toNat ≤ 57 by omega), Bool.and_false]
theorem digB_yes {c : UInt8} (h : 48 ≤ c.toNat) (h2 : c.toNat ≤ 57) : digB c = true := by unfold N.digB; rw [decide_eq_true h, decide_eq_true h2]; rfl
theorem read_plain {s : List UInt8} (h1 : s ≠ [110, 97, 110]) (h2 : s ≠ [105, 110, 102]) (h3 : s ≠ [45, 105, 110, 102]) (h4 : s.head? ≠ some 45) : (thoL s = none → ReadIs s 0 false) ∧ ∀ n, n < 1000000000 → thoL s = some n → ReadIs s (thouW n) true := by
 have e : readM s = match thoL s with | none => .no | some n => .wd (thouW n) := by unfold readM; rw [if_neg h1, if_neg h2, if_neg h3, if_neg h4]; try (cases thoL s <;> rfl)
 refine ⟨fun h => ⟨by omega, ?_⟩, fun n hn h => ⟨by have := (thou_word hn).2.1; omega, ?_⟩⟩
 ·rw [e, h]; exact ⟨rfl, rfl⟩
 ·rw [e, h]; exact ⟨rfl, rfl⟩
theorem read_signed {s : List UInt8} (h1 : s ≠ [110, 97, 110]) (h2 : s ≠ [105, 110, 102]) (h3 : s ≠ [45, 105, 110, 102]) (h4 : s.head? = some 45) : (thoL s.tail = none → ReadIs s 0 false) ∧ ∀ n, n < 1000000000 → thoL s.tail = some n → ReadIs s (negW (thouW n)) true := by
 have e : readM s = match thoL s.tail with | none => .no | some n => .wd (negW (thouW n)) := by unfold readM; rw [if_neg h1, if_neg h2, if_neg h3, if_pos h4]; try (cases thoL s.tail <;> rfl)
 refine ⟨fun h => ⟨by omega, ?_⟩, fun n hn h => ⟨(neg_parts (show thouW n < 18446744073709551616 by have := (thou_word hn).2.1; omega)).2.2, ?_⟩⟩
 ·rw [e, h]; exact ⟨rfl, rfl⟩
 ·rw [e, h]; exact ⟨rfl, rfl⟩
set_option maxRecDepth 100000 in
set_option maxHeartbeats 16000000 in
theorem readR11 (s : ByteArray) (w : World) (hs : s.size ≤ 100) : Calls Tryz.prog 139 #[.string s] w (ReadW w s.data.toList) := by
 by_cases h1 : s.data.toList = [110, 97, 110]
 ·have b1 : (s.toList == [110, 97, 110]) = true := by rw [Lib.toList_data, h1]; rfl
  have HR := Lib.hid (show ReadIs s.data.toList 9221120237041090561 true from ⟨by omega, by unfold readM; rw [if_pos h1]; exact ⟨by decide, rfl⟩⟩)
  clear h1
  go_enter Tryz.func139, Tryz.ntmps139
  go_wp2_with fail
  refine (nanC _).mono ?_
  rintro e w1 ⟨rfl, rfl⟩
  go_wp2
  go_ret2
  exact ⟨_, _, rfl, HR.out, rfl⟩
 have b1 : (s.toList == [110, 97, 110]) = false := by rw [Lib.toList_data]; exact beq_eq_false_iff_ne.2 h1
 by_cases h2 : s.data.toList = [105, 110, 102]
 ·have b2 : (s.toList == [105, 110, 102]) = true := by rw [Lib.toList_data, h2]; rfl
  have HR := Lib.hid (show ReadIs s.data.toList posInf true from ⟨by decide, by unfold readM; rw [if_neg h1, if_pos h2]; exact ⟨rfl, rfl⟩⟩)
  clear h1 h2
  go_enter Tryz.func139, Tryz.ntmps139
  go_wp2_with fail
  refine (infC _).mono ?_
  rintro e w1 ⟨rfl, rfl⟩
  go_wp2
  go_ret2
  exact ⟨_, _, rfl, HR.out, rfl⟩
 have b2 : (s.toList == [105, 110, 102]) = false := by rw [Lib.toList_data]; exact beq_eq_false_iff_ne.2 h2
 by_cases h3 : s.data.toList = [45, 105, 110, 102]
 ·have b3 : (s.toList == [45, 105, 110, 102]) = true := by rw [Lib.toList_data, h3]; rfl
  have HR := Lib.hid (show ReadIs s.data.toList negInf true from ⟨by decide, by unfold readM; rw [if_neg h1, if_neg h2, if_pos h3]; exact ⟨rfl, rfl⟩⟩)
  clear h1 h2 h3
  go_enter Tryz.func139, Tryz.ntmps139
  go_wp2_with fail
  refine (ninfC _).mono ?_
  rintro e w1 ⟨rfl, rfl⟩
  go_wp2
  go_ret2
  exact ⟨_, _, rfl, HR.out, rfl⟩
 have b3 : (s.toList == [45, 105, 110, 102]) = false := by rw [Lib.toList_data]; exact beq_eq_false_iff_ne.2 h3
 by_cases h4 : s.data.toList.head? = some 45
 ·obtain ⟨g1, g2⟩ := read_signed h1 h2 h3 h4
  have hpos : 0 < s.size := by
   rcases Nat.eq_zero_or_pos s.size with k | k
   ·have : s.data.toList = [] := List.eq_nil_of_length_eq_zero (by rw [← Lib.size_eq]; exact k)
    rw [this] at h4; cases h4
   ·exact k
  have h45 : s[0].toNat = 45 := by
   rw [List.head?_eq_getElem?, at_of s 0 hpos] at h4
   injection h4 with h4; rw [h4]; rfl
  have b4 : decide ((s.size : Int) > 0) = true := decide_eq_true (by omega)
  have b4a : decide ((0 : Int) < (s.size : Int)) = true := decide_eq_true (by omega)
  have b4b : decide (0 < s.size) = true := decide_eq_true hpos
  have b5 : ((s[0].toNat : Int) == 45) = true := beq_iff_eq.2 (by omega)
  have b5b : (s[0].toNat == 45) = true := beq_iff_eq.2 h45
  obtain ⟨q, hq⟩ : ∃ q, s.extract 1 s.size = q := ⟨_, rfl⟩
  have hqd : q.data.toList = s.data.toList.tail := by
   rw [← hq, Lib.extract_data, List.take_of_length_le (by rw [List.length_drop, ← Lib.size_eq]; omega)]
   cases s.data.toList <;> rfl
  obtain ⟨sz, hsz⟩ : ∃ sz, q.size = sz := ⟨_, rfl⟩
  have hs1 : 1 ≤ s.size := hpos
  have hs1i : (1 : Int) ≤ (s.size : Int) := by omega
  have HQS := Lib.hid hsz
  have HSZ := Lib.hid (show q.data.toList.length = sz by rw [← Lib.size_eq]; exact hsz)
  have HNO := Lib.hid (show thoL q.data.toList = none → ReadIs s.data.toList 0 false by rw [hqd]; exact g1)
  have HYES := Lib.hid (show ∀ n, n < 1000000000 → thoL q.data.toList = some n → ReadIs s.data.toList (negW (thouW n)) true by rw [hqd]; exact g2)
  have hsz100 : sz ≤ 100 := by
   have h9 := HSZ.out
   rw [hqd, List.length_tail, ← Lib.size_eq] at h9; omega
  clear h1 h2 h3 h4 g1 g2 h45 hqd
  go_enter Tryz.func139, Tryz.ntmps139
  go_wp2
  go_loopg [5, 6] sz (fun gk vn vi wr => ∃ i v : Nat, Hid (i + gk = sz) ∧ i ≤ sz ∧ vi = .int .i64 (i : Int) ∧ vn = .int .i64 (v : Int) ∧ Hid (valL (q.data.toList.take i) = v) ∧ Hid ((q.data.toList.take i).all digB = true) ∧ Hid (i ≤ 6) ∧ Hid (2 ≤ i → q.data.toList.head? = some 48 → False) ∧ wr = w)
  case atStart => exact ⟨0, 0, Nat.zero_add _, Nat.zero_le _, rfl, rfl, rfl, rfl, Nat.zero_le _, (fun h => absurd h (by omega)), rfl⟩
  case round =>
   obtain ⟨i, v, HGS, hi, rfl, rfl, HV, HDG, HI6, HHD, rfl⟩ := hrel
   by_cases hlt0 : i < sz
   ·have blt : decide ((i : Int) < (sz : Int)) = true := decide_eq_true (by omega)
    have blt2 : decide (i < sz) = true := decide_eq_true hlt0
    have hii : (i : Int) < (sz : Int) := by omega
    have hlt : i < q.size := by rw [HQS.out]; exact hlt0
    have hc := q[i].toNat_lt
    have h0s : 0 < q.size := by omega
    by_cases hlo : q[i].toNat < 48
    ·have c1 : decide ((q[i].toNat : Int) ≥ 48) = false := decide_eq_false (by omega)
     have c1a : decide ((48 : Int) ≤ (q[i].toNat : Int)) = false := decide_eq_false (by omega)
     have c1b : decide (48 ≤ q[i].toNat) = false := decide_eq_false (by omega)
     by_cases hi0 : i = 0
     ·have y1 : ((i : Int) == 0) = true := beq_iff_eq.2 (by omega)
      have y2 : (i == 0) = true := beq_iff_eq.2 hi0
      have HE := Lib.hid (show thoL q.data.toList = none from tho_nil (.inr ⟨q[i], (show q.data.toList[0]? = q.data.toList[i]? by rw [hi0]).trans (at_of q i hlt), digB_not (by omega)⟩))
      clear hi0
      go_wp2
      go_ret2
      exact ⟨0, false, rfl, HNO.out HE.out, rfl⟩
     have y1 : ((i : Int) == 0) = false := beq_eq_false_iff_ne.2 (by omega)
     have y2 : (i == 0) = false := beq_eq_false_iff_ne.2 hi0
     have HAT := Lib.hid (show At q.data.toList i from ⟨by omega, HI6.out, by rw [HSZ.out]; exact hi, HDG.out, fun hh => HHD.out hh.1 hh.2⟩)
     by_cases h46 : q[i].toNat = 46
     ·have z1 : ((q[i].toNat : Int) != 46) = false := by simp; omega
      have z2 : (q[i].toNat != 46) = false := by simp; omega
      have H46 := Lib.hid (show q.data.toList[i]? = some 46 by rw [at_of q i hlt, show q[i] = 46 from UInt8.toNat_inj.1 h46])
      obtain ⟨p, hp⟩ : ∃ p, i + 1 = p := ⟨_, rfl⟩
      have HP := Lib.hid hp
      have wp : IntKind.i64.wrap ((i : Int) + 1) = (p : Int) := by rw [IntKind.wrap_i64]; omega
      by_cases hp1 : p = sz
      ·have z3 : ((p : Int) == (sz : Int)) = true := beq_iff_eq.2 (by omega)
       have z4 : (p == sz) = true := beq_iff_eq.2 hp1
       have HE := Lib.hid (show thoL q.data.toList = none from HAT.out.short H46.out (by rw [HSZ.out, hp]; exact hp1))
       clear hi0 h46 hp hp1
       go_wp2
       go_ret2
       exact ⟨0, false, rfl, HNO.out HE.out, rfl⟩
      ·have z3 : ((p : Int) == (sz : Int)) = false := beq_eq_false_iff_ne.2 (by omega)
       have z4 : (p == sz) = false := beq_eq_false_iff_ne.2 hp1
       obtain ⟨la, hla⟩ : ∃ la, sz - 1 = la := ⟨_, rfl⟩
       have hlas : la < q.size := by rw [HQS.out]; omega
       have wl : IntKind.i64.wrap ((sz : Int) - 1) = (la : Int) := by rw [IntKind.wrap_i64]; omega
       have hlai : (la : Int) < (sz : Int) := by omega
       have HLA := Lib.hid hla
       by_cases h48 : q[la].toNat = 48
       ·have z5 : ((q[la].toNat : Int) == 48) = true := beq_iff_eq.2 (by omega)
        have z6 : (q[la].toNat == 48) = true := beq_iff_eq.2 h48
        have HE := Lib.hid (show thoL q.data.toList = none from HAT.out.last H46.out (by rw [HSZ.out]; omega) (by rw [HSZ.out, HLA.out, at_of q la hlas, show q[la] = 48 from UInt8.toNat_inj.1 h48]))
        clear hi0 h46 hp1
        go_wp2
        go_ret2
        exact ⟨0, false, rfl, HNO.out HE.out, rfl⟩
       ·have z5 : ((q[la].toNat : Int) == 48) = false := beq_eq_false_iff_ne.2 (by omega)
        have z6 : (q[la].toNat == 48) = false := beq_eq_false_iff_ne.2 h48
        have HN48 := Lib.hid (show q.data.toList[q.data.toList.length - 1]? ≠ some 48 by rw [HSZ.out, HLA.out, at_of q la hlas]; intro e9; injection e9 with e9; exact h48 (by rw [e9]; rfl))
        have HPS := Lib.hid (show p < sz by omega)
        have hps : p ≤ sz := by omega
        have HVB0 := Lib.hid (show v < 1000000 by have h9 := val_lt _ HDG.out 6 (by rw [List.length_take]; have := HI6.out; omega); rw [HV.out] at h9; have e9 : (10 : Nat) ^ 6 = 1000000 := rfl; omega)
        have hgs := HGS.out
        clear hi0 h46 hp1 h48 hp hla
        go_wp2
        go_loopg [5, 6, 7] (sz - p) (fun gk vn vi vl w2 => ∃ j v2 : Nat, Hid (p + j + gk = sz) ∧ p + j ≤ sz ∧ j ≤ 3 ∧ vi = .int .i64 ((p + j : Nat) : Int) ∧ vn = .int .i64 (v2 : Int) ∧ vl = .int .i64 ((3 - j : Nat) : Int) ∧ Hid (valL (q.data.toList.take i ++ (q.data.toList.drop p).take j) = v2) ∧ Hid (((q.data.toList.drop p).take j).all digB = true) ∧ Hid (v2 < 1000000 * 10 ^ j) ∧ w2 = wr)
        case atStart => exact ⟨0, v, (by show _ = _; omega), hps, by omega, by go_num, rfl, rfl, (by show _ = _; rw [List.take_zero, List.append_nil]; exact HV.out), rfl, (by show _ < _; have := HVB0.out; omega), rfl⟩
        case round =>
         obtain ⟨j, v2, HG2, hj, hj3, rfl, rfl, rfl, HV2, HD2, HB2, rfl⟩ := hrel
         obtain ⟨p2, hp2⟩ : ∃ p2, p + j = p2 := ⟨_, rfl⟩
         obtain ⟨lf, hlf⟩ : ∃ lf, 3 - j = lf := ⟨_, rfl⟩
         rw [hp2] at HG2 hj
         rw [hp2, hlf]
         have HP2 := Lib.hid hp2
         have HLF := Lib.hid hlf
         have hlf2 : lf + j = 3 := by omega
         clear hp2 hlf
         by_cases hlt2 : p2 < sz
         ·have blt3 : decide ((p2 : Int) < (sz : Int)) = true := decide_eq_true (by omega)
          have blt4 : decide (p2 < sz) = true := decide_eq_true hlt2
          have hp2i : (p2 : Int) < (sz : Int) := by omega
          have hp2s : p2 < q.size := by rw [HQS.out]; exact hlt2
          have hgk2 := HG2.out
          have hc := q[p2].toNat_lt
          have HMEM := Lib.hid (show q[p2] ∈ q.data.toList.drop (i + 1) by rw [HP.out]; refine List.mem_of_getElem? (i := j) ?_; rw [List.getElem?_drop, HP2.out]; exact at_of q p2 hp2s)
          by_cases hlo2 : q[p2].toNat < 48
          ·have c3 : decide ((q[p2].toNat : Int) < 48) = true := decide_eq_true (by omega)
           have c3b : decide (q[p2].toNat < 48) = true := decide_eq_true hlo2
           have HE := Lib.hid (show thoL q.data.toList = none from HAT.out.bad H46.out HMEM.out (digB_not (.inl hlo2)))
           clear hlo2
           go_wp2
           go_ret2
           exact ⟨0, false, rfl, HNO.out HE.out, rfl⟩
          ·have c3 : decide ((q[p2].toNat : Int) < 48) = false := decide_eq_false (by omega)
           have c3b : decide (q[p2].toNat < 48) = false := decide_eq_false hlo2
           by_cases hhi2 : 57 < q[p2].toNat
           ·have c4 : decide ((q[p2].toNat : Int) > 57) = true := decide_eq_true (by omega)
            have c4a : decide ((57 : Int) < (q[p2].toNat : Int)) = true := decide_eq_true (by omega)
            have c4b : decide (57 < q[p2].toNat) = true := decide_eq_true hhi2
            have HE := Lib.hid (show thoL q.data.toList = none from HAT.out.bad H46.out HMEM.out (digB_not (.inr hhi2)))
            clear hlo2 hhi2
            go_wp2
            go_ret2
            exact ⟨0, false, rfl, HNO.out HE.out, rfl⟩
           ·have c4 : decide ((q[p2].toNat : Int) > 57) = false := decide_eq_false (by omega)
            have c4a : decide ((57 : Int) < (q[p2].toNat : Int)) = false := decide_eq_false (by omega)
            have c4b : decide (57 < q[p2].toNat) = false := decide_eq_false hhi2
            by_cases hl3 : lf = 0
            ·have c5 : ((lf : Int) == 0) = true := beq_iff_eq.2 (by omega)
             have c5b : (lf == 0) = true := beq_iff_eq.2 hl3
             have HE := Lib.hid (show thoL q.data.toList = none from HAT.out.long H46.out (by rw [HSZ.out, HP.out]; have := HP2.out; omega))
             clear hlo2 hhi2 hl3
             go_wp2
             go_ret2
             exact ⟨0, false, rfl, HNO.out HE.out, rfl⟩
            ·have c5 : ((lf : Int) == 0) = false := beq_eq_false_iff_ne.2 (by omega)
             have c5b : (lf == 0) = false := beq_eq_false_iff_ne.2 hl3
             have hsn : (q.data.toList.drop p).take (j + 1) = (q.data.toList.drop p).take j ++ [q[p2]] := by
              have h9 : (q.data.toList.drop p)[j]? = some q[p2] := by rw [List.getElem?_drop, HP2.out]; exact at_of q p2 hp2s
              obtain ⟨g1, g2⟩ := List.getElem?_eq_some_iff.1 h9
              rw [List.take_succ_eq_append_getElem g1, g2]
             have HD3 := Lib.hid (show ((q.data.toList.drop p).take (j + 1)).all digB = true by rw [hsn, List.all_append, HD2.out]; show ([q[p2]] : List UInt8).all digB = true; rw [List.all_cons, digB_yes (by omega) (by omega)]; rfl)
             have HV3 := Lib.hid (show valL (q.data.toList.take i ++ (q.data.toList.drop p).take (j + 1)) = 10 * v2 + (q[p2].toNat - 48) by rw [hsn, ← List.append_assoc, val_snoc, HV2.out])
             have hb2 := HB2.out
             have hpj : 10 ^ j ≤ 1000 := Nat.pow_le_pow_right (by omega) (show j ≤ 3 by omega)
             have hv2 : v2 < 1000000 * 1000 := Nat.lt_of_lt_of_le hb2 (Nat.mul_le_mul_left _ hpj)
             have HB3 := Lib.hid (show 10 * v2 + (q[p2].toNat - 48) < 1000000 * 10 ^ (j + 1) by rw [Nat.pow_succ]; generalize 10 ^ j = z9 at hb2 ⊢; omega)
             have hu : IntKind.u8.wrap ((q[p2].toNat : Int) - 48) = ((q[p2].toNat - 48 : Nat) : Int) := by rw [IntKind.wrap_u8]; omega
             have hu2 : IntKind.i64.wrap ((q[p2].toNat - 48 : Nat) : Int) = ((q[p2].toNat - 48 : Nat) : Int) := wrap_big (by omega)
             have w1 : IntKind.i64.wrap (10 * (v2 : Int)) = ((10 * v2 : Nat) : Int) := by rw [IntKind.wrap_i64]; omega
             have w2 : IntKind.i64.wrap (((10 * v2 : Nat) : Int) + ((q[p2].toNat - 48 : Nat) : Int)) = ((10 * v2 + (q[p2].toNat - 48) : Nat) : Int) := by rw [IntKind.wrap_i64]; omega
             have w3 : IntKind.i64.wrap ((lf : Int) - 1) = ((3 - (j + 1) : Nat) : Int) := by rw [IntKind.wrap_i64]; omega
             have w4 : IntKind.i64.wrap ((p2 : Int) + 1) = ((p + (j + 1) : Nat) : Int) := by rw [IntKind.wrap_i64]; have := HP2.out; omega
             have hpp := HP2.out
             clear hsn hb2 hpj hlo2 hhi2
             go_wp2
             go_roundg (sz - (p2 + 1))
             case rel => exact ⟨j + 1, 10 * v2 + (q[p2].toNat - 48), (by show _ = _; omega), by omega, by omega, by go_num, by go_num, by go_num, HV3.out, HD3.out, HB3.out, rfl⟩
             case measure => omega
         ·have blt3 : decide ((p2 : Int) < (sz : Int)) = false := decide_eq_false (by omega)
          have blt4 : decide (p2 < sz) = false := decide_eq_false hlt2
          have hps2 : p2 = sz := by omega
          have HTK := Lib.hid (show (q.data.toList.drop p).take j = q.data.toList.drop p from List.take_of_length_le (by rw [List.length_drop, HSZ.out]; have := HP2.out; omega))
          have HTH := Lib.hid (show thoL q.data.toList = some (v2 * 10 ^ lf) by
           have h9 := HAT.out.all H46.out (by rw [HSZ.out, HP.out]; exact HPS.out) HN48.out (by rw [HSZ.out, HP.out]; have := HP2.out; omega) (by rw [HP.out]; have h8 := HD2.out; rw [HTK.out] at h8; exact h8)
           have h7 := HV2.out
           rw [HTK.out] at h7
           rw [HP.out, HSZ.out, h7] at h9
           rw [h9, show 3 - (sz - p) = lf by have := HP2.out; omega])
          have HVB := Lib.hid (show v2 ≤ 1000000000 by have hb2 := HB2.out; have hpj : 10 ^ j ≤ 1000 := Nat.pow_le_pow_right (by omega) (show j ≤ 3 by omega); have := Nat.lt_of_lt_of_le hb2 (Nat.mul_le_mul_left _ hpj); omega)
          have hlf3 : lf ≤ 3 := by omega
          go_wp2
          go_loopg [5, 7] lf (fun gk vn vl w2 => ∃ t m : Nat, Hid (t + gk = lf) ∧ t ≤ lf ∧ vl = .int .i64 ((lf - t : Nat) : Int) ∧ vn = .int .i64 (m : Int) ∧ Hid (m = v2 * 10 ^ t) ∧ w2 = wr)
          case atStart => exact ⟨0, v2, Nat.zero_add _, Nat.zero_le _, by go_num, rfl, (by show _ = _; rw [Nat.pow_zero, Nat.mul_one]), rfl⟩
          case round =>
           obtain ⟨t, m, HG3, ht, rfl, rfl, HM, rfl⟩ := hrel
           by_cases hlt3 : t < lf
           ·obtain ⟨l3, hl3⟩ : ∃ l3, lf - t = l3 := ⟨_, rfl⟩
            rw [hl3]
            have x1 : decide ((l3 : Int) > 0) = true := decide_eq_true (by omega)
            have x2 : decide ((0 : Int) < (l3 : Int)) = true := decide_eq_true (by omega)
            have x3 : decide (0 < l3) = true := decide_eq_true (by omega)
            have hgk3 := HG3.out
            have hm := HM.out
            have hvv := HVB.out
            have hp : 10 ^ t ≤ 1000 := Nat.pow_le_pow_right (by omega) (show t ≤ 3 by omega)
            have hmb : m ≤ 1000000000 * 1000 := by rw [hm]; exact Nat.mul_le_mul (by omega) hp
            have HM2 := Lib.hid (show 10 * m = v2 * 10 ^ (t + 1) by rw [hm, Nat.pow_succ]; simp only [Nat.mul_comm, Nat.mul_left_comm])
            have w1 : IntKind.i64.wrap (10 * (m : Int)) = ((10 * m : Nat) : Int) := by rw [IntKind.wrap_i64]; omega
            have w2 : IntKind.i64.wrap ((l3 : Int) - 1) = ((lf - (t + 1) : Nat) : Int) := by rw [IntKind.wrap_i64]; omega
            clear hm hvv hp
            go_wp2
            go_roundg (lf - (t + 1))
            case rel => exact ⟨t + 1, 10 * m, (by show _ = _; omega), by omega, by go_num, by go_num, HM2.out, rfl⟩
            case measure => omega
           ·have ht3 : t = lf := by omega
            have hl0 : lf - t = 0 := by omega
            rw [hl0]
            have HTT := Lib.hid (show thoL q.data.toList = some m by rw [HM.out, ht3]; exact HTH.out)
            have HMB := Lib.hid (show m < 1000000000 from (tho_cases q.data.toList).elim (fun k => by have h9 := HTT.out; rw [h9] at k; cases k) (fun ⟨n0, k1, k2, _⟩ => by have h9 := HTT.out; rw [h9] at k2; injection k2 with k2; omega))
            obtain ⟨x, hx⟩ : ∃ x, thouW m = x := ⟨_, rfl⟩
            have k1 := fun (t : TypeId) (w : World) => run_float_arith (P := Tryz.prog) w .quo t .f64 (floatOfInt .f64 (m : Int)) 4652007308841189376 x (by rw [← hx]; exact thou_quo HMB.out)
            have kn := fun (w : World) => show Sem.run Tryz.prog (Op.unary UnOp.neg (Value.float FloatKind.f64 x)) w = .ok (.float .f64 (negW x)) w from rfl
            have HRD := Lib.hid (show ReadIs s.data.toList (negW x) true by rw [← hx]; exact HYES.out m HMB.out HTT.out)
            clear hx
            go_wp2
            go_ret2
            exact ⟨negW x, true, rfl, HRD.out, rfl⟩
     ·have z1 : ((q[i].toNat : Int) != 46) = true := bne_iff_ne.2 (by omega)
      have z2 : (q[i].toNat != 46) = true := bne_iff_ne.2 h46
      have HE := Lib.hid (show thoL q.data.toList = none from HAT.out.other (at_of q i hlt) (digB_not (by omega)) (fun e9 => h46 (by rw [e9]; rfl)))
      clear hi0 h46
      go_wp2
      go_ret2
      exact ⟨0, false, rfl, HNO.out HE.out, rfl⟩
    ·have c1 : decide ((q[i].toNat : Int) ≥ 48) = true := decide_eq_true (by omega)
     have c1a : decide ((48 : Int) ≤ (q[i].toNat : Int)) = true := decide_eq_true (by omega)
     have c1b : decide (48 ≤ q[i].toNat) = true := decide_eq_true (by omega)
     by_cases hhi : 57 < q[i].toNat
     ·have c2 : decide ((q[i].toNat : Int) ≤ 57) = false := decide_eq_false (by omega)
      have c2b : decide (q[i].toNat ≤ 57) = false := decide_eq_false (by omega)
      by_cases hi0 : i = 0
      ·have y1 : ((i : Int) == 0) = true := beq_iff_eq.2 (by omega)
       have y2 : (i == 0) = true := beq_iff_eq.2 hi0
       have HE := Lib.hid (show thoL q.data.toList = none from tho_nil (.inr ⟨q[i], (show q.data.toList[0]? = q.data.toList[i]? by rw [hi0]).trans (at_of q i hlt), digB_not (by omega)⟩))
       clear hi0
       go_wp2
       go_ret2
       exact ⟨0, false, rfl, HNO.out HE.out, rfl⟩
      have y1 : ((i : Int) == 0) = false := beq_eq_false_iff_ne.2 (by omega)
      have y2 : (i == 0) = false := beq_eq_false_iff_ne.2 hi0
      have HAT := Lib.hid (show At q.data.toList i from ⟨by omega, HI6.out, by rw [HSZ.out]; exact hi, HDG.out, fun hh => HHD.out hh.1 hh.2⟩)
      have z1 : ((q[i].toNat : Int) != 46) = true := bne_iff_ne.2 (by omega)
      have z2 : (q[i].toNat != 46) = true := bne_iff_ne.2 (by omega)
      have HE := Lib.hid (show thoL q.data.toList = none from HAT.out.other (at_of q i hlt) (digB_not (by omega)) (fun e9 => by rw [e9] at hhi; exact absurd hhi (by decide)))
      clear hi0
      go_wp2
      go_ret2
      exact ⟨0, false, rfl, HNO.out HE.out, rfl⟩
     ·have c2 : decide ((q[i].toNat : Int) ≤ 57) = true := decide_eq_true (by omega)
      have c2b : decide (q[i].toNat ≤ 57) = true := decide_eq_true (by omega)
      have hsn := W.take_snoc q i hlt
      have HD1 := Lib.hid (show (q.data.toList.take (i + 1)).all digB = true by rw [hsn, List.all_append, HDG.out]; show ([q[i]] : List UInt8).all digB = true; rw [List.all_cons, digB_yes (by omega) (by omega)]; rfl)
      have HV1 := Lib.hid (show valL (q.data.toList.take (i + 1)) = 10 * v + (q[i].toNat - 48) by rw [hsn, val_snoc, HV.out])
      clear hsn
      by_cases h6 : i = 6
      ·have d1 : ((i : Int) == 6) = true := beq_iff_eq.2 (by omega)
       have d2 : (i == 6) = true := beq_iff_eq.2 h6
       have HE := Lib.hid (show thoL q.data.toList = none from tho_more (k := i + 1) (by rw [HSZ.out]; omega) HD1.out (.inl (by omega)))
       clear hlo hhi h6
       go_wp2
       go_ret2
       exact ⟨0, false, rfl, HNO.out HE.out, rfl⟩
      ·have d1 : ((i : Int) == 6) = false := beq_eq_false_iff_ne.2 (by omega)
       have d2 : (i == 6) = false := beq_eq_false_iff_ne.2 h6
       have HL6 := Lib.hid (show i + 1 ≤ 6 by have := HI6.out; omega)
       have hgs := HGS.out
       have hvb : v < 1000000 := by
        have h9 := val_lt _ HDG.out 6 (by rw [List.length_take]; have := HI6.out; omega)
        rw [HV.out] at h9; have e9 : (10 : Nat) ^ 6 = 1000000 := rfl; omega
       have hu : IntKind.u8.wrap ((q[i].toNat : Int) - 48) = ((q[i].toNat - 48 : Nat) : Int) := by rw [IntKind.wrap_u8]; omega
       have hu2 : IntKind.i64.wrap ((q[i].toNat - 48 : Nat) : Int) = ((q[i].toNat - 48 : Nat) : Int) := wrap_big (by omega)
       have w1 : IntKind.i64.wrap (10 * (v : Int)) = ((10 * v : Nat) : Int) := by rw [IntKind.wrap_i64]; omega
       have w2 : IntKind.i64.wrap (((10 * v : Nat) : Int) + ((q[i].toNat - 48 : Nat) : Int)) = ((10 * v + (q[i].toNat - 48) : Nat) : Int) := by rw [IntKind.wrap_i64]; omega
       by_cases h1 : i = 1
       ·subst h1
        have h0i : (0 : Int) < (sz : Int) := by omega
        by_cases hz : q[0].toNat = 48
        ·have d5 : ((q[0].toNat : Int) == 48) = true := beq_iff_eq.2 (by omega)
         have d6 : (q[0].toNat == 48) = true := beq_iff_eq.2 hz
         have HE := Lib.hid (show thoL q.data.toList = none from tho_more (k := 1 + 1) (by rw [HSZ.out]; omega) HD1.out (.inr ⟨by omega, by rw [List.head?_eq_getElem?, at_of q 0 h0s, show q[0] = 48 from UInt8.toNat_inj.1 hz]⟩))
         clear hlo hhi h6 hz
         go_wp2
         go_ret2
         exact ⟨0, false, rfl, HNO.out HE.out, rfl⟩
        ·have d5 : ((q[0].toNat : Int) == 48) = false := beq_eq_false_iff_ne.2 (by omega)
         have d6 : (q[0].toNat == 48) = false := beq_eq_false_iff_ne.2 hz
         have HH1 := Lib.hid (show 2 ≤ 1 + 1 → q.data.toList.head? = some 48 → False from fun _ e9 => by rw [List.head?_eq_getElem?, at_of q 0 h0s] at e9; injection e9 with e9; exact hz (by rw [e9]; rfl))
         clear hlo hhi hz
         go_wp2
         go_roundg (sz - (1 + 1))
         case rel => exact ⟨1 + 1, 10 * v + (q[1].toNat - 48), (by show _ = _; omega), by omega, by go_num, by go_num, HV1.out, HD1.out, HL6.out, HH1.out, rfl⟩
         case measure => omega
       ·have d3 : ((i : Int) == 1) = false := beq_eq_false_iff_ne.2 (by omega)
        have d4 : (i == 1) = false := beq_eq_false_iff_ne.2 h1
        have HH1 := Lib.hid (show 2 ≤ i + 1 → q.data.toList.head? = some 48 → False from fun h8 e9 => HHD.out (by omega) e9)
        clear hlo hhi
        go_wp2
        go_roundg (sz - (i + 1))
        case rel => exact ⟨i + 1, 10 * v + (q[i].toNat - 48), (by show _ = _; omega), by omega, by go_num, by go_num, HV1.out, HD1.out, HL6.out, HH1.out, rfl⟩
        case measure => omega
   ·have blt : decide ((i : Int) < (sz : Int)) = false := decide_eq_false (by omega)
    have blt2 : decide (i < sz) = false := decide_eq_false hlt0
    have HDR := Lib.hid (show i = q.data.toList.length by rw [HSZ.out]; omega)
    by_cases hi0 : i = 0
    ·have y1 : ((i : Int) == 0) = true := beq_iff_eq.2 (by omega)
     have y2 : (i == 0) = true := beq_iff_eq.2 hi0
     have HE := Lib.hid (show thoL q.data.toList = none from tho_nil (.inl (List.eq_nil_of_length_eq_zero (by rw [← HDR.out]; exact hi0))))
     clear hi0
     go_wp2
     go_ret2
     exact ⟨0, false, rfl, HNO.out HE.out, rfl⟩
    have y1 : ((i : Int) == 0) = false := beq_eq_false_iff_ne.2 (by omega)
    have y2 : (i == 0) = false := beq_eq_false_iff_ne.2 hi0
    have HAT := Lib.hid (show At q.data.toList i from ⟨by omega, HI6.out, by rw [HSZ.out]; exact hi, HDG.out, fun hh => HHD.out hh.1 hh.2⟩)
    have HTH := Lib.hid (show thoL q.data.toList = some (v * 10 ^ 3) by rw [HAT.out.done HDR.out, HV.out])
    have HVB := Lib.hid (show v ≤ 1000000000 by have h9 := val_lt _ HDG.out 6 (by rw [List.length_take]; have := HI6.out; omega); rw [HV.out] at h9; have e9 : (10 : Nat) ^ 6 = 1000000 := rfl; omega)
    clear hi0
    go_wp2
    go_loopg [5, 7] 3 (fun gk vn vl w2 => ∃ t m : Nat, Hid (t + gk = 3) ∧ t ≤ 3 ∧ vl = .int .i64 ((3 - t : Nat) : Int) ∧ vn = .int .i64 (m : Int) ∧ Hid (m = v * 10 ^ t) ∧ w2 = wr)
    case atStart => exact ⟨0, v, Nat.zero_add _, Nat.zero_le _, by go_num, rfl, (by show _ = _; rw [Nat.pow_zero, Nat.mul_one]), rfl⟩
    case round =>
     obtain ⟨t, m, HG3, ht, rfl, rfl, HM, rfl⟩ := hrel
     by_cases hlt3 : t < 3
     ·obtain ⟨l3, hl3⟩ : ∃ l3, 3 - t = l3 := ⟨_, rfl⟩
      rw [hl3]
      have x1 : decide ((l3 : Int) > 0) = true := decide_eq_true (by omega)
      have x2 : decide ((0 : Int) < (l3 : Int)) = true := decide_eq_true (by omega)
      have x3 : decide (0 < l3) = true := decide_eq_true (by omega)
      have hgk3 := HG3.out
      have hm := HM.out
      have hvv := HVB.out
      have hp : 10 ^ t ≤ 1000 := Nat.pow_le_pow_right (by omega) (show t ≤ 3 by omega)
      have hmb : m ≤ 1000000000 * 1000 := by rw [hm]; exact Nat.mul_le_mul (by omega) hp
      have HM2 := Lib.hid (show 10 * m = v * 10 ^ (t + 1) by rw [hm, Nat.pow_succ]; simp only [Nat.mul_comm, Nat.mul_left_comm])
      have w1 : IntKind.i64.wrap (10 * (m : Int)) = ((10 * m : Nat) : Int) := by rw [IntKind.wrap_i64]; omega
      have w2 : IntKind.i64.wrap ((l3 : Int) - 1) = ((3 - (t + 1) : Nat) : Int) := by rw [IntKind.wrap_i64]; omega
      clear hm hvv hp
      go_wp2
      go_roundg (3 - (t + 1))
      case rel => exact ⟨t + 1, 10 * m, (by show _ = _; omega), by omega, by go_num, by go_num, HM2.out, rfl⟩
      case measure => omega
     ·have ht3 : t = 3 := by omega
      have hl0 : 3 - t = 0 := by omega
      rw [hl0]
      have HTT := Lib.hid (show thoL q.data.toList = some m by rw [HM.out, ht3]; exact HTH.out)
      have HMB := Lib.hid (show m < 1000000000 from (tho_cases q.data.toList).elim (fun k => by have h9 := HTT.out; rw [h9] at k; cases k) (fun ⟨n0, k1, k2, _⟩ => by have h9 := HTT.out; rw [h9] at k2; injection k2 with k2; omega))
      obtain ⟨x, hx⟩ : ∃ x, thouW m = x := ⟨_, rfl⟩
      have k1 := fun (t : TypeId) (w : World) => run_float_arith (P := Tryz.prog) w .quo t .f64 (floatOfInt .f64 (m : Int)) 4652007308841189376 x (by rw [← hx]; exact thou_quo HMB.out)
      have kn := fun (w : World) => show Sem.run Tryz.prog (Op.unary UnOp.neg (Value.float FloatKind.f64 x)) w = .ok (.float .f64 (negW x)) w from rfl
      have HRD := Lib.hid (show ReadIs s.data.toList (negW x) true by rw [← hx]; exact HYES.out m HMB.out HTT.out)
      clear hx
      go_wp2
      go_ret2
      exact ⟨negW x, true, rfl, HRD.out, rfl⟩
 ·obtain ⟨g1, g2⟩ := read_plain h1 h2 h3 h4
  obtain ⟨q, hq⟩ : ∃ q, s = q := ⟨_, rfl⟩
  obtain ⟨sz, hsz⟩ : ∃ sz, q.size = sz := ⟨_, rfl⟩
  have HQS := Lib.hid hsz
  have HSZ := Lib.hid (show q.data.toList.length = sz by rw [← Lib.size_eq]; exact hsz)
  have HNO := Lib.hid (show thoL q.data.toList = none → ReadIs s.data.toList 0 false by rw [← hq]; exact g1)
  have HYES := Lib.hid (show ∀ n, n < 1000000000 → thoL q.data.toList = some n → ReadIs s.data.toList (thouW n) true by rw [← hq]; exact g2)
  have hsz100 : sz ≤ 100 := by rw [← hsz, ← hq]; exact hs
  subst hq
  by_cases hpos : 0 < sz
  ·have b4 : decide ((sz : Int) > 0) = true := decide_eq_true (by omega)
   have b4a : decide ((0 : Int) < (sz : Int)) = true := decide_eq_true (by omega)
   have b4b : decide (0 < sz) = true := decide_eq_true hpos
   have hp0 : 0 < s.size := by omega
   have hp0i : (0 : Int) < (sz : Int) := by omega
   have h45 : s[0].toNat ≠ 45 := fun e => h4 (by rw [List.head?_eq_getElem?, at_of s 0 hp0, show s[0] = 45 from UInt8.toNat_inj.1 e])
   have b5 : ((s[0].toNat : Int) == 45) = false := beq_eq_false_iff_ne.2 (by omega)
   have b5b : (s[0].toNat == 45) = false := beq_eq_false_iff_ne.2 h45
   clear h1 h2 h3 h4 g1 g2 h45
   go_enter Tryz.func139, Tryz.ntmps139
   go_wp2
   go_loopg [5, 6] sz (fun gk vn vi wr => ∃ i v : Nat, Hid (i + gk = sz) ∧ i ≤ sz ∧ vi = .int .i64 (i : Int) ∧ vn = .int .i64 (v : Int) ∧ Hid (valL (s.data.toList.take i) = v) ∧ Hid ((s.data.toList.take i).all digB = true) ∧ Hid (i ≤ 6) ∧ Hid (2 ≤ i → s.data.toList.head? = some 48 → False) ∧ wr = w)
   case atStart => exact ⟨0, 0, Nat.zero_add _, Nat.zero_le _, rfl, rfl, rfl, rfl, Nat.zero_le _, (fun h => absurd h (by omega)), rfl⟩
   case round =>
    obtain ⟨i, v, HGS, hi, rfl, rfl, HV, HDG, HI6, HHD, rfl⟩ := hrel
    by_cases hlt0 : i < sz
    ·have blt : decide ((i : Int) < (sz : Int)) = true := decide_eq_true (by omega)
     have blt2 : decide (i < sz) = true := decide_eq_true hlt0
     have hii : (i : Int) < (sz : Int) := by omega
     have hlt : i < s.size := by rw [HQS.out]; exact hlt0
     have hc := s[i].toNat_lt
     have h0s : 0 < s.size := by omega
     by_cases hlo : s[i].toNat < 48
     ·have c1 : decide ((s[i].toNat : Int) ≥ 48) = false := decide_eq_false (by omega)
      have c1a : decide ((48 : Int) ≤ (s[i].toNat : Int)) = false := decide_eq_false (by omega)
      have c1b : decide (48 ≤ s[i].toNat) = false := decide_eq_false (by omega)
      by_cases hi0 : i = 0
      ·have y1 : ((i : Int) == 0) = true := beq_iff_eq.2 (by omega)
       have y2 : (i == 0) = true := beq_iff_eq.2 hi0
       have HE := Lib.hid (show thoL s.data.toList = none from tho_nil (.inr ⟨s[i], (show s.data.toList[0]? = s.data.toList[i]? by rw [hi0]).trans (at_of s i hlt), digB_not (by omega)⟩))
       clear hi0
       go_wp2
       go_ret2
       exact ⟨0, false, rfl, HNO.out HE.out, rfl⟩
      have y1 : ((i : Int) == 0) = false := beq_eq_false_iff_ne.2 (by omega)
      have y2 : (i == 0) = false := beq_eq_false_iff_ne.2 hi0
      have HAT := Lib.hid (show At s.data.toList i from ⟨by omega, HI6.out, by rw [HSZ.out]; exact hi, HDG.out, fun hh => HHD.out hh.1 hh.2⟩)
      by_cases h46 : s[i].toNat = 46
      ·have z1 : ((s[i].toNat : Int) != 46) = false := by simp; omega
       have z2 : (s[i].toNat != 46) = false := by simp; omega
       have H46 := Lib.hid (show s.data.toList[i]? = some 46 by rw [at_of s i hlt, show s[i] = 46 from UInt8.toNat_inj.1 h46])
       obtain ⟨p, hp⟩ : ∃ p, i + 1 = p := ⟨_, rfl⟩
       have HP := Lib.hid hp
       have wp : IntKind.i64.wrap ((i : Int) + 1) = (p : Int) := by rw [IntKind.wrap_i64]; omega
       by_cases hp1 : p = sz
       ·have z3 : ((p : Int) == (sz : Int)) = true := beq_iff_eq.2 (by omega)
        have z4 : (p == sz) = true := beq_iff_eq.2 hp1
        have HE := Lib.hid (show thoL s.data.toList = none from HAT.out.short H46.out (by rw [HSZ.out, hp]; exact hp1))
        clear hi0 h46 hp hp1
        go_wp2
        go_ret2
        exact ⟨0, false, rfl, HNO.out HE.out, rfl⟩
       ·have z3 : ((p : Int) == (sz : Int)) = false := beq_eq_false_iff_ne.2 (by omega)
        have z4 : (p == sz) = false := beq_eq_false_iff_ne.2 hp1
        obtain ⟨la, hla⟩ : ∃ la, sz - 1 = la := ⟨_, rfl⟩
        have hlas : la < s.size := by rw [HQS.out]; omega
        have wl : IntKind.i64.wrap ((sz : Int) - 1) = (la : Int) := by rw [IntKind.wrap_i64]; omega
        have hlai : (la : Int) < (sz : Int) := by omega
        have HLA := Lib.hid hla
        by_cases h48 : s[la].toNat = 48
        ·have z5 : ((s[la].toNat : Int) == 48) = true := beq_iff_eq.2 (by omega)
         have z6 : (s[la].toNat == 48) = true := beq_iff_eq.2 h48
         have HE := Lib.hid (show thoL s.data.toList = none from HAT.out.last H46.out (by rw [HSZ.out]; omega) (by rw [HSZ.out, HLA.out, at_of s la hlas, show s[la] = 48 from UInt8.toNat_inj.1 h48]))
         clear hi0 h46 hp1
         go_wp2
         go_ret2
         exact ⟨0, false, rfl, HNO.out HE.out, rfl⟩
        ·have z5 : ((s[la].toNat : Int) == 48) = false := beq_eq_false_iff_ne.2 (by omega)
         have z6 : (s[la].toNat == 48) = false := beq_eq_false_iff_ne.2 h48
         have HN48 := Lib.hid (show s.data.toList[s.data.toList.length - 1]? ≠ some 48 by rw [HSZ.out, HLA.out, at_of s la hlas]; intro e9; injection e9 with e9; exact h48 (by rw [e9]; rfl))
         have HPS := Lib.hid (show p < sz by omega)
         have hps : p ≤ sz := by omega
         have HVB0 := Lib.hid (show v < 1000000 by have h9 := val_lt _ HDG.out 6 (by rw [List.length_take]; have := HI6.out; omega); rw [HV.out] at h9; have e9 : (10 : Nat) ^ 6 = 1000000 := rfl; omega)
         have hgs := HGS.out
         clear hi0 h46 hp1 h48 hp hla
         go_wp2
         go_loopg [5, 6, 7] (sz - p) (fun gk vn vi vl w2 => ∃ j v2 : Nat, Hid (p + j + gk = sz) ∧ p + j ≤ sz ∧ j ≤ 3 ∧ vi = .int .i64 ((p + j : Nat) : Int) ∧ vn = .int .i64 (v2 : Int) ∧ vl = .int .i64 ((3 - j : Nat) : Int) ∧ Hid (valL (s.data.toList.take i ++ (s.data.toList.drop p).take j) = v2) ∧ Hid (((s.data.toList.drop p).take j).all digB = true) ∧ Hid (v2 < 1000000 * 10 ^ j) ∧ w2 = wr)
         case atStart => exact ⟨0, v, (by show _ = _; omega), hps, by omega, by go_num, rfl, rfl, (by show _ = _; rw [List.take_zero, List.append_nil]; exact HV.out), rfl, (by show _ < _; have := HVB0.out; omega), rfl⟩
         case round =>
          obtain ⟨j, v2, HG2, hj, hj3, rfl, rfl, rfl, HV2, HD2, HB2, rfl⟩ := hrel
          obtain ⟨p2, hp2⟩ : ∃ p2, p + j = p2 := ⟨_, rfl⟩
          obtain ⟨lf, hlf⟩ : ∃ lf, 3 - j = lf := ⟨_, rfl⟩
          rw [hp2] at HG2 hj
          rw [hp2, hlf]
          have HP2 := Lib.hid hp2
          have HLF := Lib.hid hlf
          have hlf2 : lf + j = 3 := by omega
          clear hp2 hlf
          by_cases hlt2 : p2 < sz
          ·have blt3 : decide ((p2 : Int) < (sz : Int)) = true := decide_eq_true (by omega)
           have blt4 : decide (p2 < sz) = true := decide_eq_true hlt2
           have hp2i : (p2 : Int) < (sz : Int) := by omega
           have hp2s : p2 < s.size := by rw [HQS.out]; exact hlt2
           have hgk2 := HG2.out
           have hc := s[p2].toNat_lt
           have HMEM := Lib.hid (show s[p2] ∈ s.data.toList.drop (i + 1) by rw [HP.out]; refine List.mem_of_getElem? (i := j) ?_; rw [List.getElem?_drop, HP2.out]; exact at_of s p2 hp2s)
           by_cases hlo2 : s[p2].toNat < 48
           ·have c3 : decide ((s[p2].toNat : Int) < 48) = true := decide_eq_true (by omega)
            have c3b : decide (s[p2].toNat < 48) = true := decide_eq_true hlo2
            have HE := Lib.hid (show thoL s.data.toList = none from HAT.out.bad H46.out HMEM.out (digB_not (.inl hlo2)))
            clear hlo2
            go_wp2
            go_ret2
            exact ⟨0, false, rfl, HNO.out HE.out, rfl⟩
           ·have c3 : decide ((s[p2].toNat : Int) < 48) = false := decide_eq_false (by omega)
            have c3b : decide (s[p2].toNat < 48) = false := decide_eq_false hlo2
            by_cases hhi2 : 57 < s[p2].toNat
            ·have c4 : decide ((s[p2].toNat : Int) > 57) = true := decide_eq_true (by omega)
             have c4a : decide ((57 : Int) < (s[p2].toNat : Int)) = true := decide_eq_true (by omega)
             have c4b : decide (57 < s[p2].toNat) = true := decide_eq_true hhi2
             have HE := Lib.hid (show thoL s.data.toList = none from HAT.out.bad H46.out HMEM.out (digB_not (.inr hhi2)))
             clear hlo2 hhi2
             go_wp2
             go_ret2
             exact ⟨0, false, rfl, HNO.out HE.out, rfl⟩
            ·have c4 : decide ((s[p2].toNat : Int) > 57) = false := decide_eq_false (by omega)
             have c4a : decide ((57 : Int) < (s[p2].toNat : Int)) = false := decide_eq_false (by omega)
             have c4b : decide (57 < s[p2].toNat) = false := decide_eq_false hhi2
             by_cases hl3 : lf = 0
             ·have c5 : ((lf : Int) == 0) = true := beq_iff_eq.2 (by omega)
              have c5b : (lf == 0) = true := beq_iff_eq.2 hl3
              have HE := Lib.hid (show thoL s.data.toList = none from HAT.out.long H46.out (by rw [HSZ.out, HP.out]; have := HP2.out; omega))
              clear hlo2 hhi2 hl3
              go_wp2
              go_ret2
              exact ⟨0, false, rfl, HNO.out HE.out, rfl⟩
             ·have c5 : ((lf : Int) == 0) = false := beq_eq_false_iff_ne.2 (by omega)
              have c5b : (lf == 0) = false := beq_eq_false_iff_ne.2 hl3
              have hsn : (s.data.toList.drop p).take (j + 1) = (s.data.toList.drop p).take j ++ [s[p2]] := by
               have h9 : (s.data.toList.drop p)[j]? = some s[p2] := by rw [List.getElem?_drop, HP2.out]; exact at_of s p2 hp2s
               obtain ⟨g1, g2⟩ := List.getElem?_eq_some_iff.1 h9
               rw [List.take_succ_eq_append_getElem g1, g2]
              have HD3 := Lib.hid (show ((s.data.toList.drop p).take (j + 1)).all digB = true by rw [hsn, List.all_append, HD2.out]; show ([s[p2]] : List UInt8).all digB = true; rw [List.all_cons, digB_yes (by omega) (by omega)]; rfl)
              have HV3 := Lib.hid (show valL (s.data.toList.take i ++ (s.data.toList.drop p).take (j + 1)) = 10 * v2 + (s[p2].toNat - 48) by rw [hsn, ← List.append_assoc, val_snoc, HV2.out])
              have hb2 := HB2.out
              have hpj : 10 ^ j ≤ 1000 := Nat.pow_le_pow_right (by omega) (show j ≤ 3 by omega)
              have hv2 : v2 < 1000000 * 1000 := Nat.lt_of_lt_of_le hb2 (Nat.mul_le_mul_left _ hpj)
              have HB3 := Lib.hid (show 10 * v2 + (s[p2].toNat - 48) < 1000000 * 10 ^ (j + 1) by rw [Nat.pow_succ]; generalize 10 ^ j = z9 at hb2 ⊢; omega)
              have hu : IntKind.u8.wrap ((s[p2].toNat : Int) - 48) = ((s[p2].toNat - 48 : Nat) : Int) := by rw [IntKind.wrap_u8]; omega
              have hu2 : IntKind.i64.wrap ((s[p2].toNat - 48 : Nat) : Int) = ((s[p2].toNat - 48 : Nat) : Int) := wrap_big (by omega)
              have w1 : IntKind.i64.wrap (10 * (v2 : Int)) = ((10 * v2 : Nat) : Int) := by rw [IntKind.wrap_i64]; omega
              have w2 : IntKind.i64.wrap (((10 * v2 : Nat) : Int) + ((s[p2].toNat - 48 : Nat) : Int)) = ((10 * v2 + (s[p2].toNat - 48) : Nat) : Int) := by rw [IntKind.wrap_i64]; omega
              have w3 : IntKind.i64.wrap ((lf : Int) - 1) = ((3 - (j + 1) : Nat) : Int) := by rw [IntKind.wrap_i64]; omega
              have w4 : IntKind.i64.wrap ((p2 : Int) + 1) = ((p + (j + 1) : Nat) : Int) := by rw [IntKind.wrap_i64]; have := HP2.out; omega
              have hpp := HP2.out
              clear hsn hb2 hpj hlo2 hhi2
              go_wp2
              go_roundg (sz - (p2 + 1))
              case rel => exact ⟨j + 1, 10 * v2 + (s[p2].toNat - 48), (by show _ = _; omega), by omega, by omega, by go_num, by go_num, by go_num, HV3.out, HD3.out, HB3.out, rfl⟩
              case measure => omega
          ·have blt3 : decide ((p2 : Int) < (sz : Int)) = false := decide_eq_false (by omega)
           have blt4 : decide (p2 < sz) = false := decide_eq_false hlt2
           have hps2 : p2 = sz := by omega
           have HTK := Lib.hid (show (s.data.toList.drop p).take j = s.data.toList.drop p from List.take_of_length_le (by rw [List.length_drop, HSZ.out]; have := HP2.out; omega))
           have HTH := Lib.hid (show thoL s.data.toList = some (v2 * 10 ^ lf) by
            have h9 := HAT.out.all H46.out (by rw [HSZ.out, HP.out]; exact HPS.out) HN48.out (by rw [HSZ.out, HP.out]; have := HP2.out; omega) (by rw [HP.out]; have h8 := HD2.out; rw [HTK.out] at h8; exact h8)
            have h7 := HV2.out
            rw [HTK.out] at h7
            rw [HP.out, HSZ.out, h7] at h9
            rw [h9, show 3 - (sz - p) = lf by have := HP2.out; omega])
           have HVB := Lib.hid (show v2 ≤ 1000000000 by have hb2 := HB2.out; have hpj : 10 ^ j ≤ 1000 := Nat.pow_le_pow_right (by omega) (show j ≤ 3 by omega); have := Nat.lt_of_lt_of_le hb2 (Nat.mul_le_mul_left _ hpj); omega)
           have hlf3 : lf ≤ 3 := by omega
           go_wp2
           go_loopg [5, 7] lf (fun gk vn vl w2 => ∃ t m : Nat, Hid (t + gk = lf) ∧ t ≤ lf ∧ vl = .int .i64 ((lf - t : Nat) : Int) ∧ vn = .int .i64 (m : Int) ∧ Hid (m = v2 * 10 ^ t) ∧ w2 = wr)
           case atStart => exact ⟨0, v2, Nat.zero_add _, Nat.zero_le _, by go_num, rfl, (by show _ = _; rw [Nat.pow_zero, Nat.mul_one]), rfl⟩
           case round =>
            obtain ⟨t, m, HG3, ht, rfl, rfl, HM, rfl⟩ := hrel
            by_cases hlt3 : t < lf
            ·obtain ⟨l3, hl3⟩ : ∃ l3, lf - t = l3 := ⟨_, rfl⟩
             rw [hl3]
             have x1 : decide ((l3 : Int) > 0) = true := decide_eq_true (by omega)
             have x2 : decide ((0 : Int) < (l3 : Int)) = true := decide_eq_true (by omega)
             have x3 : decide (0 < l3) = true := decide_eq_true (by omega)
             have hgk3 := HG3.out
             have hm := HM.out
             have hvv := HVB.out
             have hp : 10 ^ t ≤ 1000 := Nat.pow_le_pow_right (by omega) (show t ≤ 3 by omega)
             have hmb : m ≤ 1000000000 * 1000 := by rw [hm]; exact Nat.mul_le_mul (by omega) hp
             have HM2 := Lib.hid (show 10 * m = v2 * 10 ^ (t + 1) by rw [hm, Nat.pow_succ]; simp only [Nat.mul_comm, Nat.mul_left_comm])
             have w1 : IntKind.i64.wrap (10 * (m : Int)) = ((10 * m : Nat) : Int) := by rw [IntKind.wrap_i64]; omega
             have w2 : IntKind.i64.wrap ((l3 : Int) - 1) = ((lf - (t + 1) : Nat) : Int) := by rw [IntKind.wrap_i64]; omega
             clear hm hvv hp
             go_wp2
             go_roundg (lf - (t + 1))
             case rel => exact ⟨t + 1, 10 * m, (by show _ = _; omega), by omega, by go_num, by go_num, HM2.out, rfl⟩
             case measure => omega
            ·have ht3 : t = lf := by omega
             have hl0 : lf - t = 0 := by omega
             rw [hl0]
             have HTT := Lib.hid (show thoL s.data.toList = some m by rw [HM.out, ht3]; exact HTH.out)
             have HMB := Lib.hid (show m < 1000000000 from (tho_cases s.data.toList).elim (fun k => by have h9 := HTT.out; rw [h9] at k; cases k) (fun ⟨n0, k1, k2, _⟩ => by have h9 := HTT.out; rw [h9] at k2; injection k2 with k2; omega))
             obtain ⟨x, hx⟩ : ∃ x, thouW m = x := ⟨_, rfl⟩
             have k1 := fun (t : TypeId) (w : World) => run_float_arith (P := Tryz.prog) w .quo t .f64 (floatOfInt .f64 (m : Int)) 4652007308841189376 x (by rw [← hx]; exact thou_quo HMB.out)
             have HRD := Lib.hid (show ReadIs s.data.toList x true by rw [← hx]; exact HYES.out m HMB.out HTT.out)
             clear hx
             go_wp2
             go_ret2
             exact ⟨x, true, rfl, HRD.out, rfl⟩
      ·have z1 : ((s[i].toNat : Int) != 46) = true := bne_iff_ne.2 (by omega)
       have z2 : (s[i].toNat != 46) = true := bne_iff_ne.2 h46
       have HE := Lib.hid (show thoL s.data.toList = none from HAT.out.other (at_of s i hlt) (digB_not (by omega)) (fun e9 => h46 (by rw [e9]; rfl)))
       clear hi0 h46
       go_wp2
       go_ret2
       exact ⟨0, false, rfl, HNO.out HE.out, rfl⟩
     ·have c1 : decide ((s[i].toNat : Int) ≥ 48) = true := decide_eq_true (by omega)
      have c1a : decide ((48 : Int) ≤ (s[i].toNat : Int)) = true := decide_eq_true (by omega)
      have c1b : decide (48 ≤ s[i].toNat) = true := decide_eq_true (by omega)
      by_cases hhi : 57 < s[i].toNat
      ·have c2 : decide ((s[i].toNat : Int) ≤ 57) = false := decide_eq_false (by omega)
       have c2b : decide (s[i].toNat ≤ 57) = false := decide_eq_false (by omega)
       by_cases hi0 : i = 0
       ·have y1 : ((i : Int) == 0) = true := beq_iff_eq.2 (by omega)
        have y2 : (i == 0) = true := beq_iff_eq.2 hi0
        have HE := Lib.hid (show thoL s.data.toList = none from tho_nil (.inr ⟨s[i], (show s.data.toList[0]? = s.data.toList[i]? by rw [hi0]).trans (at_of s i hlt), digB_not (by omega)⟩))
        clear hi0
        go_wp2
        go_ret2
        exact ⟨0, false, rfl, HNO.out HE.out, rfl⟩
       have y1 : ((i : Int) == 0) = false := beq_eq_false_iff_ne.2 (by omega)
       have y2 : (i == 0) = false := beq_eq_false_iff_ne.2 hi0
       have HAT := Lib.hid (show At s.data.toList i from ⟨by omega, HI6.out, by rw [HSZ.out]; exact hi, HDG.out, fun hh => HHD.out hh.1 hh.2⟩)
       have z1 : ((s[i].toNat : Int) != 46) = true := bne_iff_ne.2 (by omega)
       have z2 : (s[i].toNat != 46) = true := bne_iff_ne.2 (by omega)
       have HE := Lib.hid (show thoL s.data.toList = none from HAT.out.other (at_of s i hlt) (digB_not (by omega)) (fun e9 => by rw [e9] at hhi; exact absurd hhi (by decide)))
       clear hi0
       go_wp2
       go_ret2
       exact ⟨0, false, rfl, HNO.out HE.out, rfl⟩
      ·have c2 : decide ((s[i].toNat : Int) ≤ 57) = true := decide_eq_true (by omega)
       have c2b : decide (s[i].toNat ≤ 57) = true := decide_eq_true (by omega)
       have hsn := W.take_snoc s i hlt
       have HD1 := Lib.hid (show (s.data.toList.take (i + 1)).all digB = true by rw [hsn, List.all_append, HDG.out]; show ([s[i]] : List UInt8).all digB = true; rw [List.all_cons, digB_yes (by omega) (by omega)]; rfl)
       have HV1 := Lib.hid (show valL (s.data.toList.take (i + 1)) = 10 * v + (s[i].toNat - 48) by rw [hsn, val_snoc, HV.out])
       clear hsn
       by_cases h6 : i = 6
       ·have d1 : ((i : Int) == 6) = true := beq_iff_eq.2 (by omega)
        have d2 : (i == 6) = true := beq_iff_eq.2 h6
        have HE := Lib.hid (show thoL s.data.toList = none from tho_more (k := i + 1) (by rw [HSZ.out]; omega) HD1.out (.inl (by omega)))
        clear hlo hhi h6
        go_wp2
        go_ret2
        exact ⟨0, false, rfl, HNO.out HE.out, rfl⟩
       ·have d1 : ((i : Int) == 6) = false := beq_eq_false_iff_ne.2 (by omega)
        have d2 : (i == 6) = false := beq_eq_false_iff_ne.2 h6
        have HL6 := Lib.hid (show i + 1 ≤ 6 by have := HI6.out; omega)
        have hgs := HGS.out
        have hvb : v < 1000000 := by
         have h9 := val_lt _ HDG.out 6 (by rw [List.length_take]; have := HI6.out; omega)
         rw [HV.out] at h9; have e9 : (10 : Nat) ^ 6 = 1000000 := rfl; omega
        have hu : IntKind.u8.wrap ((s[i].toNat : Int) - 48) = ((s[i].toNat - 48 : Nat) : Int) := by rw [IntKind.wrap_u8]; omega
        have hu2 : IntKind.i64.wrap ((s[i].toNat - 48 : Nat) : Int) = ((s[i].toNat - 48 : Nat) : Int) := wrap_big (by omega)
        have w1 : IntKind.i64.wrap (10 * (v : Int)) = ((10 * v : Nat) : Int) := by rw [IntKind.wrap_i64]; omega
        have w2 : IntKind.i64.wrap (((10 * v : Nat) : Int) + ((s[i].toNat - 48 : Nat) : Int)) = ((10 * v + (s[i].toNat - 48) : Nat) : Int) := by rw [IntKind.wrap_i64]; omega
        by_cases h1 : i = 1
        ·subst h1
         have h0i : (0 : Int) < (sz : Int) := by omega
         by_cases hz : s[0].toNat = 48
         ·have d5 : ((s[0].toNat : Int) == 48) = true := beq_iff_eq.2 (by omega)
          have d6 : (s[0].toNat == 48) = true := beq_iff_eq.2 hz
          have HE := Lib.hid (show thoL s.data.toList = none from tho_more (k := 1 + 1) (by rw [HSZ.out]; omega) HD1.out (.inr ⟨by omega, by rw [List.head?_eq_getElem?, at_of s 0 h0s, show s[0] = 48 from UInt8.toNat_inj.1 hz]⟩))
          clear hlo hhi h6 hz
          go_wp2
          go_ret2
          exact ⟨0, false, rfl, HNO.out HE.out, rfl⟩
         ·have d5 : ((s[0].toNat : Int) == 48) = false := beq_eq_false_iff_ne.2 (by omega)
          have d6 : (s[0].toNat == 48) = false := beq_eq_false_iff_ne.2 hz
          have HH1 := Lib.hid (show 2 ≤ 1 + 1 → s.data.toList.head? = some 48 → False from fun _ e9 => by rw [List.head?_eq_getElem?, at_of s 0 h0s] at e9; injection e9 with e9; exact hz (by rw [e9]; rfl))
          clear hlo hhi hz
          go_wp2
          go_roundg (sz - (1 + 1))
          case rel => exact ⟨1 + 1, 10 * v + (s[1].toNat - 48), (by show _ = _; omega), by omega, by go_num, by go_num, HV1.out, HD1.out, HL6.out, HH1.out, rfl⟩
          case measure => omega
        ·have d3 : ((i : Int) == 1) = false := beq_eq_false_iff_ne.2 (by omega)
         have d4 : (i == 1) = false := beq_eq_false_iff_ne.2 h1
         have HH1 := Lib.hid (show 2 ≤ i + 1 → s.data.toList.head? = some 48 → False from fun h8 e9 => HHD.out (by omega) e9)
         clear hlo hhi
         go_wp2
         go_roundg (sz - (i + 1))
         case rel => exact ⟨i + 1, 10 * v + (s[i].toNat - 48), (by show _ = _; omega), by omega, by go_num, by go_num, HV1.out, HD1.out, HL6.out, HH1.out, rfl⟩
         case measure => omega
    ·have blt : decide ((i : Int) < (sz : Int)) = false := decide_eq_false (by omega)
     have blt2 : decide (i < sz) = false := decide_eq_false hlt0
     have HDR := Lib.hid (show i = s.data.toList.length by rw [HSZ.out]; omega)
     by_cases hi0 : i = 0
     ·have y1 : ((i : Int) == 0) = true := beq_iff_eq.2 (by omega)
      have y2 : (i == 0) = true := beq_iff_eq.2 hi0
      have HE := Lib.hid (show thoL s.data.toList = none from tho_nil (.inl (List.eq_nil_of_length_eq_zero (by rw [← HDR.out]; exact hi0))))
      clear hi0
      go_wp2
      go_ret2
      exact ⟨0, false, rfl, HNO.out HE.out, rfl⟩
     have y1 : ((i : Int) == 0) = false := beq_eq_false_iff_ne.2 (by omega)
     have y2 : (i == 0) = false := beq_eq_false_iff_ne.2 hi0
     have HAT := Lib.hid (show At s.data.toList i from ⟨by omega, HI6.out, by rw [HSZ.out]; exact hi, HDG.out, fun hh => HHD.out hh.1 hh.2⟩)
     have HTH := Lib.hid (show thoL s.data.toList = some (v * 10 ^ 3) by rw [HAT.out.done HDR.out, HV.out])
     have HVB := Lib.hid (show v ≤ 1000000000 by have h9 := val_lt _ HDG.out 6 (by rw [List.length_take]; have := HI6.out; omega); rw [HV.out] at h9; have e9 : (10 : Nat) ^ 6 = 1000000 := rfl; omega)
     clear hi0
     go_wp2
     go_loopg [5, 7] 3 (fun gk vn vl w2 => ∃ t m : Nat, Hid (t + gk = 3) ∧ t ≤ 3 ∧ vl = .int .i64 ((3 - t : Nat) : Int) ∧ vn = .int .i64 (m : Int) ∧ Hid (m = v * 10 ^ t) ∧ w2 = wr)
     case atStart => exact ⟨0, v, Nat.zero_add _, Nat.zero_le _, by go_num, rfl, (by show _ = _; rw [Nat.pow_zero, Nat.mul_one]), rfl⟩
     case round =>
      obtain ⟨t, m, HG3, ht, rfl, rfl, HM, rfl⟩ := hrel
      by_cases hlt3 : t < 3
      ·obtain ⟨l3, hl3⟩ : ∃ l3, 3 - t = l3 := ⟨_, rfl⟩
       rw [hl3]
       have x1 : decide ((l3 : Int) > 0) = true := decide_eq_true (by omega)
       have x2 : decide ((0 : Int) < (l3 : Int)) = true := decide_eq_true (by omega)
       have x3 : decide (0 < l3) = true := decide_eq_true (by omega)
       have hgk3 := HG3.out
       have hm := HM.out
       have hvv := HVB.out
       have hp : 10 ^ t ≤ 1000 := Nat.pow_le_pow_right (by omega) (show t ≤ 3 by omega)
       have hmb : m ≤ 1000000000 * 1000 := by rw [hm]; exact Nat.mul_le_mul (by omega) hp
       have HM2 := Lib.hid (show 10 * m = v * 10 ^ (t + 1) by rw [hm, Nat.pow_succ]; simp only [Nat.mul_comm, Nat.mul_left_comm])
       have w1 : IntKind.i64.wrap (10 * (m : Int)) = ((10 * m : Nat) : Int) := by rw [IntKind.wrap_i64]; omega
       have w2 : IntKind.i64.wrap ((l3 : Int) - 1) = ((3 - (t + 1) : Nat) : Int) := by rw [IntKind.wrap_i64]; omega
       clear hm hvv hp
       go_wp2
       go_roundg (3 - (t + 1))
       case rel => exact ⟨t + 1, 10 * m, (by show _ = _; omega), by omega, by go_num, by go_num, HM2.out, rfl⟩
       case measure => omega
      ·have ht3 : t = 3 := by omega
       have hl0 : 3 - t = 0 := by omega
       rw [hl0]
       have HTT := Lib.hid (show thoL s.data.toList = some m by rw [HM.out, ht3]; exact HTH.out)
       have HMB := Lib.hid (show m < 1000000000 from (tho_cases s.data.toList).elim (fun k => by have h9 := HTT.out; rw [h9] at k; cases k) (fun ⟨n0, k1, k2, _⟩ => by have h9 := HTT.out; rw [h9] at k2; injection k2 with k2; omega))
       obtain ⟨x, hx⟩ : ∃ x, thouW m = x := ⟨_, rfl⟩
       have k1 := fun (t : TypeId) (w : World) => run_float_arith (P := Tryz.prog) w .quo t .f64 (floatOfInt .f64 (m : Int)) 4652007308841189376 x (by rw [← hx]; exact thou_quo HMB.out)
       have HRD := Lib.hid (show ReadIs s.data.toList x true by rw [← hx]; exact HYES.out m HMB.out HTT.out)
       clear hx
       go_wp2
       go_ret2
       exact ⟨x, true, rfl, HRD.out, rfl⟩
  ·have b4 : decide ((sz : Int) > 0) = false := decide_eq_false (by omega)
   have b4a : decide ((0 : Int) < (sz : Int)) = false := decide_eq_false (by omega)
   have b4b : decide (0 < sz) = false := decide_eq_false hpos
   have HE := Lib.hid (show thoL s.data.toList = none from tho_nil (.inl (List.eq_nil_of_length_eq_zero (by rw [HSZ.out]; omega))))
   have blt : decide ((0 : Int) < (sz : Int)) = false := b4a
   clear h1 h2 h3 h4 g1 g2
   go_enter Tryz.func139, Tryz.ntmps139
   go_wp2
   go_loopg [5, 6] 0 (fun gk vn vi wr => vi = .int .i64 0 ∧ vn = .int .i64 0 ∧ wr = w)
   case atStart => exact ⟨rfl, rfl, rfl⟩
   case round =>
    obtain ⟨rfl, rfl, rfl⟩ := hrel
    go_wp2
    go_ret2
    exact ⟨0, false, rfl, HNO.out HE.out, rfl⟩
end Go.Proofs.YtfcikfohmehmkaaGreatDoor
namespace Go.Proofs.YtfcikfohmehmkaaGreatDoor
open Go.RowKit
open F
set_option linter.unusedVariables false
theorem read_readB {s : List UInt8} {x : Nat} {ok : Bool} (h : ReadIs s x ok) : ok = C.readB s := by
 obtain ⟨_, h⟩ := h
 unfold readM at h
 unfold C.readB
 by_cases h1 : s = [110, 97, 110]
 ·rw [if_pos h1] at h; rw [decide_eq_true h1]; exact h.2
 rw [if_neg h1] at h
 by_cases h2 : s = [105, 110, 102]
 ·rw [if_pos h2] at h; rw [decide_eq_true h2, Bool.or_true]; exact h.2
 rw [if_neg h2] at h
 by_cases h3 : s = [45, 105, 110, 102]
 ·rw [if_pos h3] at h; rw [decide_eq_true h3, Bool.or_true]; exact h.2
 rw [if_neg h3] at h
 rw [decide_eq_false h1, decide_eq_false h2, decide_eq_false h3, Bool.false_or, Bool.false_or, Bool.false_or]
 by_cases h4 : s.head? = some 45
 ·rw [if_pos h4] at h; rw [if_pos h4]
  cases hh : thoL s.tail with
  | none => rw [hh] at h; exact h.2
  | some n => rw [hh] at h; exact h.2
 ·rw [if_neg h4] at h; rw [if_neg h4]
  cases hh : thoL s with
  | none => rw [hh] at h; exact h.2
  | some n => rw [hh] at h; exact h.2
theorem beq_decW {x y : List UInt8} : (x == y) = decide (x = y) := by
 cases h : decide (x = y) with
 | true => exact beq_iff_eq.2 (of_decide_eq_true h)
 | false => exact beq_eq_false_iff_ne.2 (of_decide_eq_false h)
theorem nameQ (x : List UInt8) (r : Bool) (w : World) (hs : x.length ≤ 1073741824) (h : C.nameB x = r) : Calls Tryz.prog 135 #[.string (sB x)] w (fun e w' => e = .returned (.bool r) ∧ w = w') := by
 subst h
 have := nameR (sB x) w (by rw [sB_size]; exact hs)
 rwa [sB_data] at this
theorem prefQ13 (x : List UInt8) (a b : Int) (w : World) (hs : x.length ≤ 1073741824) (h1 : (N.prefL x).1 = a) (h2 : (N.prefL x).2 = b) : Calls Tryz.prog 137 #[.string (sB x)] w (fun e w' => e = .returned (.tuple #[.int .i64 a, .int .i64 b]) ∧ Below w.heap.size w w') := by
 subst h1; subst h2
 have := prefR (sB x) w (by rw [sB_size]; exact hs)
 rwa [sB_data] at this
theorem macQ13 (x : List UInt8) (z : Int) (w : World) (hs : x.length ≤ 1073741824) (h : N.macL x = z) : Calls Tryz.prog 138 #[.string (sB x)] w (fun e w' => e = .returned (.int .i64 z) ∧ Below w.heap.size w w') := by
 subst h
 have := macR (sB x) w (by rw [sB_size]; exact hs)
 rwa [sB_data] at this
theorem readQ13 (x : List UInt8) (r : Bool) (w : World) (hs : x.length ≤ 100) (h : C.readB x = r) : Calls Tryz.prog 139 #[.string (sB x)] w (fun e w' => ∃ y, e = .returned (.tuple #[.float .f64 y, .bool r]) ∧ w' = w) := by
 refine (readR11 (sB x) w (by rw [sB_size]; exact hs)).mono ?_
 rintro e w' ⟨y, ok, rfl, hr, rfl⟩
 rw [sB_data] at hr
 exact ⟨y, by rw [read_readB hr, h], rfl⟩
set_option maxRecDepth 100000 in
set_option maxHeartbeats 8000000 in
theorem typeR (k x : List UInt8) (r : Bool) (w : World) (hx : x.length ≤ 100) (hr : C.typeB k x = r) : Calls Tryz.prog 98 #[.string (sB k), .string (sB x)] w (fun e w' => e = .returned (.bool r) ∧ Below w.heap.size w w') := by
 obtain ⟨nx, hnx⟩ : ∃ nx, N.numL x = nx := ⟨_, rfl⟩
 have HNX := Lib.hid hnx
 have HL := Lib.hid (show x.length ≤ 1073741824 by omega)
 have HX := Lib.hid hx
 have hb : Below w.heap.size w w := Below.refl _ _
 by_cases h0 : k = C.kName
 ·have q0 : ((sB k).toList == [36, 110, 97, 109, 101]) = true := by rw [sB_toList, beq_iff_eq]; exact h0
  have hv : C.nameB x = r := by rw [← hr]; unfold C.typeB; rw [if_pos h0]
  have HV := Lib.hid hv
  clear h0 hx hnx hr hv
  go_enter Tryz.func98, Tryz.ntmps98
  go_wp2_with fail
  refine (numQ x nx _ HL.out HNX.out).mono ?_
  rintro e w1 ⟨rfl, rfl⟩
  go_wp2_with fail
  refine (nameQ x r _ HL.out HV.out).mono ?_
  rintro e w1 ⟨rfl, rfl⟩
  go_wp2
  go_ret
  exact ⟨rfl, hb⟩
 have q0 : ((sB k).toList == [36, 110, 97, 109, 101]) = false := by rw [sB_toList, beq_eq_false_iff_ne]; exact h0
 by_cases h1 : k = C.kIp
 ·have q1 : ((sB k).toList == [36, 105, 112]) = true := by rw [sB_toList, beq_iff_eq]; exact h1
  have hv : decide (0 ≤ N.ipL x) = r := by rw [← hr]; unfold C.typeB; rw [if_neg h0, if_pos h1]
  obtain ⟨z, hz⟩ : ∃ z, N.ipL x = z := ⟨_, rfl⟩
  rw [hz] at hv
  have hv2 : decide (z ≥ 0) = r := hv
  have HZ := Lib.hid hz
  clear h0 h1 hx hnx hr hz
  go_enter Tryz.func98, Tryz.ntmps98
  go_wp2_with fail
  refine (numQ x nx _ HL.out HNX.out).mono ?_
  rintro e w1 ⟨rfl, rfl⟩
  go_wp2_with fail
  refine (ipQ x z _ HL.out HZ.out).mono ?_
  rintro e w2 ⟨rfl, hx⟩
  go_wp2
  go_ret
  exact ⟨rfl, bthen hb hx⟩
 have q1 : ((sB k).toList == [36, 105, 112]) = false := by rw [sB_toList, beq_eq_false_iff_ne]; exact h1
 by_cases h2 : k = C.kPrefix
 ·have q2 : ((sB k).toList == [36, 112, 114, 101, 102, 105, 120]) = true := by rw [sB_toList, beq_iff_eq]; exact h2
  have hv : decide (0 ≤ (N.prefL x).1) = r := by rw [← hr]; unfold C.typeB; rw [if_neg h0, if_neg h1, if_pos h2]
  obtain ⟨z, hz⟩ : ∃ z, (N.prefL x).1 = z := ⟨_, rfl⟩
  rw [hz] at hv
  have hv2 : decide (z ≥ 0) = r := hv
  have HZ := Lib.hid hz
  obtain ⟨zb, hzb⟩ : ∃ z, (N.prefL x).2 = z := ⟨_, rfl⟩
  have HZB := Lib.hid hzb
  clear h0 h1 h2 hx hnx hr hz hzb
  go_enter Tryz.func98, Tryz.ntmps98
  go_wp2_with fail
  refine (numQ x nx _ HL.out HNX.out).mono ?_
  rintro e w1 ⟨rfl, rfl⟩
  go_wp2_with fail
  refine (prefQ13 x z zb _ HL.out HZ.out HZB.out).mono ?_
  rintro e w2 ⟨rfl, hx⟩
  go_wp2
  go_ret
  exact ⟨rfl, bthen hb hx⟩
 have q2 : ((sB k).toList == [36, 112, 114, 101, 102, 105, 120]) = false := by rw [sB_toList, beq_eq_false_iff_ne]; exact h2
 by_cases h3 : k = C.kMac
 ·have q3 : ((sB k).toList == [36, 109, 97, 99]) = true := by rw [sB_toList, beq_iff_eq]; exact h3
  have hv : decide (0 ≤ N.macL x) = r := by rw [← hr]; unfold C.typeB; rw [if_neg h0, if_neg h1, if_neg h2, if_pos h3]
  obtain ⟨z, hz⟩ : ∃ z, N.macL x = z := ⟨_, rfl⟩
  rw [hz] at hv
  have hv2 : decide (z ≥ 0) = r := hv
  have HZ := Lib.hid hz
  clear h0 h1 h2 h3 hx hnx hr hz
  go_enter Tryz.func98, Tryz.ntmps98
  go_wp2_with fail
  refine (numQ x nx _ HL.out HNX.out).mono ?_
  rintro e w1 ⟨rfl, rfl⟩
  go_wp2_with fail
  refine (macQ13 x z _ HL.out HZ.out).mono ?_
  rintro e w2 ⟨rfl, hx⟩
  go_wp2
  go_ret
  exact ⟨rfl, bthen hb hx⟩
 have q3 : ((sB k).toList == [36, 109, 97, 99]) = false := by rw [sB_toList, beq_eq_false_iff_ne]; exact h3
 by_cases h4 : k = C.kVni
 ·have q4 : ((sB k).toList == [36, 118, 110, 105]) = true := by rw [sB_toList, beq_iff_eq]; exact h4
  have hv : (decide (1 ≤ N.numL x) && decide (N.numL x ≤ 16777215)) = r := by rw [← hr]; unfold C.typeB; rw [if_neg h0, if_neg h1, if_neg h2, if_neg h3, if_pos h4]
  rw [hnx] at hv
  by_cases g1 : 1 ≤ nx
  ·have d1 : decide (1 ≤ nx) = true := decide_eq_true g1
   have d1b : decide (nx ≥ 1) = true := d1
   rw [d1, Bool.true_and] at hv
   clear h0 h1 h2 h3 h4 hx hnx hr g1
   go_enter Tryz.func98, Tryz.ntmps98
   go_wp2_with fail
   refine (numQ x nx _ HL.out HNX.out).mono ?_
   rintro e w1 ⟨rfl, rfl⟩
   go_wp2
   go_ret
   exact ⟨rfl, hb⟩
  ·have d1 : decide (1 ≤ nx) = false := decide_eq_false g1
   have d1b : decide (nx ≥ 1) = false := d1
   rw [d1, Bool.false_and] at hv
   have HV := Lib.hid hv
   clear h0 h1 h2 h3 h4 hx hnx hr g1 hv
   go_enter Tryz.func98, Tryz.ntmps98
   go_wp2_with fail
   refine (numQ x nx _ HL.out HNX.out).mono ?_
   rintro e w1 ⟨rfl, rfl⟩
   go_wp2
   go_ret
   exact ⟨by rw [← HV.out]; rfl, hb⟩
 have q4 : ((sB k).toList == [36, 118, 110, 105]) = false := by rw [sB_toList, beq_eq_false_iff_ne]; exact h4
 by_cases h5 : k = C.kNum
 ·have q5 : ((sB k).toList == [36, 110, 117, 109]) = true := by rw [sB_toList, beq_iff_eq]; exact h5
  have hv : (decide (1 ≤ N.numL x) && decide (N.numL x ≤ 1000)) = r := by rw [← hr]; unfold C.typeB; rw [if_neg h0, if_neg h1, if_neg h2, if_neg h3, if_neg h4, if_pos h5]
  rw [hnx] at hv
  by_cases g1 : 1 ≤ nx
  ·have d1 : decide (1 ≤ nx) = true := decide_eq_true g1
   have d1b : decide (nx ≥ 1) = true := d1
   rw [d1, Bool.true_and] at hv
   clear h0 h1 h2 h3 h4 h5 hx hnx hr g1
   go_enter Tryz.func98, Tryz.ntmps98
   go_wp2_with fail
   refine (numQ x nx _ HL.out HNX.out).mono ?_
   rintro e w1 ⟨rfl, rfl⟩
   go_wp2
   go_ret
   exact ⟨rfl, hb⟩
  ·have d1 : decide (1 ≤ nx) = false := decide_eq_false g1
   have d1b : decide (nx ≥ 1) = false := d1
   rw [d1, Bool.false_and] at hv
   have HV := Lib.hid hv
   clear h0 h1 h2 h3 h4 h5 hx hnx hr g1 hv
   go_enter Tryz.func98, Tryz.ntmps98
   go_wp2_with fail
   refine (numQ x nx _ HL.out HNX.out).mono ?_
   rintro e w1 ⟨rfl, rfl⟩
   go_wp2
   go_ret
   exact ⟨by rw [← HV.out]; rfl, hb⟩
 have q5 : ((sB k).toList == [36, 110, 117, 109]) = false := by rw [sB_toList, beq_eq_false_iff_ne]; exact h5
 by_cases h6 : k = C.kMetric
 ·have q6 : ((sB k).toList == [36, 109, 101, 116, 114, 105, 99]) = true := by rw [sB_toList, beq_iff_eq]; exact h6
  have hv : C.readB x = r := by rw [← hr]; unfold C.typeB; rw [if_neg h0, if_neg h1, if_neg h2, if_neg h3, if_neg h4, if_neg h5, if_pos h6]
  have HV := Lib.hid hv
  clear h0 h1 h2 h3 h4 h5 h6 hx hnx hr hv
  go_enter Tryz.func98, Tryz.ntmps98
  go_wp2_with fail
  refine (numQ x nx _ HL.out HNX.out).mono ?_
  rintro e w1 ⟨rfl, rfl⟩
  go_wp2_with fail
  refine (readQ13 x r _ HX.out HV.out).mono ?_
  rintro e w1 ⟨y, rfl, rfl⟩
  go_wp2
  go_ret
  exact ⟨rfl, hb⟩
 have q6 : ((sB k).toList == [36, 109, 101, 116, 114, 105, 99]) = false := by rw [sB_toList, beq_eq_false_iff_ne]; exact h6
 by_cases h7 : k = C.kAction
 ·have q7 : ((sB k).toList == [36, 97, 99, 116, 105, 111, 110]) = true := by rw [sB_toList, beq_iff_eq]; exact h7
  have hv : (decide (x = C.wPermit) || decide (x = C.wDeny)) = r := by rw [← hr]; unfold C.typeB; rw [if_neg h0, if_neg h1, if_neg h2, if_neg h3, if_neg h4, if_neg h5, if_neg h6, if_pos h7]
  by_cases g1 : x = C.wPermit
  ·have d1 : ((sB x).toList == [112, 101, 114, 109, 105, 116]) = true := by rw [sB_toList, beq_iff_eq]; exact g1
   rw [decide_eq_true g1, Bool.true_or] at hv
   have HV := Lib.hid hv
   clear h0 h1 h2 h3 h4 h5 h6 h7 hx hnx hr g1 hv
   go_enter Tryz.func98, Tryz.ntmps98
   go_wp2_with fail
   refine (numQ x nx _ HL.out HNX.out).mono ?_
   rintro e w1 ⟨rfl, rfl⟩
   go_wp2
   go_ret
   exact ⟨by rw [← HV.out]; rfl, hb⟩
  ·have d1 : ((sB x).toList == [112, 101, 114, 109, 105, 116]) = false := by rw [sB_toList, beq_eq_false_iff_ne]; exact g1
   rw [decide_eq_false g1, Bool.false_or] at hv
   have d2 : ((sB x).toList == [100, 101, 110, 121]) = r := by rw [sB_toList, ← hv]; exact beq_decW
   clear h0 h1 h2 h3 h4 h5 h6 h7 hx hnx hr g1 hv
   go_enter Tryz.func98, Tryz.ntmps98
   go_wp2_with fail
   refine (numQ x nx _ HL.out HNX.out).mono ?_
   rintro e w1 ⟨rfl, rfl⟩
   go_wp2
   go_ret
   exact ⟨rfl, hb⟩
 have q7 : ((sB k).toList == [36, 97, 99, 116, 105, 111, 110]) = false := by rw [sB_toList, beq_eq_false_iff_ne]; exact h7
 have HV := Lib.hid (show false = r by rw [← hr]; unfold C.typeB; rw [if_neg h0, if_neg h1, if_neg h2, if_neg h3, if_neg h4, if_neg h5, if_neg h6, if_neg h7])
 clear h0 h1 h2 h3 h4 h5 h6 h7 hx hnx hr
 go_enter Tryz.func98, Tryz.ntmps98
 go_wp2_with fail
 refine (numQ x nx _ HL.out HNX.out).mono ?_
 rintro e w1 ⟨rfl, rfl⟩
 go_wp2
 go_ret
 exact ⟨by rw [← HV.out]; rfl, hb⟩
theorem secondQ (x s : List UInt8) (w : World) (h : C.secondW x = s) : Calls Tryz.prog 97 #[.string (sB x)] w (fun e w' => e = .returned (.string (sB s)) ∧ w = w') := by subst h; exact secondR x w
def ShortW (p : T.Pth) : Prop := ∀ x ∈ p, x.length ≤ 100
theorem cellS {w : World} {b o : Nat} {p : T.Pth} (h : Holds eS w b o p) {i : Nat} {x : List UInt8} (hx : p[i]? = some x) : w.cell? ⟨b, o + i, none⟩ = some (.string (sB x)) := by
 obtain ⟨h1, h2⟩ := List.getElem?_eq_some_iff.1 hx
 rw [← h2]; exact h.str h1
set_option maxRecDepth 100000 in
set_option maxHeartbeats 8000000 in
theorem knownR (A : Option Addr) (c n : Nat) (p : T.Pth) (r : Int) (w : World) (hn : p.length = n) (hA : Seen eS w A p) (h0 : p ≠ []) (hs : ShortW p) (hl : n ≤ 1073741824) (hr : C.knownP p = r) : Calls Tryz.prog 62 #[.slice A n c] w (fun e w' => e = .returned (.int .i64 r) ∧ Below w.heap.size w w') := by
 have hpos : 0 < p.length := List.length_pos_iff.2 h0
 obtain ⟨b, o, rfl, hbw, hL⟩ := hA hpos
 have hb : Below w.heap.size w w := Below.refl _ _
 rcases p with _ | ⟨x0, _ | ⟨x1, _ | ⟨x2, _ | ⟨x3, _ | ⟨x4, rest⟩⟩⟩⟩⟩
 ·exact absurd rfl h0
 ·obtain rfl : 1 = n := hn
  have c0 : w.cell? ⟨b, o, none⟩ = some (.string (sB x0)) := cellS hL (i := 0) rfl
  obtain ⟨s, hs0⟩ : ∃ s, C.secondW x0 = s := ⟨_, rfl⟩
  have HS := Lib.hid hs0
  by_cases g : s = []
  ·have d1 : ((sB s).toList == []) = true := by rw [sB_toList, g]; rfl
   have d2 : (sB s).toList = [] := by rw [sB_toList, g]
   have HV := Lib.hid (show r = 3 by rw [← hr]; show (if C.secondW x0 = [] then (3 : Int) else 0) = 3; rw [hs0, if_pos g])
   clear hr hs0 g hL hA hs h0 hpos hl
   go_enter Tryz.func62, Tryz.ntmps62
   go_wp2_with fail
   refine (secondQ x0 s _ HS.out).mono ?_
   rintro e w1 ⟨rfl, rfl⟩
   go_wp2
   go_ret
   exact ⟨by rw [HV.out]; rfl, hb⟩
  ·have d1 : ((sB s).toList == []) = false := by rw [sB_toList]; exact beq_eq_false_iff_ne.2 g
   have d2 : ¬ (sB s).toList = [] := by rw [sB_toList]; exact g
   have HV := Lib.hid (show r = 0 by rw [← hr]; show (if C.secondW x0 = [] then (3 : Int) else 0) = 0; rw [hs0, if_neg g])
   clear hr hs0 g hL hA hs h0 hpos hl
   go_enter Tryz.func62, Tryz.ntmps62
   go_wp2_with fail
   refine (secondQ x0 s _ HS.out).mono ?_
   rintro e w1 ⟨rfl, rfl⟩
   go_wp2
   go_ret
   exact ⟨by rw [HV.out]; rfl, hb⟩
 ·obtain rfl : 2 = n := hn
  have c0 : w.cell? ⟨b, o, none⟩ = some (.string (sB x0)) := cellS hL (i := 0) rfl
  have c1 : w.cell? ⟨b, o + 1, none⟩ = some (.string (sB x1)) := cellS hL (i := 1) rfl
  obtain ⟨s, hs0⟩ : ∃ s, C.secondW x0 = s := ⟨_, rfl⟩
  have HS := Lib.hid hs0
  have HX1 := Lib.hid (show x1.length ≤ 100 from hs x1 (by simp))
  obtain ⟨t, ht⟩ : ∃ t, C.typeB s x1 = t := ⟨_, rfl⟩
  have HT := Lib.hid ht
  have HV := Lib.hid (show r = if t = true then 0 else 2 by rw [← hr, ← ht, ← hs0]; rfl)
  clear hr hs0 hL hA hs h0 hpos hl ht
  cases t with
  | true =>
   go_enter Tryz.func62, Tryz.ntmps62
   go_wp2_with fail
   refine (secondQ x0 s _ HS.out).mono ?_
   rintro e w1 ⟨rfl, rfl⟩
   go_wp2_with fail
   refine (typeR s x1 true _ HX1.out HT.out).mono ?_
   rintro e w2 ⟨rfl, hx⟩
   go_wp2
   go_ret
   exact ⟨by rw [HV.out]; rfl, bthen hb hx⟩
  | false =>
   go_enter Tryz.func62, Tryz.ntmps62
   go_wp2_with fail
   refine (secondQ x0 s _ HS.out).mono ?_
   rintro e w1 ⟨rfl, rfl⟩
   go_wp2_with fail
   refine (typeR s x1 false _ HX1.out HT.out).mono ?_
   rintro e w2 ⟨rfl, hx⟩
   go_wp2
   go_ret
   exact ⟨by rw [HV.out]; rfl, bthen hb hx⟩
 ·obtain rfl : 3 = n := hn
  have c0 : w.cell? ⟨b, o, none⟩ = some (.string (sB x0)) := cellS hL (i := 0) rfl
  have c1 : w.cell? ⟨b, o + 1, none⟩ = some (.string (sB x1)) := cellS hL (i := 1) rfl
  have c2 : w.cell? ⟨b, o + 2, none⟩ = some (.string (sB x2)) := cellS hL (i := 2) rfl
  obtain ⟨s, hs0⟩ : ∃ s, C.secondW x0 = s := ⟨_, rfl⟩
  have HS := Lib.hid hs0
  obtain ⟨ky, on, ne, hk⟩ : ∃ ky on ne, C.thirdK (C.key x0 x2) = (ky, on, ne) := ⟨_, _, _, rfl⟩
  have HK := Lib.hid hk
  have HX0 := Lib.hid (show x0.length ≤ 1073741824 from Nat.le_trans (hs x0 (by simp)) (by omega))
  have HX2 := Lib.hid (show x2.length ≤ 1073741824 from Nat.le_trans (hs x2 (by simp)) (by omega))
  by_cases g : ky = []
  ·have d1 : ((sB ky).toList == []) = true := by rw [sB_toList, g]; rfl
   have d2 : (sB ky).toList = [] := by rw [sB_toList, g]
   have HV := Lib.hid (show r = 3 by rw [← hr]; show (if (C.thirdK (C.key x0 x2)).1 = [] then (3 : Int) else 0) = 3; rw [hk, if_pos g])
   clear hr hs0 g hL hA hs h0 hpos hl hk
   go_enter Tryz.func62, Tryz.ntmps62
   go_wp2_with fail
   refine (secondQ x0 s _ HS.out).mono ?_
   rintro e w1 ⟨rfl, rfl⟩
   go_wp2
   go_quiet (first | (go_at_call 63; exact Calls.quiet_of_same (calls_sym (thirdR x0 x2 _ ky on ne _ HX0.out HX2.out rfl HK.out))))
   go_wp2
   go_ret
   exact ⟨by rw [HV.out]; rfl, below_drawn10 hb _⟩
  ·have d1 : ((sB ky).toList == []) = false := by rw [sB_toList]; exact beq_eq_false_iff_ne.2 g
   have d2 : ¬ (sB ky).toList = [] := by rw [sB_toList]; exact g
   have HV := Lib.hid (show r = 0 by rw [← hr]; show (if (C.thirdK (C.key x0 x2)).1 = [] then (3 : Int) else 0) = 0; rw [hk, if_neg g])
   clear hr hs0 g hL hA hs h0 hpos hl hk
   go_enter Tryz.func62, Tryz.ntmps62
   go_wp2_with fail
   refine (secondQ x0 s _ HS.out).mono ?_
   rintro e w1 ⟨rfl, rfl⟩
   go_wp2
   go_quiet (first | (go_at_call 63; exact Calls.quiet_of_same (calls_sym (thirdR x0 x2 _ ky on ne _ HX0.out HX2.out rfl HK.out))))
   go_wp2
   go_ret
   exact ⟨by rw [HV.out]; rfl, below_drawn10 hb _⟩
 ·obtain rfl : 4 = n := hn
  have c0 : w.cell? ⟨b, o, none⟩ = some (.string (sB x0)) := cellS hL (i := 0) rfl
  have c1 : w.cell? ⟨b, o + 1, none⟩ = some (.string (sB x1)) := cellS hL (i := 1) rfl
  have c2 : w.cell? ⟨b, o + 2, none⟩ = some (.string (sB x2)) := cellS hL (i := 2) rfl
  have c3 : w.cell? ⟨b, o + 3, none⟩ = some (.string (sB x3)) := cellS hL (i := 3) rfl
  obtain ⟨s, hs0⟩ : ∃ s, C.secondW x0 = s := ⟨_, rfl⟩
  have HS := Lib.hid hs0
  obtain ⟨ky, on, ne, hk⟩ : ∃ ky on ne, C.thirdK (C.key x0 x2) = (ky, on, ne) := ⟨_, _, _, rfl⟩
  have HK := Lib.hid hk
  have HX0 := Lib.hid (show x0.length ≤ 1073741824 from Nat.le_trans (hs x0 (by simp)) (by omega))
  have HX2 := Lib.hid (show x2.length ≤ 1073741824 from Nat.le_trans (hs x2 (by simp)) (by omega))
  have HX3 := Lib.hid (show x3.length ≤ 100 from hs x3 (by simp))
  obtain ⟨t, ht⟩ : ∃ t, C.typeB ky x3 = t := ⟨_, rfl⟩
  have HT := Lib.hid ht
  have HV := Lib.hid (show r = if t = true then 0 else 2 by rw [← hr, ← ht]; show (if C.typeB (C.thirdK (C.key x0 x2)).1 x3 = true then (0 : Int) else 2) = _; rw [hk])
  clear hr hs0 hL hA hs h0 hpos hl ht hk
  cases t with
  | true =>
   go_enter Tryz.func62, Tryz.ntmps62
   go_wp2_with fail
   refine (secondQ x0 s _ HS.out).mono ?_
   rintro e w1 ⟨rfl, rfl⟩
   go_wp2
   go_quiet (first | (go_at_call 63; exact Calls.quiet_of_same (calls_sym (thirdR x0 x2 _ ky on ne _ HX0.out HX2.out rfl HK.out))))
   go_wp2_with fail
   refine (typeR ky x3 true _ HX3.out HT.out).mono ?_
   rintro e w3 ⟨rfl, hx⟩
   go_wp2
   go_ret
   exact ⟨by rw [HV.out]; rfl, bthen (below_drawn10 hb _) hx⟩
  | false =>
   go_enter Tryz.func62, Tryz.ntmps62
   go_wp2_with fail
   refine (secondQ x0 s _ HS.out).mono ?_
   rintro e w1 ⟨rfl, rfl⟩
   go_wp2
   go_quiet (first | (go_at_call 63; exact Calls.quiet_of_same (calls_sym (thirdR x0 x2 _ ky on ne _ HX0.out HX2.out rfl HK.out))))
   go_wp2_with fail
   refine (typeR ky x3 false _ HX3.out HT.out).mono ?_
   rintro e w3 ⟨rfl, hx⟩
   go_wp2
   go_ret
   exact ⟨by rw [HV.out]; rfl, bthen (below_drawn10 hb _) hx⟩
 ·have hn5 : 4 < n := by rw [← hn]; simp only [List.length_cons]; omega
  have c0 : w.cell? ⟨b, o, none⟩ = some (.string (sB x0)) := cellS hL (i := 0) rfl
  have c2 : w.cell? ⟨b, o + 2, none⟩ = some (.string (sB x2)) := cellS hL (i := 2) rfl
  obtain ⟨s, hs0⟩ : ∃ s, C.secondW x0 = s := ⟨_, rfl⟩
  have HS := Lib.hid hs0
  obtain ⟨ky, on, ne, hk⟩ : ∃ ky on ne, C.thirdK (C.key x0 x2) = (ky, on, ne) := ⟨_, _, _, rfl⟩
  have HK := Lib.hid hk
  have HX0 := Lib.hid (show x0.length ≤ 1073741824 from Nat.le_trans (hs x0 (by simp)) (by omega))
  have HX2 := Lib.hid (show x2.length ≤ 1073741824 from Nat.le_trans (hs x2 (by simp)) (by omega))
  have HV := Lib.hid (show r = 3 by rw [← hr]; rfl)
  have e1 : ((n : Int) == 1) = false := beq_eq_false_iff_ne.2 (by omega)
  have e1b : (n == 1) = false := beq_eq_false_iff_ne.2 (by omega)
  have e2 : ((n : Int) == 2) = false := beq_eq_false_iff_ne.2 (by omega)
  have e2b : (n == 2) = false := beq_eq_false_iff_ne.2 (by omega)
  have e3 : ((n : Int) == 3) = false := beq_eq_false_iff_ne.2 (by omega)
  have e3b : (n == 3) = false := beq_eq_false_iff_ne.2 (by omega)
  have e4 : decide ((n : Int) > 4) = true := decide_eq_true (by omega)
  have e4a : decide ((4 : Int) < (n : Int)) = true := decide_eq_true (by omega)
  have e4b : decide (4 < n) = true := decide_eq_true hn5
  have hni : (2 : Int) < (n : Int) := by omega
  have hn0 : 0 < n := by omega
  have hn2 : 2 < n := by omega
  clear hr hs0 hL hA hs hn h0 hpos hl hk
  go_enter Tryz.func62, Tryz.ntmps62
  go_wp2_with fail
  refine (secondQ x0 s _ HS.out).mono ?_
  rintro e w1 ⟨rfl, rfl⟩
  go_wp2
  go_quiet (first | (go_at_call 63; exact Calls.quiet_of_same (calls_sym (thirdR x0 x2 _ ky on ne _ HX0.out HX2.out rfl HK.out))))
  go_wp2
  go_ret
  exact ⟨by rw [HV.out]; rfl, below_drawn10 hb _⟩
end Go.Proofs.YtfcikfohmehmkaaGreatDoor
namespace Go.Proofs.YtfcikfohmehmkaaGreatDoor
namespace C
open T (Pth pless RightN RightT pathL kidsL underL wd Ln isIn)
theorem out_off {Z : Nat} {t : List Ln} (h : RightN Z t) {x y : Wd} (hno : ¬ isIn t [wVnis, y, wSubnet]) : outP (pths t) x y = false := by
 unfold outP; rw [kids_off h (by simp) hno]
theorem out_bare {Z : Nat} {t : List Ln} (h : RightN Z t) {x y : Wd} {i : Nat} (hi : i < t.length) (hp : pathL t i = [wVnis, y, wSubnet]) (hk : kidsL t i = []) : outP (pths t) x y = false := by
 unfold outP; rw [← hp, kids_pths h hi, hk]; rfl
theorem out_kid {Z : Nat} {t : List Ln} (h : RightN Z t) {x y : Wd} {i k : Nat} {r : List Nat} (hi : i < t.length) (hp : pathL t i = [wVnis, y, wSubnet]) (hk : kidsL t i = k :: r) : outP (pths t) x y = (decide (0 ≤ (N.prefL (wd t k)).1) && !N.inB (N.prefL (wd t k)).1 (N.prefL (wd t k)).2 (N.ipL x)) := by
 unfold outP; rw [← hp, kids_pths h hi, hk, List.map_cons]
 have e : (pathL t k).getLastD [] = wd t k := by
  rw [kid_path (i := i) (by rw [hk]; exact List.mem_cons_self)]
  simp
 simp only [e]
theorem twice_is {Z : Nat} {t : List Ln} (h : RightN Z t) {i : Nat} (hi : i < t.length) (x : Wd) : twiceP (pths t) (pathL t i) x = (List.range i).any fun j => sameAd x (pathL t j) := by
 unfold twiceP pths
 rw [List.any_map, Bool.eq_iff_iff, List.any_eq_true, List.any_eq_true]
 constructor
 ·rintro ⟨j, hj, e⟩
  have hj := List.mem_range.1 hj
  simp only [Function.comp_apply, Bool.and_eq_true] at e
  refine ⟨j, List.mem_range.2 ?_, e.2⟩
  rcases Nat.lt_trichotomy j i with k | k | k
  ·exact k
  ·subst k; rw [T.pless_irr] at e; cases e.1
  ·have := h.path_less (i := i) j k hj
   rw [T.pless_asymm this] at e; cases e.1
 ·rintro ⟨j, hj, e⟩
  have hj := List.mem_range.1 hj
  refine ⟨j, List.mem_range.2 (by omega), ?_⟩
  simp only [Function.comp_apply, Bool.and_eq_true]
  exact ⟨h.path_less (i := j) i hj hi, e⟩
theorem any_next (f : Nat → Bool) (k : Nat) : (List.range (k + 1)).any f = ((List.range k).any f || f k) := by
 rw [List.range_succ, List.any_append]; simp
theorem sameAd_len {x : Wd} {q : Pth} (h : q.length ≠ 4) : sameAd x q = false := by
 unfold sameAd
 split
 ·exact absurd rfl h
 ·rfl
theorem any_take {α : Type} {l : List α} {i : Nat} {y : α} (h : l[i]? = some y) (f : α → Bool) : (l.take (i + 1)).any f = ((l.take i).any f || f y) := by
 obtain ⟨h5, h6⟩ := List.getElem?_eq_some_iff.1 h
 rw [List.take_succ_eq_append_getElem h5, List.any_append, h6]; simp
end C
open Go.RowKit
open F
set_option linter.unusedVariables false
theorem path_short {Z : Nat} {t : List T.Ln} (h : T.RightN Z t) : ∀ (n i : Nat), i ≤ n → i < t.length → ∀ x ∈ T.pathL t i, x.length ≤ 40
 | n, i, hn, hi, x, hx => by
  rw [T.path_under t i] at hx
  rcases List.mem_append.1 hx with hx | hx
  ·have hlt := T.under_lt t i
   by_cases h0 : T.underL t i < 0
   ·rw [show T.underL t i = -1 by omega, T.pathI_none] at hx; cases hx
   ·obtain ⟨j, hj⟩ := Int.eq_ofNat_of_zero_le (show 0 ≤ T.underL t i by omega)
    rw [hj, T.pathI_nat] at hx
    match n with
    | 0 => omega
    | n + 1 => exact path_short h n j (by omega) (by omega) x hx
  ·rw [List.mem_singleton.1 hx]; exact h.long i hi
theorem kidsN13 (A : Option Addr) (c n : Nat) (t : List T.Ln) (i : Int) (w : World) (hn : t.length = n) (hA : Seen eL w A t) (hl : n ≤ 1073741824) :
  Calls Tryz.prog 42 #[.slice A n c, .int .i64 i] w (SawG eI w (T.kidsL t i)) := by subst hn; exact refKids_any A c t i w hA hl
theorem findN13 {Z : Nat} (A B : Option Addr) (c d n m : Nat) (t : List T.Ln) (p : T.Pth) (w : World) (hn : t.length = n) (hm : p.length = m) (hA : Seen eL w A t) (hB : Seen eS w B p) (hl : n ≤ 1073741824) (hl2 : m ≤ 1073741824) (hR : T.RightN Z t) :
  Calls Tryz.prog 23 #[.slice A n c, .slice B m d] w (fun e w' => ((∃ i : Nat, i < t.length ∧ T.pathL t i = p ∧ e = .returned (.int .i64 (i : Int))) ∨ ((∀ i, i < t.length → T.pathL t i ≠ p) ∧ e = .returned (.int .i64 (-1)))) ∧ Below w.heap.size w w') := by
 subst hn; subst hm; exact refFind_any A B c d t p w hA hB hl hl2 hR
theorem pathN13 {Z : Nat} (A : Option Addr) (c n : Nat) (t : List T.Ln) (i : Nat) (w : World) (hn : t.length = n) (hA : Seen eL w A t) (hi : i < n) (hl : n ≤ 1073741824) (hR : T.RightN Z t) :
  Calls Tryz.prog 22 #[.slice A n c, .int .i64 i] w (FreshP w (T.pathL t i)) := by subst hn; exact refPath_new A c t i w hA hl hi hR
theorem endN13 (A : Option Addr) (c n : Nat) (t : List T.Ln) (i : Nat) (w : World) (hn : t.length = n) (hA : Seen eL w A t) (hi : i < n) (hl : n ≤ 1073741824) :
  Calls Tryz.prog 24 #[.slice A n c, .int .i64 i] w (IntS w (T.endL t i : Nat)) := by subst hn; exact refEnd_any A c t i w hA hi hl
theorem short_path {Z : Nat} {t : List T.Ln} (h : T.RightN Z t) {i : Nat} (hi : i < t.length) : ShortW (T.pathL t i) := fun x hx => Nat.le_trans (path_short h i i (Nat.le_refl _) hi x hx) (by omega)
set_option maxRecDepth 100000 in
set_option maxHeartbeats 2000000 in
theorem hasR (A : Option Addr) (c n : Nat) (t : List T.Ln) (i : Int) (x : List UInt8) (r : Bool) (w : World) (hn : t.length = n) (hA : Seen eL w A t) (hl : n ≤ 1073741824) (hr : ((T.kidsL t i).any fun k => T.wd t k == x) = r) :
  Calls Tryz.prog 65 #[.slice A n c, .int .i64 i, .string (sB x)] w (BoolS w r) := by
 have HA := Lib.hid hA
 have HN := Lib.hid hn
 obtain ⟨K, hK⟩ : ∃ K, T.kidsL t i = K := ⟨_, rfl⟩
 have HK := Lib.hid hK
 have HIN := Lib.hid (show ∀ k ∈ K, k < n by intro k hk; rw [← hK] at hk; have := ((T.mem_kids t i k).1 hk).1; omega)
 have HKL := Lib.hid (show K.length ≤ n by rw [← hK, ← hn]; exact T.filter_len t.length _)
 rw [hK] at hr
 have HR := Lib.hid hr
 clear hA hn hK hr
 go_enter Tryz.func65, Tryz.ntmps65
 go_wp2_with fail
 refine (kidsN13 A c n t i _ HN.out HA.out hl).mono ?_
 rintro e w2 ⟨A2, c2, rfl, hc2, hs2, hb2⟩
 rw [HK.out] at hc2 hs2 ⊢
 have HB2 := Lib.hid hb2
 have HS2 := Lib.hid hs2
 obtain ⟨nk, hnk⟩ : ∃ k, K.length = k := ⟨_, rfl⟩
 rw [hnk]
 have HNK := Lib.hid hnk
 have hnk2 : nk ≤ 1073741824 := by have := HKL.out; have := HNK.out; omega
 clear hc2 hs2 hb2 hnk
 go_wp2
 go_loopg [8] nk (fun g vi wr => ∃ k : Nat, Hid (k + g = nk) ∧ k ≤ nk ∧ vi = .int .i64 (k : Int) ∧ Hid (((K.take k).any fun q => T.wd t q == x) = false) ∧ wr = w2)
 case atStart => exact ⟨0, Nat.zero_add _, Nat.zero_le _, rfl, rfl, rfl⟩
 case round =>
  obtain ⟨k, HG, hk, rfl, HF, rfl⟩ := hrel
  have hgk := HG.out
  by_cases hlt : k < nk
  ·have blt : decide ((k : Int) < (nk : Int)) = true := decide_eq_true (by omega)
   have blt2 : decide (k < nk) = true := decide_eq_true hlt
   have hkK : k < K.length := by rw [HNK.out]; exact hlt
   have hki : (k : Int) < (nk : Int) := by omega
   obtain ⟨q, hq⟩ : ∃ q, K[k] = q := ⟨_, rfl⟩
   have hqn : q < n := by rw [← hq]; exact HIN.out _ (List.getElem_mem hkK)
   have hqt : q < t.length := by rw [HN.out]; exact hqn
   have hqi : (q : Int) < (n : Int) := by omega
   obtain ⟨b3, o3, rfl, hw3, hL3⟩ := HS2.out (by omega)
   have c3 := hL3.num hkK
   rw [hq] at c3
   obtain ⟨b4, o4, hA4, hw4, hL4⟩ := HA.out.lines (by rw [HN.out]; omega)
   subst hA4
   obtain ⟨_, c4, _⟩ := (hL4.below HB2.out hw4).line hqt
   have HNX := Lib.hid (C.any_take (show K[k]? = some q by rw [List.getElem?_eq_getElem hkK, hq]) fun q => T.wd t q == x)
   by_cases he : T.wd t q = x
   ·have e1 : ((sB (T.wd t q)).toList == (sB x).toList) = true := sB_eq he
    have HE := Lib.hid (show r = true by
     rw [← HR.out, List.any_eq_true]
     exact ⟨q, by rw [← hq]; exact List.getElem_mem hkK, by rw [he]; simp⟩)
    clear hq hqt hL3 hL4 he
    go_wp2
    go_ret
    exact ⟨by rw [HE.out]; rfl, HB2.out⟩
   ·have e1 : ((sB (T.wd t q)).toList == (sB x).toList) = false := sB_ne he
    have HF2 := Lib.hid (show ((K.take (k + 1)).any fun q => T.wd t q == x) = false by rw [HNX.out, HF.out, Bool.false_or]; exact beq_eq_false_iff_ne.2 he)
    clear hq hqt hL3 hL4 he
    go_wp2
    go_roundg (nk - (k + 1))
    case rel => exact ⟨k + 1, (by show _ = _; omega), by omega, by go_num, HF2.out, rfl⟩
    case measure => omega
  ·have blt : decide ((k : Int) < (nk : Int)) = false := decide_eq_false (by omega)
   have blt2 : decide (k < nk) = false := decide_eq_false hlt
   have HE := Lib.hid (show r = false by rw [← HR.out, ← HF.out, List.take_of_length_le (by rw [HNK.out]; omega)])
   go_wp2
   go_ret
   exact ⟨by rw [HE.out]; rfl, HB2.out⟩
set_option maxRecDepth 100000 in
theorem thereR {Z : Nat} (A : Option Addr) (c n : Nat) (t : List T.Ln) (a b : List UInt8) (r : Bool) (w : World) (hn : t.length = n) (hA : Seen eL w A t) (hl : n ≤ 1073741824) (hR : T.RightN Z t) (hr : decide ([a, b] ∈ C.pths t) = r) :
  Calls Tryz.prog 100 #[.slice A n c, .string (sB a), .string (sB b)] w (BoolS w r) := by
 have HA := Lib.hid hA
 have HN := Lib.hid hn
 have HR := Lib.hid hR
 have HV := Lib.hid hr
 clear hA hn hR hr
 go_enter Tryz.func100, Tryz.ntmps100
 go_wp2_with fail
 refine (findN13 A _ c _ n 2 t [a, b] _ HN.out rfl (HA.out.below (up w _)) (lit_seen eS w [a, b] _ rfl (by simp)) hl (by omega) HR.out).mono ?_
 rintro e w1 ⟨⟨i0, hi0, hp0, rfl⟩ | ⟨hno, rfl⟩, hb1⟩
 ·have d1 : decide ((i0 : Int) ≥ 0) = true := decide_eq_true (by omega)
  have d2 : decide ((0 : Int) ≤ (i0 : Int)) = true := decide_eq_true (by omega)
  have HE := Lib.hid (show r = true by rw [← HV.out]; exact decide_eq_true (C.mem_pths.2 ⟨i0, hi0, hp0⟩))
  have hb := (up w _).trans (hb1.mono (up w (.cells #[.string (sB a), .string (sB b)] 9)).size)
  clear hp0 hi0 hb1
  go_wp2
  go_ret
  exact ⟨by rw [HE.out]; rfl, hb⟩
 ·have HE := Lib.hid (show r = false by rw [← HV.out]; exact decide_eq_false (fun h => by obtain ⟨i, h1, h2⟩ := C.mem_pths.1 h; exact hno i h1 h2))
  have hb := (up w _).trans (hb1.mono (up w (.cells #[.string (sB a), .string (sB b)] 9)).size)
  clear hno hb1
  go_wp2
  go_ret
  exact ⟨by rw [HE.out]; rfl, hb⟩
set_option maxRecDepth 100000 in
set_option maxHeartbeats 4000000 in
theorem twiceR {Z : Nat} (A : Option Addr) (c n : Nat) (t : List T.Ln) (i : Nat) (x : List UInt8) (r : Bool) (w : World) (hn : t.length = n) (hA : Seen eL w A t) (hl : n ≤ 1073741824) (hR : T.RightN Z t) (hi : i ≤ n) (hr : ((List.range i).any fun j => C.sameAd x (T.pathL t j)) = r) :
  Calls Tryz.prog 99 #[.slice A n c, .int .i64 (i : Int), .string (sB x)] w (BoolS w r) := by
 have HA := Lib.hid hA
 have HN := Lib.hid hn
 have HRT := Lib.hid hR
 have HR := Lib.hid hr
 clear hA hn hR hr
 go_enter Tryz.func99, Tryz.ntmps99
 go_wp2
 go_loopg [7] i (fun g vi wr => ∃ k : Nat, Hid (k + g = i) ∧ k ≤ i ∧ vi = .int .i64 (k : Int) ∧ Hid (((List.range k).any fun j => C.sameAd x (T.pathL t j)) = false) ∧ Below w.heap.size w wr)
 case atStart => exact ⟨0, Nat.zero_add _, Nat.zero_le _, rfl, rfl, Below.refl _ _⟩
 case round =>
  obtain ⟨k, HG, hk, rfl, HF, hb⟩ := hrel
  have hgk := HG.out
  by_cases hlt : k < i
  ·have blt : decide ((k : Int) < (i : Int)) = true := decide_eq_true (by omega)
   have blt2 : decide (k < i) = true := decide_eq_true hlt
   go_wp2_with fail
   refine (pathN13 A c n t k _ HN.out (HA.out.below hb) (by omega) hl HRT.out).mono ?_
   rintro e w2 ⟨B, d, rfl, hd, hs, _, hx⟩
   replace hb := bthen hb hx
   clear hx
   obtain ⟨p, hp⟩ : ∃ p, T.pathL t k = p := ⟨_, rfl⟩
   rw [hp] at hd hs ⊢
   have HNX := Lib.hid (show ((List.range (k + 1)).any fun j => C.sameAd x (T.pathL t j)) = C.sameAd x p by rw [C.any_next, HF.out, Bool.false_or, hp])
   have HW := Lib.hid (show ShortW p by rw [← hp]; exact short_path HRT.out (by rw [HN.out]; omega))
   have HTR := Lib.hid (show C.sameAd x p = true → r = true by
    intro h
    rw [← HR.out, List.any_eq_true]
    exact ⟨k, List.mem_range.2 hlt, by rw [hp]; exact h⟩)
   clear hp
   by_cases h4 : p.length = 4
   ·rcases p with _ | ⟨x0, _ | ⟨x1, _ | ⟨x2, _ | ⟨x3, _ | ⟨x4, rest⟩⟩⟩⟩⟩
    ·cases h4
    ·cases h4
    ·cases h4
    ·cases h4
    ·obtain ⟨b, o, rfl, hbw, hL⟩ := hs (by simp)
     have c0 : w2.cell? ⟨b, o, none⟩ = some (.string (sB x0)) := cellS hL (i := 0) rfl
     have c1 : w2.cell? ⟨b, o + 1, none⟩ = some (.string (sB x1)) := cellS hL (i := 1) rfl
     have c2 : w2.cell? ⟨b, o + 2, none⟩ = some (.string (sB x2)) := cellS hL (i := 2) rfl
     have c3 : w2.cell? ⟨b, o + 3, none⟩ = some (.string (sB x3)) := cellS hL (i := 3) rfl
     have HX1 := Lib.hid (show x1.length ≤ 1073741824 from Nat.le_trans (HW.out x1 (by simp)) (by omega))
     clear h4 hL hs hd HW
     by_cases g0 : x0 = C.wHosts
     ·have q0 : ((sB x0).toList == [104, 111, 115, 116, 115]) = true := by rw [sB_toList, beq_iff_eq]; exact g0
      obtain ⟨nm, hnm⟩ : ∃ nm, C.nameB x1 = nm := ⟨_, rfl⟩
      have HNM := Lib.hid hnm
      cases nm with
      | false =>
       have HF2 := Lib.hid (show ((List.range (k + 1)).any fun j => C.sameAd x (T.pathL t j)) = false by rw [HNX.out]; show (decide (x0 = C.wHosts) && C.nameB x1 && decide (x2 = C.wIp) && decide (x3 = x)) = false; rw [hnm, Bool.and_false, Bool.false_and, Bool.false_and])
       clear g0 hnm
       go_wp2_with fail
       refine (nameQ x1 false _ HX1.out HNM.out).mono ?_
       rintro e w3 ⟨rfl, rfl⟩
       go_wp2
       go_roundg (i - (k + 1))
       case rel => exact ⟨k + 1, (by show _ = _; omega), by omega, by go_num, HF2.out, hb⟩
       case measure => omega
      | true =>
       by_cases g2 : x2 = C.wIp
       ·have q2 : ((sB x2).toList == [105, 112]) = true := by rw [sB_toList, beq_iff_eq]; exact g2
        by_cases g3 : x3 = x
        ·have q3 : ((sB x3).toList == (sB x).toList) = true := sB_eq g3
         have HE := Lib.hid (HTR.out (by show (decide (x0 = C.wHosts) && C.nameB x1 && decide (x2 = C.wIp) && decide (x3 = x)) = true; rw [decide_eq_true g0, hnm, decide_eq_true g2, decide_eq_true g3]; rfl))
         clear g0 hnm g2 g3
         go_wp2_with fail
         refine (nameQ x1 true _ HX1.out HNM.out).mono ?_
         rintro e w3 ⟨rfl, rfl⟩
         go_wp2
         go_ret
         exact ⟨by rw [HE.out]; rfl, hb⟩
        ·have q3 : ((sB x3).toList == (sB x).toList) = false := sB_ne g3
         have HF2 := Lib.hid (show ((List.range (k + 1)).any fun j => C.sameAd x (T.pathL t j)) = false by rw [HNX.out]; show (decide (x0 = C.wHosts) && C.nameB x1 && decide (x2 = C.wIp) && decide (x3 = x)) = false; rw [decide_eq_false g3, Bool.and_false])
         clear g0 hnm g2 g3
         go_wp2_with fail
         refine (nameQ x1 true _ HX1.out HNM.out).mono ?_
         rintro e w3 ⟨rfl, rfl⟩
         go_wp2
         go_roundg (i - (k + 1))
         case rel => exact ⟨k + 1, (by show _ = _; omega), by omega, by go_num, HF2.out, hb⟩
         case measure => omega
       ·have q2 : ((sB x2).toList == [105, 112]) = false := by rw [sB_toList, beq_eq_false_iff_ne]; exact g2
        have HF2 := Lib.hid (show ((List.range (k + 1)).any fun j => C.sameAd x (T.pathL t j)) = false by rw [HNX.out]; show (decide (x0 = C.wHosts) && C.nameB x1 && decide (x2 = C.wIp) && decide (x3 = x)) = false; rw [decide_eq_false g2, Bool.and_false, Bool.false_and])
        clear g0 hnm g2
        go_wp2_with fail
        refine (nameQ x1 true _ HX1.out HNM.out).mono ?_
        rintro e w3 ⟨rfl, rfl⟩
        go_wp2
        go_roundg (i - (k + 1))
        case rel => exact ⟨k + 1, (by show _ = _; omega), by omega, by go_num, HF2.out, hb⟩
        case measure => omega
     ·have q0 : ((sB x0).toList == [104, 111, 115, 116, 115]) = false := by rw [sB_toList, beq_eq_false_iff_ne]; exact g0
      have HF2 := Lib.hid (show ((List.range (k + 1)).any fun j => C.sameAd x (T.pathL t j)) = false by rw [HNX.out]; show (decide (x0 = C.wHosts) && C.nameB x1 && decide (x2 = C.wIp) && decide (x3 = x)) = false; rw [decide_eq_false g0, Bool.false_and, Bool.false_and, Bool.false_and])
      clear g0
      go_wp2
      go_roundg (i - (k + 1))
      case rel => exact ⟨k + 1, (by show _ = _; omega), by omega, by go_num, HF2.out, hb⟩
      case measure => omega
    ·simp only [List.length_cons] at h4; omega
   ·obtain ⟨lp, hlp⟩ : ∃ lp, p.length = lp := ⟨_, rfl⟩
    rw [hlp] at h4 ⊢
    have e4 : ((lp : Int) == 4) = false := beq_eq_false_iff_ne.2 (by omega)
    have e4b : (lp == 4) = false := beq_eq_false_iff_ne.2 h4
    have HF2 := Lib.hid (show ((List.range (k + 1)).any fun j => C.sameAd x (T.pathL t j)) = false by rw [HNX.out]; exact C.sameAd_len (by omega))
    clear h4 hlp hs hd
    go_wp2
    go_roundg (i - (k + 1))
    case rel => exact ⟨k + 1, (by show _ = _; omega), by omega, by go_num, HF2.out, hb⟩
    case measure => omega
  ·have blt : decide ((k : Int) < (i : Int)) = false := decide_eq_false (by omega)
   have blt2 : decide (k < i) = false := decide_eq_false hlt
   obtain rfl : k = i := by omega
   have HE := Lib.hid (show r = false by rw [← HR.out]; exact HF.out)
   go_wp2
   go_ret
   exact ⟨by rw [HE.out]; rfl, hb⟩
theorem inQ13 (n bits ip : Int) (r : Bool) (w : World) (h : N.inB n bits ip = r) : Calls Tryz.prog 140 #[.int .i64 n, .int .i64 bits, .int .i64 ip] w (fun e w' => e = .returned (.bool r) ∧ Below w.heap.size w w') := by subst h; exact inR10 n bits ip w
set_option maxRecDepth 100000 in
set_option maxHeartbeats 4000000 in
theorem outsideR {Z : Nat} (A : Option Addr) (c n : Nat) (t : List T.Ln) (x y : List UInt8) (r : Bool) (w : World) (hn : t.length = n) (hA : Seen eL w A t) (hl : n ≤ 1073741824) (hR : T.RightN Z t) (hx : x.length ≤ 1073741824) (hr : C.outP (C.pths t) x y = r) :
  Calls Tryz.prog 101 #[.slice A n c, .string (sB x), .string (sB y)] w (BoolS w r) := by
 have HA := Lib.hid hA
 have HN := Lib.hid hn
 have HRT := Lib.hid hR
 have HV := Lib.hid hr
 have HXL := Lib.hid hx
 clear hA hn hR hr hx
 go_enter Tryz.func101, Tryz.ntmps101
 go_wp2_with fail
 refine (findN13 A _ c _ n 3 t [C.wVnis, y, C.wSubnet] _ HN.out rfl (HA.out.below (up w _)) (lit_seen eS w [C.wVnis, y, C.wSubnet] _ rfl (by simp)) hl (by omega) HRT.out).mono ?_
 rintro e w1 ⟨hf, hb1⟩
 replace hb1 := (up w (.cells #[.string (sB C.wVnis), .string (sB y), .string (sB C.wSubnet)] 9)).trans (hb1.mono (up w _).size)
 rcases hf with ⟨i0, hi0, hp0, rfl⟩ | ⟨hno, rfl⟩
 ·have d1 : decide ((i0 : Int) < 0) = false := decide_eq_false (by omega)
  obtain ⟨K, hK⟩ : ∃ K, T.kidsL t (i0 : Int) = K := ⟨_, rfl⟩
  have HK := Lib.hid hK
  have HP := Lib.hid hp0
  have HI0 := Lib.hid hi0
  clear hp0 hK hi0
  go_wp2_with fail
  refine (kidsN13 A c n t (i0 : Int) _ HN.out (HA.out.below hb1) hl).mono ?_
  rintro e w2 ⟨A2, c2, rfl, hc2, hs2, hb2⟩
  rw [HK.out] at hc2 hs2 ⊢
  replace hb2 := bthen hb1 hb2
  clear hb1
  cases K with
  | nil =>
   have HE := Lib.hid (show r = false by rw [← HV.out]; exact C.out_bare HRT.out HI0.out HP.out HK.out)
   clear hc2 hs2
   go_wp2
   go_ret
   exact ⟨by rw [HE.out]; rfl, hb2⟩
  | cons q rest =>
   obtain ⟨nk, hnk⟩ : ∃ nk, (q :: rest).length = nk := ⟨_, rfl⟩
   have hnk1 : 1 ≤ nk := by rw [← hnk, List.length_cons]; omega
   rw [hnk] at hc2 ⊢
   have d2 : ((nk : Int) == 0) = false := beq_eq_false_iff_ne.2 (by omega)
   have d2b : (nk == 0) = false := beq_eq_false_iff_ne.2 (by omega)
   have d2c : ¬ nk = 0 := by omega
   have hnki : (0 : Int) < (nk : Int) := by omega
   have hqt : q < t.length := ((T.mem_kids t (i0 : Int) q).1 (by rw [HK.out]; exact List.mem_cons_self)).1
   have hqn : q < n := by rw [← HN.out]; exact hqt
   have hqi : (q : Int) < (n : Int) := by omega
   obtain ⟨b3, o3, rfl, hw3, hL3⟩ := hs2 (by rw [List.length_cons]; omega)
   have c3 : w2.cell? ⟨b3, o3, none⟩ = some (.int .i64 ((q : Nat) : Int)) := hL3.num (i := 0) (by simp)
   obtain ⟨b4, o4, hA4, hw4, hL4⟩ := HA.out.lines (by rw [HN.out]; omega)
   subst hA4
   obtain ⟨_, c4, _⟩ := (hL4.below hb2 hw4).line hqt
   obtain ⟨z, hz⟩ : ∃ z, (N.prefL (T.wd t q)).1 = z := ⟨_, rfl⟩
   obtain ⟨zb, hzb⟩ : ∃ z, (N.prefL (T.wd t q)).2 = z := ⟨_, rfl⟩
   obtain ⟨zi, hzi⟩ : ∃ z, N.ipL x = z := ⟨_, rfl⟩
   have HZ := Lib.hid hz
   have HZB := Lib.hid hzb
   have HZI := Lib.hid hzi
   have HO := Lib.hid (show r = (decide (0 ≤ z) && !N.inB z zb zi) by rw [← HV.out, ← hz, ← hzb, ← hzi]; exact C.out_kid HRT.out HI0.out HP.out HK.out)
   have HWL := Lib.hid (show (T.wd t q).length ≤ 1073741824 from Nat.le_trans (HRT.out.long q hqt) (by omega))
   clear hnk hL3 hL4 hz hzb hzi hc2 hqt
   go_wp2_with fail
   refine (prefQ13 (T.wd t q) z zb _ HWL.out HZ.out HZB.out).mono ?_
   rintro e w3 ⟨rfl, hb3⟩
   replace hb3 := bthen hb2 hb3
   by_cases g : 0 ≤ z
   ·have d3 : decide (z ≥ 0) = true := decide_eq_true g
    have d3b : decide (0 ≤ z) = true := decide_eq_true g
    obtain ⟨ib, hib⟩ : ∃ ib, N.inB z zb zi = ib := ⟨_, rfl⟩
    have HIB := Lib.hid hib
    have HE := Lib.hid (show r = !ib by rw [HO.out, d3b, hib, Bool.true_and])
    clear g hib
    go_wp2_with fail
    refine (ipQ x zi _ HXL.out HZI.out).mono ?_
    rintro e w4 ⟨rfl, hb4⟩
    replace hb4 := bthen hb3 hb4
    go_wp2_with fail
    refine (inQ13 z zb zi ib _ HIB.out).mono ?_
    rintro e w5 ⟨rfl, hb5⟩
    replace hb5 := bthen hb4 hb5
    go_wp2
    go_ret
    exact ⟨by rw [HE.out]; rfl, hb5⟩
   ·have d3 : decide (z ≥ 0) = false := decide_eq_false g
    have d3b : decide (0 ≤ z) = false := decide_eq_false g
    have HE := Lib.hid (show r = false by rw [HO.out, d3b, Bool.false_and])
    clear g
    go_wp2
    go_ret
    exact ⟨by rw [HE.out]; rfl, hb3⟩
 ·have HE := Lib.hid (show r = false by rw [← HV.out]; exact C.out_off HRT.out (fun ⟨i, h1, h2⟩ => hno i h1 h2))
  clear hno
  go_wp2
  go_ret
  exact ⟨by rw [HE.out]; rfl, hb1⟩
end Go.Proofs.YtfcikfohmehmkaaGreatDoor
