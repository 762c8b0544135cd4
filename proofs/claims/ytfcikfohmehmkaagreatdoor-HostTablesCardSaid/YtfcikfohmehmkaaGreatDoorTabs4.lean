/-
  Part 4 of what the proofs of this claim stand on. No conditions but those that each theorem states.
-/
import Derived.Test.YtfcikfohmehmkaaGreatDoorTabs3
import Derived.Maps.AppendAt
import Derived.Test.YtfcikfohmehmkaaGreatDoorRows
import Derived.WalkKit
import Derived.WalkSpells
import Derived.WalkLawsBesides
import Derived.Lib.Bytealg
import Derived.Lib.Hide
import Derived.Deep.RegionLaw
import Derived.Laws.IdiomStrings
import Derived.Laws.BytesArg

namespace Go.Proofs.YtfcikfohmehmkaaGreatDoor.T
def pre (p q : Pth) : Prop := q.take p.length = p
instance (p q : Pth) : Decidable (pre p q) := inferInstanceAs (Decidable (q.take p.length = p))
theorem pre_iff {p q : Pth} : pre p q ↔ ∃ s, q = p ++ s := by
 unfold pre
 constructor
 ·intro h; exact ⟨q.drop p.length, by rw [← h, List.length_take]; (conv => lhs; rw [← List.take_append_drop p.length q]); rw [← h]; simp⟩
 ·rintro ⟨s, rfl⟩; exact List.take_left
theorem pre_app (p s : Pth) : pre p (p ++ s) := List.take_left
theorem RightN.part_iff {N : Nat} {t : List Ln} (h : RightN N t) {a : Nat} (ha : a < t.length) {i : Nat} (hi : i < t.length) : (a ≤ i ∧ i < endL t a) ↔ pre (pathL t a) (pathL t i) := by
 rw [pre_iff]
 constructor
 ·rintro ⟨h1, h2⟩; exact part_prefix ha i i (Nat.le_refl _) h1 h2
 ·rintro ⟨s, hs⟩
  obtain ⟨g1, g2, g3, g4⟩ := end_spec t a ha
  have hai : a ≤ i := by
   rcases Nat.lt_or_ge i a with hlt | hge
   ·have := h.path_less a hlt ha
    rw [hs] at this
    cases s with
    | nil => rw [List.append_nil, pless_irr] at this; cases this
    | cons w s => have h2 := pless_asymm (pless_more (pathL t a) (w :: s) (by simp)); rw [h2] at this; cases this
   ·exact hge
  refine ⟨hai, ?_⟩
  rcases Nat.lt_or_ge i (endL t a) with hlt | hge
  ·exact hlt
  ·have he : endL t a < t.length := by omega
   have hx : pless (pathL t i) (pathL t (endL t a)) = true := by
    rw [hs]
    refine pless_off _ _ _ (h.path_less _ g1 he) ?_
    rintro ⟨x, hx⟩
    have l1 := h.path_len (endL t a) (endL t a) (Nat.le_refl _) he
    have l2 := h.path_len a a (Nat.le_refl _) ha
    have := g4 he
    rw [hx, List.length_append] at l1
    have hx0 : x = [] := List.eq_nil_of_length_eq_zero (by omega)
    rw [hx0, List.append_nil] at hx
    have := h.path_inj (max (endL t a) a) _ _ (Nat.le_max_left ..) (Nat.le_max_right ..) he ha hx
    omega
   rcases Nat.eq_or_lt_of_le hge with e | hlt
   ·rw [e, pless_irr] at hx; cases hx
   ·have := pless_trans _ _ _ hx (h.path_less i hlt hi)
    rw [pless_irr] at this; cases this
end Go.Proofs.YtfcikfohmehmkaaGreatDoor.T
namespace Go.Proofs.YtfcikfohmehmkaaGreatDoor.T
theorem pre_trans {p q r : Pth} (h1 : pre p q) (h2 : pre q r) : pre p r := by
 obtain ⟨s, rfl⟩ := pre_iff.1 h1
 obtain ⟨x, rfl⟩ := pre_iff.1 h2
 exact pre_iff.2 ⟨s ++ x, by rw [List.append_assoc]⟩
theorem pre_len {p q : Pth} (h : pre p q) : p.length ≤ q.length := by
 obtain ⟨s, rfl⟩ := pre_iff.1 h
 rw [List.length_append]; omega
end Go.Proofs.YtfcikfohmehmkaaGreatDoor.T
namespace Go.Proofs.YtfcikfohmehmkaaGreatDoor.T
end Go.Proofs.YtfcikfohmehmkaaGreatDoor.T
namespace Go.Proofs.YtfcikfohmehmkaaGreatDoor.T
end Go.Proofs.YtfcikfohmehmkaaGreatDoor.T
namespace Go.Proofs.YtfcikfohmehmkaaGreatDoor.T
structure Chg where
 kind : Int
 path : Pth
 mark : Int
def isIn (t : List Ln) (p : Pth) : Prop := ∃ i, i < t.length ∧ pathL t i = p
def inB (t : List Ln) (p : Pth) : Bool := decide (0 ≤ findI t p)
theorem isIn_entries {t : List Ln} {p : Pth} : isIn t p ↔ ∃ m, (p, m) ∈ entries t := by
 constructor
 ·rintro ⟨i, hi, e⟩; exact ⟨_, (mem_entries t p _).2 ⟨i, hi, e, rfl⟩⟩
 ·rintro ⟨m, hm⟩; obtain ⟨i, hi, e, _⟩ := (mem_entries t p m).1 hm; exact ⟨i, hi, e⟩
theorem isIn_of {t : List Ln} {x : Pth × Int} (h : x ∈ entries t) : isIn t x.1 := isIn_entries.2 ⟨x.2, h⟩
theorem RightN.in_pre {N : Nat} {t : List Ln} (h : RightN N t) {p q : Pth} (hp : p ≠ []) (hq : isIn t q) (hpq : pre p q) : isIn t p := by
 obtain ⟨i, hi, e⟩ := hq
 obtain ⟨k, hk, ek⟩ := h.path_take i i p.length (Nat.le_refl _) hi (List.length_pos_iff.2 hp) (by rw [e]; exact pre_len hpq)
 exact ⟨k, hk, by rw [ek, e]; exact hpq⟩
theorem RightN.in_ne {t : List Ln} {p : Pth} (h : isIn t p) : p ≠ [] := by
 obtain ⟨i, _, e⟩ := h
 rw [← e]; exact path_ne
def OneOk (t : List Ln) (c : Chg) (u : List Ln) : Prop :=
 (0 ≤ c.mark ∧ c.mark ≤ 3) ∧ ((c.kind = 1 ∧ ∃ i, i < t.length ∧ pathL t i = c.path ∧ u = cutL t i) ∨
 (c.kind = 2 ∧ t.length < 200 ∧ ∃ up w, c.path = up ++ [w] ∧ Open t up ∧ (∀ i, i < t.length → pathL t i ≠ up ++ [w]) ∧ (∀ x ∈ up ++ [w], x.length ≤ 40) ∧ (up ++ [w]).length ≤ 16 ∧ u = putL t up w c.mark) ∨
 (c.kind = 3 ∧ ∃ i, i < t.length ∧ pathL t i = c.path ∧ u = S.setM t i c.mark))
def RunOk : List Ln → List Chg → List Ln → Prop
 | t, [], u => t = u
 | t, c :: l, u => ∃ v, OneOk t c v ∧ RunOk v l u
theorem run_app {t u v : List Ln} {l m : List Chg} (h1 : RunOk t l u) (h2 : RunOk u m v) : RunOk t (l ++ m) v := by
 induction l generalizing t with
 | nil => cases h1; exact h2
 | cons c l ih =>
  obtain ⟨x, hx, hr⟩ := h1
  exact ⟨x, hx, ih hr⟩
theorem run_snoc {t u v : List Ln} {l : List Chg} {c : Chg} (h1 : RunOk t l u) (h2 : OneOk u c v) : RunOk t (l ++ [c]) v := run_app h1 ⟨v, h2, rfl⟩
end Go.Proofs.YtfcikfohmehmkaaGreatDoor.T
namespace Go.Proofs.YtfcikfohmehmkaaGreatDoor.T
def decL (n : Nat) : List UInt8 := if n < 10 then [UInt8.ofNat (48 + n)] else decL (n / 10) ++ [UInt8.ofNat (48 + n % 10)]
termination_by n
decreasing_by omega
theorem decL_small {n : Nat} (h : n < 10) : decL n = [UInt8.ofNat (48 + n)] := by rw [decL, if_pos h]
theorem decL_big {n : Nat} (h : 10 ≤ n) : decL n = decL (n / 10) ++ [UInt8.ofNat (48 + n % 10)] := by rw [decL, if_neg (by omega)]
theorem decL_len : ∀ (k n : Nat), n < 10 ^ (k + 1) → (decL n).length ≤ k + 1
 | 0, n, h => by rw [decL_small (by simpa using h)]; simp
 | k + 1, n, h => by
  rcases Nat.lt_or_ge n 10 with h1 | h1
  ·rw [decL_small h1]; simp
  ·rw [decL_big h1, List.length_append, List.length_singleton]
   have := decL_len k (n / 10) (by rw [Nat.pow_succ] at h; omega)
   omega
end Go.Proofs.YtfcikfohmehmkaaGreatDoor.T
namespace Go.Proofs.YtfcikfohmehmkaaGreatDoor
namespace T
open Go
end T
end Go.Proofs.YtfcikfohmehmkaaGreatDoor
namespace Go.Proofs.YtfcikfohmehmkaaGreatDoor
namespace N
open T (decL decL_small decL_big decL_len)
def digB (c : UInt8) : Bool := decide (48 ≤ c.toNat) && decide (c.toNat ≤ 57)
def valL (s : List UInt8) : Nat := s.foldl (fun n c => 10 * n + (c.toNat - 48)) 0
def numL (s : List UInt8) : Int := if s = [] ∨ 10 < s.length ∨ (s.head? = some 48 ∧ 1 < s.length) ∨ s.all digB = false then -1 else (valL s : Nat)
theorem val_snoc (s : List UInt8) (c : UInt8) : valL (s ++ [c]) = 10 * valL s + (c.toNat - 48) := by unfold valL; rw [List.foldl_append]; rfl
theorem dec_ne (n : Nat) : decL n ≠ [] := by
 by_cases h : n < 10
 ·rw [decL_small h]; simp
 ·rw [decL_big (by omega)]; simp
theorem dig_of (d : Nat) (h : d < 10) : (UInt8.ofNat (48 + d)).toNat = 48 + d := by rw [UInt8.toNat_ofNat']; omega
theorem digB_of (d : Nat) (h : d < 10) : digB (UInt8.ofNat (48 + d)) = true := by
 unfold digB
 rw [dig_of d h, decide_eq_true (by omega), decide_eq_true (by omega)]; rfl
theorem val_dec (n : Nat) : valL (decL n) = n := by
 induction n using Nat.strongRecOn with
 | _ n ih =>
  by_cases h : n < 10
  ·rw [decL_small h]
   show 10 * 0 + ((UInt8.ofNat (48 + n)).toNat - 48) = n
   rw [dig_of n h]; omega
  ·rw [decL_big (by omega), val_snoc, ih (n / 10) (by omega), dig_of _ (by omega)]; omega
theorem dec_dig (n : Nat) : ∀ c ∈ decL n, digB c = true := by
 induction n using Nat.strongRecOn with
 | _ n ih =>
  by_cases h : n < 10
  ·rw [decL_small h]
   intro c hc
   rw [List.mem_singleton.1 hc]; exact digB_of n h
  ·rw [decL_big (by omega)]
   intro c hc
   rcases List.mem_append.1 hc with hc | hc
   ·exact ih (n / 10) (by omega) c hc
   ·rw [List.mem_singleton.1 hc]; exact digB_of _ (by omega)
theorem head_app {α : Type} {a b : List α} (h : a ≠ []) : (a ++ b).head? = a.head? := by
 cases a with
 | nil => exact absurd rfl h
 | cons x r => rfl
theorem dec_head (n : Nat) (h0 : 1 ≤ n) : (decL n).head? ≠ some 48 := by
 induction n using Nat.strongRecOn with
 | _ n ih =>
  by_cases h : n < 10
  ·rw [decL_small h]
   intro e
   have e2 : (UInt8.ofNat (48 + n)).toNat = 48 := by injection e with e; rw [e]; rfl
   rw [dig_of n h] at e2; omega
  ·rw [decL_big (by omega), head_app (dec_ne _)]
   exact ih (n / 10) (by omega) (by omega)
theorem dec_one (n : Nat) (h : (decL n).head? = some 48) : (decL n).length = 1 := by
 by_cases h0 : 1 ≤ n
 ·exact absurd h (dec_head n h0)
 ·obtain rfl : n = 0 := by omega
  rw [decL_small (by omega)]; rfl
theorem snoc_cases (s : List UInt8) (h : s ≠ []) : ∃ r c, s = r ++ [c] := ⟨s.dropLast, s.getLast h, (List.dropLast_concat_getLast h).symm⟩
theorem val_pos (s : List UInt8) (hd : s.all digB = true) (h : s ≠ []) (h0 : s.head? ≠ some 48) : 1 ≤ valL s := by
 obtain ⟨n, hn⟩ : ∃ n, s.length = n := ⟨_, rfl⟩
 induction n generalizing s with
 | zero => exact absurd (List.eq_nil_of_length_eq_zero hn) h
 | succ n ih =>
  obtain ⟨r, c, rfl⟩ := snoc_cases s h
  rw [val_snoc]
  by_cases hr : r = []
  ·subst hr
   have hc : digB c = true := List.all_eq_true.1 hd c (by simp)
   unfold digB at hc
   rw [Bool.and_eq_true, decide_eq_true_eq, decide_eq_true_eq] at hc
   have : c.toNat ≠ 48 := fun e => h0 (by show some c = some 48; rw [show c = 48 from UInt8.toNat_inj.1 e])
   omega
  ·rw [List.length_append, List.length_singleton] at hn
   have := ih r (List.all_eq_true.2 fun x hx => List.all_eq_true.1 hd x (List.mem_append_left _ hx)) hr (by rw [head_app hr] at h0; exact h0) (by omega)
   omega
theorem dec_val (s : List UInt8) (hd : s.all digB = true) (h : s ≠ []) (h0 : s.length = 1 ∨ s.head? ≠ some 48) : decL (valL s) = s := by
 obtain ⟨n, hn⟩ : ∃ n, s.length = n := ⟨_, rfl⟩
 induction n generalizing s with
 | zero => exact absurd (List.eq_nil_of_length_eq_zero hn) h
 | succ n ih =>
  obtain ⟨r, c, rfl⟩ := snoc_cases s h
  have hc : digB c = true := List.all_eq_true.1 hd c (by simp)
  have hc2 := hc
  unfold digB at hc2
  rw [Bool.and_eq_true, decide_eq_true_eq, decide_eq_true_eq] at hc2
  have hcc : UInt8.ofNat (48 + (c.toNat - 48)) = c := by rw [show 48 + (c.toNat - 48) = c.toNat by omega, UInt8.ofNat_toNat]
  rw [val_snoc]
  by_cases hr : r = []
  ·subst hr
   show decL (10 * 0 + (c.toNat - 48)) = [c]
   rw [decL_small (by omega), show 10 * 0 + (c.toNat - 48) = c.toNat - 48 by omega, hcc]
  ·rw [List.length_append, List.length_singleton] at hn h0
   have hrl : 1 ≤ r.length := List.length_pos_iff.2 hr
   have hdr : r.all digB = true := List.all_eq_true.2 fun x hx => List.all_eq_true.1 hd x (List.mem_append_left _ hx)
   have hh : r.head? ≠ some 48 := by
    rcases h0 with h0 | h0
    ·omega
    ·rwa [head_app hr] at h0
   have h1 := val_pos r hdr hr hh
   rw [decL_big (by omega), show (10 * valL r + (c.toNat - 48)) / 10 = valL r by omega, show (10 * valL r + (c.toNat - 48)) % 10 = c.toNat - 48 by omega, hcc, ih r hdr hr (.inr hh) (by omega)]
theorem val_lt (s : List UInt8) (hd : s.all digB = true) : ∀ k, s.length ≤ k → valL s < 10 ^ k := by
 intro k
 induction k generalizing s with
 | zero =>
  intro h
  have e : s = [] := List.eq_nil_of_length_eq_zero (by omega)
  subst e
  show 0 < 1
  omega
 | succ k ih =>
  intro h
  by_cases hs : s = []
  ·subst hs; exact Nat.pow_pos (by omega)
  ·obtain ⟨r, c, rfl⟩ := snoc_cases s hs
   have hc : digB c = true := List.all_eq_true.1 hd c (by simp)
   unfold digB at hc
   rw [Bool.and_eq_true, decide_eq_true_eq, decide_eq_true_eq] at hc
   rw [List.length_append, List.length_singleton] at h
   have := ih r (List.all_eq_true.2 fun x hx => List.all_eq_true.1 hd x (List.mem_append_left _ hx)) (by omega)
   rw [val_snoc, Nat.pow_succ]
   omega
theorem num_cases (s : List UInt8) : numL s = -1 ∨ (∃ n : Nat, numL s = n ∧ n < 10000000000 ∧ decL n = s) := by
 by_cases h : s = [] ∨ 10 < s.length ∨ (s.head? = some 48 ∧ 1 < s.length) ∨ s.all digB = false
 ·left; unfold numL; rw [if_pos h]
 ·right
  refine ⟨valL s, by unfold numL; rw [if_neg h], ?_, ?_⟩
  ·have hd : s.all digB = true := by
    cases e : s.all digB with
    | true => rfl
    | false => exact absurd (.inr (.inr (.inr e))) h
   have := val_lt s hd 10 (by
    rcases Nat.lt_or_ge 10 s.length with h1 | h1
    ·exact absurd (.inr (.inl h1)) h
    ·exact h1)
   omega
  ·have hne : s ≠ [] := fun e => h (.inl e)
   have hl := List.length_pos_iff.2 hne
   refine dec_val s ?_ hne ?_
   ·cases e : s.all digB with
    | true => rfl
    | false => exact absurd (.inr (.inr (.inr e))) h
   ·by_cases h1 : s.length = 1
    ·exact .inl h1
    ·exact .inr fun e => h (.inr (.inr (.inl ⟨e, by omega⟩)))
theorem num_ge (s : List UInt8) : -1 ≤ numL s ∧ numL s < 10000000000 := by
 rcases num_cases s with h | ⟨n, h, h2, _⟩ <;> omega
-- PARTS
def splitL (c : UInt8) : List UInt8 → List (List UInt8)
 | [] => [[]]
 | x :: r => if x = c then [] :: splitL c r else match splitL c r with
  | [] => [[x]]
  | y :: ys => (x :: y) :: ys
theorem split_cons (c x : UInt8) (r : List UInt8) : splitL c (x :: r) = if x = c then [] :: splitL c r else match splitL c r with | [] => [[x]] | y :: ys => (x :: y) :: ys := rfl
theorem split_ne (c : UInt8) (s : List UInt8) : splitL c s ≠ [] := by
 cases s with
 | nil => simp [splitL]
 | cons x r =>
  rw [split_cons]
  by_cases h : x = c
  ·rw [if_pos h]; simp
  ·rw [if_neg h]
   cases e : splitL c r <;> simp
theorem split_at {c : UInt8} {a : List UInt8} (h : c ∉ a) (b : List UInt8) : splitL c (a ++ c :: b) = a :: splitL c b := by
 induction a with
 | nil => show splitL c (c :: b) = _; rw [split_cons, if_pos rfl]
 | cons x r ih =>
  have hx : x ≠ c := fun e => h (by rw [e]; exact List.mem_cons_self ..)
  have := ih fun hm => h (List.mem_cons_of_mem _ hm)
  show splitL c (x :: (r ++ c :: b)) = _
  rw [split_cons, if_neg hx, this]
theorem split_one {c : UInt8} {a : List UInt8} (h : c ∉ a) : splitL c a = [a] := by
 induction a with
 | nil => rfl
 | cons x r ih =>
  have hx : x ≠ c := fun e => h (by rw [e]; exact List.mem_cons_self ..)
  rw [split_cons, if_neg hx, ih fun hm => h (List.mem_cons_of_mem _ hm)]
def joinL (c : UInt8) : List (List UInt8) → List UInt8
 | [] => []
 | [a] => a
 | a :: b :: r => a ++ c :: joinL c (b :: r)
theorem join_split (c : UInt8) (s : List UInt8) : joinL c (splitL c s) = s := by
 induction s with
 | nil => rfl
 | cons x r ih =>
  rw [split_cons]
  by_cases h : x = c
  ·rw [if_pos h]
   cases e : splitL c r with
   | nil => exact absurd e (split_ne c r)
   | cons y ys =>
    rw [e] at ih
    show [] ++ c :: joinL c (y :: ys) = _
    rw [ih, h]; rfl
  ·rw [if_neg h]
   cases e : splitL c r with
   | nil => exact absurd e (split_ne c r)
   | cons y ys =>
    rw [e] at ih
    cases ys with
    | nil => show x :: y = _; rw [← ih]; rfl
    | cons z zs => show x :: y ++ c :: joinL c (z :: zs) = _; rw [← ih]; rfl
-- ADDRESSES
def octL (s : List UInt8) : Int := if numL s < 0 ∨ 255 < numL s then -1 else numL s
def ipL (s : List UInt8) : Int := match splitL 46 s with
 | [a, b, c, d] => if octL a < 0 ∨ octL b < 0 ∨ octL c < 0 ∨ octL d < 0 then -1 else 16777216 * octL a + 65536 * octL b + 256 * octL c + octL d
 | _ => -1
def ipT (n : Nat) : List UInt8 := decL (n / 16777216) ++ 46 :: (decL (n / 65536 % 256) ++ 46 :: (decL (n / 256 % 256) ++ 46 :: decL (n % 256)))
theorem oct_cases (s : List UInt8) : octL s = -1 ∨ (∃ n : Nat, octL s = n ∧ n < 256 ∧ decL n = s) := by
 unfold octL
 rcases num_cases s with h | ⟨n, h, h2, h3⟩
 ·left; rw [h]; rfl
 ·by_cases h4 : n < 256
  ·exact .inr ⟨n, by rw [h, if_neg (by omega)], h4, h3⟩
  ·left; rw [h, if_pos (by omega)]
theorem ip_cases (s : List UInt8) : ipL s = -1 ∨ (∃ n : Nat, ipL s = n ∧ n < 4294967296 ∧ ipT n = s) := by
 unfold ipL
 split
 ·rename_i a b c d e
  rcases oct_cases a with ha | ⟨na, ha, ha2, ha3⟩
  ·left; rw [if_pos (.inl (by omega))]
  ·rcases oct_cases b with hb | ⟨nb, hb, hb2, hb3⟩
   ·left; rw [if_pos (.inr (.inl (by omega)))]
   ·rcases oct_cases c with hc | ⟨nc, hc, hc2, hc3⟩
    ·left; rw [if_pos (.inr (.inr (.inl (by omega))))]
    ·rcases oct_cases d with hd | ⟨nd, hd, hd2, hd3⟩
     ·left; rw [if_pos (.inr (.inr (.inr (by omega))))]
     ·right
      refine ⟨16777216 * na + 65536 * nb + 256 * nc + nd, by rw [if_neg (by omega), ha, hb, hc, hd]; omega, by omega, ?_⟩
      have hj := join_split 46 s
      rw [e] at hj
      unfold ipT
      rw [show (16777216 * na + 65536 * nb + 256 * nc + nd) / 16777216 = na by omega, show (16777216 * na + 65536 * nb + 256 * nc + nd) / 65536 % 256 = nb by omega, show (16777216 * na + 65536 * nb + 256 * nc + nd) / 256 % 256 = nc by omega, show (16777216 * na + 65536 * nb + 256 * nc + nd) % 256 = nd by omega, ha3, hb3, hc3, hd3]
      exact hj
 ·exact .inl rfl
-- PREFIXES
def rightB (n bits : Int) : Bool := decide (0 ≤ n) && decide (n < 4294967296) && decide (0 ≤ bits) && decide (bits ≤ 32) && decide (n % (2 ^ (32 - bits).toNat : Nat) = 0)
def prefL (s : List UInt8) : Int × Int := match splitL 47 s with
 | [a, b] => if rightB (ipL a) (numL b) = true then (ipL a, numL b) else (-1, 0)
 | _ => (-1, 0)
def prefT (n b : Nat) : List UInt8 := ipT n ++ 47 :: decL b
theorem pref_cases (s : List UInt8) : prefL s = (-1, 0) ∨ (∃ n b : Nat, prefL s = ((n : Int), (b : Int)) ∧ rightB n b = true ∧ n < 4294967296 ∧ b ≤ 32 ∧ prefT n b = s) := by
 unfold prefL
 split
 ·rename_i a c e
  by_cases h : rightB (ipL a) (numL c) = true
  ·rw [if_pos h]
   have h2 := h
   unfold rightB at h2
   simp only [Bool.and_eq_true, decide_eq_true_eq] at h2
   obtain ⟨⟨⟨⟨h0, hn⟩, h1⟩, hb⟩, _⟩ := h2
   rcases ip_cases a with ha | ⟨n, ha, ha2, ha3⟩
   ·omega
   ·rcases num_cases c with hc | ⟨b, hc, hc2, hc3⟩
    ·omega
    ·right
     refine ⟨n, b, by rw [ha, hc], by rw [ha, hc] at h; exact h, ha2, by omega, ?_⟩
     have hj := join_split 47 s
     rw [e] at hj
     unfold prefT
     rw [ha3, hc3]
     exact hj
  ·rw [if_neg h]; exact .inl rfl
 ·exact .inl rfl
-- HARDWARE ADDRESSES
def hexV (c : UInt8) : Int := if 48 ≤ c.toNat ∧ c.toNat ≤ 57 then (c.toNat : Int) - 48 else if 97 ≤ c.toNat ∧ c.toNat ≤ 102 then (c.toNat : Int) - 87 else -1
def hexC (n : Nat) : UInt8 := if n < 10 then UInt8.ofNat (48 + n) else UInt8.ofNat (87 + n)
def pairV : List UInt8 → Int
 | [a, b] => if hexV a < 0 ∨ hexV b < 0 then -1 else 16 * hexV a + hexV b
 | _ => -1
def pairT (n : Nat) : List UInt8 := [hexC (n / 16), hexC (n % 16)]
theorem hexC_nat (n : Nat) (h : n < 16) : (hexC n).toNat = if n < 10 then 48 + n else 87 + n := by
 unfold hexC
 by_cases h1 : n < 10
 ·rw [if_pos h1, if_pos h1, UInt8.toNat_ofNat']; omega
 ·rw [if_neg h1, if_neg h1, UInt8.toNat_ofNat']; omega
theorem hexV_C (n : Nat) (h : n < 16) : hexV (hexC n) = n := by
 unfold hexV
 rw [hexC_nat n h]
 by_cases h1 : n < 10
 ·rw [if_pos h1, if_pos (by omega)]; omega
 ·rw [if_neg h1, if_neg (by omega), if_pos (by omega)]; omega
theorem hex_cases (c : UInt8) : hexV c = -1 ∨ (∃ n : Nat, hexV c = n ∧ n < 16 ∧ hexC n = c) := by
 unfold hexV
 by_cases h : 48 ≤ c.toNat ∧ c.toNat ≤ 57
 ·rw [if_pos h]
  refine .inr ⟨c.toNat - 48, by omega, by omega, ?_⟩
  unfold hexC
  rw [if_pos (by omega), show 48 + (c.toNat - 48) = c.toNat by omega, UInt8.ofNat_toNat]
 ·rw [if_neg h]
  by_cases h2 : 97 ≤ c.toNat ∧ c.toNat ≤ 102
  ·rw [if_pos h2]
   refine .inr ⟨c.toNat - 87, by omega, by omega, ?_⟩
   unfold hexC
   rw [if_neg (by omega), show 87 + (c.toNat - 87) = c.toNat by omega, UInt8.ofNat_toNat]
  ·rw [if_neg h2]; exact .inl rfl
theorem pair_text (n : Nat) (h : n < 256) : pairV (pairT n) = n := by
 show (if hexV (hexC (n / 16)) < 0 ∨ hexV (hexC (n % 16)) < 0 then (-1 : Int) else 16 * hexV (hexC (n / 16)) + hexV (hexC (n % 16))) = _
 rw [hexV_C _ (by omega), hexV_C _ (by omega), if_neg (by omega)]; omega
theorem pair_cases (s : List UInt8) : pairV s = -1 ∨ (∃ n : Nat, pairV s = n ∧ n < 256 ∧ pairT n = s) := by
 unfold pairV
 split
 ·rename_i a b
  rcases hex_cases a with ha | ⟨x, ha, ha2, ha3⟩
  ·left; rw [if_pos (.inl (by omega))]
  ·rcases hex_cases b with hb | ⟨y, hb, hb2, hb3⟩
   ·left; rw [if_pos (.inr (by omega))]
   ·refine .inr ⟨16 * x + y, by rw [if_neg (by omega), ha, hb]; omega, by omega, ?_⟩
    unfold pairT
    rw [show (16 * x + y) / 16 = x by omega, show (16 * x + y) % 16 = y by omega, ha3, hb3]
 ·exact .inl rfl
theorem pair_no (n : Nat) (h : n < 256) : (58 : UInt8) ∉ pairT n := by
 unfold pairT
 intro hm
 have key : ∀ d, d < 16 → (58 : UInt8) ≠ hexC d := by
  intro d hd e
  have := hexC_nat d hd
  rw [← e] at this
  have e2 : (58 : UInt8).toNat = 58 := rfl
  rw [e2] at this
  split at this <;> omega
 rcases List.mem_cons.1 hm with hm | hm
 ·exact key _ (by omega) hm
 ·exact key _ (by omega) (List.mem_singleton.1 hm)
def macL (s : List UInt8) : Int := match splitL 58 s with
 | [a, b, c, d, e, f] => if pairV a < 0 ∨ pairV b < 0 ∨ pairV c < 0 ∨ pairV d < 0 ∨ pairV e < 0 ∨ pairV f < 0 then -1 else 1099511627776 * pairV a + 4294967296 * pairV b + 16777216 * pairV c + 65536 * pairV d + 256 * pairV e + pairV f
 | _ => -1
def macT (n : Nat) : List UInt8 := pairT (n / 1099511627776 % 256) ++ 58 :: (pairT (n / 4294967296 % 256) ++ 58 :: (pairT (n / 16777216 % 256) ++ 58 :: (pairT (n / 65536 % 256) ++ 58 :: (pairT (n / 256 % 256) ++ 58 :: pairT (n % 256)))))
theorem mac_cases (s : List UInt8) : macL s = -1 ∨ (∃ n : Nat, macL s = n ∧ n < 281474976710656 ∧ macT n = s) := by
 unfold macL
 split
 ·rename_i a b c d e f he
  rcases pair_cases a with ha | ⟨na, ha, ha2, ha3⟩
  ·left; rw [if_pos (by omega)]
  rcases pair_cases b with hb | ⟨nb, hb, hb2, hb3⟩
  ·left; rw [if_pos (by omega)]
  rcases pair_cases c with hc | ⟨nc, hc, hc2, hc3⟩
  ·left; rw [if_pos (by omega)]
  rcases pair_cases d with hd | ⟨nd, hd, hd2, hd3⟩
  ·left; rw [if_pos (by omega)]
  rcases pair_cases e with hx | ⟨ne, hx, hx2, hx3⟩
  ·left; rw [if_pos (by omega)]
  rcases pair_cases f with hf | ⟨nf, hf, hf2, hf3⟩
  ·left; rw [if_pos (by omega)]
  right
  refine ⟨1099511627776 * na + 4294967296 * nb + 16777216 * nc + 65536 * nd + 256 * ne + nf, by rw [if_neg (by omega), ha, hb, hc, hd, hx, hf]; omega, by omega, ?_⟩
  have hj := join_split 58 s
  rw [he] at hj
  unfold macT
  rw [show (1099511627776 * na + 4294967296 * nb + 16777216 * nc + 65536 * nd + 256 * ne + nf) / 1099511627776 % 256 = na by omega, show (1099511627776 * na + 4294967296 * nb + 16777216 * nc + 65536 * nd + 256 * ne + nf) / 4294967296 % 256 = nb by omega, show (1099511627776 * na + 4294967296 * nb + 16777216 * nc + 65536 * nd + 256 * ne + nf) / 16777216 % 256 = nc by omega, show (1099511627776 * na + 4294967296 * nb + 16777216 * nc + 65536 * nd + 256 * ne + nf) / 65536 % 256 = nd by omega, show (1099511627776 * na + 4294967296 * nb + 16777216 * nc + 65536 * nd + 256 * ne + nf) / 256 % 256 = ne by omega, show (1099511627776 * na + 4294967296 * nb + 16777216 * nc + 65536 * nd + 256 * ne + nf) % 256 = nf by omega, ha3, hb3, hc3, hd3, hx3, hf3]
  exact hj
 ·exact .inl rfl
-- WHAT IS IN A PREFIX
def inB (n bits ip : Int) : Bool := rightB n bits && decide (0 ≤ ip) && decide (ip < 4294967296) && decide (ip / (2 ^ (32 - bits).toNat : Nat) = n / (2 ^ (32 - bits).toNat : Nat))
theorem pow_pos2 (k : Nat) : 0 < 2 ^ k := Nat.pow_pos (by omega)
-- ALONG THE PARTS
def accL (f : List UInt8 → Int) (l : List (List UInt8)) : Int := l.foldl (fun n x => 256 * n + f x) 0
theorem acc_snoc (f : List UInt8 → Int) (l : List (List UInt8)) (x : List UInt8) : accL f (l ++ [x]) = 256 * accL f l + f x := by unfold accL; rw [List.foldl_append]; rfl
theorem ip_len {s : List UInt8} {L : List (List UInt8)} (h : splitL 46 s = L) (hl : L.length ≠ 4) : ipL s = -1 := by
 unfold ipL
 rw [h]
 split
 ·rename_i a b c d; exact absurd rfl hl
 ·rfl
theorem ip_bad {s : List UInt8} {L : List (List UInt8)} (h : splitL 46 s = L) {x : List UInt8} (hx : x ∈ L) (hb : octL x < 0) : ipL s = -1 := by
 unfold ipL
 rw [h]
 split
 ·rename_i a b c d
  rw [if_pos]
  simp only [List.mem_cons, List.not_mem_nil, or_false] at hx
  rcases hx with rfl | rfl | rfl | rfl
  ·exact .inl hb
  ·exact .inr (.inl hb)
  ·exact .inr (.inr (.inl hb))
  ·exact .inr (.inr (.inr hb))
 ·rfl
theorem ip_good {s : List UInt8} {L : List (List UInt8)} (h : splitL 46 s = L) (hl : L.length = 4) (hg : ∀ x ∈ L, 0 ≤ octL x) : ipL s = accL octL L := by
 unfold ipL
 rw [h]
 match L, hl with
 | [a, b, c, d], _ =>
  have ha := hg a (by simp)
  have hb := hg b (by simp)
  have hc := hg c (by simp)
  have hd := hg d (by simp)
  show (if octL a < 0 ∨ octL b < 0 ∨ octL c < 0 ∨ octL d < 0 then (-1 : Int) else _) = _
  rw [if_neg (by omega)]
  show _ = 256 * (256 * (256 * (256 * 0 + octL a) + octL b) + octL c) + octL d
  omega
theorem mac_len {s : List UInt8} {L : List (List UInt8)} (h : splitL 58 s = L) (hl : L.length ≠ 6) : macL s = -1 := by
 unfold macL
 rw [h]
 split
 ·rename_i a b c d e f; exact absurd rfl hl
 ·rfl
theorem mac_bad {s : List UInt8} {L : List (List UInt8)} (h : splitL 58 s = L) {x : List UInt8} (hx : x ∈ L) (hb : pairV x < 0) : macL s = -1 := by
 unfold macL
 rw [h]
 split
 ·rename_i a b c d e f
  rw [if_pos]
  simp only [List.mem_cons, List.not_mem_nil, or_false] at hx
  rcases hx with rfl | rfl | rfl | rfl | rfl | rfl
  ·exact .inl hb
  ·exact .inr (.inl hb)
  ·exact .inr (.inr (.inl hb))
  ·exact .inr (.inr (.inr (.inl hb)))
  ·exact .inr (.inr (.inr (.inr (.inl hb))))
  ·exact .inr (.inr (.inr (.inr (.inr hb))))
 ·rfl
theorem mac_good {s : List UInt8} {L : List (List UInt8)} (h : splitL 58 s = L) (hl : L.length = 6) (hg : ∀ x ∈ L, 0 ≤ pairV x) : macL s = accL pairV L := by
 unfold macL
 rw [h]
 match L, hl with
 | [a, b, c, d, e, f], _ =>
  have ha := hg a (by simp)
  have hb := hg b (by simp)
  have hc := hg c (by simp)
  have hd := hg d (by simp)
  have he := hg e (by simp)
  have hf := hg f (by simp)
  show (if pairV a < 0 ∨ pairV b < 0 ∨ pairV c < 0 ∨ pairV d < 0 ∨ pairV e < 0 ∨ pairV f < 0 then (-1 : Int) else _) = _
  rw [if_neg (by omega)]
  show _ = 256 * (256 * (256 * (256 * (256 * (256 * 0 + pairV a) + pairV b) + pairV c) + pairV d) + pairV e) + pairV f
  omega
theorem oct_range (x : List UInt8) : -1 ≤ octL x ∧ octL x ≤ 255 := by
 rcases oct_cases x with h | ⟨n, h, h2, _⟩ <;> omega
theorem pair_range (x : List UInt8) : -1 ≤ pairV x ∧ pairV x ≤ 255 := by
 rcases pair_cases x with h | ⟨n, h, h2, _⟩ <;> omega
theorem acc_range (f : List UInt8 → Int) (hf : ∀ x, f x ≤ 255) : ∀ (k : Nat) (l : List (List UInt8)), l.length ≤ k → (∀ x ∈ l, 0 ≤ f x) → 0 ≤ accL f l ∧ accL f l < ((256 ^ k : Nat) : Int) := by
 intro k
 induction k with
 | zero =>
  intro l hl _
  have e : l = [] := List.eq_nil_of_length_eq_zero (by omega)
  subst e
  exact ⟨Int.le_refl _, by show (0 : Int) < 1; omega⟩
 | succ k ih =>
  intro l hl hg
  by_cases h : l = []
  ·subst h
   have : 0 < 256 ^ (k + 1) := Nat.pow_pos (by omega)
   exact ⟨Int.le_refl _, by show (0 : Int) < _; omega⟩
  ·obtain ⟨r, c, rfl⟩ : ∃ r c, l = r ++ [c] := ⟨l.dropLast, l.getLast h, (List.dropLast_concat_getLast h).symm⟩
   rw [List.length_append, List.length_singleton] at hl
   obtain ⟨h1, h2⟩ := ih r (by omega) fun x hx => hg x (List.mem_append_left _ hx)
   have h3 := hg c (by simp)
   have h4 := hf c
   rw [acc_snoc, Nat.pow_succ]
   exact ⟨by omega, by omega⟩
-- CUTTING AT A BYTE, STEP BY STEP
def CutAt (c : UInt8) (s : List UInt8) (L : List (List UInt8)) (f i : Nat) : Prop := splitL c s = L ++ splitL c (s.drop f) ∧ c ∉ (s.drop f).take (i - f) ∧ f ≤ i
theorem cut_start (c : UInt8) (s : List UInt8) : CutAt c s [] 0 0 := ⟨rfl, by simp, Nat.le_refl _⟩
theorem cut_other {c : UInt8} {s : List UInt8} {L : List (List UInt8)} {f i : Nat} (h : CutAt c s L f i) (hi : i < s.length) (hne : s[i] ≠ c) : CutAt c s L f (i + 1) := by
 obtain ⟨h1, h2, h3⟩ := h
 refine ⟨h1, ?_, by omega⟩
 have hlt : i - f < (s.drop f).length := by rw [List.length_drop]; omega
 rw [show i + 1 - f = (i - f) + 1 by omega, List.take_succ_eq_append_getElem hlt, List.mem_append, List.mem_singleton]
 rintro (e | e)
 ·exact h2 e
 ·rw [List.getElem_drop] at e
  exact hne (by rw [e]; congr 1; omega)
theorem cut_here {c : UInt8} {s : List UInt8} {L : List (List UInt8)} {f i : Nat} (h : CutAt c s L f i) (hi : i < s.length) (he : s[i] = c) : CutAt c s (L ++ [(s.drop f).take (i - f)]) (i + 1) (i + 1) := by
 obtain ⟨h1, h2, h3⟩ := h
 have hd : s.drop f = (s.drop f).take (i - f) ++ c :: s.drop (i + 1) := by
  conv => lhs; rw [← List.take_append_drop (i - f) (s.drop f)]
  rw [List.drop_drop, show f + (i - f) = i by omega, List.drop_eq_getElem_cons hi, he]
 refine ⟨?_, by simp, Nat.le_refl _⟩
 rw [h1]
 conv => lhs; rw [hd]
 rw [split_at h2, List.append_assoc]; rfl
theorem cut_end {c : UInt8} {s : List UInt8} {L : List (List UInt8)} {f i : Nat} (h : CutAt c s L f i) (hi : i = s.length) : splitL c s = L ++ [(s.drop f).take (i - f)] := by
 obtain ⟨h1, h2, h3⟩ := h
 have e : (s.drop f).take (i - f) = s.drop f := List.take_of_length_le (by rw [List.length_drop]; omega)
 rw [e] at h2 ⊢
 rw [h1, split_one h2]
end N
end Go.Proofs.YtfcikfohmehmkaaGreatDoor
namespace Go.Proofs.YtfcikfohmehmkaaGreatDoor
namespace F
open T (decL decL_small decL_big decL_len)
open N (digB valL val_snoc dig_of digB_of val_dec dec_dig dec_ne dec_head dec_one dec_val val_lt)
set_option linter.unusedVariables false
def intOk (a : List UInt8) : Bool := !a.isEmpty && decide (a.length ≤ 6) && !(decide (a.head? = some 48) && decide (1 < a.length))
def fracOk : List UInt8 → Bool
 | [] => true
 | c :: f => decide (c = 46) && !f.isEmpty && decide (f.getLast? ≠ some 48) && decide (f.length ≤ 3) && f.all digB
def thoL (s : List UInt8) : Option Nat := if (intOk (s.takeWhile digB) && fracOk (s.dropWhile digB)) = true then some (valL (s.takeWhile digB ++ (s.dropWhile digB).tail) * 10 ^ (3 - (s.dropWhile digB).tail.length)) else none
def digC (n : Nat) : UInt8 := UInt8.ofNat (48 + n)
def fracT (k : Nat) : List UInt8 := if k % 100 = 0 then [digC (k / 100)] else if k % 10 = 0 then [digC (k / 100), digC (k / 10 % 10)] else [digC (k / 100), digC (k / 10 % 10), digC (k % 10)]
def thoT (n : Nat) : List UInt8 := decL (n / 1000) ++ if n % 1000 = 0 then [] else 46 :: fracT (n % 1000)
theorem digC_nat {n : Nat} (h : n < 10) : (digC n).toNat = 48 + n := dig_of n h
theorem digC_B {n : Nat} (h : n < 10) : digB (digC n) = true := digB_of n h
theorem digC_ne {n : Nat} (h : n < 10) (h0 : n ≠ 0) : digC n ≠ 48 := fun e => by
 have := digC_nat h
 rw [e] at this
 have e2 : (48 : UInt8).toNat = 48 := rfl
 omega
theorem digC_of {c : UInt8} (h : digB c = true) : ∃ d, d < 10 ∧ c = digC d ∧ c.toNat - 48 = d := by
 unfold digB at h
 simp only [Bool.and_eq_true, decide_eq_true_eq] at h
 refine ⟨c.toNat - 48, by omega, ?_, rfl⟩
 unfold digC
 rw [show 48 + (c.toNat - 48) = c.toNat by omega]
 exact (UInt8.ofNat_toNat).symm
theorem take_digs {a r : List UInt8} (ha : ∀ c ∈ a, digB c = true) (hr : r = [] ∨ ∃ c f, r = c :: f ∧ digB c = false) : (a ++ r).takeWhile digB = a ∧ (a ++ r).dropWhile digB = r := by
 rw [List.takeWhile_append_of_pos ha, List.dropWhile_append_of_pos ha]
 rcases hr with rfl | ⟨c, f, rfl, hc⟩
 ·simp
 ·rw [List.takeWhile_cons, List.dropWhile_cons, hc]; simp
theorem tho_is {a r : List UInt8} (ha : ∀ c ∈ a, digB c = true) (hr : r = [] ∨ ∃ c f, r = c :: f ∧ digB c = false) : thoL (a ++ r) = if (intOk a && fracOk r) = true then some (valL (a ++ r.tail) * 10 ^ (3 - r.tail.length)) else none := by
 obtain ⟨h1, h2⟩ := take_digs ha hr
 unfold thoL
 rw [h1, h2]
theorem frac_three (k : Nat) : (k % 100 = 0 ∧ fracT k = [digC (k / 100)]) ∨ (k % 100 ≠ 0 ∧ k % 10 = 0 ∧ fracT k = [digC (k / 100), digC (k / 10 % 10)]) ∨ (k % 10 ≠ 0 ∧ fracT k = [digC (k / 100), digC (k / 10 % 10), digC (k % 10)]) := by
 unfold fracT
 by_cases h1 : k % 100 = 0
 ·exact .inl ⟨h1, if_pos h1⟩
 ·rw [if_neg h1]
  by_cases h2 : k % 10 = 0
  ·exact .inr (.inl ⟨h1, h2, if_pos h2⟩)
  ·exact .inr (.inr ⟨h2, if_neg h2⟩)
theorem frac_dig {k : Nat} (hk : k < 1000) (h0 : k ≠ 0) : fracOk (46 :: fracT k) = true := by
 rcases frac_three k with ⟨h, e⟩ | ⟨h, h', e⟩ | ⟨h, e⟩
 ·have h1 := digC_B (n := k / 100) (by omega)
  have h2 := digC_ne (n := k / 100) (by omega) (by omega)
  rw [e]; simp [fracOk, h1, h2]
 ·have h1 := digC_B (n := k / 100) (by omega)
  have h3 := digC_B (n := k / 10 % 10) (by omega)
  have h2 := digC_ne (n := k / 10 % 10) (by omega) (by omega)
  rw [e]; simp [fracOk, h1, h2, h3]
 ·have h1 := digC_B (n := k / 100) (by omega)
  have h3 := digC_B (n := k / 10 % 10) (by omega)
  have h4 := digC_B (n := k % 10) (by omega)
  have h2 := digC_ne (n := k % 10) (by omega) (by omega)
  rw [e]; simp [fracOk, h1, h2, h3, h4]
theorem frac_val (a : List UInt8) {k : Nat} (hk : k < 1000) : valL (a ++ fracT k) * 10 ^ (3 - (fracT k).length) = valL a * 1000 + k := by
 unfold fracT
 split
 ·rw [val_snoc, digC_nat (by omega)]
  show (10 * valL a + (48 + k / 100 - 48)) * 10 ^ 2 = _
  omega
 ·split
  ·rw [show a ++ [digC (k / 100), digC (k / 10 % 10)] = (a ++ [digC (k / 100)]) ++ [digC (k / 10 % 10)] by simp, val_snoc, val_snoc, digC_nat (by omega), digC_nat (by omega)]
   show (10 * (10 * valL a + (48 + k / 100 - 48)) + (48 + k / 10 % 10 - 48)) * 10 ^ 1 = _
   omega
  ·rw [show a ++ [digC (k / 100), digC (k / 10 % 10), digC (k % 10)] = ((a ++ [digC (k / 100)]) ++ [digC (k / 10 % 10)]) ++ [digC (k % 10)] by simp, val_snoc, val_snoc, val_snoc, digC_nat (by omega), digC_nat (by omega), digC_nat (by omega)]
   show (10 * (10 * (10 * valL a + (48 + k / 100 - 48)) + (48 + k / 10 % 10 - 48)) + (48 + k % 10 - 48)) * 10 ^ 0 = _
   omega
theorem int_dec {n : Nat} (h : n < 1000000) : intOk (decL n) = true := by
 have h1 : (decL n).isEmpty = false := by have := dec_ne n; cases hd : decL n with | nil => exact absurd hd this | cons => rfl
 have h2 := decL_len 5 n h
 unfold intOk
 rw [h1, decide_eq_true h2]
 by_cases h3 : (decL n).head? = some 48
 ·have := dec_one n h3
  rw [decide_eq_false (show ¬ 1 < (decL n).length by omega)]; simp
 ·rw [decide_eq_false h3]; rfl
theorem tho_text {n : Nat} (h : n < 1000000000) : thoL (thoT n) = some n := by
 unfold thoT
 split
 ·rename_i h0
  rw [tho_is (dec_dig _) (.inl rfl), int_dec (by omega)]
  show some (valL (decL (n / 1000) ++ []) * 10 ^ 3) = _
  rw [List.append_nil, val_dec]
  congr 1
  omega
 ·rename_i h0
  rw [tho_is (dec_dig _) (.inr ⟨46, _, rfl, by decide⟩), int_dec (by omega), frac_dig (Nat.mod_lt _ (by omega)) h0]
  show some (valL (decL (n / 1000) ++ fracT (n % 1000)) * 10 ^ (3 - (fracT (n % 1000)).length)) = _
  rw [frac_val _ (Nat.mod_lt _ (by omega)), val_dec]
  congr 1
  omega
theorem frac_cases {f : List UInt8} (h : fracOk (46 :: f) = true) : ∃ k, k < 1000 ∧ k ≠ 0 ∧ fracT k = f := by
 unfold fracOk at h
 simp only [Bool.and_eq_true, decide_eq_true_eq, Bool.not_eq_true', ne_eq] at h
 obtain ⟨⟨⟨⟨_, h1⟩, h2⟩, h3⟩, h4⟩ := h
 have hall : ∀ c ∈ f, digB c = true := List.all_eq_true.1 h4
 match f, h1, h2, h3, hall with
 | [], h1, _, _, _ => cases h1
 | [x], _, h2, _, hall =>
  obtain ⟨d, hd, rfl, _⟩ := digC_of (hall x (by simp))
  have h0 : d ≠ 0 := fun e => h2 (by rw [e]; rfl)
  refine ⟨d * 100, by omega, by omega, ?_⟩
  unfold fracT
  rw [if_pos (by omega), show d * 100 / 100 = d by omega]
 | [x, y], _, h2, _, hall =>
  obtain ⟨d, hd, rfl, _⟩ := digC_of (hall x (by simp))
  obtain ⟨e, he, rfl, _⟩ := digC_of (hall y (by simp))
  have h0 : e ≠ 0 := fun k => h2 (by rw [k]; rfl)
  refine ⟨d * 100 + e * 10, by omega, by omega, ?_⟩
  unfold fracT
  rw [if_neg (by omega), if_pos (by omega), show (d * 100 + e * 10) / 100 = d by omega, show (d * 100 + e * 10) / 10 % 10 = e by omega]
 | [x, y, z], _, h2, _, hall =>
  obtain ⟨d, hd, rfl, _⟩ := digC_of (hall x (by simp))
  obtain ⟨e, he, rfl, _⟩ := digC_of (hall y (by simp))
  obtain ⟨g, hg, rfl, _⟩ := digC_of (hall z (by simp))
  have h0 : g ≠ 0 := fun k => h2 (by rw [k]; rfl)
  refine ⟨d * 100 + e * 10 + g, by omega, by omega, ?_⟩
  unfold fracT
  rw [if_neg (by omega), if_neg (by omega), show (d * 100 + e * 10 + g) / 100 = d by omega, show (d * 100 + e * 10 + g) / 10 % 10 = e by omega, show (d * 100 + e * 10 + g) % 10 = g by omega]
 | x :: y :: z :: u :: r, _, _, h3, _ => simp at h3
theorem tho_cases (s : List UInt8) : thoL s = none ∨ ∃ n, n < 1000000000 ∧ thoL s = some n ∧ thoT n = s := by
 cases hc : intOk (s.takeWhile digB) && fracOk (s.dropWhile digB) with
 | false => left; unfold thoL; rw [hc]; rfl
 | true =>
  right
  obtain ⟨h1, h2⟩ := Bool.and_eq_true_iff.1 hc
  obtain ⟨a, ha⟩ : ∃ a, s.takeWhile digB = a := ⟨_, rfl⟩
  obtain ⟨r, hr⟩ : ∃ r, s.dropWhile digB = r := ⟨_, rfl⟩
  have hs : s = a ++ r := by rw [← ha, ← hr, List.takeWhile_append_dropWhile]
  rw [ha] at h1
  rw [hr] at h2
  have hd : a.all digB = true := by rw [← ha]; exact List.all_takeWhile
  unfold intOk at h1
  simp only [Bool.and_eq_true, decide_eq_true_eq, Bool.not_eq_true', Bool.and_eq_false_iff, decide_eq_false_iff_not] at h1
  obtain ⟨⟨h3, h4⟩, h5⟩ := h1
  have hne : a ≠ [] := fun e => by rw [e] at h3; cases h3
  have hlen : 0 < a.length := List.length_pos_iff.2 hne
  have hdec : decL (valL a) = a := dec_val a hd hne (by rcases h5 with h5 | h5 <;> first | exact .inr h5 | exact .inl (by omega))
  have hv := val_lt a hd 6 h4
  have hv6 : valL a < 1000000 := hv
  cases r with
  | nil =>
   have hT : thoT (valL a * 1000) = s := by
    unfold thoT
    rw [if_pos (by omega), show valL a * 1000 / 1000 = valL a by omega, hdec, hs]
   exact ⟨valL a * 1000, by omega, by rw [← hT]; exact tho_text (by omega), hT⟩
  | cons c f =>
   have hc46 : c = 46 := by
    unfold fracOk at h2
    simp only [Bool.and_eq_true, decide_eq_true_eq] at h2
    exact h2.1.1.1.1
   subst hc46
   obtain ⟨k, hk, hk0, hf⟩ := frac_cases h2
   have hT : thoT (valL a * 1000 + k) = s := by
    unfold thoT
    rw [show (valL a * 1000 + k) % 1000 = k by omega, if_neg hk0, show (valL a * 1000 + k) / 1000 = valL a by omega, hdec, hf, hs]
   exact ⟨valL a * 1000 + k, by omega, by rw [← hT]; exact tho_text (by omega), hT⟩
end F
end Go.Proofs.YtfcikfohmehmkaaGreatDoor
namespace Go.Proofs.YtfcikfohmehmkaaGreatDoor.C
set_option linter.unusedVariables false
open T (Pth pless)
abbrev Wd := List UInt8
def wHosts : Wd := [104, 111, 115, 116, 115]
def wVnis : Wd := [118, 110, 105, 115]
def wBindings : Wd := [98, 105, 110, 100, 105, 110, 103, 115]
def wRoutes : Wd := [114, 111, 117, 116, 101, 115]
def wPolicy : Wd := [112, 111, 108, 105, 99, 121]
def wIp : Wd := [105, 112]
def wMac : Wd := [109, 97, 99]
def wSubnet : Wd := [115, 117, 98, 110, 101, 116]
def wHost : Wd := [104, 111, 115, 116]
def wVni : Wd := [118, 110, 105]
def wVia : Wd := [118, 105, 97]
def wMetric : Wd := [109, 101, 116, 114, 105, 99]
def wAction : Wd := [97, 99, 116, 105, 111, 110]
def wFrom : Wd := [102, 114, 111, 109]
def wTo : Wd := [116, 111]
def wPermit : Wd := [112, 101, 114, 109, 105, 116]
def wDeny : Wd := [100, 101, 110, 121]
def kName : Wd := 36 :: [110, 97, 109, 101]
def kIp : Wd := 36 :: wIp
def kPrefix : Wd := 36 :: [112, 114, 101, 102, 105, 120]
def kMac : Wd := 36 :: wMac
def kVni : Wd := 36 :: wVni
def kNum : Wd := 36 :: [110, 117, 109]
def kMetric : Wd := 36 :: wMetric
def kAction : Wd := 36 :: wAction
def okC (c : UInt8) : Bool := (decide (97 ≤ c.toNat) && decide (c.toNat ≤ 122)) || N.digB c || decide (c.toNat = 45)
def nameB : Wd → Bool
 | [] => false
 | c :: r => decide (97 ≤ c.toNat) && decide (c.toNat ≤ 122) && decide (r.length < 16) && r.all okC
def readB (s : Wd) : Bool := decide (s = [110, 97, 110]) || decide (s = [105, 110, 102]) || decide (s = [45, 105, 110, 102]) || (if s.head? = some 45 then (F.thoL s.tail).isSome else (F.thoL s).isSome)
def typeB (k w : Wd) : Bool :=
 if k = kName then nameB w else if k = kIp then decide (0 ≤ N.ipL w) else if k = kPrefix then decide (0 ≤ (N.prefL w).1) else if k = kMac then decide (0 ≤ N.macL w)
 else if k = kVni then decide (1 ≤ N.numL w) && decide (N.numL w ≤ 16777215) else if k = kNum then decide (1 ≤ N.numL w) && decide (N.numL w ≤ 1000)
 else if k = kMetric then readB w else if k = kAction then decide (w = wPermit) || decide (w = wDeny) else false
def secondW (a : Wd) : Wd := if a = wHosts then kName else if a = wVnis then kVni else if a = wBindings then kIp else if a = wRoutes then kPrefix else if a = wPolicy then kNum else []
def key (a w : Wd) : Wd := a ++ 32 :: w
def thirdK (k : Wd) : Wd × Bool × Bool :=
 if k = key wHosts wIp then (kIp, true, true) else if k = key wHosts wMac then (kMac, true, false) else if k = key wHosts wVnis then (kVni, false, false) else if k = key wVnis wSubnet then (kPrefix, true, true)
 else if k = key wBindings wHost ∨ k = key wRoutes wVia then (kName, true, true) else if k = key wBindings wMac then (kMac, true, true) else if k = key wBindings wVni then (kVni, true, true)
 else if k = key wRoutes wMetric then (kMetric, true, false) else if k = key wPolicy wAction then (kAction, true, true) else if k = key wPolicy wFrom ∨ k = key wPolicy wTo then (kPrefix, true, false) else ([], false, false)
def needsW (a : Wd) : List Wd := if a = wHosts then [wIp] else if a = wVnis then [wSubnet] else if a = wBindings then [wHost, wMac, wVni] else if a = wRoutes then [wVia] else if a = wPolicy then [wAction] else []
def knownP : Pth → Int
 | [] => 3
 | [a] => if secondW a = [] then 3 else 0
 | [a, b] => if typeB (secondW a) b = true then 0 else 2
 | [a, _, c] => if (thirdK (key a c)).1 = [] then 3 else 0
 | [a, _, c, d] => if typeB (thirdK (key a c)).1 d = true then 0 else 2
 | _ => 3
def isKid (p q : Pth) : Bool := decide (q ≠ [] ∧ q.dropLast = p)
def kidsP (P : List Pth) (p : Pth) : List Pth := P.filter (isKid p)
def hasP (P : List Pth) (p : Pth) (w : Wd) : Bool := decide (p ++ [w] ∈ kidsP P p)
def sameAd (x : Wd) : Pth → Bool
 | [a, b, c, d] => decide (a = wHosts) && nameB b && decide (c = wIp) && decide (d = x)
 | _ => false
def twiceP (P : List Pth) (p : Pth) (w : Wd) : Bool := P.any fun q => pless q p && sameAd w q
def outP (P : List Pth) (ip v : Wd) : Bool := match kidsP P [wVnis, v, wSubnet] with
 | [] => false
 | q :: _ => decide (0 ≤ (N.prefL (q.getLastD [])).1) && !N.inB (N.prefL (q.getLastD [])).1 (N.prefL (q.getLastD [])).2 (N.ipL ip)
def meantP (P : List Pth) : Pth → Bool
 | [a, b, c, d] => if key a c = key wHosts wIp then twiceP P [a, b, c, d] d
  else if key a c = key wBindings wHost ∨ key a c = key wRoutes wVia then !decide ([wHosts, d] ∈ P)
  else if key a c = key wHosts wVnis then !decide ([wVnis, d] ∈ P)
  else if key a c = key wBindings wVni then (!decide ([wVnis, d] ∈ P)) || outP P b d else false
 | _ => false
def faultsP (P : List Pth) (p : Pth) : List (Pth × Int) :=
 if knownP p ≠ 0 then [(p, knownP p)] else match p with
  | [a, b] => ((needsW a).filter fun w => !hasP P [a, b] w).map fun w => ([a, b] ++ [w], 1)
  | [a, b, c] => if (thirdK (key a c)).2.1 = true then (if (kidsP P [a, b, c]).length = 0 then [([a, b, c], 1)] else if 1 < (kidsP P [a, b, c]).length then [([a, b, c], 4)] else []) else []
  | [a, b, c, d] => if meantP P [a, b, c, d] = true then [([a, b, c, d], 7)] else []
  | _ => []
def liveP (p : Pth) : Bool := (List.range p.length).all fun k => decide (k = 0) || decide (knownP (p.take k) = 0)
def atP (P : List Pth) (p : Pth) : List (Pth × Int) := if liveP p = true then faultsP P p else []
def checkP (P : List Pth) : List (Pth × Int) := P.flatMap (atP P)
def pths (t : List T.Ln) : List Pth := (List.range t.length).map (T.pathL t)
theorem flat_same {α β : Type} {f g : α → List β} : ∀ {l : List α}, (∀ x ∈ l, f x = g x) → l.flatMap f = l.flatMap g
 | [], _ => rfl
 | x :: l, h => by
  rw [List.flatMap_cons, List.flatMap_cons, h x List.mem_cons_self, flat_same fun y hy => h y (List.mem_cons_of_mem _ hy)]
end Go.Proofs.YtfcikfohmehmkaaGreatDoor.C
namespace Go.Proofs.YtfcikfohmehmkaaGreatDoor.T
set_option linter.unusedVariables false
-- THE WORDS UNDER A PATH
def underW (x : List Ln) (p : Pth) : List (List UInt8) := ((entries x).filter fun e => decide (e.1.dropLast = p)).map fun e => e.1.getLastD []
theorem entry_ne {x : List Ln} {e : Pth × Int} (h : e ∈ entries x) : e.1 ≠ [] := RightN.in_ne (isIn_of h)
theorem mem_underW {x : List Ln} {p : Pth} {w : List UInt8} : w ∈ underW x p ↔ isIn x (p ++ [w]) := by
 unfold underW
 rw [List.mem_map, isIn_entries]
 constructor
 ·rintro ⟨e, he, rfl⟩
  obtain ⟨h1, h2⟩ := List.mem_filter.1 he
  have h2 := of_decide_eq_true h2
  obtain ⟨q, w, hq⟩ := snoc_of (entry_ne h1)
  refine ⟨e.2, ?_⟩
  rw [hq, List.dropLast_concat] at h2
  rw [hq, last_snoc, ← h2, ← hq]
  exact h1
 ·rintro ⟨m, hm⟩
  exact ⟨(p ++ [w], m), List.mem_filter.2 ⟨hm, decide_eq_true (List.dropLast_concat ..)⟩, last_snoc _ _⟩
theorem underW_nil {x : List Ln} {p : Pth} : underW x p = [] ↔ ∀ w, ¬ isIn x (p ++ [w]) := by
 constructor
 ·intro h w hw
  have := mem_underW.2 hw
  rw [h] at this
  cases this
 ·intro h
  cases e : underW x p with
  | nil => rfl
  | cons w r => exact absurd (mem_underW.1 (by rw [e]; exact List.mem_cons_self ..)) (h w)
theorem underW_out {N : Nat} {x : List Ln} (h : RightN N x) {p : Pth} (hp : p ≠ []) (hno : ¬ isIn x p) : underW x p = [] :=
 underW_nil.2 fun w hw => hno (h.in_pre hp hw (pre_app _ _))
theorem pathI_inj {N : Nat} {x : List Ln} (h : RightN N x) {i j : Int} (hi : -1 ≤ i ∧ i < x.length) (hj : -1 ≤ j ∧ j < x.length) (e : pathI x i = pathI x j) : i = j := by
 by_cases h1 : i < 0
 ·by_cases h2 : j < 0
  ·omega
  ·have e1 : i = -1 := by omega
   obtain ⟨b, rfl⟩ := Int.eq_ofNat_of_zero_le (show 0 ≤ j by omega)
   rw [e1, pathI_none, pathI_nat] at e
   exact absurd e.symm path_ne
 ·obtain ⟨a, rfl⟩ := Int.eq_ofNat_of_zero_le (show 0 ≤ i by omega)
  by_cases h2 : j < 0
  ·have e1 : j = -1 := by omega
   rw [e1, pathI_none, pathI_nat] at e
   exact absurd e path_ne
  ·obtain ⟨b, rfl⟩ := Int.eq_ofNat_of_zero_le (show 0 ≤ j by omega)
   rw [pathI_nat, pathI_nat] at e
   have := h.path_inj (a + b) a b (by omega) (by omega) (by omega) (by omega) e
   omega
theorem kids_words {N : Nat} {x : List Ln} (h : RightN N x) {i : Int} (hi : -1 ≤ i ∧ i < x.length) : (kidsL x i).map (wd x) = underW x (pathI x i) := by
 unfold underW entries kidsL
 rw [List.filter_map, List.map_map]
 have e1 : ∀ k ∈ List.range x.length, (underL x k == i) = ((fun e : Pth × Int => decide (e.1.dropLast = pathI x i)) ∘ fun i => (pathL x i, (at_ x i).mark)) k := by
  intro k hk
  have hk := List.mem_range.1 hk
  have hu := under_lt x k
  show (underL x k == i) = decide ((pathL x k).dropLast = pathI x i)
  rw [path_under x k, List.dropLast_concat, Bool.eq_iff_iff, beq_iff_eq, decide_eq_true_eq]
  exact ⟨fun e => by rw [e], fun e => pathI_inj h ⟨hu.1, by omega⟩ hi e⟩
 rw [List.filter_congr e1]
 refine List.map_congr_left fun k _ => ?_
 show wd x k = (pathL x k).getLastD []
 rw [path_under x k, last_snoc]
theorem underW_len {N : Nat} {x : List Ln} (h : RightN N x) (p : Pth) : (underW x p).length ≤ x.length := by
 unfold underW
 rw [List.length_map]
 exact Nat.le_trans (List.length_filter_le _ _) (Nat.le_of_eq (entries_len x))
theorem underW_word {N : Nat} {x : List Ln} (h : RightN N x) {p : Pth} {w : List UInt8} (hw : w ∈ underW x p) : w.length ≤ 40 := by
 obtain ⟨i, hi, e⟩ := mem_underW.1 hw
 exact S.RightN.path_long h i i (Nat.le_refl _) hi w (by rw [e]; simp)
-- WHAT A PATH MEANS
-- HOW MANY
-- A GROUP'S PATHS
-- EXPANDED
-- ANOTHER GROUP
end Go.Proofs.YtfcikfohmehmkaaGreatDoor.T
namespace Go.Proofs.YtfcikfohmehmkaaGreatDoor.H
set_option linter.unusedVariables false
open T (Pth RightN RightT isIn underW Ln)
open C (Wd wHosts wVnis wBindings wRoutes wPolicy wIp wMac wHost wVni wVia wMetric wAction wFrom wTo)
structure En where
 host : Wd
 kind : Int
 key : Wd
 val : Wd
deriving DecidableEq
def aheadE (a b : En) : Bool := if a.host ≠ b.host then Op.bytesLess a.host b.host else if a.kind ≠ b.kind then decide (a.kind < b.kind) else if a.key ≠ b.key then Op.bytesLess a.key b.key else Op.bytesLess a.val b.val
theorem ahead_irr (a : En) : aheadE a a = false := by
 unfold aheadE
 rw [if_neg (fun h => h rfl), if_neg (fun h => h rfl), if_neg (fun h => h rfl)]
 exact T.less_irr _
theorem ahead_iff (a b : En) : aheadE a b = true ↔ Op.bytesLess a.host b.host = true ∨ (a.host = b.host ∧ (a.kind < b.kind ∨ (a.kind = b.kind ∧ (Op.bytesLess a.key b.key = true ∨ (a.key = b.key ∧ Op.bytesLess a.val b.val = true))))) := by
 have ne : ∀ {x y : Wd}, Op.bytesLess x y = true → x ≠ y := fun h e => by rw [e, T.less_irr] at h; cases h
 unfold aheadE
 by_cases h1 : a.host = b.host
 ·rw [if_neg (fun h => h h1)]
  by_cases h2 : a.kind = b.kind
  ·rw [if_neg (fun h => h h2)]
   by_cases h3 : a.key = b.key
   ·rw [if_neg (fun h => h h3)]
    constructor
    ·intro h; exact .inr ⟨h1, .inr ⟨h2, .inr ⟨h3, h⟩⟩⟩
    ·rintro (h | ⟨_, h | ⟨_, h | ⟨_, h⟩⟩⟩)
     ·exact absurd h1 (ne h)
     ·omega
     ·exact absurd h3 (ne h)
     ·exact h
   ·rw [if_pos h3]
    constructor
    ·intro h; exact .inr ⟨h1, .inr ⟨h2, .inl h⟩⟩
    ·rintro (h | ⟨_, h | ⟨_, h | ⟨h, _⟩⟩⟩)
     ·exact absurd h1 (ne h)
     ·omega
     ·exact h
     ·exact absurd h h3
  ·rw [if_pos h2]
   constructor
   ·intro h; exact .inr ⟨h1, .inl (of_decide_eq_true h)⟩
   ·rintro (h | ⟨_, h | ⟨h, _⟩⟩)
    ·exact absurd h1 (ne h)
    ·exact decide_eq_true h
    ·exact absurd h h2
 ·rw [if_pos h1]
  constructor
  ·intro h; exact .inl h
  ·rintro (h | ⟨h, _⟩)
   ·exact h
   ·exact absurd h h1
theorem ahead_tri (a b : En) : aheadE a b = true ∨ a = b ∨ aheadE b a = true := by
 rw [ahead_iff, ahead_iff]
 rcases T.less_tri a.host b.host with h | h1 | h
 ·exact .inl (.inl h)
 ·rcases Int.lt_trichotomy a.kind b.kind with h | h2 | h
  ·exact .inl (.inr ⟨h1, .inl h⟩)
  ·rcases T.less_tri a.key b.key with h | h3 | h
   ·exact .inl (.inr ⟨h1, .inr ⟨h2, .inl h⟩⟩)
   ·rcases T.less_tri a.val b.val with h | h4 | h
    ·exact .inl (.inr ⟨h1, .inr ⟨h2, .inr ⟨h3, h⟩⟩⟩)
    ·refine .inr (.inl ?_)
     cases a; cases b; simp only at h1 h2 h3 h4; subst h1 h2 h3 h4; rfl
    ·exact .inr (.inr (.inr ⟨h1.symm, .inr ⟨h2.symm, .inr ⟨h3.symm, h⟩⟩⟩))
   ·exact .inr (.inr (.inr ⟨h1.symm, .inr ⟨h2.symm, .inl h⟩⟩))
  ·exact .inr (.inr (.inr ⟨h1.symm, .inl h⟩))
 ·exact .inr (.inr (.inl h))
theorem ahead_trans {a b c : En} (h : aheadE a b = true) (k : aheadE b c = true) : aheadE a c = true := by
 rw [ahead_iff] at h k ⊢
 rcases h with h | ⟨h1, h⟩
 ·rcases k with k | ⟨k1, k⟩
  ·exact .inl (T.less_trans _ _ _ h k)
  ·exact .inl (by rw [← k1]; exact h)
 ·rcases k with k | ⟨k1, k⟩
  ·exact .inl (by rw [h1]; exact k)
  ·refine .inr ⟨h1.trans k1, ?_⟩
   rcases h with h | ⟨h2, h⟩
   ·rcases k with k | ⟨k2, k⟩
    ·exact .inl (by omega)
    ·exact .inl (by omega)
   ·rcases k with k | ⟨k2, k⟩
    ·exact .inl (by omega)
    ·refine .inr ⟨h2.trans k2, ?_⟩
     rcases h with h | ⟨h3, h⟩
     ·rcases k with k | ⟨k3, k⟩
      ·exact .inl (T.less_trans _ _ _ h k)
      ·exact .inl (by rw [← k3]; exact h)
     ·rcases k with k | ⟨k3, k⟩
      ·exact .inl (by rw [h3]; exact k)
      ·exact .inr ⟨h3.trans k3, T.less_trans _ _ _ h k⟩
theorem ahead_asymm {a b : En} (h : aheadE a b = true) : aheadE b a = false := by
 cases k : aheadE b a with
 | false => rfl
 | true => have := ahead_trans h k; rw [ahead_irr] at this; cases this
def SortE (l : List En) : Prop := l.Pairwise fun a b => aheadE a b = true
def insE (e : En) : List En → List En
 | [] => [e]
 | x :: l => if aheadE e x = true then e :: x :: l else x :: insE e l
def putE (l : List En) (e : En) : List En := if e ∈ l then l else insE e l
def setE (l : List En) : List En := l.foldl putE []
theorem mem_ins {e x : En} : ∀ {l : List En}, x ∈ insE e l ↔ x = e ∨ x ∈ l
 | [] => by simp [insE]
 | y :: l => by
  unfold insE
  split
  ·simp
  ·rw [List.mem_cons, mem_ins (l := l), List.mem_cons]
   constructor
   ·rintro (h | h | h)
    ·exact .inr (.inl h)
    ·exact .inl h
    ·exact .inr (.inr h)
   ·rintro (h | h | h)
    ·exact .inr (.inl h)
    ·exact .inl h
    ·exact .inr (.inr h)
theorem sort_ins {e : En} : ∀ {l : List En}, SortE l → e ∉ l → SortE (insE e l)
 | [], _, _ => by simp [insE, SortE]
 | y :: l, h, hn => by
  obtain ⟨h1, h2⟩ := List.pairwise_cons.1 h
  unfold insE
  split
  ·next k => exact List.pairwise_cons.2 ⟨fun x hx => by
    rcases List.mem_cons.1 hx with rfl | hx
    ·exact k
    ·exact ahead_trans k (h1 x hx), h⟩
  ·next k =>
   have hne : e ≠ y := fun q => hn (by rw [q]; exact List.mem_cons_self)
   have hye : aheadE y e = true := by
    rcases ahead_tri e y with q | q | q
    ·exact absurd q k
    ·exact absurd q hne
    ·exact q
   refine List.pairwise_cons.2 ⟨fun x hx => ?_, sort_ins h2 (fun q => hn (List.mem_cons_of_mem _ q))⟩
   rcases mem_ins.1 hx with rfl | hx
   ·exact hye
   ·exact h1 x hx
theorem mem_put {l : List En} {e x : En} : x ∈ putE l e ↔ x ∈ l ∨ x = e := by
 unfold putE
 split
 ·next h => exact ⟨.inl, fun k => k.elim id (fun q => q ▸ h)⟩
 ·rw [mem_ins]; exact Or.comm
theorem sort_put {l : List En} {e : En} (h : SortE l) : SortE (putE l e) := by
 unfold putE
 split
 ·exact h
 ·next k => exact sort_ins h k
theorem fold_put : ∀ (l a : List En), SortE a → SortE (l.foldl putE a) ∧ ∀ x, x ∈ l.foldl putE a ↔ x ∈ a ∨ x ∈ l
 | [], a, h => ⟨h, fun x => by simp⟩
 | e :: l, a, h => by
  obtain ⟨h1, h2⟩ := fold_put l (putE a e) (sort_put h)
  refine ⟨h1, fun x => ?_⟩
  rw [List.foldl_cons, h2 x, mem_put, List.mem_cons]
  constructor
  ·rintro ((h | h) | h)
   ·exact .inl h
   ·exact .inr (.inl h)
   ·exact .inr (.inr h)
  ·rintro (h | h | h)
   ·exact .inl (.inl h)
   ·exact .inl (.inr h)
   ·exact .inr h
theorem set_sort (l : List En) : SortE (setE l) := (fold_put l [] List.Pairwise.nil).1
theorem mem_set {l : List En} {x : En} : x ∈ setE l ↔ x ∈ l := by
 have := (fold_put l [] List.Pairwise.nil).2 x
 rw [show setE l = l.foldl putE [] from rfl, this]; simp
theorem sort_ext : ∀ {a b : List En}, SortE a → SortE b → (∀ x, x ∈ a ↔ x ∈ b) → a = b
 | [], [], _, _, _ => rfl
 | [], y :: b, _, _, h => by have := (h y).2 List.mem_cons_self; cases this
 | x :: a, [], _, _, h => by have := (h x).1 List.mem_cons_self; cases this
 | x :: a, y :: b, ha, hb, h => by
  obtain ⟨a1, a2⟩ := List.pairwise_cons.1 ha
  obtain ⟨b1, b2⟩ := List.pairwise_cons.1 hb
  have e : x = y := by
   rcases List.mem_cons.1 ((h x).1 List.mem_cons_self) with e | hx
   ·exact e
   ·rcases List.mem_cons.1 ((h y).2 List.mem_cons_self) with e | hy
    ·exact e.symm
    ·have h1 := b1 x hx
     have h2 := a1 y hy
     rw [ahead_asymm h1] at h2; cases h2
  subst e
  rw [sort_ext a2 b2 fun z => ?_]
  constructor
  ·intro hz
   rcases List.mem_cons.1 ((h z).1 (List.mem_cons_of_mem _ hz)) with e | k
   ·subst e; have := a1 z hz; rw [ahead_irr] at this; cases this
   ·exact k
  ·intro hz
   rcases List.mem_cons.1 ((h z).2 (List.mem_cons_of_mem _ hz)) with e | k
   ·subst e; have := b1 z hz; rw [ahead_irr] at this; cases this
   ·exact k
theorem set_ext {a : List En} {l : List En} (h : SortE a) (hm : ∀ x, x ∈ a ↔ x ∈ l) : a = setE l := sort_ext h (set_sort l) fun x => (hm x).trans mem_set.symm
theorem sort_nodup {l : List En} (h : SortE l) : l.Nodup := h.imp fun {a b} k e => by subst e; rw [ahead_irr] at k; cases k
theorem set_len (l : List En) : (setE l).length ≤ l.length := (sort_nodup (set_sort l)).length_le_of_subset fun x hx => mem_set.1 hx
-- THE TABLES
def wLocal : Wd := [108, 111, 99, 97, 108]
def wAny : Wd := [97, 110, 121]
def wordH (t : List Ln) (p : Pth) (o : Wd) : Wd := (underW t p).headD o
def inH (t : List Ln) (h v : Wd) : Bool := decide (v ∈ underW t [wHosts, h, wVnis])
def ipH (t : List Ln) (g : Wd) : Wd := wordH t [wHosts, g, wIp] []
def floodL (t : List Ln) (h g : Wd) : List En := ((underW t [wVnis]).filter fun v => decide (h ≠ g) && inH t h v && inH t g v).map fun v => ⟨h, 1, v, ipH t g⟩
def bindOne (t : List Ln) (h g i : Wd) : List En :=
 if wordH t [wBindings, i, wHost] [] = g ∧ inH t h (wordH t [wBindings, i, wVni] []) = true then
  ⟨h, 2, wordH t [wBindings, i, wVni] [] ++ 32 :: i, wordH t [wBindings, i, wMac] []⟩ :: (if g = h then [] else [⟨h, 3, wordH t [wBindings, i, wVni] [] ++ 32 :: wordH t [wBindings, i, wMac] [], ipH t g⟩])
 else []
def bindL (t : List Ln) (h g : Wd) : List En := (underW t [wBindings]).flatMap (bindOne t h g)
def routeOne (t : List Ln) (h g p : Wd) : List En := if wordH t [wRoutes, p, wVia] [] = g then [⟨h, 4, p, (if g = h then wLocal else ipH t g) ++ 32 :: wordH t [wRoutes, p, wMetric] [48]⟩] else []
def routeL (t : List Ln) (h g : Wd) : List En := (underW t [wRoutes]).flatMap (routeOne t h g)
def pairsL (t : List Ln) (h g : Wd) : List En := floodL t h g ++ bindL t h g ++ routeL t h g
def polOne (t : List Ln) (h n : Wd) : En := ⟨h, 5, n, wordH t [wPolicy, n, wAction] [] ++ 32 :: (wordH t [wPolicy, n, wFrom] wAny ++ 32 :: wordH t [wPolicy, n, wTo] wAny)⟩
def polL (t : List Ln) (h : Wd) : List En := (underW t [wPolicy]).map (polOne t h)
def hostL (t : List Ln) (h : Wd) : List En := ((underW t [wHosts]).flatMap fun g => pairsL t h g) ++ polL t h
def allL (t : List Ln) : List En := (underW t [wHosts]).flatMap (hostL t)
def tablesL (t : List Ln) : List En := setE (allL t)
theorem flat_most {α β : Type} (f : α → List β) (k : Nat) : ∀ l : List α, (∀ x ∈ l, (f x).length ≤ k) → (l.flatMap f).length ≤ k * l.length
 | [], _ => by simp
 | x :: l, h => by
  rw [List.flatMap_cons, List.length_append, List.length_cons, Nat.mul_succ]
  have h1 := h x List.mem_cons_self
  have h2 := flat_most f k l fun y hy => h y (List.mem_cons_of_mem _ hy)
  omega
theorem under_few {Z : Nat} {t : List Ln} (h : RightN Z t) (hl : t.length ≤ 200) (p : Pth) : (underW t p).length ≤ 200 := Nat.le_trans (T.underW_len h p) hl
theorem flood_few {Z : Nat} {t : List Ln} (h : RightN Z t) (hl : t.length ≤ 200) (a b : Wd) : (floodL t a b).length ≤ 200 := by
 unfold floodL; rw [List.length_map]; exact Nat.le_trans (List.length_filter_le _ _) (under_few h hl _)
theorem bindOne_few (t : List Ln) (a b i : Wd) : (bindOne t a b i).length ≤ 2 := by
 unfold bindOne
 split
 ·split <;> simp
 ·simp
theorem routeOne_few (t : List Ln) (a b i : Wd) : (routeOne t a b i).length ≤ 1 := by
 unfold routeOne
 split <;> simp
theorem pairs_few {Z : Nat} {t : List Ln} (h : RightN Z t) (hl : t.length ≤ 200) (a b : Wd) : (pairsL t a b).length ≤ 800 := by
 unfold pairsL bindL routeL
 rw [List.length_append, List.length_append]
 have h1 := flood_few h hl a b
 have h2 := flat_most (bindOne t a b) 2 (underW t [wBindings]) fun x _ => bindOne_few t a b x
 have h3 := flat_most (routeOne t a b) 1 (underW t [wRoutes]) fun x _ => routeOne_few t a b x
 have h4 := under_few h hl [wBindings]
 have h5 := under_few h hl [wRoutes]
 omega
theorem host_few {Z : Nat} {t : List Ln} (h : RightN Z t) (hl : t.length ≤ 200) (a : Wd) : (hostL t a).length ≤ 160200 := by
 unfold hostL polL
 rw [List.length_append, List.length_map]
 have h1 := flat_most (fun g => pairsL t a g) 800 (underW t [wHosts]) fun x _ => pairs_few h hl a x
 have h2 := under_few h hl [wHosts]
 have h3 := under_few h hl [wPolicy]
 omega
theorem all_few {Z : Nat} {t : List Ln} (h : RightN Z t) (hl : t.length ≤ 200) : (allL t).length ≤ 32040000 := by
 unfold allL
 have h1 := flat_most (hostL t) 160200 (underW t [wHosts]) fun x _ => host_few h hl x
 have h2 := under_few h hl [wHosts]
 omega
theorem word_long {Z : Nat} {t : List Ln} (h : RightN Z t) (p : Pth) {o : Wd} (ho : o.length ≤ 40) : (wordH t p o).length ≤ 40 := by
 unfold wordH
 cases hu : underW t p with
 | nil => exact ho
 | cons x r => exact T.underW_word h (p := p) (by rw [hu]; exact List.mem_cons_self)
end Go.Proofs.YtfcikfohmehmkaaGreatDoor.H
namespace Go.Proofs.YtfcikfohmehmkaaGreatDoor
open Go.RowKit
section
variable {α : Type} {E : Elem α}
theorem Own.lt {w : World} {base : Nat} {v : Value} {l : List α} (h : Own E w base v l) : ∀ k, v.ownBlock = some k → base ≤ k ∧ k < w.heap.size := World.ownsRow.lt h
structure Grew (E : Elem α) (w w' : World) (base : Nat) (v v' : Value) (l : List α) : Prop where
 own : Own E w' base v' l
 grown : w.grownBy w' v.ownBlock
 at_ : v'.ownBlock = v.ownBlock ∨ ∃ g, v'.ownBlock = some g ∧ w.heap.size ≤ g
theorem Grew.below {w w' : World} {base : Nat} {v v' : Value} {l l2 : List α} (h : Grew E w w' base v v' l) (hv : Own E w base v l2) (hb : base ≤ w.heap.size) : Below base w w' :=
 Below.grown (Below.refl _ _) h.grown hb (fun k hk => (hv.lt k hk).1)
theorem wpList_app3 (E : Elem α) {ops : Array Oper} {rest : List Oper} {o : Oper} {a : Act} {Q : Exit → Act → World → Prop} (w : World) (hgd : o.guard = none) (s x : Operand)
  (ho : o.op = .call { callee := .builtin .append, args := #[s, x], argTypes := #[E.st, E.st] })
  (base : Nat) (v : Value) (l : List α) (hs : a.eval s = v) (hown : Own E w base v l) (t : α) (cap : Nat) (cs : Array Value) (hcs : cs.toList = E.C t)
  (g : Nat) (hg : w.heap.size = g) (hx : a.eval x = .slice (some ⟨g, 0, none⟩) 1 cap) (hlen : l.length + 1 ≤ 1099511627776) (hb : base ≤ w.heap.size)
  (h : ∀ v' w', Grew E w w' base v v' (l ++ [t]) → wpList Tryz.prog ops Q rest (a.put o.dst v') w') : wpList Tryz.prog ops Q (o :: rest) a (w.alloc (.cells cs E.T)) := by
 subst hg
 obtain ⟨i0, hi0, hz0, hz1, hz2⟩ := info_parts E.hin
 have hby := E.hby
 have hmul : (l.length + 1) * E.by_ ≤ 1099511627776 * 64 := Nat.mul_le_mul hlen hby
 refine Go.wpList_append_own_at (w := w.alloc (.cells cs E.T)) hgd s x E.st ho base E.T i0 _ E.sz E.by_ E.hst hi0 hz0 hz1 hz2 E.hzs E.hsz v l.length (cellsG E l) hs (World.ownsRow.alloc hown _) ⟨w.heap.size, 0, none⟩ 1 cap (cellsG E [t]) hx
  (by rw [cellsG_len]; rfl) (fun j u hu => new_cellsG E.T w cs (E.C t) hcs j u (by rw [← cellsG_one]; exact hu)) (cellsG_onec E _) (by unfold maxLen; omega) (by omega) (by simp; omega) ?_
 intro v' w' h1 h2 _ h3
 refine h v' w' ⟨?_, ⟨h2.os, h2.tape, h2.output, Nat.le_trans (by simp) h2.size, fun k hk hne => ?_⟩, ?_⟩
 ·unfold Own; rw [cellsG_append, List.length_append]; exact h1
 ·rw [h2.block k (by simp; omega) hne]; exact heap_alloc_old w _ hk
 ·rcases h3 with h3 | h3
  ·exact .inl h3
  ·exact .inr ⟨_, h3, by simp⟩
end
end Go.Proofs.YtfcikfohmehmkaaGreatDoor
namespace Go.Proofs.YtfcikfohmehmkaaGreatDoor
open Go.RowKit
theorem ret_bool {a b : Bool} (h : a = b) : Ending.returned (.bool a) = .returned (.bool b) := by rw [h]
theorem shown_any (c : UInt8) (w : World) :
  Calls Tryz.prog 186 #[.int .u8 c.toNat] w fun e w' => e = .returned (.bool (W.shownB c)) ∧ w = w' := by
 go_enter Tryz.func186, Tryz.ntmps186
 go_wp2
 ·go_ret
  exact ⟨ret_bool (W.shown_yes ‹_›).symm, rfl⟩
 ·go_ret
  exact ⟨ret_bool (W.shown_no ‹_›).symm, rfl⟩
set_option maxRecDepth 100000 in
theorem sliteIndex_any (s : ByteArray) (c : UInt8) (w : World) :
  Calls Tryz.prog 175 #[.string s, .int .u8 c.toNat] w fun e w' => e = .returned (.int .i64 (Lib.indexByte s.data.toList c)) ∧ w = w' := by
 go_enter Tryz.func175, Tryz.ntmps175
 go_wp2
 rw [run_callFunc_extern Tryz.func184 (by kernel_rfl) (by kernel_rfl) (by kernel_rfl) (e := Extern.BytealgIndexByte.indexByte) (by kernel_rfl), Lib.run_indexByteString]
 simp only [Result.andThen]
 rw [Oper.upon_value]
 go_wp2
 go_ret
 exact ⟨by simp, rfl⟩
theorem index_any (s : ByteArray) (c : UInt8) (w : World) :
  Calls Tryz.prog 153 #[.string s, .int .u8 c.toNat] w fun e w' => e = .returned (.int .i64 (Lib.indexByte s.data.toList c)) ∧ w = w' := by
 go_enter Tryz.func153, Tryz.ntmps153
 go_wp2_with (go_at_call 175; refine (sliteIndex_any _ _ _).mono ?_; rintro e w' ⟨rfl, rfl⟩)
 go_ret
 exact ⟨rfl, rfl⟩
theorem plainByte_any (c : UInt8) (w : World) :
  Calls Tryz.prog 147 #[.int .u8 c.toNat] w fun e w' => e = .returned (.bool (W.plainB c)) ∧ w = w' := by
 go_enter Tryz.func147, Tryz.ntmps147
 go_wp2_with (go_at_call 153; refine (index_any _ _ _).mono ?_; rintro e w' ⟨rfl, rfl⟩)
 all_goals
  go_ret
  refine ⟨ret_bool (Eq.symm ?_), rfl⟩
  first
   | exact W.plainB_of (by omega)
   | exact W.plainB_idx c (by omega) (by omega) (by omega)
theorem litePrefix_any (s p : ByteArray) (w : World) :
  Calls Tryz.prog 115 #[.string s, .string p] w fun e w' => e = .returned (.bool (Lib.hasPrefix s.data.toList p.data.toList)) ∧ w = w' := by
 go_enter Tryz.func115, Tryz.ntmps115
 go_wp2
 ·go_ret
  exact ⟨ret_bool (W.prefix_yes s p ‹_›), rfl⟩
 ·go_ret
  exact ⟨ret_bool (W.prefix_no s p ‹_›), rfl⟩
theorem prefix_any (s p : ByteArray) (w : World) :
  Calls Tryz.prog 78 #[.string s, .string p] w fun e w' => e = .returned (.bool (Lib.hasPrefix s.data.toList p.data.toList)) ∧ w = w' := by
 go_enter Tryz.func78, Tryz.ntmps78
 go_wp2_with (go_at_call 115; refine (litePrefix_any _ _ _).mono ?_; rintro e w' ⟨rfl, rfl⟩)
 go_ret
 exact ⟨rfl, rfl⟩
theorem reserved_any (s : ByteArray) (w : World) :
  Calls Tryz.prog 171 #[.string s] w fun e w' => e = .returned (.bool (W.reservedL s.data.toList)) ∧ w = w' := by
 go_enter Tryz.func171, Tryz.ntmps171
 go_wp2_with (go_at_call 78; refine (prefix_any _ _ _).mono ?_; rintro e w' ⟨rfl, rfl⟩)
 ·go_ret
  exact ⟨ret_bool (W.reserved_a s ‹_›).symm, rfl⟩
 ·go_ret
  exact ⟨ret_bool (W.reserved_b s ‹_›).symm, rfl⟩
 ·go_ret
  refine ⟨ret_bool ?_, rfl⟩
  rw [W.reserved_c s ‹_› ‹_›]
  simp [*]
theorem allPlain_any (s : ByteArray) (w : World) (hs : s.size ≤ 1099511627776) :
  Calls Tryz.prog 170 #[.string s] w fun e w' => e = .returned (.bool (W.allPlainL s.data.toList)) ∧ w = w' := by
 go_enter Tryz.func170, Tryz.ntmps170
 go_wp2
 go_loop [3] (fun i => ∃ k : Nat, k ≤ s.size ∧ i = .int .i64 k ∧ Hid ((s.data.toList.take k).all W.plainB = true)) (fun i => s.size - (intOf i).toNat)
 case atStart => exact ⟨0, Nat.zero_le _, rfl, by simp [Hid]⟩
 case round =>
  obtain ⟨k, hk, rfl, H⟩ := hrel
  by_cases hlt : k < s.size
  ·cases hp : W.plainB s[k]
   ·go_wp2_with (go_at_call 147; refine (plainByte_any _ _).mono ?_; rintro e w' ⟨rfl, rfl⟩)
    go_ret
    exact ⟨ret_bool (W.allPlain_miss s k hlt hp).symm, rfl⟩
   ·go_wp2_with (go_at_call 147; refine (plainByte_any _ _).mono ?_; rintro e w' ⟨rfl, rfl⟩)
    go_round
    case rel => exact ⟨k + 1, by omega, by go_num, W.all_snoc s k hlt H.out hp⟩
    case measure => simp [intOf]; omega
  ·go_wp2
   go_ret
   exact ⟨ret_bool (by rw [W.allPlain_all s k (by omega) H.out]), rfl⟩
theorem ret_int_bool {a b : Int} {c d : Bool} (h : a = b) (h2 : c = d) : Ending.returned (.tuple #[.int .i64 a, .bool c]) = .returned (.tuple #[.int .i64 b, .bool d]) := by rw [h, h2]
theorem ret_byte_int {a b c d : Int} (h : a = b) (h2 : c = d) : Ending.returned (.tuple #[.int .u8 a, .int .i64 c]) = .returned (.tuple #[.int .u8 b, .int .i64 d]) := by rw [h, h2]
set_option maxHeartbeats 400000 in
theorem quotedEnd_any (s : ByteArray) (a : Nat) (w : World) (hs : s.size ≤ 1099511627776) (ha : a < s.size) :
  Calls Tryz.prog 146 #[.string s, .int .i64 a] w fun e w' => e = .returned (.tuple #[.int .i64 (W.optN (W.qFrom s.data.toList (a + 1))), .bool (W.qFrom s.data.toList (a + 1)).isSome]) ∧ w = w' := by
 go_enter Tryz.func146, Tryz.ntmps146
 go_wp2
 go_loop [6] (fun i => ∃ k : Nat, k ≤ s.size + 1 ∧ i = .int .i64 k ∧ Hid (W.qFrom s.data.toList (a + 1) = W.qFrom s.data.toList k)) (fun i => s.size + 1 - (intOf i).toNat)
 case atStart => exact ⟨a + 1, by omega, by go_num, rfl⟩
 case round =>
  obtain ⟨k, hk, rfl, H⟩ := hrel
  by_cases hlt : k < s.size
  ·go_wp2
   ·have h1 : ((s[k].toNat : Int) == 34) = true := by assumption
    go_ret2
    exact ⟨ret_int_bool (by rw [H.out, W.qFrom_hit s k hlt (by simp at h1; omega)]; simp [W.optN]) (by rw [H.out, W.qFrom_hit s k hlt (by simp at h1; omega)]; rfl), rfl⟩
   ·have h1 : ((s[k].toNat : Int) == 34) = false := by assumption
    have h2 : ((s[k].toNat : Int) == 92) = true := by assumption
    go_round
    case rel => exact ⟨k + 2, by omega, by go_num, by rw [H.out]; exact W.qFrom_back s k hlt (by simp at h2; omega)⟩
    case measure => simp [intOf]; omega
   ·have h1 : ((s[k].toNat : Int) == 34) = false := by assumption
    have h2 : ((s[k].toNat : Int) == 92) = false := by assumption
    go_round
    case rel => exact ⟨k + 1, by omega, by go_num, by rw [H.out]; exact W.qFrom_plain s k hlt (by simp at h1; omega) (by simp at h2; omega)⟩
    case measure => simp [intOf]; omega
  ·go_wp2
   go_ret2
   exact ⟨ret_int_bool (by rw [H.out, W.qFrom_over s k (by omega)]; rfl) (by rw [H.out, W.qFrom_over s k (by omega)]; rfl), rfl⟩
set_option maxHeartbeats 400000 in
theorem scan_any (s : ByteArray) (a : Int) (w : World) (hs : s.size ≤ 1099511627776) :
  Calls Tryz.prog 117 #[.string s, .int .i64 a] w fun e w' => e = .returned (.tuple #[.int .i64 (W.optN (W.scanL s.data.toList a)), .bool (W.scanL s.data.toList a).isSome]) ∧ w = w' := by
 by_cases h0 : a < 0
 ·go_enter Tryz.func117, Tryz.ntmps117
  go_wp2
  go_ret2
  exact ⟨ret_int_bool (by rw [W.scan_neg _ _ h0]; rfl) (by rw [W.scan_neg _ _ h0]; rfl), rfl⟩
 ·obtain ⟨k, rfl⟩ := Int.eq_ofNat_of_zero_le (show 0 ≤ a by omega)
  by_cases hlt : k < s.size
  ·by_cases hc : s[k].toNat = 34
   ·have hb : ((s[k].toNat : Int) == 34) = true := by simp; omega
    have HC := Lib.hid hc
    clear hc
    go_enter Tryz.func117, Tryz.ntmps117
    go_wp2_with (go_at_call 146; refine (quotedEnd_any _ _ _ hs hlt).mono ?_; rintro e w' ⟨rfl, rfl⟩)
    go_ret2
    exact ⟨ret_int_bool (by rw [W.scan_quote s k hlt HC.out]) (by rw [W.scan_quote s k hlt HC.out]), rfl⟩
   ·have hb : ((s[k].toNat : Int) == 34) = false := by simp; omega
    go_enter Tryz.func117, Tryz.ntmps117
    go_wp2
    go_loop [6] (fun i => ∃ j : Nat, k ≤ j ∧ j ≤ s.size ∧ i = .int .i64 j ∧ Hid (W.plainRun (s.data.toList.drop k) = j - k + W.plainRun (s.data.toList.drop j))) (fun i => s.size - (intOf i).toNat)
    case atStart => exact ⟨k, by omega, by omega, rfl, by simp [Hid]⟩
    case round =>
     obtain ⟨j, hj, hjs, rfl, H⟩ := hrel
     have hsc := Lib.hid (W.scan_plain s k hlt hc)
     by_cases hjl : j < s.size
     ·cases hp : W.plainB s[j]
      ·have hz := Lib.hid (W.plainRun_stop s j hjl hp)
       by_cases hjk : j = k
       ·obtain rfl := hjk
        go_wp2_with (go_at_call 147; refine (plainByte_any _ _).mono ?_; rintro e w' ⟨rfl, rfl⟩)
        go_ret2
        exact ⟨ret_int_bool (by rw [hsc.out, H.out, hz.out]; simp [W.optN]) (by rw [hsc.out, H.out, hz.out]; simp), rfl⟩
       ·have hjk2 : ((j : Int) == (k : Int)) = false := by simp; omega
        go_wp2_with (go_at_call 147; refine (plainByte_any _ _).mono ?_; rintro e w' ⟨rfl, rfl⟩)
        go_ret2
        have hne : ¬ (j - k + 0 = 0) := by omega
        exact ⟨ret_int_bool (by rw [hsc.out, H.out, hz.out, if_neg hne]; simp [W.optN]; omega) (by rw [hsc.out, H.out, hz.out, if_neg hne]; rfl), rfl⟩
      ·have hz := Lib.hid (W.plainRun_at s j hjl hp)
       go_wp2_with (go_at_call 147; refine (plainByte_any _ _).mono ?_; rintro e w' ⟨rfl, rfl⟩)
       go_round
       case rel => exact ⟨j + 1, by omega, by omega, by go_num, by rw [H.out, hz.out]; show _ = _; omega⟩
       case measure => simp [intOf]; omega
     ·have hz := Lib.hid (W.plainRun_over s j (by omega))
      have hjk2 : ((j : Int) == (k : Int)) = false := by simp; omega
      go_wp2
      go_ret2
      have hne : ¬ (j - k + 0 = 0) := by omega
      exact ⟨ret_int_bool (by rw [hsc.out, H.out, hz.out, if_neg hne]; simp [W.optN]; omega) (by rw [hsc.out, H.out, hz.out, if_neg hne]; rfl), rfl⟩
  ·go_enter Tryz.func117, Tryz.ntmps117
   go_wp2
   go_ret2
   exact ⟨ret_int_bool (by rw [W.scan_over s k (by omega)]; rfl) (by rw [W.scan_over s k (by omega)]; rfl), rfl⟩
theorem hexIdx_any (c : UInt8) (w : World) :
  Calls Tryz.prog 153 #[.string ⟨#[48, 49, 50, 51, 52, 53, 54, 55, 56, 57, 97, 98, 99, 100, 101, 102]⟩, .int .u8 c.toNat] w fun e w' => e = .returned (.int .i64 (W.hexV c)) ∧ w = w' := index_any _ c w
set_option maxHeartbeats 400000 in
theorem coded_any (s : ByteArray) (a : Int) (w : World) (hs : s.size ≤ 1099511627776) (ha : 0 ≤ a) (ha2 : a ≤ s.size + 2) :
  Calls Tryz.prog 187 #[.string s, .int .i64 a] w fun e w' => e = .returned (.tuple #[.int .u8 (W.oneC ((W.codedD (s.data.toList.drop a.toNat)).map (·, 4))).toNat, .int .i64 (W.oneN ((W.codedD (s.data.toList.drop a.toNat)).map (·, 4)))]) ∧ w = w' := by
 obtain ⟨k, rfl⟩ := Int.eq_ofNat_of_zero_le ha
 rw [Int.toNat_natCast]
 by_cases hlt : k + 1 < s.size
 ·have g1 : (k : Int) + 1 < s.size := by omega
  have g2 : k < s.size := by omega
  have hx := W.hexV_lt s[k]
  have hy := W.hexV_lt s[k + 1]
  have HD := Lib.hid (W.coded_at s k hlt)
  go_enter Tryz.func187, Tryz.ntmps187
  go_wp2_with (go_at_call 153; refine (hexIdx_any _ _).mono ?_; rintro e w' ⟨rfl, rfl⟩)
  ·go_ret2
   have hd : W.codedD (s.data.toList.drop k) = none := by rw [HD.out, if_pos (by omega)]
   exact ⟨by rw [hd]; rfl, rfl⟩
  ·go_ret2
   have hd : W.codedD (s.data.toList.drop k) = some (W.hexV s[k] * 16 + W.hexV s[k + 1]).toNat.toUInt8 := by rw [HD.out, if_neg (by omega)]
   rw [hd]
   refine ⟨ret_byte_int (Eq.symm ?_) rfl, rfl⟩
   simp only [Option.map, W.oneC]
   rw [W.code_val _ _ (by omega) (by omega)]
  ·go_ret2
   have hd : W.codedD (s.data.toList.drop k) = none := by rw [HD.out, if_pos (by omega)]
   exact ⟨by rw [hd]; rfl, rfl⟩
 ·have HD := Lib.hid (W.coded_short s k (by omega))
  go_enter Tryz.func187, Tryz.ntmps187
  go_wp2
  go_ret2
  exact ⟨by rw [HD.out]; rfl, rfl⟩
set_option maxHeartbeats 800000 in
theorem one_any (s : ByteArray) (k : Nat) (w : World) (hs : s.size ≤ 1099511627776) (hk : k < s.size) :
  Calls Tryz.prog 182 #[.string s, .int .i64 k] w fun e w' => e = .returned (.tuple #[.int .u8 (W.oneC (W.oneD (s.data.toList.drop k))).toNat, .int .i64 (W.oneN (W.oneD (s.data.toList.drop k)))]) ∧ w = w' := by
 by_cases h34 : s[k].toNat = 34
 ·have HD := Lib.hid (W.one_bad s k hk (.inl h34))
  have b34 : ((s[k].toNat : Int) == 34) = true := by simp; omega
  clear h34
  go_enter Tryz.func182, Tryz.ntmps182
  go_wp2
  go_ret2
  exact ⟨by rw [HD.out]; rfl, rfl⟩
 have b34 : ((s[k].toNat : Int) == 34) = false := by simp; omega
 cases hsh : W.shownB s[k] with
 | false =>
  have HD := Lib.hid (W.one_bad s k hk (.inr hsh))
  go_enter Tryz.func182, Tryz.ntmps182
  go_wp2_with (go_at_call 186; refine (shown_any _ _).mono ?_; rintro e w' ⟨rfl, rfl⟩)
  go_ret2
  exact ⟨by rw [HD.out]; rfl, rfl⟩
 | true =>
  by_cases h92 : s[k].toNat ≠ 92
  ·have HD := Lib.hid (W.one_self s k hk (by simp [h34, hsh]) h92)
   have b92 : ((s[k].toNat : Int) != 92) = true := by simp; omega
   go_enter Tryz.func182, Tryz.ntmps182
   go_wp2_with (go_at_call 186; refine (shown_any _ _).mono ?_; rintro e w' ⟨rfl, rfl⟩)
   go_ret2
   exact ⟨by rw [HD.out]; rfl, rfl⟩
  have b92 : ((s[k].toNat : Int) != 92) = false := by simp; omega
  have h92' : s[k].toNat = 92 := by omega
  by_cases hk2 : k + 1 < s.size
  ·have g1 : (k : Int) + 1 < s.size := by omega
   by_cases e34 : s[k + 1].toNat = 34 ∨ s[k + 1].toNat = 92
   ·have HD := Lib.hid (W.one_esc s k hk hk2 h92' e34)
    clear h92' h92
    by_cases e1 : s[k + 1].toNat = 34
    ·have c34 : ((s[k + 1].toNat : Int) == 34) = true := by simp; omega
     clear e34 e1
     go_enter Tryz.func182, Tryz.ntmps182
     go_wp2_with (go_at_call 186; refine (shown_any _ _).mono ?_; rintro e w' ⟨rfl, rfl⟩)
     go_ret2
     exact ⟨by rw [HD.out]; rfl, rfl⟩
    ·have c34 : ((s[k + 1].toNat : Int) == 34) = false := by simp; omega
     have c92 : ((s[k + 1].toNat : Int) == 92) = true := by simp; omega
     clear e34 e1
     go_enter Tryz.func182, Tryz.ntmps182
     go_wp2_with (go_at_call 186; refine (shown_any _ _).mono ?_; rintro e w' ⟨rfl, rfl⟩)
     go_ret2
     exact ⟨by rw [HD.out]; rfl, rfl⟩
   ·have c34 : ((s[k + 1].toNat : Int) == 34) = false := by simp; omega
    have c92 : ((s[k + 1].toNat : Int) == 92) = false := by simp; omega
    by_cases e120 : s[k + 1].toNat = 120
    ·have HD := Lib.hid (W.one_hex s k hk hk2 h92' e120)
     have c120 : ((s[k + 1].toNat : Int) == 120) = true := by simp; omega
     clear h92' h92 e120 e34
     go_enter Tryz.func182, Tryz.ntmps182
     go_wp2_with (first | (go_at_call 186; refine (shown_any _ _).mono ?_; rintro e w' ⟨rfl, rfl⟩) | (go_at_call 187; refine (coded_any _ _ _ hs (by omega) (by omega)).mono ?_; rintro e w' ⟨rfl, rfl⟩))
     go_ret2
     exact ⟨by rw [HD.out]; rfl, rfl⟩
    ·have HD := Lib.hid (W.one_not s k hk hk2 h92' (by omega) (by omega) e120)
     have c120 : ((s[k + 1].toNat : Int) == 120) = false := by simp; omega
     clear h92' h92 e120 e34
     go_enter Tryz.func182, Tryz.ntmps182
     go_wp2_with (go_at_call 186; refine (shown_any _ _).mono ?_; rintro e w' ⟨rfl, rfl⟩)
     go_ret2
     exact ⟨by rw [HD.out]; rfl, rfl⟩
  ·have HD := Lib.hid (W.one_end s k hk (by omega) h92')
   clear h92' h92
   go_enter Tryz.func182, Tryz.ntmps182
   go_wp2_with (go_at_call 186; refine (shown_any _ _).mono ?_; rintro e w' ⟨rfl, rfl⟩)
   go_ret2
   exact ⟨by rw [HD.out]; rfl, rfl⟩
def byteCells (l : List UInt8) : List Value := l.map fun b => .int .u8 (b.toNat : Int)
theorem byteCells_append (a b : List UInt8) : byteCells (a ++ b) = byteCells a ++ byteCells b := by simp [byteCells]
theorem byteCells_one (l : List UInt8) : ∀ u ∈ byteCells l, u.oneCell' = true := by
 intro u hu; simp [byteCells] at hu; obtain ⟨b, _, rfl⟩ := hu; rfl
def OwnB (w : World) (base : Nat) (v : Value) (l : List UInt8) : Prop := w.ownsRow base 5 1 v l.length (byteCells l)
theorem u8_info : (Tryz.prog.info? 5).map (fun i => (i.zero, i.size, i.bytes)) = some (some (.int .u8 0), 1, 1) := by kernel_rfl
theorem new_cells (w : World) (cs : Array Value) (news : List UInt8) (hcs : cs.toList = byteCells news) : ∀ j u, (byteCells news)[j]? = some u → (w.alloc (.cells cs 5)).cell? ((⟨w.heap.size, 0, none⟩ : Addr).add j) = some u := by
 intro j u hj
 have e : cs[j]? = some u := by rw [← hj, ← hcs]; simp
 rw [← e]
 have := World.cell?_alloc_mark w cs 5 (0, 0) j
 unfold Addr.add
 by_cases h : j = 0
 ·subst h; exact this
 ·rw [if_neg h, Nat.zero_add]; exact this
theorem wp_appB {o : Oper} {a : Act} {K : Act → World → Prop} {Q : Exit → Act → World → Prop} (w : World) (s x : Operand)
  (ho : o.op = .call { callee := .builtin .append, args := #[s, x], argTypes := #[134, 134] })
  (base : Nat) (v : Value) (l : List UInt8) (hs : a.eval s = v) (hown : OwnB w base v l) (ad : Addr) (news : List UInt8) (m cap : Nat) (hm : news.length = m)
  (hx : a.eval x = .slice (some ad) m cap) (hc : ∀ j u, (byteCells news)[j]? = some u → w.cell? (ad.add j) = some u) (hlen : l.length + m ≤ 4398046511104) (hb : base ≤ w.heap.size)
  (h : ∀ v' w', OwnB w' base v' (l ++ news) → Below base w w' → K (a.put o.dst v') w') : o.wp Tryz.prog a w K Q := by
 obtain ⟨i0, hi0, hz0, hz1, hz2⟩ := info_parts u8_info
 refine wp_append_own w s x 134 ho base 5 i0 _ 1 1 Tryz.underlying134 hi0 hz0 hz1 hz2 rfl (by decide) v l.length (byteCells l) hs hown ad m cap (byteCells news) hx
  (by simp [byteCells, hm]) hc (byteCells_one _) (by unfold maxLen; omega) (by omega) hb ?_
 intro v' w' h1 h2 _
 refine h v' w' ?_ ?_
 ·unfold OwnB; rw [byteCells_append, List.length_append, hm]; exact h1
 ·exact Below.grown (Below.refl _ _) h2 hb (fun k hk => (World.ownsRow.lt hown k hk).1)
theorem wpList_appB {ops : Array Oper} {rest : List Oper} {o : Oper} {a : Act} {Q : Exit → Act → World → Prop} (w : World) (hgd : o.guard = none) (s x : Operand)
  (ho : o.op = .call { callee := .builtin .append, args := #[s, x], argTypes := #[134, 134] })
  (base : Nat) (v : Value) (l : List UInt8) (hs : a.eval s = v) (hown : OwnB w base v l) (news : List UInt8) (m cap : Nat) (cs : Array Value) (hcs : cs.toList = byteCells news) (hm : news.length = m)
  (hx : a.eval x = .slice (some ⟨w.heap.size, 0, none⟩) m cap) (hlen : l.length + m ≤ 4398046511104) (hb : base ≤ w.heap.size)
  (h : ∀ v' w', OwnB w' base v' (l ++ news) → Below base w w' → wpList Tryz.prog ops Q rest (a.put o.dst v') w') : wpList Tryz.prog ops Q (o :: rest) a (w.alloc (.cells cs 5)) :=
 wpList_plain hgd fun _ hK => wp_appB _ s x ho base v l hs (World.ownsRow.alloc hown _) ⟨w.heap.size, 0, none⟩ news m cap hm hx (new_cells w cs news hcs) hlen (by simp; omega) fun v' w' h1 h2 => hK _ _ (h v' w' h1 (((Below.refl _ _).alloc hb _).trans h2))
theorem conv_own {w : World} {base : Nat} {v : Value} {l : List UInt8} (h : OwnB w base v l) : (convert 134 9 v).run Tryz.prog w = .ok (.string ⟨l.toArray⟩) w := by
 rcases h.2 with ⟨rfl, hn⟩ | ⟨g, cap, cur, rfl, _, hh, hnc, _, hsz, htk⟩
 ·have : l = [] := List.eq_nil_of_length_eq_zero hn
  subst this
  exact run_convert_bytes_nil w 134 5 Tryz.underlying134 Tryz.underlying5 0 0 9 Tryz.underlying9
 ·refine run_convert_bytes_back w _ _ _ ⟨g, 0, none⟩ cap l Tryz.underlying134 Tryz.underlying5 Tryz.underlying9 ?_
  intro j hj
  have hc := World.ownsRow.cellAt h j (by omega)
  have e : (⟨g, 0, none⟩ : Addr).add j = ⟨g, j, none⟩ := by
   unfold Addr.add; by_cases h0 : j = 0
   ·subst h0; rfl
   ·rw [if_neg h0, Nat.zero_add]
  rw [e, hc]
  simp [byteCells, List.getElem?_eq_getElem hj]
theorem own_lit (w : World) (base : Nat) (hb : base ≤ w.heap.size) (l : List UInt8) (cs : Array Value) (hcs : cs.toList = byteCells l) (n : Nat) (hn : l.length = n) (hm : n ≤ 1099511627776) :
  OwnB (w.alloc (.cells cs 5)) base (.slice (some ⟨w.heap.size, 0, none⟩) n n) l := by
 subst hn
 have h1 : cs.size = l.length * 1 := by rw [← Array.length_toList, hcs]; simp [byteCells]
 have := World.ownsRow_lit (base := base) (e := 5) (size := 1) w cs l.length hb (by unfold maxLen; omega) h1
 unfold OwnB
 rw [hcs] at this
 exact this
def WroteS (B : Nat) (w : World) (l : List UInt8) (k : Int) (e : Ending) (w' : World) : Prop := e = .returned (.tuple #[.string ⟨l.toArray⟩, .int .i64 k]) ∧ Below B w w'
def InnerS (w : World) (o : Option (List UInt8)) (e : Ending) (w' : World) : Prop :=
 e = .returned (.tuple #[.string ⟨(o.getD []).toArray⟩, .bool o.isSome]) ∧ Below w.heap.size w w'
set_option maxHeartbeats 800000 in
theorem inner_any (s : ByteArray) (w : World) (hs : s.size ≤ 1099511627776) :
  Calls Tryz.prog 172 #[.string s] w (InnerS w (W.decL s.data.toList)) := by
 go_enter Tryz.func172, Tryz.ntmps172
 go_wp2
 go_loopw [4, 5] (fun b i wr => ∃ (k : Nat) (acc : List UInt8), k ≤ s.size ∧ acc.length ≤ k ∧ i = .int .i64 k ∧ OwnB wr w.heap.size b acc ∧ Below w.heap.size w wr ∧ Hid (W.decL s.data.toList = (W.decL (s.data.toList.drop k)).map (acc ++ ·))) (fun _ i _ => s.size - (intOf i).toNat)
 case atStart => exact ⟨0, [], Nat.zero_le _, Nat.zero_le _, rfl, own_lit w _ (Nat.le_refl _) [] _ rfl 0 rfl (by omega), (Below.refl _ _).alloc (Nat.le_refl _) _, by simp [Hid]⟩
 case round =>
  obtain ⟨k, acc, hk, hac, rfl, hown, hb, H⟩ := hrel
  have hsz := hb.size
  by_cases hlt : k < s.size
  ·have hlen : (s.data.toList.drop k).length = s.size - k := by rw [List.length_drop, ← Lib.size_eq]
   have HL := Lib.hid hlen
   clear hlen
   cases ho : W.oneD (s.data.toList.drop k) with
   | none =>
    have HD : Hid (W.decL s.data.toList = none) := by
     rw [H.out, W.decL_none (by rw [W.drop_at s k hlt]; simp) ho]; rfl
    have HO := Lib.hid ho
    clear ho
    go_wp2_with (go_at_call 182; refine (one_any _ k _ hs hlt).mono ?_; rintro e w' ⟨rfl, rfl⟩; rw [HO.out]; simp only [W.oneC, W.oneN])
    go_ret2
    exact ⟨by rw [HD.out]; rfl, hb⟩
   | some p =>
    obtain ⟨c, n⟩ := p
    have hn := W.oneD_pos ho
    rw [HL.out] at hn
    have hn1 := hn.1
    have hn2 := hn.2.1
    have hn3 := hn.2.2
    clear hn
    have hn0 : ((n : Int) == 0) = false := by simp; omega
    have HD : Hid (W.decL s.data.toList = (W.decL (s.data.toList.drop (k + n))).map ((acc ++ [c]) ++ ·)) := by
     rw [H.out, W.decL_some ho, W.map_acc, List.drop_drop]; exact rfl
    have HO := Lib.hid ho
    clear ho
    go_wp2_with (first | (go_at_call 182; refine (one_any _ k _ hs hlt).mono ?_; rintro e w' ⟨rfl, rfl⟩; rw [HO.out]; simp only [W.oneC, W.oneN]) | (at_builtin; refine wpList_appB _ rfl (.tmp 21) (.tmp 23) rfl w.heap.size _ acc rfl hown [c] 1 1 _ rfl rfl rfl (by omega) hsz ?_; intro v1 w1 hown1 hb1))
    go_roundw
    case rel => exact ⟨k + n, acc ++ [c], by omega, by simp only [List.length_append, List.length_singleton]; omega, by go_num, hown1, hb.trans hb1, HD⟩
    case measure => simp [intOf]; omega
  ·have HD : Hid (W.decL s.data.toList = some acc) := by
    rw [H.out, W.drop_over s k (by omega), W.decL_nil]; simp [Hid]
   have hcv := conv_own hown
   go_wp2
   go_ret2
   exact ⟨by rw [HD.out]; rfl, hb⟩
def MeantS (w : World) (o : Option (List UInt8)) (e : Ending) (w' : World) : Prop :=
 ∃ x : List UInt8, e = .returned (.tuple #[.string ⟨x.toArray⟩, .bool o.isSome]) ∧ (∀ y, o = some y → x = y) ∧ Below w.heap.size w w'
set_option maxHeartbeats 800000 in
theorem meant_any (s : ByteArray) (w : World) (hs : s.size ≤ 1099511627776) :
  Calls Tryz.prog 148 #[.string s] w (MeantS w (W.meantL s.data.toList)) := by
 cases hp : W.allPlainL s.data.toList with
 | true =>
  have HM := Lib.hid (W.meant_plain s hp)
  go_enter Tryz.func148, Tryz.ntmps148
  go_wp2_with (first | (go_at_call 170; refine (allPlain_any _ _ hs).mono ?_; rintro e w' ⟨rfl, rfl⟩) | (go_at_call 171; refine (reserved_any _ _).mono ?_; rintro e w' ⟨rfl, rfl⟩))
  go_ret2
  refine ⟨s.data.toList, ?_, ?_, Below.refl _ _⟩
  ·rw [HM.out, Lib.mk_data]; cases W.reservedL s.data.toList <;> rfl
  ·intro y hy; rw [HM.out] at hy; split at hy
   ·cases hy
   ·injection hy
 | false =>
  by_cases h2 : s.size < 2
  ·have HM := Lib.hid (W.meant_short s hp h2)
   go_enter Tryz.func148, Tryz.ntmps148
   go_wp2_with (go_at_call 170; refine (allPlain_any _ _ hs).mono ?_; rintro e w' ⟨rfl, rfl⟩)
   go_ret2
   exact ⟨[], by rw [HM.out]; rfl, (fun y hy => by rw [HM.out] at hy; cases hy), Below.refl _ _⟩
  ·have g0 : 0 < s.size := by omega
   have g1 : s.size - 1 < s.size := by omega
   have g2 : 2 ≤ s.size := by omega
   by_cases h3 : s[0].toNat = 34
   ·by_cases h4 : s[s.size - 1].toNat = 34
    ·have HM := Lib.hid (W.meant_quoted s hp (by omega) h3 h4)
     have b3 : ((s[0].toNat : Int) != 34) = false := by simp; omega
     have b4 : ((s[s.size - 1].toNat : Int) != 34) = false := by simp; omega
     have hes : (s.extract 1 (s.size - 1)).size ≤ 1099511627776 := by rw [Lib.size_eq, Lib.extract_data, List.length_take, List.length_drop, ← Lib.size_eq]; omega
     clear h3 h4
     obtain ⟨o, ho⟩ : ∃ o, W.decL (s.extract 1 (s.size - 1)).data.toList = o := ⟨_, rfl⟩
     have HO := Lib.hid ho
     clear ho
     go_enter Tryz.func148, Tryz.ntmps148
     go_wp2_with (first | (go_at_call 170; refine (allPlain_any _ _ hs).mono ?_; rintro e w' ⟨rfl, rfl⟩) | (go_at_call 172; refine (inner_any _ _ hes).mono ?_; rintro e w1 ⟨rfl, hb1⟩; rw [HO.out]))
     go_ret2
     refine ⟨_, by rw [HM.out, HO.out]; rfl, fun y hy => ?_, hb1⟩
     rw [HM.out, HO.out] at hy
     rw [hy]; rfl
    ·have HM := Lib.hid (W.meant_last s hp g0 h4)
     have b3 : ((s[0].toNat : Int) != 34) = false := by simp; omega
     have b4 : ((s[s.size - 1].toNat : Int) != 34) = true := by simp; omega
     clear h3 h4
     go_enter Tryz.func148, Tryz.ntmps148
     go_wp2_with (go_at_call 170; refine (allPlain_any _ _ hs).mono ?_; rintro e w' ⟨rfl, rfl⟩)
     go_ret2
     exact ⟨[], by rw [HM.out]; rfl, (fun y hy => by rw [HM.out] at hy; cases hy), Below.refl _ _⟩
   ·have HM := Lib.hid (W.meant_head s hp g0 h3)
    have b3 : ((s[0].toNat : Int) != 34) = true := by simp; omega
    clear h3
    go_enter Tryz.func148, Tryz.ntmps148
    go_wp2_with (go_at_call 170; refine (allPlain_any _ _ hs).mono ?_; rintro e w' ⟨rfl, rfl⟩)
    go_ret2
    exact ⟨[], by rw [HM.out]; rfl, (fun y hy => by rw [HM.out] at hy; cases hy), Below.refl _ _⟩
set_option maxHeartbeats 800000 in
theorem unquote_any (s : ByteArray) (w : World) (hs : s.size ≤ 1099511627776) :
  Calls Tryz.prog 119 #[.string s] w (WroteS w.heap.size w (W.unqL s.data.toList).1 (W.unqL s.data.toList).2) := by
 cases hm : W.meantL s.data.toList with
 | none =>
  have HU := Lib.hid (W.unq_none hm)
  have HM := Lib.hid hm
  clear hm
  go_enter Tryz.func119, Tryz.ntmps119
  go_wp2_with (go_at_call 148; refine (meant_any _ _ hs).mono ?_; rintro e w1 ⟨x, rfl, hx, hb1⟩; clear hx; rw [HM.out]; simp only [Option.isSome])
  go_ret2
  exact ⟨by rw [HU.out]; rfl, hb1⟩
 | some y =>
  by_cases h40 : 40 < y.length
  ·have HU := Lib.hid (W.unq_long hm h40)
   have HM := Lib.hid hm
   clear hm
   have hsz : 40 < (⟨y.toArray⟩ : ByteArray).size := by show 40 < y.toArray.size; rw [List.size_toArray]; exact h40
   go_enter Tryz.func119, Tryz.ntmps119
   go_wp2_with (go_at_call 148; refine (meant_any _ _ hs).mono ?_; rintro e w1 ⟨x, rfl, hx, hb1⟩; obtain rfl := hx y HM.out; clear hx; rw [HM.out]; simp only [Option.isSome])
   go_ret2
   exact ⟨by rw [HU.out]; rfl, hb1⟩
  ·have HU := Lib.hid (W.unq_ok hm h40)
   have HM := Lib.hid hm
   clear hm
   have hsz : (⟨y.toArray⟩ : ByteArray).size ≤ 40 := by show y.toArray.size ≤ 40; rw [List.size_toArray]; omega
   go_enter Tryz.func119, Tryz.ntmps119
   go_wp2_with (go_at_call 148; refine (meant_any _ _ hs).mono ?_; rintro e w1 ⟨x, rfl, hx, hb1⟩; obtain rfl := hx y HM.out; clear hx; rw [HM.out]; simp only [Option.isSome])
   go_ret2
   exact ⟨by rw [HU.out]; rfl, hb1⟩
theorem unq_is (s : ByteArray) (x : List UInt8) (k : Int) (w : World) (hs : s.size ≤ 1099511627776) (hq : W.unqL s.data.toList = (x, k)) : Calls Tryz.prog 119 #[.string s] w (WroteS w.heap.size w x k) := by
 have h := unquote_any s w hs
 rw [hq] at h
 exact h
theorem scan2_is (s : ByteArray) (a : Int) (o : Option Nat) (w : World) (hs : s.size ≤ 1099511627776) (h : W.scanL s.data.toList a = o) : Calls Tryz.prog 117 #[.string s, .int .i64 a] w fun e w' => e = .returned (.tuple #[.int .i64 (W.optN o), .bool o.isSome]) ∧ w = w' := by
 rw [← h]; exact scan_any s a w hs
end Go.Proofs.YtfcikfohmehmkaaGreatDoor
