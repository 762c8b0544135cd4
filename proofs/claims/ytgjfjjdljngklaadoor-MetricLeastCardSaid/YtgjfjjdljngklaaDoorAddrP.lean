/-
  Plain laws for layer 10: numbers, addresses, prefixes and hardware addresses, and their texts. No conditions.
-/
import Derived.Test.YtgjfjjdljngklaaDoorPureQ
namespace Go.Proofs.YtgjfjjdljngklaaDoor
namespace N
open T (decL decL_small decL_big decL_len)

/-- A digit of base 10? -/
def digB (c : UInt8) : Bool := decide (48 ≤ c.toNat) && decide (c.toNat ≤ 57)
def valL (s : List UInt8) : Nat := s.foldl (fun n c => 10 * n + (c.toNat - 48)) 0
/-- The number of which a text is the text; -1: there is none. -/
def numL (s : List UInt8) : Int := if s = [] ∨ 10 < s.length ∨ (s.head? = some 48 ∧ 1 < s.length) ∨ s.all digB = false then -1 else (valL s : Nat)
theorem val_snoc (s : List UInt8) (c : UInt8) : valL (s ++ [c]) = 10 * valL s + (c.toNat - 48) := by unfold valL; rw [List.foldl_append]; rfl
theorem dec_ne (n : Nat) : decL n ≠ [] := by
  by_cases h : n < 10
  · rw [decL_small h]; simp
  · rw [decL_big (by omega)]; simp
theorem dig_of (d : Nat) (h : d < 10) : (UInt8.ofNat (48 + d)).toNat = 48 + d := by rw [UInt8.toNat_ofNat']; omega
theorem digB_of (d : Nat) (h : d < 10) : digB (UInt8.ofNat (48 + d)) = true := by
  unfold digB
  rw [dig_of d h, decide_eq_true (by omega), decide_eq_true (by omega)]; rfl
theorem val_dec (n : Nat) : valL (decL n) = n := by
  induction n using Nat.strongRecOn with
  | _ n ih =>
    by_cases h : n < 10
    · rw [decL_small h]
      show 10 * 0 + ((UInt8.ofNat (48 + n)).toNat - 48) = n
      rw [dig_of n h]; omega
    · rw [decL_big (by omega), val_snoc, ih (n / 10) (by omega), dig_of _ (by omega)]; omega
theorem dec_dig (n : Nat) : ∀ c ∈ decL n, digB c = true := by
  induction n using Nat.strongRecOn with
  | _ n ih =>
    by_cases h : n < 10
    · rw [decL_small h]
      intro c hc
      rw [List.mem_singleton.1 hc]; exact digB_of n h
    · rw [decL_big (by omega)]
      intro c hc
      rcases List.mem_append.1 hc with hc | hc
      · exact ih (n / 10) (by omega) c hc
      · rw [List.mem_singleton.1 hc]; exact digB_of _ (by omega)
theorem head_app {α : Type} {a b : List α} (h : a ≠ []) : (a ++ b).head? = a.head? := by
  cases a with
  | nil => exact absurd rfl h
  | cons x r => rfl
theorem dec_head (n : Nat) (h0 : 1 ≤ n) : (decL n).head? ≠ some 48 := by
  induction n using Nat.strongRecOn with
  | _ n ih =>
    by_cases h : n < 10
    · rw [decL_small h]
      intro e
      have e2 : (UInt8.ofNat (48 + n)).toNat = 48 := by injection e with e; rw [e]; rfl
      rw [dig_of n h] at e2; omega
    · rw [decL_big (by omega), head_app (dec_ne _)]
      exact ih (n / 10) (by omega) (by omega)
theorem dec_one (n : Nat) (h : (decL n).head? = some 48) : (decL n).length = 1 := by
  by_cases h0 : 1 ≤ n
  · exact absurd h (dec_head n h0)
  · obtain rfl : n = 0 := by omega
    rw [decL_small (by omega)]; rfl
theorem num_dec (n : Nat) (h : n < 10000000000) : numL (decL n) = n := by
  unfold numL
  rw [if_neg, val_dec]
  rintro (e | e | ⟨e1, e2⟩ | e)
  · exact dec_ne n e
  · have := decL_len 9 n (by omega); omega
  · have := dec_one n e1; omega
  · rw [List.all_eq_false] at e
    obtain ⟨c, hc, e⟩ := e
    exact e (dec_dig n c hc)
theorem snoc_cases (s : List UInt8) (h : s ≠ []) : ∃ r c, s = r ++ [c] := ⟨s.dropLast, s.getLast h, (List.dropLast_concat_getLast h).symm⟩
theorem val_pos (s : List UInt8) (hd : s.all digB = true) (h : s ≠ []) (h0 : s.head? ≠ some 48) : 1 ≤ valL s := by
  obtain ⟨n, hn⟩ : ∃ n, s.length = n := ⟨_, rfl⟩
  induction n generalizing s with
  | zero => exact absurd (List.eq_nil_of_length_eq_zero hn) h
  | succ n ih =>
    obtain ⟨r, c, rfl⟩ := snoc_cases s h
    rw [val_snoc]
    by_cases hr : r = []
    · subst hr
      have hc : digB c = true := List.all_eq_true.1 hd c (by simp)
      unfold digB at hc
      rw [Bool.and_eq_true, decide_eq_true_eq, decide_eq_true_eq] at hc
      have : c.toNat ≠ 48 := fun e => h0 (by show some c = some 48; rw [show c = 48 from UInt8.toNat_inj.1 e])
      omega
    · rw [List.length_append, List.length_singleton] at hn
      have := ih r (List.all_eq_true.2 fun x hx => List.all_eq_true.1 hd x (List.mem_append_left _ hx)) hr (by rw [head_app hr] at h0; exact h0) (by omega)
      omega
theorem dec_val (s : List UInt8) (hd : s.all digB = true) (h : s ≠ []) (h0 : s.length = 1 ∨ s.head? ≠ some 48) : decL (valL s) = s := by
  obtain ⟨n, hn⟩ : ∃ n, s.length = n := ⟨_, rfl⟩
  induction n generalizing s with
  | zero => exact absurd (List.eq_nil_of_length_eq_zero hn) h
  | succ n ih =>
    obtain ⟨r, c, rfl⟩ := snoc_cases s h
    have hc : digB c = true := List.all_eq_true.1 hd c (by simp)
    have hc2 := hc
    unfold digB at hc2
    rw [Bool.and_eq_true, decide_eq_true_eq, decide_eq_true_eq] at hc2
    have hcc : UInt8.ofNat (48 + (c.toNat - 48)) = c := by rw [show 48 + (c.toNat - 48) = c.toNat by omega, UInt8.ofNat_toNat]
    rw [val_snoc]
    by_cases hr : r = []
    · subst hr
      show decL (10 * 0 + (c.toNat - 48)) = [c]
      rw [decL_small (by omega), show 10 * 0 + (c.toNat - 48) = c.toNat - 48 by omega, hcc]
    · rw [List.length_append, List.length_singleton] at hn h0
      have hrl : 1 ≤ r.length := List.length_pos_iff.2 hr
      have hdr : r.all digB = true := List.all_eq_true.2 fun x hx => List.all_eq_true.1 hd x (List.mem_append_left _ hx)
      have hh : r.head? ≠ some 48 := by
        rcases h0 with h0 | h0
        · omega
        · rwa [head_app hr] at h0
      have h1 := val_pos r hdr hr hh
      rw [decL_big (by omega), show (10 * valL r + (c.toNat - 48)) / 10 = valL r by omega, show (10 * valL r + (c.toNat - 48)) % 10 = c.toNat - 48 by omega, hcc, ih r hdr hr (.inr hh) (by omega)]
theorem val_lt (s : List UInt8) (hd : s.all digB = true) : ∀ k, s.length ≤ k → valL s < 10 ^ k := by
  intro k
  induction k generalizing s with
  | zero =>
    intro h
    have e : s = [] := List.eq_nil_of_length_eq_zero (by omega)
    subst e
    show 0 < 1
    omega
  | succ k ih =>
    intro h
    by_cases hs : s = []
    · subst hs; exact Nat.pow_pos (by omega)
    · obtain ⟨r, c, rfl⟩ := snoc_cases s hs
      have hc : digB c = true := List.all_eq_true.1 hd c (by simp)
      unfold digB at hc
      rw [Bool.and_eq_true, decide_eq_true_eq, decide_eq_true_eq] at hc
      rw [List.length_append, List.length_singleton] at h
      have := ih r (List.all_eq_true.2 fun x hx => List.all_eq_true.1 hd x (List.mem_append_left _ hx)) (by omega)
      rw [val_snoc, Nat.pow_succ]
      omega
theorem num_cases (s : List UInt8) : numL s = -1 ∨ (∃ n : Nat, numL s = n ∧ n < 10000000000 ∧ decL n = s) := by
  by_cases h : s = [] ∨ 10 < s.length ∨ (s.head? = some 48 ∧ 1 < s.length) ∨ s.all digB = false
  · left; unfold numL; rw [if_pos h]
  · right
    refine ⟨valL s, by unfold numL; rw [if_neg h], ?_, ?_⟩
    · have hd : s.all digB = true := by
        cases e : s.all digB with
        | true => rfl
        | false => exact absurd (.inr (.inr (.inr e))) h
      have := val_lt s hd 10 (by
        rcases Nat.lt_or_ge 10 s.length with h1 | h1
        · exact absurd (.inr (.inl h1)) h
        · exact h1)
      omega
    · have hne : s ≠ [] := fun e => h (.inl e)
      have hl := List.length_pos_iff.2 hne
      refine dec_val s ?_ hne ?_
      · cases e : s.all digB with
        | true => rfl
        | false => exact absurd (.inr (.inr (.inr e))) h
      · by_cases h1 : s.length = 1
        · exact .inl h1
        · exact .inr fun e => h (.inr (.inr (.inl ⟨e, by omega⟩)))
theorem num_ge (s : List UInt8) : -1 ≤ numL s ∧ numL s < 10000000000 := by
  rcases num_cases s with h | ⟨n, h, h2, _⟩ <;> omega
-- PARTS
/-- The parts of a text, at each of a byte. -/
def splitL (c : UInt8) : List UInt8 → List (List UInt8)
  | [] => [[]]
  | x :: r => if x = c then [] :: splitL c r else match splitL c r with
    | [] => [[x]]
    | y :: ys => (x :: y) :: ys
theorem split_cons (c x : UInt8) (r : List UInt8) : splitL c (x :: r) = if x = c then [] :: splitL c r else match splitL c r with | [] => [[x]] | y :: ys => (x :: y) :: ys := rfl
theorem split_ne (c : UInt8) (s : List UInt8) : splitL c s ≠ [] := by
  cases s with
  | nil => simp [splitL]
  | cons x r =>
    rw [split_cons]
    by_cases h : x = c
    · rw [if_pos h]; simp
    · rw [if_neg h]
      cases e : splitL c r <;> simp
theorem split_at {c : UInt8} {a : List UInt8} (h : c ∉ a) (b : List UInt8) : splitL c (a ++ c :: b) = a :: splitL c b := by
  induction a with
  | nil => show splitL c (c :: b) = _; rw [split_cons, if_pos rfl]
  | cons x r ih =>
    have hx : x ≠ c := fun e => h (by rw [e]; exact List.mem_cons_self ..)
    have := ih fun hm => h (List.mem_cons_of_mem _ hm)
    show splitL c (x :: (r ++ c :: b)) = _
    rw [split_cons, if_neg hx, this]
theorem split_one {c : UInt8} {a : List UInt8} (h : c ∉ a) : splitL c a = [a] := by
  induction a with
  | nil => rfl
  | cons x r ih =>
    have hx : x ≠ c := fun e => h (by rw [e]; exact List.mem_cons_self ..)
    rw [split_cons, if_neg hx, ih fun hm => h (List.mem_cons_of_mem _ hm)]
/-- Parts, joined with a byte between two. -/
def joinL (c : UInt8) : List (List UInt8) → List UInt8
  | [] => []
  | [a] => a
  | a :: b :: r => a ++ c :: joinL c (b :: r)
theorem join_split (c : UInt8) (s : List UInt8) : joinL c (splitL c s) = s := by
  induction s with
  | nil => rfl
  | cons x r ih =>
    rw [split_cons]
    by_cases h : x = c
    · rw [if_pos h]
      cases e : splitL c r with
      | nil => exact absurd e (split_ne c r)
      | cons y ys =>
        rw [e] at ih
        show [] ++ c :: joinL c (y :: ys) = _
        rw [ih, h]; rfl
    · rw [if_neg h]
      cases e : splitL c r with
      | nil => exact absurd e (split_ne c r)
      | cons y ys =>
        rw [e] at ih
        cases ys with
        | nil => show x :: y = _; rw [← ih]; rfl
        | cons z zs => show x :: y ++ c :: joinL c (z :: zs) = _; rw [← ih]; rfl
theorem dec_no (n : Nat) {c : UInt8} (h : digB c = false) : c ∉ decL n := fun hm => by rw [dec_dig n c hm] at h; cases h
-- ADDRESSES
def octL (s : List UInt8) : Int := if numL s < 0 ∨ 255 < numL s then -1 else numL s
/-- The address of a text; -1: there is none. -/
def ipL (s : List UInt8) : Int := match splitL 46 s with
  | [a, b, c, d] => if octL a < 0 ∨ octL b < 0 ∨ octL c < 0 ∨ octL d < 0 then -1 else 16777216 * octL a + 65536 * octL b + 256 * octL c + octL d
  | _ => -1
/-- The text of an address. -/
def ipT (n : Nat) : List UInt8 := decL (n / 16777216) ++ 46 :: (decL (n / 65536 % 256) ++ 46 :: (decL (n / 256 % 256) ++ 46 :: decL (n % 256)))
theorem oct_dec (n : Nat) (h : n < 256) : octL (decL n) = n := by
  unfold octL
  rw [num_dec n (by omega), if_neg (by omega)]
theorem oct_cases (s : List UInt8) : octL s = -1 ∨ (∃ n : Nat, octL s = n ∧ n < 256 ∧ decL n = s) := by
  unfold octL
  rcases num_cases s with h | ⟨n, h, h2, h3⟩
  · left; rw [h]; rfl
  · by_cases h4 : n < 256
    · exact .inr ⟨n, by rw [h, if_neg (by omega)], h4, h3⟩
    · left; rw [h, if_pos (by omega)]
theorem split_ip (n : Nat) : splitL 46 (ipT n) = [decL (n / 16777216), decL (n / 65536 % 256), decL (n / 256 % 256), decL (n % 256)] := by
  unfold ipT
  rw [split_at (dec_no _ (by decide)), split_at (dec_no _ (by decide)), split_at (dec_no _ (by decide)), split_one (dec_no _ (by decide))]
theorem ip_text (n : Nat) (h : n < 4294967296) : ipL (ipT n) = n := by
  unfold ipL
  rw [split_ip]
  show (if octL (decL (n / 16777216)) < 0 ∨ octL (decL (n / 65536 % 256)) < 0 ∨ octL (decL (n / 256 % 256)) < 0 ∨ octL (decL (n % 256)) < 0 then (-1 : Int) else _) = _
  rw [oct_dec _ (by omega), oct_dec _ (by omega), oct_dec _ (by omega), oct_dec _ (by omega), if_neg (by omega)]
  omega
theorem ip_cases (s : List UInt8) : ipL s = -1 ∨ (∃ n : Nat, ipL s = n ∧ n < 4294967296 ∧ ipT n = s) := by
  unfold ipL
  split
  · rename_i a b c d e
    rcases oct_cases a with ha | ⟨na, ha, ha2, ha3⟩
    · left; rw [if_pos (.inl (by omega))]
    · rcases oct_cases b with hb | ⟨nb, hb, hb2, hb3⟩
      · left; rw [if_pos (.inr (.inl (by omega)))]
      · rcases oct_cases c with hc | ⟨nc, hc, hc2, hc3⟩
        · left; rw [if_pos (.inr (.inr (.inl (by omega))))]
        · rcases oct_cases d with hd | ⟨nd, hd, hd2, hd3⟩
          · left; rw [if_pos (.inr (.inr (.inr (by omega))))]
          · right
            refine ⟨16777216 * na + 65536 * nb + 256 * nc + nd, by rw [if_neg (by omega), ha, hb, hc, hd]; omega, by omega, ?_⟩
            have hj := join_split 46 s
            rw [e] at hj
            unfold ipT
            rw [show (16777216 * na + 65536 * nb + 256 * nc + nd) / 16777216 = na by omega, show (16777216 * na + 65536 * nb + 256 * nc + nd) / 65536 % 256 = nb by omega, show (16777216 * na + 65536 * nb + 256 * nc + nd) / 256 % 256 = nc by omega, show (16777216 * na + 65536 * nb + 256 * nc + nd) % 256 = nd by omega, ha3, hb3, hc3, hd3]
            exact hj
  · exact .inl rfl
-- PREFIXES
/-- Is it a prefix? -/
def rightB (n bits : Int) : Bool := decide (0 ≤ n) && decide (n < 4294967296) && decide (0 ≤ bits) && decide (bits ≤ 32) && decide (n % (2 ^ (32 - bits).toNat : Nat) = 0)
/-- The prefix of a text; (-1, 0): there is none. -/
def prefL (s : List UInt8) : Int × Int := match splitL 47 s with
  | [a, b] => if rightB (ipL a) (numL b) = true then (ipL a, numL b) else (-1, 0)
  | _ => (-1, 0)
def prefT (n b : Nat) : List UInt8 := ipT n ++ 47 :: decL b
theorem ip_no (n : Nat) {c : UInt8} (h : digB c = false) (h2 : c ≠ 46) : c ∉ ipT n := by
  unfold ipT
  intro hm
  rcases List.mem_append.1 hm with hm | hm
  · exact dec_no _ h hm
  · rcases List.mem_cons.1 hm with hm | hm
    · exact h2 hm
    · rcases List.mem_append.1 hm with hm | hm
      · exact dec_no _ h hm
      · rcases List.mem_cons.1 hm with hm | hm
        · exact h2 hm
        · rcases List.mem_append.1 hm with hm | hm
          · exact dec_no _ h hm
          · rcases List.mem_cons.1 hm with hm | hm
            · exact h2 hm
            · exact dec_no _ h hm
theorem pref_text (n b : Nat) (h : rightB n b = true) : prefL (prefT n b) = ((n : Int), (b : Int)) := by
  have h2 := h
  unfold rightB at h2
  simp only [Bool.and_eq_true, decide_eq_true_eq] at h2
  obtain ⟨⟨⟨⟨_, hn⟩, _⟩, hb⟩, _⟩ := h2
  unfold prefL prefT
  rw [split_at (ip_no n (by decide) (by decide)), split_one (dec_no _ (by decide))]
  show (if rightB (ipL (ipT n)) (numL (decL b)) = true then _ else _) = _
  rw [ip_text n (by omega), num_dec b (by omega), if_pos h]
theorem pref_cases (s : List UInt8) : prefL s = (-1, 0) ∨ (∃ n b : Nat, prefL s = ((n : Int), (b : Int)) ∧ rightB n b = true ∧ n < 4294967296 ∧ b ≤ 32 ∧ prefT n b = s) := by
  unfold prefL
  split
  · rename_i a c e
    by_cases h : rightB (ipL a) (numL c) = true
    · rw [if_pos h]
      have h2 := h
      unfold rightB at h2
      simp only [Bool.and_eq_true, decide_eq_true_eq] at h2
      obtain ⟨⟨⟨⟨h0, hn⟩, h1⟩, hb⟩, _⟩ := h2
      rcases ip_cases a with ha | ⟨n, ha, ha2, ha3⟩
      · omega
      · rcases num_cases c with hc | ⟨b, hc, hc2, hc3⟩
        · omega
        · right
          refine ⟨n, b, by rw [ha, hc], by rw [ha, hc] at h; exact h, ha2, by omega, ?_⟩
          have hj := join_split 47 s
          rw [e] at hj
          unfold prefT
          rw [ha3, hc3]
          exact hj
    · rw [if_neg h]; exact .inl rfl
  · exact .inl rfl
-- HARDWARE ADDRESSES
/-- A digit's value of base 16; -1: it is none. -/
def hexV (c : UInt8) : Int := if 48 ≤ c.toNat ∧ c.toNat ≤ 57 then (c.toNat : Int) - 48 else if 97 ≤ c.toNat ∧ c.toNat ≤ 102 then (c.toNat : Int) - 87 else -1
def hexC (n : Nat) : UInt8 := if n < 10 then UInt8.ofNat (48 + n) else UInt8.ofNat (87 + n)
def pairV : List UInt8 → Int
  | [a, b] => if hexV a < 0 ∨ hexV b < 0 then -1 else 16 * hexV a + hexV b
  | _ => -1
def pairT (n : Nat) : List UInt8 := [hexC (n / 16), hexC (n % 16)]
theorem hexC_nat (n : Nat) (h : n < 16) : (hexC n).toNat = if n < 10 then 48 + n else 87 + n := by
  unfold hexC
  by_cases h1 : n < 10
  · rw [if_pos h1, if_pos h1, UInt8.toNat_ofNat']; omega
  · rw [if_neg h1, if_neg h1, UInt8.toNat_ofNat']; omega
theorem hexV_C (n : Nat) (h : n < 16) : hexV (hexC n) = n := by
  unfold hexV
  rw [hexC_nat n h]
  by_cases h1 : n < 10
  · rw [if_pos h1, if_pos (by omega)]; omega
  · rw [if_neg h1, if_neg (by omega), if_pos (by omega)]; omega
theorem hex_cases (c : UInt8) : hexV c = -1 ∨ (∃ n : Nat, hexV c = n ∧ n < 16 ∧ hexC n = c) := by
  unfold hexV
  by_cases h : 48 ≤ c.toNat ∧ c.toNat ≤ 57
  · rw [if_pos h]
    refine .inr ⟨c.toNat - 48, by omega, by omega, ?_⟩
    unfold hexC
    rw [if_pos (by omega), show 48 + (c.toNat - 48) = c.toNat by omega, UInt8.ofNat_toNat]
  · rw [if_neg h]
    by_cases h2 : 97 ≤ c.toNat ∧ c.toNat ≤ 102
    · rw [if_pos h2]
      refine .inr ⟨c.toNat - 87, by omega, by omega, ?_⟩
      unfold hexC
      rw [if_neg (by omega), show 87 + (c.toNat - 87) = c.toNat by omega, UInt8.ofNat_toNat]
    · rw [if_neg h2]; exact .inl rfl
theorem pair_text (n : Nat) (h : n < 256) : pairV (pairT n) = n := by
  show (if hexV (hexC (n / 16)) < 0 ∨ hexV (hexC (n % 16)) < 0 then (-1 : Int) else 16 * hexV (hexC (n / 16)) + hexV (hexC (n % 16))) = _
  rw [hexV_C _ (by omega), hexV_C _ (by omega), if_neg (by omega)]; omega
theorem pair_cases (s : List UInt8) : pairV s = -1 ∨ (∃ n : Nat, pairV s = n ∧ n < 256 ∧ pairT n = s) := by
  unfold pairV
  split
  · rename_i a b
    rcases hex_cases a with ha | ⟨x, ha, ha2, ha3⟩
    · left; rw [if_pos (.inl (by omega))]
    · rcases hex_cases b with hb | ⟨y, hb, hb2, hb3⟩
      · left; rw [if_pos (.inr (by omega))]
      · refine .inr ⟨16 * x + y, by rw [if_neg (by omega), ha, hb]; omega, by omega, ?_⟩
        unfold pairT
        rw [show (16 * x + y) / 16 = x by omega, show (16 * x + y) % 16 = y by omega, ha3, hb3]
  · exact .inl rfl
theorem pair_no (n : Nat) (h : n < 256) : (58 : UInt8) ∉ pairT n := by
  unfold pairT
  intro hm
  have key : ∀ d, d < 16 → (58 : UInt8) ≠ hexC d := by
    intro d hd e
    have := hexC_nat d hd
    rw [← e] at this
    have e2 : (58 : UInt8).toNat = 58 := rfl
    rw [e2] at this
    split at this <;> omega
  rcases List.mem_cons.1 hm with hm | hm
  · exact key _ (by omega) hm
  · exact key _ (by omega) (List.mem_singleton.1 hm)
/-- The hardware address of a text; -1: there is none. -/
def macL (s : List UInt8) : Int := match splitL 58 s with
  | [a, b, c, d, e, f] => if pairV a < 0 ∨ pairV b < 0 ∨ pairV c < 0 ∨ pairV d < 0 ∨ pairV e < 0 ∨ pairV f < 0 then -1 else 1099511627776 * pairV a + 4294967296 * pairV b + 16777216 * pairV c + 65536 * pairV d + 256 * pairV e + pairV f
  | _ => -1
def macT (n : Nat) : List UInt8 := pairT (n / 1099511627776 % 256) ++ 58 :: (pairT (n / 4294967296 % 256) ++ 58 :: (pairT (n / 16777216 % 256) ++ 58 :: (pairT (n / 65536 % 256) ++ 58 :: (pairT (n / 256 % 256) ++ 58 :: pairT (n % 256)))))
theorem mac_text (n : Nat) (h : n < 281474976710656) : macL (macT n) = n := by
  unfold macL macT
  rw [split_at (pair_no _ (by omega)), split_at (pair_no _ (by omega)), split_at (pair_no _ (by omega)), split_at (pair_no _ (by omega)), split_at (pair_no _ (by omega)), split_one (pair_no _ (by omega))]
  simp only []
  rw [pair_text _ (by omega), pair_text _ (by omega), pair_text _ (by omega), pair_text _ (by omega), pair_text _ (by omega), pair_text _ (by omega), if_neg (by omega)]
  omega
theorem mac_cases (s : List UInt8) : macL s = -1 ∨ (∃ n : Nat, macL s = n ∧ n < 281474976710656 ∧ macT n = s) := by
  unfold macL
  split
  · rename_i a b c d e f he
    rcases pair_cases a with ha | ⟨na, ha, ha2, ha3⟩
    · left; rw [if_pos (by omega)]
    rcases pair_cases b with hb | ⟨nb, hb, hb2, hb3⟩
    · left; rw [if_pos (by omega)]
    rcases pair_cases c with hc | ⟨nc, hc, hc2, hc3⟩
    · left; rw [if_pos (by omega)]
    rcases pair_cases d with hd | ⟨nd, hd, hd2, hd3⟩
    · left; rw [if_pos (by omega)]
    rcases pair_cases e with hx | ⟨ne, hx, hx2, hx3⟩
    · left; rw [if_pos (by omega)]
    rcases pair_cases f with hf | ⟨nf, hf, hf2, hf3⟩
    · left; rw [if_pos (by omega)]
    right
    refine ⟨1099511627776 * na + 4294967296 * nb + 16777216 * nc + 65536 * nd + 256 * ne + nf, by rw [if_neg (by omega), ha, hb, hc, hd, hx, hf]; omega, by omega, ?_⟩
    have hj := join_split 58 s
    rw [he] at hj
    unfold macT
    rw [show (1099511627776 * na + 4294967296 * nb + 16777216 * nc + 65536 * nd + 256 * ne + nf) / 1099511627776 % 256 = na by omega, show (1099511627776 * na + 4294967296 * nb + 16777216 * nc + 65536 * nd + 256 * ne + nf) / 4294967296 % 256 = nb by omega, show (1099511627776 * na + 4294967296 * nb + 16777216 * nc + 65536 * nd + 256 * ne + nf) / 16777216 % 256 = nc by omega, show (1099511627776 * na + 4294967296 * nb + 16777216 * nc + 65536 * nd + 256 * ne + nf) / 65536 % 256 = nd by omega, show (1099511627776 * na + 4294967296 * nb + 16777216 * nc + 65536 * nd + 256 * ne + nf) / 256 % 256 = ne by omega, show (1099511627776 * na + 4294967296 * nb + 16777216 * nc + 65536 * nd + 256 * ne + nf) % 256 = nf by omega, ha3, hb3, hc3, hd3, hx3, hf3]
    exact hj
  · exact .inl rfl
-- WHAT IS IN A PREFIX
def inB (n bits ip : Int) : Bool := rightB n bits && decide (0 ≤ ip) && decide (ip < 4294967296) && decide (ip / (2 ^ (32 - bits).toNat : Nat) = n / (2 ^ (32 - bits).toNat : Nat))
/-- The first bits of an address. -/
def cutN (n b : Nat) : Nat := n / 2 ^ (32 - b) * 2 ^ (32 - b)
theorem pow_pos2 (k : Nat) : 0 < 2 ^ k := Nat.pow_pos (by omega)
theorem cut_le (n b : Nat) : cutN n b ≤ n := Nat.div_mul_le_self n _
theorem bits_nat (b : Nat) (hb : b ≤ 32) : ((32 : Int) - (b : Int)).toNat = 32 - b := by omega
theorem right_nat (n b : Nat) (hb : b ≤ 32) : rightB n b = (decide (n < 4294967296) && decide (n % 2 ^ (32 - b) = 0)) := by
  unfold rightB
  rw [bits_nat b hb, decide_eq_true (show (0 : Int) ≤ (n : Int) by omega), decide_eq_true (show (0 : Int) ≤ (b : Int) by omega), decide_eq_true (show (b : Int) ≤ 32 by omega)]
  rw [show decide ((n : Int) < 4294967296) = decide (n < 4294967296) from decide_eq_decide.2 (by omega)]
  rw [show decide ((n : Int) % ((2 ^ (32 - b) : Nat) : Int) = 0) = decide (n % 2 ^ (32 - b) = 0) from decide_eq_decide.2 (by rw [← Int.natCast_emod]; omega)]
  simp
theorem right_cut (n b : Nat) (hb : b ≤ 32) (hn : n < 4294967296) : rightB (cutN n b) b = true := by
  have := cut_le n b
  rw [right_nat _ _ hb, decide_eq_true (by omega), decide_eq_true (by unfold cutN; exact Nat.mul_mod_left _ _)]; rfl
theorem cut_div (n b : Nat) : cutN n b / 2 ^ (32 - b) = n / 2 ^ (32 - b) := by unfold cutN; exact Nat.mul_div_cancel _ (pow_pos2 _)
theorem in_nat (n b k : Nat) (hb : b ≤ 32) : inB n b k = (rightB n b && decide (k < 4294967296) && decide (k / 2 ^ (32 - b) = n / 2 ^ (32 - b))) := by
  unfold inB
  rw [bits_nat b hb, decide_eq_true (show (0 : Int) ≤ (k : Int) by omega), Bool.and_true]
  rw [show decide ((k : Int) < 4294967296) = decide (k < 4294967296) from decide_eq_decide.2 (by omega)]
  rw [show decide ((k : Int) / ((2 ^ (32 - b) : Nat) : Int) = (n : Int) / ((2 ^ (32 - b) : Nat) : Int)) = decide (k / 2 ^ (32 - b) = n / 2 ^ (32 - b)) from decide_eq_decide.2 (by rw [← Int.natCast_ediv, ← Int.natCast_ediv]; omega)]
theorem in_cut (n b k : Nat) (hb : b ≤ 32) (hn : n < 4294967296) (hk : k < 4294967296) : inB (cutN n b) b k = decide (k / 2 ^ (32 - b) = n / 2 ^ (32 - b)) := by
  rw [in_nat _ _ _ hb, right_cut n b hb hn, cut_div, decide_eq_true hk]; rfl
theorem in_own (n b : Nat) (hb : b ≤ 32) (hn : n < 4294967296) : inB (cutN n b) b n = true := by rw [in_cut n b n hb hn hn, decide_eq_true rfl]
theorem in_less (n b c k : Nat) (hc : c ≤ b) (hb : b ≤ 32) (hn : n < 4294967296) (hk : k < 4294967296) (h : inB (cutN n b) b k = true) : inB (cutN n c) c k = true := by
  rw [in_cut n b k hb hn hk, decide_eq_true_eq] at h
  rw [in_cut n c k (by omega) hn hk, decide_eq_true_eq]
  have e : 2 ^ (32 - c) = 2 ^ (32 - b) * 2 ^ (b - c) := by rw [← Nat.pow_add]; congr 1; omega
  rw [e, ← Nat.div_div_eq_div_mul, ← Nat.div_div_eq_div_mul, h]
theorem in_all (k : Nat) (hk : k < 4294967296) : inB 0 0 k = true := by
  have := in_nat 0 0 k (by omega)
  rw [show inB ((0 : Nat) : Int) ((0 : Nat) : Int) (k : Int) = inB 0 0 k from rfl] at this
  rw [this, right_nat 0 0 (by omega), decide_eq_true hk, show k / 2 ^ (32 - 0) = 0 from Nat.div_eq_of_lt hk]
  decide
/-- The two halves of a prefix. -/
theorem half_right (n b : Nat) (hb : b ≤ 31) (hn : n < 4294967296) : rightB ((cutN n b + 2 ^ (31 - b) : Nat) : Int) ((b + 1 : Nat) : Int) = true := by
  have e : 2 ^ (32 - b) = 2 * 2 ^ (31 - b) := by rw [Nat.mul_comm, ← Nat.pow_succ]; congr 1; omega
  have e2 : 32 - (b + 1) = 31 - b := by omega
  rw [right_nat _ _ (by omega), e2]
  have hlt : cutN n b + 2 ^ (31 - b) < 4294967296 := by
    have h1 : n / 2 ^ (32 - b) < 2 ^ b := by
      rw [Nat.div_lt_iff_lt_mul (pow_pos2 _), ← Nat.pow_add, show b + (32 - b) = 32 by omega]; omega
    have h2 : (n / 2 ^ (32 - b) + 1) * 2 ^ (32 - b) ≤ 2 ^ b * 2 ^ (32 - b) := Nat.mul_le_mul_right _ h1
    rw [← Nat.pow_add, show b + (32 - b) = 32 by omega, Nat.add_mul, Nat.one_mul] at h2
    have h3 := pow_pos2 (31 - b)
    unfold cutN
    omega
  rw [decide_eq_true hlt, decide_eq_true (by unfold cutN; rw [e, ← Nat.mul_assoc, Nat.add_mod, Nat.mul_mod_left, Nat.mod_self]; rfl)]; rfl
theorem half_div (n b : Nat) (hb : b ≤ 31) : (cutN n b + 2 ^ (31 - b)) / 2 ^ (31 - b) = 2 * (n / 2 ^ (32 - b)) + 1 ∧ cutN n b / 2 ^ (31 - b) = 2 * (n / 2 ^ (32 - b)) := by
  have e : 2 ^ (32 - b) = 2 * 2 ^ (31 - b) := by rw [Nat.mul_comm, ← Nat.pow_succ]; congr 1; omega
  have hc : cutN n b = 2 * (n / 2 ^ (32 - b)) * 2 ^ (31 - b) := by
    unfold cutN
    conv => lhs; arg 2; rw [e]
    rw [← Nat.mul_assoc, Nat.mul_comm (n / 2 ^ (32 - b)) 2]
  rw [hc]
  exact ⟨by rw [Nat.add_div_right _ (pow_pos2 _), Nat.mul_div_cancel _ (pow_pos2 _)], Nat.mul_div_cancel _ (pow_pos2 _)⟩
-- ALONG THE PARTS
def accL (f : List UInt8 → Int) (l : List (List UInt8)) : Int := l.foldl (fun n x => 256 * n + f x) 0
theorem acc_snoc (f : List UInt8 → Int) (l : List (List UInt8)) (x : List UInt8) : accL f (l ++ [x]) = 256 * accL f l + f x := by unfold accL; rw [List.foldl_append]; rfl
theorem ip_len {s : List UInt8} {L : List (List UInt8)} (h : splitL 46 s = L) (hl : L.length ≠ 4) : ipL s = -1 := by
  unfold ipL
  rw [h]
  split
  · rename_i a b c d; exact absurd rfl hl
  · rfl
theorem ip_bad {s : List UInt8} {L : List (List UInt8)} (h : splitL 46 s = L) {x : List UInt8} (hx : x ∈ L) (hb : octL x < 0) : ipL s = -1 := by
  unfold ipL
  rw [h]
  split
  · rename_i a b c d
    rw [if_pos]
    simp only [List.mem_cons, List.not_mem_nil, or_false] at hx
    rcases hx with rfl | rfl | rfl | rfl
    · exact .inl hb
    · exact .inr (.inl hb)
    · exact .inr (.inr (.inl hb))
    · exact .inr (.inr (.inr hb))
  · rfl
theorem ip_good {s : List UInt8} {L : List (List UInt8)} (h : splitL 46 s = L) (hl : L.length = 4) (hg : ∀ x ∈ L, 0 ≤ octL x) : ipL s = accL octL L := by
  unfold ipL
  rw [h]
  match L, hl with
  | [a, b, c, d], _ =>
    have ha := hg a (by simp)
    have hb := hg b (by simp)
    have hc := hg c (by simp)
    have hd := hg d (by simp)
    show (if octL a < 0 ∨ octL b < 0 ∨ octL c < 0 ∨ octL d < 0 then (-1 : Int) else _) = _
    rw [if_neg (by omega)]
    show _ = 256 * (256 * (256 * (256 * 0 + octL a) + octL b) + octL c) + octL d
    omega
theorem mac_len {s : List UInt8} {L : List (List UInt8)} (h : splitL 58 s = L) (hl : L.length ≠ 6) : macL s = -1 := by
  unfold macL
  rw [h]
  split
  · rename_i a b c d e f; exact absurd rfl hl
  · rfl
theorem mac_bad {s : List UInt8} {L : List (List UInt8)} (h : splitL 58 s = L) {x : List UInt8} (hx : x ∈ L) (hb : pairV x < 0) : macL s = -1 := by
  unfold macL
  rw [h]
  split
  · rename_i a b c d e f
    rw [if_pos]
    simp only [List.mem_cons, List.not_mem_nil, or_false] at hx
    rcases hx with rfl | rfl | rfl | rfl | rfl | rfl
    · exact .inl hb
    · exact .inr (.inl hb)
    · exact .inr (.inr (.inl hb))
    · exact .inr (.inr (.inr (.inl hb)))
    · exact .inr (.inr (.inr (.inr (.inl hb))))
    · exact .inr (.inr (.inr (.inr (.inr hb))))
  · rfl
theorem mac_good {s : List UInt8} {L : List (List UInt8)} (h : splitL 58 s = L) (hl : L.length = 6) (hg : ∀ x ∈ L, 0 ≤ pairV x) : macL s = accL pairV L := by
  unfold macL
  rw [h]
  match L, hl with
  | [a, b, c, d, e, f], _ =>
    have ha := hg a (by simp)
    have hb := hg b (by simp)
    have hc := hg c (by simp)
    have hd := hg d (by simp)
    have he := hg e (by simp)
    have hf := hg f (by simp)
    show (if pairV a < 0 ∨ pairV b < 0 ∨ pairV c < 0 ∨ pairV d < 0 ∨ pairV e < 0 ∨ pairV f < 0 then (-1 : Int) else _) = _
    rw [if_neg (by omega)]
    show _ = 256 * (256 * (256 * (256 * (256 * (256 * 0 + pairV a) + pairV b) + pairV c) + pairV d) + pairV e) + pairV f
    omega
theorem oct_range (x : List UInt8) : -1 ≤ octL x ∧ octL x ≤ 255 := by
  rcases oct_cases x with h | ⟨n, h, h2, _⟩ <;> omega
theorem pair_range (x : List UInt8) : -1 ≤ pairV x ∧ pairV x ≤ 255 := by
  rcases pair_cases x with h | ⟨n, h, h2, _⟩ <;> omega
theorem acc_range (f : List UInt8 → Int) (hf : ∀ x, f x ≤ 255) : ∀ (k : Nat) (l : List (List UInt8)), l.length ≤ k → (∀ x ∈ l, 0 ≤ f x) → 0 ≤ accL f l ∧ accL f l < ((256 ^ k : Nat) : Int) := by
  intro k
  induction k with
  | zero =>
    intro l hl _
    have e : l = [] := List.eq_nil_of_length_eq_zero (by omega)
    subst e
    exact ⟨Int.le_refl _, by show (0 : Int) < 1; omega⟩
  | succ k ih =>
    intro l hl hg
    by_cases h : l = []
    · subst h
      have : 0 < 256 ^ (k + 1) := Nat.pow_pos (by omega)
      exact ⟨Int.le_refl _, by show (0 : Int) < _; omega⟩
    · obtain ⟨r, c, rfl⟩ : ∃ r c, l = r ++ [c] := ⟨l.dropLast, l.getLast h, (List.dropLast_concat_getLast h).symm⟩
      rw [List.length_append, List.length_singleton] at hl
      obtain ⟨h1, h2⟩ := ih r (by omega) fun x hx => hg x (List.mem_append_left _ hx)
      have h3 := hg c (by simp)
      have h4 := hf c
      rw [acc_snoc, Nat.pow_succ]
      exact ⟨by omega, by omega⟩
-- CUTTING AT A BYTE, STEP BY STEP
/-- The parts so far, where the part at hand begins, how far it is read. -/
def CutAt (c : UInt8) (s : List UInt8) (L : List (List UInt8)) (f i : Nat) : Prop := splitL c s = L ++ splitL c (s.drop f) ∧ c ∉ (s.drop f).take (i - f) ∧ f ≤ i
theorem cut_start (c : UInt8) (s : List UInt8) : CutAt c s [] 0 0 := ⟨rfl, by simp, Nat.le_refl _⟩
theorem cut_other {c : UInt8} {s : List UInt8} {L : List (List UInt8)} {f i : Nat} (h : CutAt c s L f i) (hi : i < s.length) (hne : s[i] ≠ c) : CutAt c s L f (i + 1) := by
  obtain ⟨h1, h2, h3⟩ := h
  refine ⟨h1, ?_, by omega⟩
  have hlt : i - f < (s.drop f).length := by rw [List.length_drop]; omega
  rw [show i + 1 - f = (i - f) + 1 by omega, List.take_succ_eq_append_getElem hlt, List.mem_append, List.mem_singleton]
  rintro (e | e)
  · exact h2 e
  · rw [List.getElem_drop] at e
    exact hne (by rw [e]; congr 1; omega)
theorem cut_here {c : UInt8} {s : List UInt8} {L : List (List UInt8)} {f i : Nat} (h : CutAt c s L f i) (hi : i < s.length) (he : s[i] = c) : CutAt c s (L ++ [(s.drop f).take (i - f)]) (i + 1) (i + 1) := by
  obtain ⟨h1, h2, h3⟩ := h
  have hd : s.drop f = (s.drop f).take (i - f) ++ c :: s.drop (i + 1) := by
    conv => lhs; rw [← List.take_append_drop (i - f) (s.drop f)]
    rw [List.drop_drop, show f + (i - f) = i by omega, List.drop_eq_getElem_cons hi, he]
  refine ⟨?_, by simp, Nat.le_refl _⟩
  rw [h1]
  conv => lhs; rw [hd]
  rw [split_at h2, List.append_assoc]; rfl
theorem cut_end {c : UInt8} {s : List UInt8} {L : List (List UInt8)} {f i : Nat} (h : CutAt c s L f i) (hi : i = s.length) : splitL c s = L ++ [(s.drop f).take (i - f)] := by
  obtain ⟨h1, h2, h3⟩ := h
  have e : (s.drop f).take (i - f) = s.drop f := List.take_of_length_le (by rw [List.length_drop]; omega)
  rw [e] at h2 ⊢
  rw [h1, split_one h2]
end N
end Go.Proofs.YtgjfjjdljngklaaDoor
