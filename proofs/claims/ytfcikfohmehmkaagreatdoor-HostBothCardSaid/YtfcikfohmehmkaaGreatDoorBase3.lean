/-
  Plain definitions and laws for layers 1 and 2 (words, tokens), without the program. No conditions but where a law says so.
  Plain definitions and laws for layers 4 and 5 (the text of a tree, and how a text is read), without the program. Condition: a tree where a law says so.
  Plain laws of layer 5 (parse): a reader's steps that keep whole paths make the document's tree; what follows of a text that is a tree, of two texts one behind the other, of one that is cut off. No conditions but where a law says so.
-/
import Derived.Test.YtfcikfohmehmkaaGreatDoorBase2
import Derived.Lib.Bytealg
import Derived.Lib.Strings

namespace Go.Proofs.YtfcikfohmehmkaaGreatDoor.W

/-- May a byte stand in a plain word? -/
def plainB (c : UInt8) : Bool :=
  decide (97 ≤ c.toNat ∧ c.toNat ≤ 122 ∨ 65 ≤ c.toNat ∧ c.toNat ≤ 90 ∨ 48 ≤ c.toNat ∧ c.toNat ≤ 57 ∨ c.toNat = 45 ∨ c.toNat = 95 ∨ c.toNat = 46 ∨ c.toNat = 47 ∨ c.toNat = 58 ∨ c.toNat = 42)
/-- Does a byte stand for itself between two quotes (or need a backslash)? -/
def shownB (c : UInt8) : Bool := decide (32 ≤ c.toNat ∧ c.toNat ≤ 126)
def allPlainL (l : List UInt8) : Bool := l.all plainB && !l.isEmpty
def inactiveL : List UInt8 := [105, 110, 97, 99, 116, 105, 118, 101, 58]
def protectL : List UInt8 := [112, 114, 111, 116, 101, 99, 116, 58]
def reservedL (l : List UInt8) : Bool := l == inactiveL || l == protectL || Lib.hasPrefix l [47, 42]
def bareL (l : List UInt8) : Bool := allPlainL l && !reservedL l
def hexD (n : Nat) : UInt8 := if n < 10 then (48 + n).toUInt8 else (87 + n).toUInt8
/-- A byte, as it is written between two quotes. -/
def encB (c : UInt8) : List UInt8 :=
  if c == 34 || c == 92 then [92, c] else if shownB c then [c] else [92, 120, hexD (c.toNat / 16), hexD (c.toNat % 16)]
def encL (l : List UInt8) : List UInt8 := l.flatMap encB
def quotedL (l : List UInt8) : List UInt8 := 34 :: (encL l ++ [34])
def quoteL (l : List UInt8) : List UInt8 := if bareL l then l else quotedL l

/-- What a Bool function says of each of the 256 bytes it says of every byte. -/
theorem byte_all (p : UInt8 → Bool) (h : (List.range 256).all (fun n => p n.toUInt8) = true) (c : UInt8) : p c = true := by
  have hc : c.toNat < 256 := c.toNat_lt
  have := List.all_eq_true.1 h c.toNat (List.mem_range.2 hc)
  simpa using this
theorem plainB_idx (c : UInt8) (h1 : ¬ (97 ≤ c.toNat ∧ c.toNat ≤ 122)) (h2 : ¬ (65 ≤ c.toNat ∧ c.toNat ≤ 90)) (h3 : ¬ (48 ≤ c.toNat ∧ c.toNat ≤ 57)) : plainB c = decide (0 ≤ Lib.indexByte [45, 95, 46, 47, 58, 42] c) := by
  have := byte_all (fun c => decide (¬ (97 ≤ c.toNat ∧ c.toNat ≤ 122) → ¬ (65 ≤ c.toNat ∧ c.toNat ≤ 90) → ¬ (48 ≤ c.toNat ∧ c.toNat ≤ 57) → plainB c = decide (0 ≤ Lib.indexByte [45, 95, 46, 47, 58, 42] c))) (by decide +kernel) c
  exact (of_decide_eq_true this) h1 h2 h3
theorem plainB_of {c : UInt8} (h : 97 ≤ c.toNat ∧ c.toNat ≤ 122 ∨ 65 ≤ c.toNat ∧ c.toNat ≤ 90 ∨ 48 ≤ c.toNat ∧ c.toNat ≤ 57) : plainB c = true := by
  unfold plainB; simp; omega
theorem shown_yes {c : UInt8} (h : (32 : Int) ≤ c.toNat) : shownB c = decide ((c.toNat : Int) ≤ 126) := by
  unfold shownB; rw [Bool.eq_iff_iff]; simp; omega
theorem shown_no {c : UInt8} (h : (c.toNat : Int) < 32) : shownB c = false := by
  unfold shownB; simp; omega
theorem take_snoc (s : ByteArray) (k : Nat) (h : k < s.size) : s.data.toList.take (k + 1) = s.data.toList.take k ++ [s[k]] := by
  rw [List.take_succ_eq_append_getElem (by simpa using h)]; rfl
theorem all_snoc {p : UInt8 → Bool} (s : ByteArray) (k : Nat) (h : k < s.size) (h1 : (s.data.toList.take k).all p = true) (h2 : p s[k] = true) : (s.data.toList.take (k + 1)).all p = true := by
  rw [take_snoc s k h, List.all_append, h1]; simp [h2]
theorem all_miss {p : UInt8 → Bool} (s : ByteArray) (k : Nat) (h : k < s.size) (h2 : p s[k] = false) : s.data.toList.all p = false := by
  rw [List.all_eq_false]
  exact ⟨s[k], by simp [ByteArray.getElem_eq_getElem_data], by simp [h2]⟩
theorem allPlain_miss (s : ByteArray) (k : Nat) (h : k < s.size) (h2 : plainB s[k] = false) : allPlainL s.data.toList = false := by
  unfold allPlainL; rw [all_miss s k h h2]; rfl
theorem allPlain_all (s : ByteArray) (k : Nat) (h : s.size ≤ k) (h1 : (s.data.toList.take k).all plainB = true) : allPlainL s.data.toList = decide (0 < s.size) := by
  unfold allPlainL
  rw [List.take_of_length_le (by simpa using h)] at h1
  rw [h1]
  have hl : s.size = s.data.toList.length := Lib.size_eq s
  rw [hl]
  cases s.data.toList <;> simp
theorem prefix_yes (s p : ByteArray) (h : p.size ≤ s.size) : ((s.extract 0 p.size).toList == p.toList) = Lib.hasPrefix s.data.toList p.data.toList := by
  rw [← Lib.hasPrefix_raw]; simp [h]
theorem prefix_no (s p : ByteArray) (h : ¬ p.size ≤ s.size) : false = Lib.hasPrefix s.data.toList p.data.toList := by
  rw [← Lib.hasPrefix_raw]; simp [h]
theorem reserved_a (s : ByteArray) (h : s.toList = [105, 110, 97, 99, 116, 105, 118, 101, 58]) : reservedL s.data.toList = true := by
  rw [Lib.toList_data] at h; simp [reservedL, inactiveL, h]
theorem reserved_b (s : ByteArray) (h : s.toList = [112, 114, 111, 116, 101, 99, 116, 58]) : reservedL s.data.toList = true := by
  rw [Lib.toList_data] at h; simp [reservedL, protectL, h]
theorem reserved_c (s : ByteArray) (h : ¬ s.toList = [105, 110, 97, 99, 116, 105, 118, 101, 58]) (h2 : ¬ s.toList = [112, 114, 111, 116, 101, 99, 116, 58]) : reservedL s.data.toList = Lib.hasPrefix s.data.toList [47, 42] := by
  rw [Lib.toList_data] at h h2; simp [reservedL, inactiveL, protectL, h, h2]
end Go.Proofs.YtfcikfohmehmkaaGreatDoor.W

namespace Go.Proofs.YtfcikfohmehmkaaGreatDoor.W

/-- The bytes from here on, up to the quote that ends, with that. -/
def quotedRun : List UInt8 → Option Nat
  | [] => none
  | [c] => if c.toNat = 34 then some 1 else none
  | c :: d :: l => if c.toNat = 34 then some 1 else if c.toNat = 92 then (quotedRun l).map (· + 2) else (quotedRun (d :: l)).map (· + 1)
def plainRun (l : List UInt8) : Nat := (l.takeWhile plainB).length
/-- The length of the word at the front. -/
def scanD : List UInt8 → Option Nat
  | [] => none
  | c :: r => if c.toNat = 34 then (quotedRun r).map (· + 1) else if plainRun (c :: r) = 0 then none else some (plainRun (c :: r))
def scanL (l : List UInt8) (at_ : Int) : Option Nat := if at_ < 0 then none else (scanD (l.drop at_.toNat)).map (· + at_.toNat)
def optN (o : Option Nat) : Int := match o with | none => 0 | some n => n

/-- The end of a quoted word, from the place k on. -/
def qFrom (l : List UInt8) (k : Nat) : Option Nat := (quotedRun (l.drop k)).map (· + k)

def hexV (c : UInt8) : Int := Lib.indexByte [48, 49, 50, 51, 52, 53, 54, 55, 56, 57, 97, 98, 99, 100, 101, 102] c
def codedD : List UInt8 → Option UInt8
  | h :: l :: _ => if hexV h < 0 ∨ hexV l < 0 then none else some (hexV h * 16 + hexV l).toNat.toUInt8
  | _ => none
/-- What the byte at the front of a quoted text means, and how many bytes say it. -/
def oneD : List UInt8 → Option (UInt8 × Nat)
  | [] => none
  | c :: r => if c.toNat = 34 ∨ shownB c = false then none else if c.toNat ≠ 92 then some (c, 1) else
    match r with
    | [] => none
    | e :: r' => if e.toNat = 34 ∨ e.toNat = 92 then some (e, 2) else if e.toNat = 120 then (codedD r').map (·, 4) else none
def oneC (o : Option (UInt8 × Nat)) : UInt8 := match o with | none => 0 | some p => p.1
def oneN (o : Option (UInt8 × Nat)) : Int := match o with | none => 0 | some p => p.2

def decF : Nat → List UInt8 → Option (List UInt8)
  | 0, _ => some []
  | _ + 1, [] => some []
  | f + 1, c :: r => match oneD (c :: r) with
    | none => none
    | some (b, n) => (decF f ((c :: r).drop n)).map (b :: ·)
def decL (l : List UInt8) : Option (List UInt8) := decF l.length l

def meantL (l : List UInt8) : Option (List UInt8) :=
  if allPlainL l = true then (if reservedL l = true then none else some l)
  else if l.length < 2 ∨ l.head? ≠ some 34 ∨ l.getLast? ≠ some 34 then none
  else decL ((l.drop 1).take (l.length - 2))
/-- The word of a text, and the error's number. -/
def unqL (l : List UInt8) : List UInt8 × Int :=
  match meantL l with
  | none => ([], 2)
  | some s => if 40 < s.length then ([], 5) else (s, 0)

theorem quotedRun_hit (c : UInt8) (l : List UInt8) (h : c.toNat = 34) : quotedRun (c :: l) = some 1 := by
  cases l <;> simp [quotedRun, h]
theorem quotedRun_plain (c : UInt8) (l : List UInt8) (h : c.toNat ≠ 34) (h2 : c.toNat ≠ 92) : quotedRun (c :: l) = (quotedRun l).map (· + 1) := by
  cases l <;> simp [quotedRun, h, h2]
theorem quotedRun_back (c : UInt8) (l : List UInt8) (h2 : c.toNat = 92) : quotedRun (c :: l) = (quotedRun (l.drop 1)).map (· + 2) := by
  cases l <;> simp [quotedRun, h2]
theorem drop_at (s : ByteArray) (k : Nat) (h : k < s.size) : s.data.toList.drop k = s[k] :: s.data.toList.drop (k + 1) := by
  have hl : k < s.data.toList.length := by rw [← Lib.size_eq]; exact h
  rw [List.drop_eq_getElem_cons hl]; rfl
theorem drop_over (s : ByteArray) (k : Nat) (h : s.size ≤ k) : s.data.toList.drop k = [] := by
  apply List.drop_of_length_le; rw [← Lib.size_eq]; exact h
theorem qFrom_hit (s : ByteArray) (k : Nat) (h : k < s.size) (hc : s[k].toNat = 34) : qFrom s.data.toList k = some (k + 1) := by
  unfold qFrom; rw [drop_at s k h, quotedRun_hit _ _ hc]; simp; omega
theorem qFrom_plain (s : ByteArray) (k : Nat) (h : k < s.size) (h1 : s[k].toNat ≠ 34) (h2 : s[k].toNat ≠ 92) : qFrom s.data.toList k = qFrom s.data.toList (k + 1) := by
  unfold qFrom; rw [drop_at s k h, quotedRun_plain _ _ h1 h2]
  cases quotedRun (List.drop (k + 1) s.data.toList) <;> simp; omega
theorem qFrom_back (s : ByteArray) (k : Nat) (h : k < s.size) (h2 : s[k].toNat = 92) : qFrom s.data.toList k = qFrom s.data.toList (k + 2) := by
  unfold qFrom; rw [drop_at s k h, quotedRun_back _ _ h2, List.drop_drop]
  cases quotedRun (List.drop (k + 2) s.data.toList) <;> simp; omega
theorem qFrom_over (s : ByteArray) (k : Nat) (h : s.size ≤ k) : qFrom s.data.toList k = none := by
  unfold qFrom; rw [drop_over s k h]; rfl

theorem scan_neg (l : List UInt8) (a : Int) (h : a < 0) : scanL l a = none := by simp [scanL, h]
theorem scan_over (s : ByteArray) (k : Nat) (h : s.size ≤ k) : scanL s.data.toList k = none := by
  simp [scanL, drop_over s k h, scanD]; 
theorem scan_quote (s : ByteArray) (k : Nat) (h : k < s.size) (hc : s[k].toNat = 34) : scanL s.data.toList k = qFrom s.data.toList (k + 1) := by
  have h0 : ¬ ((k : Int) < 0) := by omega
  simp only [scanL, h0, if_false, Int.toNat_natCast, drop_at s k h, scanD, hc, if_true, qFrom]
  cases quotedRun (List.drop (k + 1) s.data.toList) <;> simp; omega
theorem plainRun_at (s : ByteArray) (k : Nat) (h : k < s.size) (hp : plainB s[k] = true) : plainRun (s.data.toList.drop k) = plainRun (s.data.toList.drop (k + 1)) + 1 := by
  rw [drop_at s k h]; simp [plainRun, hp]
theorem plainRun_stop (s : ByteArray) (k : Nat) (h : k < s.size) (hp : plainB s[k] = false) : plainRun (s.data.toList.drop k) = 0 := by
  rw [drop_at s k h]; simp [plainRun, hp]
theorem plainRun_over (s : ByteArray) (k : Nat) (h : s.size ≤ k) : plainRun (s.data.toList.drop k) = 0 := by
  rw [drop_over s k h]; simp [plainRun]
theorem scan_plain (s : ByteArray) (k : Nat) (h : k < s.size) (hc : s[k].toNat ≠ 34) :
    scanL s.data.toList k = if plainRun (s.data.toList.drop k) = 0 then none else some (k + plainRun (s.data.toList.drop k)) := by
  have h0 : ¬ ((k : Int) < 0) := by omega
  simp only [scanL, h0, if_false, Int.toNat_natCast, drop_at s k h, scanD, hc]
  split <;> simp; omega
theorem hexV_lt (c : UInt8) : -1 ≤ hexV c ∧ hexV c < 16 := by
  have := byte_all (fun c => decide (-1 ≤ hexV c ∧ hexV c < 16)) (by decide +kernel) c
  exact of_decide_eq_true this
theorem enc_esc {c : UInt8} (h : c.toNat = 34 ∨ c.toNat = 92) : encB c = [92, c] := by
  have e : (c == 34 || c == 92) = true := by
    rcases h with h | h
    · have : c = 34 := UInt8.toNat_inj.1 h
      simp [this]
    · have : c = 92 := UInt8.toNat_inj.1 h
      simp [this]
  unfold encB; rw [if_pos e]
theorem enc_no {c : UInt8} (h : ¬ (c.toNat = 34 ∨ c.toNat = 92)) : ¬ (c == 34 || c == 92) = true := by
  intro e
  simp at e
  rcases e with rfl | rfl <;> simp at h
theorem enc_self {c : UInt8} (h : ¬ (c.toNat = 34 ∨ c.toNat = 92)) (h2 : shownB c = true) : encB c = [c] := by
  unfold encB; rw [if_neg (enc_no h), if_pos h2]
theorem shown_back {c : UInt8} (h : c.toNat = 92) : shownB c = true := by unfold shownB; simp; omega
theorem one_bad (s : ByteArray) (k : Nat) (hk : k < s.size) (h : s[k].toNat = 34 ∨ shownB s[k] = false) : oneD (s.data.toList.drop k) = none := by
  rw [drop_at s k hk]; simp only [oneD]; rw [if_pos h]
theorem one_self (s : ByteArray) (k : Nat) (hk : k < s.size) (h : ¬ (s[k].toNat = 34 ∨ shownB s[k] = false)) (h2 : s[k].toNat ≠ 92) : oneD (s.data.toList.drop k) = some (s[k], 1) := by
  rw [drop_at s k hk]; simp only [oneD]; rw [if_neg h, if_pos h2]
theorem one_end (s : ByteArray) (k : Nat) (hk : k < s.size) (hk2 : s.size ≤ k + 1) (h2 : s[k].toNat = 92) : oneD (s.data.toList.drop k) = none := by
  rw [drop_at s k hk, drop_over s (k + 1) hk2]; simp [oneD, h2]
theorem not_bad {c : UInt8} (h2 : c.toNat = 92) : ¬ (c.toNat = 34 ∨ shownB c = false) := by
  rw [shown_back h2]; simp [h2]
theorem one_esc (s : ByteArray) (k : Nat) (hk : k < s.size) (hk2 : k + 1 < s.size) (h2 : s[k].toNat = 92) (h3 : s[k + 1].toNat = 34 ∨ s[k + 1].toNat = 92) : oneD (s.data.toList.drop k) = some (s[k + 1], 2) := by
  rw [drop_at s k hk, drop_at s (k + 1) hk2]; simp only [oneD]; rw [if_neg (not_bad h2), if_neg (by simp [h2]), if_pos h3]
theorem one_hex (s : ByteArray) (k : Nat) (hk : k < s.size) (hk2 : k + 1 < s.size) (h2 : s[k].toNat = 92) (h3 : s[k + 1].toNat = 120) : oneD (s.data.toList.drop k) = (codedD (s.data.toList.drop (k + 2))).map (·, 4) := by
  rw [drop_at s k hk, drop_at s (k + 1) hk2]; simp only [oneD]; rw [if_neg (not_bad h2), if_neg (by simp [h2]), if_neg (by omega), if_pos h3]
theorem one_not (s : ByteArray) (k : Nat) (hk : k < s.size) (hk2 : k + 1 < s.size) (h2 : s[k].toNat = 92) (h3 : s[k + 1].toNat ≠ 34) (h4 : s[k + 1].toNat ≠ 92) (h5 : s[k + 1].toNat ≠ 120) : oneD (s.data.toList.drop k) = none := by
  rw [drop_at s k hk, drop_at s (k + 1) hk2]; simp only [oneD]; rw [if_neg (not_bad h2), if_neg (by simp [h2]), if_neg (by omega), if_neg h5]
theorem coded_short (s : ByteArray) (k : Nat) (h : s.size ≤ k + 1) : codedD (s.data.toList.drop k) = none := by
  have hl : (s.data.toList.drop k).length ≤ 1 := by rw [List.length_drop, ← Lib.size_eq]; omega
  match hd : s.data.toList.drop k with
  | [] => rfl
  | [_] => rfl
  | _ :: _ :: r => rw [hd] at hl; simp at hl
theorem coded_at (s : ByteArray) (k : Nat) (h : k + 1 < s.size) : codedD (s.data.toList.drop k) = if hexV s[k] < 0 ∨ hexV s[k + 1] < 0 then none else some (hexV s[k] * 16 + hexV s[k + 1]).toNat.toUInt8 := by
  rw [drop_at s k (by omega), drop_at s (k + 1) h]; rfl
theorem code_val (c d : UInt8) (h : 0 ≤ hexV c) (h2 : 0 ≤ hexV d) : (((hexV c * 16 + hexV d).toNat.toUInt8).toNat : Int) = hexV c * 16 + hexV d := by
  have h3 := hexV_lt c
  have h4 := hexV_lt d
  simp only [Nat.toUInt8_eq, UInt8.toNat_ofNat']
  omega
theorem encB_len (c : UInt8) : 1 ≤ (encB c).length ∧ (encB c).length ≤ 4 := by
  unfold encB; split
  · simp
  · split <;> simp
theorem encL_len (l : List UInt8) : l.length ≤ (encL l).length ∧ (encL l).length ≤ 4 * l.length := by
  induction l with
  | nil => simp [encL]
  | cons c l ih =>
    have := encB_len c
    simp only [encL, List.flatMap_cons, List.length_append, List.length_cons] at ih ⊢
    omega
end Go.Proofs.YtfcikfohmehmkaaGreatDoor.W

namespace Go.Proofs.YtfcikfohmehmkaaGreatDoor.W

theorem codedD_len {l : List UInt8} {b : UInt8} (h : codedD l = some b) : 2 ≤ l.length := by
  match l, h with
  | _ :: _ :: r, _ => simp
theorem oneD_pos {l : List UInt8} {b : UInt8} {n : Nat} (h : oneD l = some (b, n)) : 1 ≤ n ∧ n ≤ 4 ∧ n ≤ l.length := by
  match l, h with
  | c :: r, h =>
    simp only [oneD] at h
    split at h
    · cases h
    · split at h
      · injection h with h; injection h with _ h; subst h; simp
      · match r, h with
        | e :: r', h =>
          simp only at h
          split at h
          · injection h with h; injection h with _ h; subst h; simp
          · split at h
            · cases hc : codedD r' with
              | none => rw [hc] at h; cases h
              | some x =>
                have := codedD_len hc
                rw [hc] at h; injection h with h; injection h with _ h; subst h; simp; omega
            · cases h
theorem decF_fuel : ∀ (f g : Nat) (l : List UInt8), l.length ≤ f → l.length ≤ g → decF f l = decF g l
  | 0, g, l, hf, _ => by
    have : l = [] := List.eq_nil_of_length_eq_zero (by omega)
    subst this; cases g <;> rfl
  | f + 1, 0, l, _, hg => by
    have : l = [] := List.eq_nil_of_length_eq_zero (by omega)
    subst this; rfl
  | f + 1, g + 1, [], _, _ => rfl
  | f + 1, g + 1, c :: r, hf, hg => by
    simp only [decF]
    cases h : oneD (c :: r) with
    | none => rfl
    | some p =>
      obtain ⟨b, n⟩ := p
      have hn := oneD_pos h
      simp only []
      rw [decF_fuel f g]
      · simp only [List.length_drop, List.length_cons] at hf ⊢; omega
      · simp only [List.length_drop, List.length_cons] at hg ⊢; omega
theorem decL_nil : decL [] = some [] := rfl
theorem decL_none {l : List UInt8} (hl : l ≠ []) (h : oneD l = none) : decL l = none := by
  match l, hl, h with
  | c :: r, _, h => simp only [decL, List.length_cons, decF, h]
theorem decL_some {l : List UInt8} {b : UInt8} {n : Nat} (h : oneD l = some (b, n)) : decL l = (decL (l.drop n)).map (b :: ·) := by
  match l, h with
  | c :: r, h =>
    have hn := oneD_pos h
    simp only [decL, List.length_cons, decF, h]
    rw [decF_fuel r.length ((c :: r).drop n).length]
    · simp only [List.length_drop, List.length_cons]; omega
    · exact Nat.le_refl _
theorem decL_len : ∀ (f : Nat) (l x : List UInt8), l.length ≤ f → decL l = some x → x.length ≤ l.length
  | f, [], x, _, h => by rw [decL_nil] at h; injection h with h; subst h; simp
  | 0, c :: r, x, hf, _ => by simp at hf
  | f + 1, c :: r, x, hf, h => by
    cases ho : oneD (c :: r) with
    | none => rw [decL_none (by simp) ho] at h; cases h
    | some p =>
      obtain ⟨b, n⟩ := p
      have hn := oneD_pos ho
      rw [decL_some ho] at h
      cases hd : decL ((c :: r).drop n) with
      | none => rw [hd] at h; cases h
      | some y =>
        rw [hd] at h
        injection h with h
        subst h
        have := decL_len f _ y (by simp only [List.length_drop, List.length_cons] at hf ⊢; omega) hd
        simp only [List.length_drop, List.length_cons] at this ⊢
        omega
theorem map_acc (o : Option (List UInt8)) (acc : List UInt8) (b : UInt8) : (o.map (b :: ·)).map (acc ++ ·) = o.map ((acc ++ [b]) ++ ·) := by
  cases o <;> simp
theorem head_at (s : ByteArray) (h : 0 < s.size) : s.data.toList.head? = some s[0] := by
  have := drop_at s 0 h
  rw [List.drop_zero] at this
  rw [this]; rfl
theorem last_at (s : ByteArray) (h : 0 < s.size) : s.data.toList.getLast? = some (s[s.size - 1]'(by omega)) := by
  have h1 : s.data.toList.length - 1 < s.data.toList.length := by rw [← Lib.size_eq]; omega
  rw [List.getLast?_eq_getElem?, List.getElem?_eq_getElem h1]
  rfl
theorem byte_eq {c : UInt8} {n : Nat} (hn : n < 256) : some c = some (UInt8.ofNat n) ↔ c.toNat = n := by
  constructor
  · intro h; injection h with h; subst h; simp; omega
  · intro h; congr 1; apply UInt8.toNat_inj.1; simp; omega
theorem meant_plain (s : ByteArray) (h : allPlainL s.data.toList = true) : meantL s.data.toList = if reservedL s.data.toList = true then none else some s.data.toList := by
  unfold meantL; rw [if_pos h]
theorem meant_short (s : ByteArray) (h : allPlainL s.data.toList = false) (h2 : s.size < 2) : meantL s.data.toList = none := by
  unfold meantL; rw [if_neg (by simp [h]), if_pos (Or.inl (by rw [← Lib.size_eq]; exact h2))]
theorem meant_head (s : ByteArray) (h : allPlainL s.data.toList = false) (h2 : 0 < s.size) (h3 : s[0].toNat ≠ 34) : meantL s.data.toList = none := by
  unfold meantL
  rw [if_neg (by simp [h]), if_pos (Or.inr (Or.inl ?_))]
  rw [head_at s h2]
  exact fun e => h3 ((byte_eq (n := 34) (by omega)).1 e)
theorem meant_last (s : ByteArray) (h : allPlainL s.data.toList = false) (h2 : 0 < s.size) (h3 : (s[s.size - 1]'(by omega)).toNat ≠ 34) : meantL s.data.toList = none := by
  unfold meantL
  rw [if_neg (by simp [h]), if_pos (Or.inr (Or.inr ?_))]
  rw [last_at s h2]
  exact fun e => h3 ((byte_eq (n := 34) (by omega)).1 e)
theorem meant_quoted (s : ByteArray) (h : allPlainL s.data.toList = false) (h2 : 2 ≤ s.size) (h3 : (s[0]'(by omega)).toNat = 34) (h4 : (s[s.size - 1]'(by omega)).toNat = 34) : meantL s.data.toList = decL (s.extract 1 (s.size - 1)).data.toList := by
  unfold meantL
  rw [if_neg (by simp [h]), if_neg ?_]
  · rw [Lib.extract_data, ← Lib.size_eq]
    have : s.size - 1 - 1 = s.size - 2 := by omega
    rw [this]
  · rw [← Lib.size_eq, head_at s (by omega), last_at s (by omega)]
    have e1 := (byte_eq (c := s[0]'(by omega)) (n := 34) (by omega)).2 h3
    have e2 := (byte_eq (c := s[s.size - 1]'(by omega)) (n := 34) (by omega)).2 h4
    rintro (h | h | h)
    · omega
    · exact h e1
    · exact h e2
theorem quote_len (l : List UInt8) : l.length ≤ (quoteL l).length ∧ (quoteL l).length ≤ 4 * l.length + 2 := by
  have := encL_len l
  unfold quoteL; split
  · omega
  · simp only [quotedL, List.length_cons, List.length_append, List.length_nil]; omega
theorem unq_none {l : List UInt8} (h : meantL l = none) : unqL l = ([], 2) := by unfold unqL; rw [h]
theorem unq_long {l y : List UInt8} (h : meantL l = some y) (h2 : 40 < y.length) : unqL l = ([], 5) := by unfold unqL; rw [h]; simp only [if_pos h2]
theorem unq_ok {l y : List UInt8} (h : meantL l = some y) (h2 : ¬ 40 < y.length) : unqL l = (y, 0) := by unfold unqL; rw [h]; simp only [if_neg h2]
end Go.Proofs.YtfcikfohmehmkaaGreatDoor.W

namespace Go.Proofs.YtfcikfohmehmkaaGreatDoor.W

theorem oneD_short {l : List UInt8} {b : UInt8} {n : Nat} (h : oneD l = some (b, n)) : (encB b).length ≤ n := by
  match l, h with
  | c :: r, h =>
    simp only [oneD] at h
    split at h
    · cases h
    · rename_i hbad
      split at h
      · rename_i h92
        injection h with h; injection h with h1 h2; subst h1; subst h2
        have hs : shownB c = true := by cases hs : shownB c; exact absurd (Or.inr hs) hbad; rfl
        rw [enc_self (by omega) hs]; simp
      · match r, h with
        | e :: r', h =>
          simp only at h
          split at h
          · rename_i he
            injection h with h; injection h with h1 h2; subst h1; subst h2
            rw [enc_esc he]; simp
          · split at h
            · cases hc : codedD r' with
              | none => rw [hc] at h; cases h
              | some x =>
                rw [hc] at h; injection h with h; injection h with h1 h2; subst h1; subst h2
                exact (encB_len x).2
            · cases h
theorem decL_enc_len : ∀ (f : Nat) (l x : List UInt8), l.length ≤ f → decL l = some x → (encL x).length ≤ l.length
  | f, [], x, _, h => by rw [decL_nil] at h; injection h with h; subst h; simp [encL]
  | 0, c :: r, x, hf, _ => by simp at hf
  | f + 1, c :: r, x, hf, h => by
    cases ho : oneD (c :: r) with
    | none => rw [decL_none (by simp) ho] at h; cases h
    | some p =>
      obtain ⟨b, n⟩ := p
      have hn := oneD_pos ho
      have hsh := oneD_short ho
      rw [decL_some ho] at h
      cases hd : decL ((c :: r).drop n) with
      | none => rw [hd] at h; cases h
      | some y =>
        rw [hd] at h
        injection h with h
        subst h
        have := decL_enc_len f _ y (by simp only [List.length_drop, List.length_cons] at hf ⊢; omega) hd
        have e : encL (b :: y) = encB b ++ encL y := by simp [encL]
        rw [e]
        simp only [List.length_drop, List.length_cons, List.length_append] at this hn ⊢
        omega
theorem unq_len {t s : List UInt8} (h : unqL t = (s, 0)) : s.length ≤ 40 ∧ (quoteL s).length ≤ t.length + 2 := by
  unfold unqL at h
  cases hm : meantL t with
  | none => rw [hm] at h; injection h with _ h; omega
  | some y =>
    rw [hm] at h
    simp only at h
    split at h
    · injection h with _ h; omega
    · injection h with h; subst h
      refine ⟨by omega, ?_⟩
      unfold meantL at hm
      split at hm
      · rename_i hp
        split at hm
        · cases hm
        · rename_i hr
          injection hm with hm; subst hm
          have : bareL t = true := by unfold bareL; simp [hp, hr]
          unfold quoteL; rw [if_pos this]; omega
      · split at hm
        · cases hm
        · rename_i hsh
          have h1 := decL_enc_len _ _ y (Nat.le_refl _) hm
          have h2 := encL_len y
          have h3 : 2 ≤ t.length := by omega
          rw [List.length_take, List.length_drop] at h1
          unfold quoteL; split
          · omega
          · simp only [quotedL, List.length_cons, List.length_append, List.length_nil]; omega
theorem rest_size (t : ByteArray) (a b : Nat) (h : b ≤ t.size) : (t.extract a b).size = b - a := by
  rw [Lib.size_eq, Lib.extract_data, List.length_take, List.length_drop, ← Lib.size_eq]; omega
end Go.Proofs.YtfcikfohmehmkaaGreatDoor.W

namespace Go.Proofs.YtfcikfohmehmkaaGreatDoor.W

structure Tok where
  kind : Int
  pos : Nat
  word : List UInt8
  bit : Int

inductive Step where
  | skip (n : Nat)
  | tok (k : Int) (w : List UInt8) (b : Int) (n : Nat)
  | bad (e : Int)

inductive Res where
  | ok (l : List Tok)
  | bad (p : Nat) (e : Int)

def Res.toks : Res → List Tok | .ok l => l | .bad _ _ => []
def Res.place : Res → Nat | .ok _ => 0 | .bad p _ => p
def Res.err : Res → Int | .ok _ => 0 | .bad _ e => e
/-- Tokens ahead of a result. -/
def Res.pre (a : List Tok) : Res → Res | .ok l => .ok (a ++ l) | .bad p e => .bad p e
def blankB (c : UInt8) : Bool := decide (c.toNat = 32 ∨ c.toNat = 9 ∨ c.toNat = 10 ∨ c.toNat = 13)
def signK (c : UInt8) : Int := if c.toNat = 123 then 2 else if c.toNat = 125 then 3 else if c.toNat = 59 then 4 else 0
def markK (l : List UInt8) : Int := if l == inactiveL then 1 else if l == protectL then 2 else 0
def lineB (c : UInt8) : Bool := decide (c.toNat ≠ 10)
/-- So many bytes stand ahead of the next byte 10, or of the end. -/
def lineRun (l : List UInt8) : Nat := (l.takeWhile lineB).length
/-- So many bytes up to the next star and slash, with these. -/
def starEnd : List UInt8 → Option Nat
  | [] => none
  | [_] => none
  | c :: d :: l => if c.toNat = 42 ∧ d.toNat = 47 then some 2 else (starEnd (d :: l)).map (· + 1)
/-- What is left off at the front: none for a comment without an end. -/
def gapO : List UInt8 → Option Nat
  | [] => some 0
  | c :: r => if blankB c = true then some 1 else if c.toNat = 35 then some (lineRun (c :: r))
    else if Lib.hasPrefix (c :: r) [47, 42] = true then (starEnd (r.drop 1)).map (· + 2) else some 0
/-- The token at the front. -/
def takeD (l : List UInt8) : Step :=
  if signK (l.headD 0) ≠ 0 then .tok (signK (l.headD 0)) [] 0 1 else
  match scanD l with
  | none => .bad 2
  | some n => if markK (l.take n) ≠ 0 then .tok 5 [] (markK (l.take n)) n
    else if (unqL (l.take n)).2 ≠ 0 then .bad (unqL (l.take n)).2 else .tok 1 (unqL (l.take n)).1 0 n
def stepD (l : List UInt8) : Step :=
  match gapO l with
  | none => .bad 2
  | some 0 => takeD l
  | some (n + 1) => .skip (n + 1)

def lexF : Nat → Nat → List UInt8 → Res
  | 0, _, _ => .ok []
  | _ + 1, _, [] => .ok []
  | f + 1, p, c :: r => match stepD (c :: r) with
    | .skip n => lexF f (p + n) ((c :: r).drop n)
    | .tok k w b n => (lexF f (p + n) ((c :: r).drop n)).pre [⟨k, p, w, b⟩]
    | .bad e => .bad p e
/-- The tokens of a text whose first byte has the place p. -/
def lexL (p : Nat) (l : List UInt8) : Res := lexF l.length p l

theorem starEnd_le : ∀ (l : List UInt8) (n : Nat), starEnd l = some n → 2 ≤ n ∧ n ≤ l.length
  | [], _, h => by simp [starEnd] at h
  | [_], _, h => by simp [starEnd] at h
  | c :: d :: l, n, h => by
    simp only [starEnd] at h
    split at h
    · injection h with h; subst h; simp
    · cases hs : starEnd (d :: l) with
      | none => rw [hs] at h; cases h
      | some m =>
        rw [hs] at h
        simp only [Option.map_some, Option.some.injEq] at h
        have := starEnd_le (d :: l) m hs
        simp only [List.length_cons] at this ⊢
        omega
theorem lineRun_le (l : List UInt8) : lineRun l ≤ l.length := by
  unfold lineRun; exact (List.takeWhile_sublist _).length_le
theorem gapO_le (l : List UInt8) (n : Nat) (h : gapO l = some n) : n ≤ l.length := by
  match l, h with
  | [], h => simp [gapO] at h; omega
  | c :: r, h =>
    simp only [gapO] at h
    split at h
    · injection h with h; subst h; simp
    · split at h
      · injection h with h; subst h; exact lineRun_le _
      · split at h
        · cases hs : starEnd (r.drop 1) with
          | none => rw [hs] at h; cases h
          | some m =>
            rw [hs] at h
            simp only [Option.map_some, Option.some.injEq] at h
            have := starEnd_le _ m hs
            rw [List.length_drop] at this
            simp only [List.length_cons]
            omega
        · injection h with h; omega
theorem quotedRun_le : ∀ (l : List UInt8) (n : Nat), quotedRun l = some n → 1 ≤ n ∧ n ≤ l.length
  | [], _, h => by simp [quotedRun] at h
  | [c], n, h => by simp [quotedRun] at h; simp; omega
  | c :: d :: l, n, h => by
    simp only [quotedRun] at h
    split at h
    · injection h with h; subst h; simp
    · split at h
      · cases hs : quotedRun l with
        | none => rw [hs] at h; cases h
        | some m => rw [hs] at h; simp only [Option.map_some, Option.some.injEq] at h; have := quotedRun_le l m hs; simp only [List.length_cons]; omega
      · cases hs : quotedRun (d :: l) with
        | none => rw [hs] at h; cases h
        | some m => rw [hs] at h; simp only [Option.map_some, Option.some.injEq] at h; have := quotedRun_le (d :: l) m hs; simp only [List.length_cons] at this ⊢; omega
theorem scanD_le (l : List UInt8) (n : Nat) (h : scanD l = some n) : 1 ≤ n ∧ n ≤ l.length := by
  match l, h with
  | c :: r, h =>
    simp only [scanD] at h
    split at h
    · cases hs : quotedRun r with
      | none => rw [hs] at h; cases h
      | some m => rw [hs] at h; simp only [Option.map_some, Option.some.injEq] at h; have := quotedRun_le r m hs; simp only [List.length_cons]; omega
    · split at h
      · cases h
      · injection h with h
        have : plainRun (c :: r) ≤ (c :: r).length := by unfold plainRun; exact (List.takeWhile_sublist _).length_le
        omega
theorem takeD_tok {l : List UInt8} {k : Int} {w : List UInt8} {b : Int} {n : Nat} (hl : l ≠ []) (h : takeD l = .tok k w b n) : 1 ≤ n ∧ n ≤ l.length := by
  unfold takeD at h
  split at h
  · injection h with _ _ _ h; subst h
    exact ⟨Nat.le_refl _, List.length_pos_iff.2 hl⟩
  · cases hs : scanD l with
    | none => rw [hs] at h; cases h
    | some m =>
      rw [hs] at h
      simp only at h
      have := scanD_le l m hs
      split at h
      · injection h with _ _ _ h; subst h; exact this
      · split at h
        · cases h
        · injection h with _ _ _ h; subst h; exact this
theorem takeD_noskip {l : List UInt8} {n : Nat} : takeD l ≠ .skip n := by
  intro h
  unfold takeD at h
  split at h
  · cases h
  · cases hs : scanD l with
    | none => rw [hs] at h; cases h
    | some m =>
      rw [hs] at h
      simp only at h
      split at h
      · cases h
      · split at h <;> cases h
theorem stepD_skip {l : List UInt8} {n : Nat} (h : stepD l = .skip n) : 1 ≤ n ∧ n ≤ l.length ∧ gapO l = some n := by
  unfold stepD at h
  cases hg : gapO l with
  | none => rw [hg] at h; cases h
  | some m =>
    rw [hg] at h
    match m, hg, h with
    | 0, _, h => exact absurd h takeD_noskip
    | m + 1, hg, h =>
      simp only at h
      injection h with h
      subst h
      exact ⟨by omega, gapO_le l _ hg, rfl⟩
theorem stepD_tok {l : List UInt8} {k : Int} {w : List UInt8} {b : Int} {n : Nat} (hl : l ≠ []) (h : stepD l = .tok k w b n) : 1 ≤ n ∧ n ≤ l.length ∧ gapO l = some 0 ∧ takeD l = .tok k w b n := by
  unfold stepD at h
  cases hg : gapO l with
  | none => rw [hg] at h; cases h
  | some m =>
    rw [hg] at h
    match m, hg, h with
    | 0, _, h => exact ⟨(takeD_tok hl h).1, (takeD_tok hl h).2, rfl, h⟩
    | m + 1, hg, h => simp only at h; cases h
theorem stepD_gap {l : List UInt8} {n : Nat} (h : gapO l = some (n + 1)) : stepD l = .skip (n + 1) := by unfold stepD; rw [h]
theorem stepD_take {l : List UInt8} (h : gapO l = some 0) : stepD l = takeD l := by unfold stepD; rw [h]
theorem stepD_open {l : List UInt8} (h : gapO l = none) : stepD l = .bad 2 := by unfold stepD; rw [h]

theorem lexF_fuel : ∀ (f g p : Nat) (l : List UInt8), l.length ≤ f → l.length ≤ g → lexF f p l = lexF g p l
  | 0, g, p, l, hf, _ => by
    have : l = [] := List.eq_nil_of_length_eq_zero (by omega)
    subst this; cases g <;> rfl
  | f + 1, 0, p, l, _, hg => by
    have : l = [] := List.eq_nil_of_length_eq_zero (by omega)
    subst this; rfl
  | f + 1, g + 1, p, [], _, _ => rfl
  | f + 1, g + 1, p, c :: r, hf, hg => by
    simp only [lexF]
    cases h : stepD (c :: r) with
    | bad e => rfl
    | skip n =>
      have hn := stepD_skip h
      simp only []
      rw [lexF_fuel f g]
      · simp only [List.length_drop, List.length_cons] at hf ⊢; omega
      · simp only [List.length_drop, List.length_cons] at hg ⊢; omega
    | tok k w b n =>
      have hn := stepD_tok (by simp) h
      simp only []
      rw [lexF_fuel f g]
      · simp only [List.length_drop, List.length_cons] at hf ⊢; omega
      · simp only [List.length_drop, List.length_cons] at hg ⊢; omega
theorem lexL_nil (p : Nat) : lexL p [] = .ok [] := rfl
theorem lexL_skip {l : List UInt8} {n : Nat} (p : Nat) (hl : l ≠ []) (h : stepD l = .skip n) : lexL p l = lexL (p + n) (l.drop n) := by
  match l, hl, h with
  | c :: r, _, h =>
    have hn := stepD_skip h
    simp only [lexL, List.length_cons, lexF, h]
    rw [lexF_fuel r.length ((c :: r).drop n).length]
    · simp only [List.length_drop, List.length_cons]; omega
    · exact Nat.le_refl _
theorem lexL_tok {l : List UInt8} {k : Int} {w : List UInt8} {b : Int} {n : Nat} (p : Nat) (hl : l ≠ []) (h : stepD l = .tok k w b n) : lexL p l = (lexL (p + n) (l.drop n)).pre [⟨k, p, w, b⟩] := by
  match l, hl, h with
  | c :: r, hl, h =>
    have hn := stepD_tok hl h
    simp only [lexL, List.length_cons, lexF, h]
    rw [lexF_fuel r.length ((c :: r).drop n).length]
    · simp only [List.length_drop, List.length_cons]; omega
    · exact Nat.le_refl _
theorem lexL_bad {l : List UInt8} {e : Int} (p : Nat) (hl : l ≠ []) (h : stepD l = .bad e) : lexL p l = .bad p e := by
  match l, hl, h with
  | c :: r, hl, h => simp only [lexL, List.length_cons, lexF, h]

theorem pre_pre (a b : List Tok) (r : Res) : (r.pre b).pre a = r.pre (a ++ b) := by cases r <;> simp [Res.pre]
theorem pre_nil (r : Res) : r.pre [] = r := by cases r <;> simp [Res.pre]
/-- Induction over a text, step by step. -/
theorem step_ind {P : List UInt8 → Prop} (h0 : P []) (hs : ∀ l n, l ≠ [] → stepD l = .skip n → P (l.drop n) → P l)
    (ht : ∀ l k w b n, l ≠ [] → stepD l = .tok k w b n → P (l.drop n) → P l) (hb : ∀ l e, l ≠ [] → stepD l = .bad e → P l) : ∀ l, P l := by
  have key : ∀ (f : Nat) (l : List UInt8), l.length ≤ f → P l := by
    intro f
    induction f with
    | zero => intro l hl; have : l = [] := List.eq_nil_of_length_eq_zero (by omega); subst this; exact h0
    | succ f ih =>
      intro l hl
      by_cases he : l = []
      · subst he; exact h0
      · cases h : stepD l with
        | skip n => have hn := stepD_skip h; exact hs l n he h (ih _ (by rw [List.length_drop]; omega))
        | tok k w b n => have hn := stepD_tok he h; exact ht l k w b n he h (ih _ (by rw [List.length_drop]; omega))
        | bad e => exact hb l e he h
  exact fun l => key l.length l (Nat.le_refl _)

/-- No plain byte stands at the front. -/
def stops (r : List UInt8) : Prop := ∀ c, r.head? = some c → plainB c = false
end Go.Proofs.YtfcikfohmehmkaaGreatDoor.W

namespace Go.Proofs.YtfcikfohmehmkaaGreatDoor.W

theorem ne_drop (s : ByteArray) (k : Nat) (h : k < s.size) : s.data.toList.drop k ≠ [] := by rw [drop_at s k h]; simp
theorem gap_blank (s : ByteArray) (k : Nat) (h : k < s.size) (hb : blankB s[k] = true) : gapO (s.data.toList.drop k) = some 1 := by
  rw [drop_at s k h]; simp only [gapO]; rw [if_pos hb]
theorem gap_line (s : ByteArray) (k : Nat) (h : k < s.size) (hb : blankB s[k] = false) (h35 : s[k].toNat = 35) : gapO (s.data.toList.drop k) = some (lineRun (s.data.toList.drop k)) := by
  have e := drop_at s k h
  rw [e]; simp only [gapO]; rw [if_neg (by simp [hb]), if_pos h35]
theorem gap_star (s : ByteArray) (k : Nat) (h : k < s.size) (hb : blankB s[k] = false) (h35 : s[k].toNat ≠ 35) (hp : Lib.hasPrefix (s.data.toList.drop k) [47, 42] = true) : gapO (s.data.toList.drop k) = (starEnd (s.data.toList.drop (k + 2))).map (· + 2) := by
  have e := drop_at s k h
  rw [e] at hp ⊢
  simp only [gapO]; rw [if_neg (by simp [hb]), if_neg h35, if_pos hp, List.drop_drop]
theorem gap_no (s : ByteArray) (k : Nat) (h : k < s.size) (hb : blankB s[k] = false) (h35 : s[k].toNat ≠ 35) (hp : Lib.hasPrefix (s.data.toList.drop k) [47, 42] = false) : gapO (s.data.toList.drop k) = some 0 := by
  have e := drop_at s k h
  rw [e] at hp ⊢
  simp only [gapO]; rw [if_neg (by simp [hb]), if_neg h35, if_neg (by simp [hp])]
theorem lineRun_at (s : ByteArray) (k : Nat) (h : k < s.size) (hp : s[k].toNat ≠ 10) : lineRun (s.data.toList.drop k) = lineRun (s.data.toList.drop (k + 1)) + 1 := by
  have : lineB s[k] = true := by simp [lineB, hp]
  rw [drop_at s k h]; simp [lineRun, this]
theorem lineRun_stop (s : ByteArray) (k : Nat) (h : k < s.size) (hp : s[k].toNat = 10) : lineRun (s.data.toList.drop k) = 0 := by
  have : lineB s[k] = false := by simp [lineB, hp]
  rw [drop_at s k h]; simp [lineRun, this]
theorem lineRun_over (s : ByteArray) (k : Nat) (h : s.size ≤ k) : lineRun (s.data.toList.drop k) = 0 := by
  rw [drop_over s k h]; simp [lineRun]
theorem star_hit {l : List UInt8} (h : Lib.hasPrefix l [42, 47] = true) : starEnd l = some 2 := by
  match l, h with
  | [], h => simp [Lib.hasPrefix, List.isPrefixOf] at h
  | [c], h => simp [Lib.hasPrefix, List.isPrefixOf] at h
  | c :: d :: r, h =>
    simp [Lib.hasPrefix, List.isPrefixOf] at h
    simp only [starEnd]
    rw [← h.1, ← h.2, if_pos ⟨rfl, rfl⟩]
theorem star_miss {l : List UInt8} (h : Lib.hasPrefix l [42, 47] = false) : starEnd l = (starEnd (l.drop 1)).map (· + 1) := by
  match l, h with
  | [], h => rfl
  | [c], h => rfl
  | c :: d :: r, h =>
    simp [Lib.hasPrefix, List.isPrefixOf] at h
    simp only [starEnd, List.drop_succ_cons, List.drop_zero]
    rw [if_neg ?_]
    rintro ⟨h1, h2⟩
    exact h (UInt8.toNat_inj.1 h1).symm (UInt8.toNat_inj.1 h2).symm
theorem star_over (s : ByteArray) (k : Nat) (h : s.size ≤ k) : starEnd (s.data.toList.drop k) = none := by rw [drop_over s k h]; rfl
theorem pre2_size (s : ByteArray) (k : Nat) (a b : UInt8) (h : Lib.hasPrefix (s.data.toList.drop k) [a, b] = true) : k + 2 ≤ s.size := by
  have hl : (s.data.toList.drop k).length = s.size - k := by rw [List.length_drop, ← Lib.size_eq]
  match hd : s.data.toList.drop k, h with
  | [], h => simp [Lib.hasPrefix, List.isPrefixOf] at h
  | [c], h => simp [Lib.hasPrefix, List.isPrefixOf] at h
  | c :: d :: r, _ => rw [hd] at hl; simp at hl; omega

/-- The state of a reader of s: at the place k, with the tokens acc. -/
def Reading (s : ByteArray) (k : Nat) (acc : List Tok) : Prop := k ≤ s.size ∧ acc.length ≤ k ∧ lexL 0 s.data.toList = (lexL k (s.data.toList.drop k)).pre acc
theorem Reading.start (s : ByteArray) : Reading s 0 [] := ⟨Nat.zero_le _, Nat.le_refl _, by rw [List.drop_zero, pre_nil]⟩
theorem Reading.skip {s : ByteArray} {k : Nat} {acc : List Tok} (hr : Reading s k acc) {n : Nat} (hk : k < s.size) (h : gapO (s.data.toList.drop k) = some (n + 1)) : Reading s (k + (n + 1)) acc := by
  have hn := gapO_le _ _ h
  rw [List.length_drop, ← Lib.size_eq] at hn
  refine ⟨by omega, by have := hr.2.1; omega, ?_⟩
  rw [hr.2.2, lexL_skip _ (ne_drop s k hk) (stepD_gap h), List.drop_drop]
theorem Reading.open_ {s : ByteArray} {k : Nat} {acc : List Tok} (hr : Reading s k acc) (hk : k < s.size) (h : gapO (s.data.toList.drop k) = none) : lexL 0 s.data.toList = .bad k 2 := by
  rw [hr.2.2, lexL_bad _ (ne_drop s k hk) (stepD_open h)]; rfl
theorem Reading.bad {s : ByteArray} {k : Nat} {acc : List Tok} (hr : Reading s k acc) (hk : k < s.size) (h : gapO (s.data.toList.drop k) = some 0) {e : Int} (ht : takeD (s.data.toList.drop k) = .bad e) : lexL 0 s.data.toList = .bad k e := by
  rw [hr.2.2, lexL_bad _ (ne_drop s k hk) ((stepD_take h).trans ht)]; rfl
theorem Reading.tok {s : ByteArray} {k : Nat} {acc : List Tok} (hr : Reading s k acc) (hk : k < s.size) (h : gapO (s.data.toList.drop k) = some 0) {kd : Int} {wd : List UInt8} {b : Int} {n : Nat} (ht : takeD (s.data.toList.drop k) = .tok kd wd b n) : Reading s (k + n) (acc ++ [⟨kd, k, wd, b⟩]) := by
  have hn := takeD_tok (ne_drop s k hk) ht
  rw [List.length_drop, ← Lib.size_eq] at hn
  refine ⟨by omega, by have := hr.2.1; simp only [List.length_append, List.length_singleton]; omega, ?_⟩
  rw [hr.2.2, lexL_tok _ (ne_drop s k hk) ((stepD_take h).trans ht), List.drop_drop, pre_pre]
theorem Reading.done {s : ByteArray} {k : Nat} {acc : List Tok} (hr : Reading s k acc) (hk : s.size ≤ k) : lexL 0 s.data.toList = .ok acc := by
  rw [hr.2.2, drop_over s k hk, lexL_nil]; simp [Res.pre]
/-- A line of a comment, from k on, of which j is the place up to which no byte 10 is. -/
def Lined (s : ByteArray) (k j : Nat) : Prop := k ≤ j ∧ j ≤ s.size ∧ lineRun (s.data.toList.drop k) = j - k + lineRun (s.data.toList.drop j)
theorem Lined.start (s : ByteArray) (k : Nat) (h : k ≤ s.size) : Lined s k k := ⟨Nat.le_refl _, h, by simp⟩
theorem Lined.next {s : ByteArray} {k j : Nat} (h : Lined s k j) (hj : j < s.size) (hp : s[j].toNat ≠ 10) : Lined s k (j + 1) :=
  ⟨by have := h.1; omega, hj, by have := h.1; rw [h.2.2, lineRun_at s j hj hp]; omega⟩
theorem Lined.stop {s : ByteArray} {k j : Nat} (h : Lined s k j) (hj : j < s.size) (hp : s[j].toNat = 10) : lineRun (s.data.toList.drop k) = j - k := by
  rw [h.2.2, lineRun_stop s j hj hp]; omega
theorem Lined.over {s : ByteArray} {k j : Nat} (h : Lined s k j) (hj : s.size ≤ j) : lineRun (s.data.toList.drop k) = j - k := by
  rw [h.2.2, lineRun_over s j hj]; omega
theorem Reading.line {s : ByteArray} {k j : Nat} {acc : List Tok} (hr : Reading s k acc) (hk : k < s.size) (hb : blankB s[k] = false) (h35 : s[k].toNat = 35) (hj : k ≤ j) (hl : lineRun (s.data.toList.drop k) = j - k) : Reading s j acc := by
  have hlt : k < j := by
    rcases Nat.lt_or_ge k j with h | h
    · exact h
    · have : lineRun (s.data.toList.drop k) = lineRun (s.data.toList.drop (k + 1)) + 1 := lineRun_at s k hk (by omega)
      omega
  have := hr.skip (n := j - k - 1) hk (by rw [gap_line s k hk hb h35, hl]; congr 1; omega)
  have e : k + (j - k - 1 + 1) = j := by omega
  rw [e] at this
  exact this
/-- Inside a comment from k on: up to j no star and slash is. -/
def Starred (s : ByteArray) (k j : Nat) : Prop := k ≤ j ∧ j ≤ s.size ∧ starEnd (s.data.toList.drop k) = (starEnd (s.data.toList.drop j)).map (· + (j - k))
theorem Starred.start (s : ByteArray) (k : Nat) (h : k ≤ s.size) : Starred s k k := ⟨Nat.le_refl _, h, by cases starEnd (s.data.toList.drop k) <;> simp⟩
theorem Starred.next {s : ByteArray} {k j : Nat} (h : Starred s k j) (hj : j < s.size) (hp : Lib.hasPrefix (s.data.toList.drop j) [42, 47] = false) : Starred s k (j + 1) :=
  ⟨by have := h.1; omega, hj, by
    have := h.1
    rw [h.2.2, star_miss hp, List.drop_drop]
    cases starEnd (s.data.toList.drop (j + 1)) <;> simp; omega⟩
theorem Starred.stop {s : ByteArray} {k j : Nat} (h : Starred s k j) (hp : Lib.hasPrefix (s.data.toList.drop j) [42, 47] = true) : starEnd (s.data.toList.drop k) = some (j - k + 2) := by
  rw [h.2.2, star_hit hp]; simp; omega
theorem Starred.over {s : ByteArray} {k j : Nat} (h : Starred s k j) (hj : s.size ≤ j) : starEnd (s.data.toList.drop k) = none := by
  rw [h.2.2, star_over s j hj]; rfl
theorem Reading.star {s : ByteArray} {k j : Nat} {acc : List Tok} (hr : Reading s k acc) (hk : k < s.size) (hb : blankB s[k] = false) (h35 : s[k].toNat ≠ 35) (hp : Lib.hasPrefix (s.data.toList.drop k) [47, 42] = true) (hj : k + 2 ≤ j) (hs : starEnd (s.data.toList.drop (k + 2)) = some (j - (k + 2) + 2)) : Reading s (j + 2) acc := by
  have := hr.skip (n := j - k + 1) hk (by rw [gap_star s k hk hb h35 hp, hs]; simp; omega)
  have e : k + (j - k + 1 + 1) = j + 2 := by omega
  rw [e] at this
  exact this
theorem Reading.unstar {s : ByteArray} {k : Nat} {acc : List Tok} (hr : Reading s k acc) (hk : k < s.size) (hb : blankB s[k] = false) (h35 : s[k].toNat ≠ 35) (hp : Lib.hasPrefix (s.data.toList.drop k) [47, 42] = true) (hs : starEnd (s.data.toList.drop (k + 2)) = none) : lexL 0 s.data.toList = .bad k 2 :=
  hr.open_ hk (by rw [gap_star s k hk hb h35 hp, hs]; rfl)
theorem takeD_bad {l : List UInt8} {e : Int} (h : takeD l = .bad e) : e ≠ 0 := by
  unfold takeD at h
  split at h
  · cases h
  · cases hs : scanD l with
    | none => rw [hs] at h; injection h with h; omega
    | some m =>
      rw [hs] at h
      simp only at h
      split at h
      · cases h
      · split at h
        · rename_i h0; injection h with h; rw [← h]; exact h0
        · cases h
end Go.Proofs.YtfcikfohmehmkaaGreatDoor.W

namespace Go.Proofs.YtfcikfohmehmkaaGreatDoor.W

theorem takeD_cases {l : List UInt8} {k : Int} {w : List UInt8} {b : Int} {n : Nat} (h : takeD l = .tok k w b n) :
    (signK (l.headD 0) ≠ 0 ∧ k = signK (l.headD 0) ∧ w = [] ∧ b = 0 ∧ n = 1) ∨
    (signK (l.headD 0) = 0 ∧ scanD l = some n ∧ markK (l.take n) ≠ 0 ∧ k = 5 ∧ w = [] ∧ b = markK (l.take n)) ∨
    (signK (l.headD 0) = 0 ∧ scanD l = some n ∧ markK (l.take n) = 0 ∧ unqL (l.take n) = (w, 0) ∧ k = 1 ∧ b = 0) := by
  unfold takeD at h
  by_cases hs : signK (l.headD 0) ≠ 0
  · rw [if_pos hs] at h
    injection h with h1 h2 h3 h4
    exact .inl ⟨hs, h1.symm, h2.symm, h3.symm, h4.symm⟩
  · rw [if_neg hs] at h
    have hs0 : signK (l.headD 0) = 0 := by omega
    cases hsc : scanD l with
    | none => rw [hsc] at h; cases h
    | some m =>
      rw [hsc] at h
      simp only at h
      by_cases hm : markK (l.take m) ≠ 0
      · rw [if_pos hm] at h
        injection h with h1 h2 h3 h4
        subst h4
        exact .inr (.inl ⟨hs0, rfl, hm, h1.symm, h2.symm, h3.symm⟩)
      · rw [if_neg hm] at h
        by_cases hu : (unqL (l.take m)).2 ≠ 0
        · rw [if_pos hu] at h; cases h
        · rw [if_neg hu] at h
          injection h with h1 h2 h3 h4
          subst h4
          refine .inr (.inr ⟨hs0, rfl, by omega, ?_, h1.symm, h3.symm⟩)
          have : (unqL (l.take m)).2 = 0 := by omega
          rw [← h2, ← this]
theorem signK_cases (c : UInt8) : (c.toNat = 123 ∧ signK c = 2) ∨ (c.toNat = 125 ∧ signK c = 3) ∨ (c.toNat = 59 ∧ signK c = 4) ∨ (c.toNat ≠ 123 ∧ c.toNat ≠ 125 ∧ c.toNat ≠ 59 ∧ signK c = 0) := by
  unfold signK
  by_cases h1 : c.toNat = 123
  · rw [if_pos h1]; omega
  · rw [if_neg h1]
    by_cases h2 : c.toNat = 125
    · rw [if_pos h2]; omega
    · rw [if_neg h2]
      by_cases h3 : c.toNat = 59
      · rw [if_pos h3]; omega
      · rw [if_neg h3]; omega
theorem bad_lt (l : List UInt8) : ∀ (p q : Nat) (e : Int), lexL p l = .bad q e → p ≤ q ∧ q < p + l.length ∧ e ≠ 0 := by
  induction l using step_ind with
  | h0 => intro p q e h; rw [lexL_nil] at h; cases h
  | hs l n he h ih =>
    intro p q e hp
    have hn := stepD_skip h
    rw [lexL_skip _ he h] at hp
    have := ih _ _ _ hp
    rw [List.length_drop] at this
    omega
  | ht l k w b n he h ih =>
    intro p q e hp
    have hn := stepD_tok he h
    rw [lexL_tok _ he h] at hp
    cases hr : lexL (p + n) (l.drop n) with
    | ok a => rw [hr] at hp; cases hp
    | bad q' e' =>
      rw [hr] at hp
      injection hp with h1 h2
      subst h1; subst h2
      have := ih _ _ _ hr
      rw [List.length_drop] at this
      omega
  | hb l e' he h =>
    intro p q e hp
    rw [lexL_bad _ he h] at hp
    injection hp with h1 h2
    subst h1; subst h2
    refine ⟨Nat.le_refl _, by have := List.length_pos_iff.2 he; omega, ?_⟩
    unfold stepD at h
    cases hg : gapO l with
    | none => rw [hg] at h; injection h with h; omega
    | some m =>
      rw [hg] at h
      match m, h with
      | 0, h => exact takeD_bad h
      | m + 1, h => cases h
theorem lexL_len (l : List UInt8) : ∀ (p : Nat) (a : List Tok), lexL p l = .ok a → a.length ≤ l.length := by
  induction l using step_ind with
  | h0 => intro p a h; rw [lexL_nil] at h; injection h with h; subst h; simp
  | hs l n he h ih =>
    intro p a hp
    rw [lexL_skip _ he h] at hp
    have := ih _ _ hp
    rw [List.length_drop] at this
    omega
  | ht l k w b n he h ih =>
    intro p a hp
    have hn := stepD_tok he h
    rw [lexL_tok _ he h] at hp
    cases hr : lexL (p + n) (l.drop n) with
    | bad q e => rw [hr] at hp; cases hp
    | ok a' =>
      rw [hr] at hp
      injection hp with hp
      subst hp
      have := ih _ _ hr
      rw [List.length_drop] at this
      simp only [List.singleton_append, List.length_cons]
      omega
  | hb l e he h => intro p a hp; rw [lexL_bad _ he h] at hp; cases hp
end Go.Proofs.YtfcikfohmehmkaaGreatDoor.W

namespace Go.Proofs.YtfcikfohmehmkaaGreatDoor.W

end Go.Proofs.YtfcikfohmehmkaaGreatDoor.W

namespace Go.Proofs.YtfcikfohmehmkaaGreatDoor.W

/-- A token as All makes it. -/
def GoodTok (t : Tok) : Prop := (t.kind = 1 ∧ t.word.length ≤ 40 ∧ t.bit = 0) ∨ ((t.kind = 2 ∨ t.kind = 3 ∨ t.kind = 4) ∧ t.word = [] ∧ t.bit = 0) ∨ (t.kind = 5 ∧ t.word = [] ∧ (t.bit = 1 ∨ t.bit = 2))
def tokText (t : Tok) : List UInt8 :=
  if t.kind = 1 then quoteL t.word else if t.kind = 2 then [123] else if t.kind = 3 then [125] else if t.kind = 4 then [59] else if t.bit = 1 then inactiveL else protectL
def sepText (l : List Tok) : List UInt8 := l.flatMap fun t => 32 :: tokText t
def textL (l : List Tok) : List UInt8 := (sepText l).drop 1
theorem markK_cases (l : List UInt8) : markK l = 0 ∨ markK l = 1 ∨ markK l = 2 := by
  unfold markK; split
  · simp
  · split <;> simp
theorem takeD_goodTok {l : List UInt8} {k : Int} {w : List UInt8} {b : Int} {n p : Nat} (h : takeD l = .tok k w b n) : GoodTok ⟨k, p, w, b⟩ := by
  rcases takeD_cases h with ⟨h1, rfl, rfl, rfl, _⟩ | ⟨_, _, h1, rfl, rfl, rfl⟩ | ⟨_, _, _, hu, rfl, rfl⟩
  · have := signK_cases (l.headD 0)
    exact .inr (.inl ⟨by simp only; omega, rfl, rfl⟩)
  · have := markK_cases (l.take n)
    exact .inr (.inr ⟨rfl, rfl, by simp only; omega⟩)
  · exact .inl ⟨rfl, (unq_len hu).1, rfl⟩
theorem lexL_good (l : List UInt8) : ∀ (p : Nat) (a : List Tok), lexL p l = .ok a → ∀ t ∈ a, GoodTok t := by
  induction l using step_ind with
  | h0 => intro p a h; rw [lexL_nil] at h; injection h with h; subst h; simp
  | hs l n he h ih => intro p a hp; rw [lexL_skip _ he h] at hp; exact ih _ _ hp
  | ht l k w b n he h ih =>
    intro p a hp
    have hn := stepD_tok he h
    rw [lexL_tok _ he h] at hp
    cases hr : lexL (p + n) (l.drop n) with
    | bad q e => rw [hr] at hp; cases hp
    | ok a' =>
      rw [hr] at hp
      injection hp with hp
      subst hp
      intro t ht
      rcases List.mem_append.1 ht with ht | ht
      · simp at ht; subst ht; exact takeD_goodTok hn.2.2.2
      · exact ih _ _ hr t ht
  | hb l e he h => intro p a hp; rw [lexL_bad _ he h] at hp; cases hp
theorem sep_next (l : List Tok) (k : Nat) (h : k < l.length) : sepText (l.take (k + 1)) = sepText (l.take k) ++ 32 :: tokText l[k] := by
  rw [List.take_succ_eq_append_getElem h]; unfold sepText; rw [List.flatMap_append]; simp
theorem sep_pos (l : List Tok) (k : Nat) (h : k < l.length) (hk : 0 < k) : 1 ≤ (sepText (l.take k)).length := by
  obtain ⟨j, rfl⟩ : ∃ j, k = j + 1 := ⟨k - 1, by omega⟩
  rw [sep_next l j (by omega)]; simp; omega
theorem text_next (l : List Tok) (k : Nat) (h : k < l.length) (hk : 0 < k) : textL (l.take (k + 1)) = textL (l.take k) ++ 32 :: tokText l[k] := by
  unfold textL; rw [sep_next l k h, List.drop_append_of_le_length (sep_pos l k h hk)]
end Go.Proofs.YtfcikfohmehmkaaGreatDoor.W

namespace Go.Proofs.YtfcikfohmehmkaaGreatDoor.W

end Go.Proofs.YtfcikfohmehmkaaGreatDoor.W

namespace Go.Proofs.YtfcikfohmehmkaaGreatDoor.W

end Go.Proofs.YtfcikfohmehmkaaGreatDoor.W

namespace Go.Proofs.YtfcikfohmehmkaaGreatDoor.S
open T (Ln at_ dp wd RightT)
open W (Tok Res Step lexL stepD quoteL inactiveL protectL stops signK)

def blanksL (n : Nat) : List UInt8 := List.replicate (2 * n) 32
def markT (m : Int) : List UInt8 := (if m % 2 = 1 then inactiveL ++ [32] else []) ++ (if 1 < m then protectL ++ [32] else [])
/-- Does something stand under the line at i? -/
def openB (t : List Ln) (i : Nat) : Bool := decide (i + 1 < t.length ∧ dp t i < dp t (i + 1))
/-- The depth of the line behind, or 0. -/
def nextD (t : List Ln) (i : Nat) : Nat := if i + 1 < t.length then (dp t (i + 1)).toNat else 0
/-- The ends of all parts from depth d - 1 down to nd. -/
def closeT : Nat → Nat → List UInt8
  | 0, _ => []
  | d + 1, nd => if nd ≤ d then blanksL d ++ [125, 10] ++ closeT d nd else []
def lineT (t : List Ln) (i : Nat) : List UInt8 := blanksL (dp t i).toNat ++ markT (at_ t i).mark ++ quoteL (wd t i) ++ (if openB t i = true then [32, 123, 10] else [59, 10])
def rowT (t : List Ln) (i : Nat) : List UInt8 := lineT t i ++ closeT (dp t i).toNat (nextD t i)
def textTo (t : List Ln) (k : Nat) : List UInt8 := (List.range k).flatMap (rowT t)
def textL (t : List Ln) : List UInt8 := textTo t t.length
theorem text_next (t : List Ln) (k : Nat) : textTo t (k + 1) = textTo t k ++ rowT t k := by
  unfold textTo; rw [List.range_succ, List.flatMap_append]; simp

/-- A token without its place. -/
abbrev Trip := Int × List UInt8 × Int
def strip (t : Tok) : Trip := (t.kind, t.word, t.bit)
def markK (m : Int) : List Trip := (if m % 2 = 1 then [(5, [], 1)] else []) ++ (if 1 < m then [(5, [], 2)] else [])
end Go.Proofs.YtfcikfohmehmkaaGreatDoor.S

namespace Go.Proofs.YtfcikfohmehmkaaGreatDoor.S
open T (Ln at_ dp wd RightT endL subL leafB leafN)
open W (quoteL inactiveL protectL)

/-- The ends of parts, one depth at a time. -/
theorem close_low : ∀ (d nd : Nat), d ≤ nd → closeT d nd = []
  | 0, _, _ => rfl
  | d + 1, nd, h => by unfold closeT; rw [if_neg (by omega)]
theorem close_step (d nd : Nat) : closeT (d + 1) nd = (if nd ≤ d then blanksL d ++ [125, 10] else []) ++ closeT d nd := by
  conv => lhs; unfold closeT
  by_cases h : nd ≤ d
  · rw [if_pos h, if_pos h]
  · rw [if_neg h, if_neg h, close_low d nd (by omega)]; rfl
/-- A piece of a row ahead of its end. -/
def Quiet (l : List UInt8) : Prop := ∀ b ∈ l, 32 ≤ b.toNat ∧ b.toNat ≤ 126
/-- A row: quiet bytes, then one of three signs, then a byte 10. -/
inductive Rows : List UInt8 → Nat → Prop
  | nil : Rows [] 0
  | row {l : List UInt8} {n : Nat} (q : List UInt8) (c : UInt8) (hq : Quiet q) (hc : c.toNat = 59 ∨ c.toNat = 123 ∨ c.toNat = 125) (h : Rows l n) : Rows (q ++ [c, 10] ++ l) (n + 1)
end Go.Proofs.YtfcikfohmehmkaaGreatDoor.S

namespace Go.Proofs.YtfcikfohmehmkaaGreatDoor.S
open T (Ln at_ dp wd RightT endL subL)
open W (quoteL inactiveL protectL)

theorem blanks_len (n : Nat) : (blanksL n).length = 2 * n := by unfold blanksL; rw [List.length_replicate]
theorem mark_len (m : Int) : (markT m).length = (if m % 2 = 1 then 10 else 0) + (if 1 < m then 9 else 0) := by
  unfold markT
  rw [List.length_append]
  by_cases h1 : m % 2 = 1 <;> by_cases h2 : 1 < m <;> simp [h1, h2, inactiveL, protectL]
theorem close_len : ∀ d nd : Nat, d ≤ 15 → (closeT d nd).length ≤ 32 * d
  | 0, nd, _ => by simp [closeT]
  | d + 1, nd, h => by
    rw [close_step, List.length_append]
    have := close_len d nd (by omega)
    by_cases hn : nd ≤ d
    · rw [if_pos hn, List.length_append, blanks_len]; simp; omega
    · rw [if_neg hn]; simp; omega
theorem RightT.row_len {t : List Ln} (h : RightT t) {i : Nat} (hi : i < t.length) : (rowT t i).length ≤ 1000 := by
  have hd := h.deep i hi
  have hc := close_len (dp t i).toNat (nextD t i) (by omega)
  have hq := (W.quote_len (wd t i)).2
  have hw := h.long i hi
  have hm : (markT (at_ t i).mark).length ≤ 19 := by rw [mark_len]; split <;> split <;> omega
  have he : (if openB t i = true then [32, 123, 10] else [59, 10] : List UInt8).length ≤ 3 := by split <;> simp
  unfold rowT lineT
  rw [List.length_append, List.length_append, List.length_append, List.length_append, blanks_len]
  omega
theorem RightT.text_len {t : List Ln} (h : RightT t) : ∀ k, k ≤ t.length → (textTo t k).length ≤ 1000 * k
  | 0, _ => by simp [textTo]
  | k + 1, hk => by
    have := RightT.text_len h k (by omega)
    have := RightT.row_len h (show k < t.length by omega)
    rw [text_next, List.length_append]; omega

/-- A tree with another mark of one line. -/
def setM (t : List Ln) (k : Nat) (m : Int) : List Ln := t.set k ⟨dp t k, wd t k, m⟩
theorem setM_len (t : List Ln) (k : Nat) (m : Int) : (setM t k m).length = t.length := by unfold setM; rw [List.length_set]
theorem setM_at (t : List Ln) (k : Nat) (m : Int) (i : Nat) (hk : k < t.length) : at_ (setM t k m) i = if i = k then ⟨dp t k, wd t k, m⟩ else at_ t i := by
  unfold setM at_ List.getD
  rw [List.getElem?_set]
  by_cases h : i = k
  · subst h; simp [hk]
  · rw [if_neg (fun e => h e.symm), if_neg h]
theorem setM_dp (t : List Ln) (k : Nat) (m : Int) (i : Nat) (hk : k < t.length) : dp (setM t k m) i = dp t i := by
  unfold dp; rw [setM_at t k m i hk]
  by_cases h : i = k
  · rw [if_pos h, h]; rfl
  · rw [if_neg h]
theorem setM_wd (t : List Ln) (k : Nat) (m : Int) (i : Nat) (hk : k < t.length) : wd (setM t k m) i = wd t i := by
  unfold wd; rw [setM_at t k m i hk]
  by_cases h : i = k
  · rw [if_pos h, h]; rfl
  · rw [if_neg h]
theorem RightT.setM {t : List Ln} (h : RightT t) {k : Nat} (hk : k < t.length) {m : Int} (hm : 0 ≤ m ∧ m ≤ 3) : RightT (setM t k m) := by
  have hl := setM_len t k m
  have d := fun i => setM_dp t k m i hk
  have w := fun i => setM_wd t k m i hk
  refine ⟨by rw [hl]; exact h.len, fun i hi => by rw [d]; exact h.deep i (by omega), fun i hi => by rw [w]; exact h.long i (by omega), fun i hi => ?_, fun hp => by rw [d]; exact h.first (by omega), fun i hi => by rw [d, d]; exact h.step i (by omega), fun i j h1 h2 h3 h4 => ?_⟩
  · rw [setM_at t k m i hk]
    by_cases he : i = k
    · rw [if_pos he]; exact hm
    · rw [if_neg he]; exact h.mark i (by omega)
  · rw [w, w]
    rw [d, d] at h3
    exact h.rise i j h1 (by omega) h3 (fun x a b => by have := h4 x a b; rw [d, d] at this; exact this)
end Go.Proofs.YtfcikfohmehmkaaGreatDoor.S

namespace Go.Proofs.YtfcikfohmehmkaaGreatDoor.T

/-- The line of a path, or -1. -/
def findI (t : List Ln) (p : Pth) : Int := match (List.range t.length).find? fun i => pathL t i == p with | some i => (i : Int) | none => -1
theorem findI_some {N : Nat} {t : List Ln} (h : RightN N t) {p : Pth} {i : Nat} (hi : i < t.length) (e : pathL t i = p) : findI t p = i := by
  unfold findI
  cases hf : (List.range t.length).find? fun i => pathL t i == p with
  | none =>
    have := List.find?_eq_none.1 hf i (List.mem_range.2 hi)
    simp [e] at this
  | some k =>
    have h1 := List.find?_some hf
    have h2 := List.mem_range.1 (List.mem_of_find?_eq_some hf)
    have e1 : pathL t k = p := by simpa using h1
    show (k : Int) = i
    rw [h.path_inj (max k i) k i (Nat.le_max_left ..) (Nat.le_max_right ..) h2 hi (by rw [e1, e])]
theorem findI_none {t : List Ln} {p : Pth} (h : ∀ i, i < t.length → pathL t i ≠ p) : findI t p = -1 := by
  unfold findI
  rw [List.find?_eq_none.2 fun i hi => by simpa using h i (List.mem_range.1 hi)]
theorem findI_cases (t : List Ln) (p : Pth) : (findI t p = -1 ∧ ∀ i, i < t.length → pathL t i ≠ p) ∨ ∃ i, i < t.length ∧ findI t p = (i : Int) ∧ pathL t i = p := by
  unfold findI
  cases hf : (List.range t.length).find? fun i => pathL t i == p with
  | none => exact .inl ⟨rfl, fun i hi => by have := List.find?_eq_none.1 hf i (List.mem_range.2 hi); simpa using this⟩
  | some k => exact .inr ⟨k, List.mem_range.1 (List.mem_of_find?_eq_some hf), rfl, by simpa using List.find?_some hf⟩
theorem findI_nil (t : List Ln) : findI t [] = -1 := findI_none fun _ _ => path_ne
/-- Is there a line of the path, or is it none's? -/
def Open (t : List Ln) (p : Pth) : Prop := p = [] ∨ ∃ i, i < t.length ∧ pathL t i = p
theorem Open.up {N : Nat} {t : List Ln} (h : RightN N t) {p : Pth} (ho : Open t p) : (-1 ≤ findI t p ∧ findI t p < t.length) ∧ pathI t (findI t p) = p := by
  rcases ho with rfl | ⟨i, hi, e⟩
  · rw [findI_nil]; exact ⟨by omega, pathI_none t⟩
  · rw [findI_some h hi e]; exact ⟨by omega, by rw [pathI_nat]; exact e⟩
/-- Where a line of that word belongs under another. -/
def posL (t : List Ln) (up : Int) (w : List UInt8) : Nat := ((kidsL t up).find? fun k => Op.bytesLess w (wd t k)).getD (endI t up)
/-- The lines with one more. -/
def putL (t : List Ln) (p : Pth) (w : List UInt8) (m : Int) : List Ln := putT t (posL t (findI t p) w) (p ++ [w], m)
theorem find_first {l : List Nat} {f : Nat → Bool} {k : Nat} (h : l.find? f = some k) : ∃ a b, l = a ++ k :: b ∧ ∀ x ∈ a, f x = false := by
  induction l with
  | nil => simp at h
  | cons y l ih =>
    rw [List.find?_cons] at h
    cases hy : f y with
    | true => rw [hy] at h; injection h with h; subst h; exact ⟨[], l, rfl, fun x hx => by cases hx⟩
    | false =>
      rw [hy] at h
      obtain ⟨a, b, e, hx⟩ := ih h
      refine ⟨y :: a, b, by rw [e]; rfl, fun x hm => ?_⟩
      rcases List.mem_cons.1 hm with rfl | hm
      · exact hy
      · exact hx x hm
theorem kids_sorted (t : List Ln) (i : Int) : (kidsL t i).Pairwise (· < ·) := List.Pairwise.filter _ List.pairwise_lt_range
theorem RightN.put_pos {N : Nat} {t : List Ln} (h : RightN N t) {p : Pth} (ho : Open t p) {w : List UInt8} (hn : ∀ i, i < t.length → pathL t i ≠ p ++ [w]) :
    (∀ i, i < posL t (findI t p) w → i < t.length → pless (pathL t i) (p ++ [w]) = true) ∧ (∀ i, posL t (findI t p) w ≤ i → i < t.length → pless (p ++ [w]) (pathL t i) = true) := by
  obtain ⟨hu, hp⟩ := ho.up h
  have hnew : ∀ c, c < t.length → underL t c = findI t p → wd t c ≠ w := fun c hc hcu e => hn c hc (by rw [path_under t c, hcu, hp, e])
  unfold posL
  cases hf : (kidsL t (findI t p)).find? fun k => Op.bytesLess w (wd t k) with
  | some k =>
    obtain ⟨a, b, e, hx⟩ := find_first hf
    have hkm : k ∈ kidsL t (findI t p) := List.mem_of_find?_eq_some hf
    obtain ⟨hk1, hk2⟩ := (mem_kids t _ k).1 hkm
    have hkw : Op.bytesLess w (wd t k) = true := by simpa using List.find?_some hf
    have := h.put_ahead hu hk1 hk2 hkw (fun c hck hcu => by
      have hcm : c ∈ kidsL t (findI t p) := (mem_kids t _ c).2 ⟨by omega, hcu⟩
      have hs := kids_sorted t (findI t p)
      rw [e] at hcm hs
      have hca : c ∈ a := by
        rcases List.mem_append.1 hcm with h1 | h1
        · exact h1
        · rcases List.mem_cons.1 h1 with h1 | h1
          · omega
          · have := (List.pairwise_cons.1 (List.pairwise_append.1 hs).2.1).1 c h1; omega
      have h1 := hx c hca
      rcases less_tri (wd t c) w with h2 | h2 | h2
      · exact h2
      · exact absurd h2 (hnew c (by omega) hcu)
      · rw [h1] at h2; cases h2)
    rw [hp] at this
    exact this
  | none =>
    have := h.put_end hu (w := w) (fun c hc hcu => by
      have h1 := List.find?_eq_none.1 hf c ((mem_kids t _ c).2 ⟨hc, hcu⟩)
      rcases less_tri (wd t c) w with h2 | h2 | h2
      · exact h2
      · exact absurd h2 (hnew c hc hcu)
      · exact absurd h2 h1)
    rw [hp] at this
    exact this
/-- A tree with one line more is a tree, and has one path more. -/
theorem RightN.putL {N : Nat} {t : List Ln} (h : RightN N t) {p : Pth} (ho : Open t p) {w : List UInt8} {m : Int} (hn : ∀ i, i < t.length → pathL t i ≠ p ++ [w]) (h200 : t.length < N) (hdeep : p.length < 16) (hw : w.length ≤ 40) (hm : 0 ≤ m ∧ m ≤ 3) :
    RightN N (putL t p w m) ∧ ∀ x, x ∈ entries (T.putL t p w m) ↔ x = (p ++ [w], m) ∨ x ∈ entries t := by
  obtain ⟨h1, h2⟩ := h.put_pos ho hn
  obtain ⟨r1, r2⟩ := h.put (at' := posL t (findI t p) w) (x := (p ++ [w], m)) h200 h1 h2 (by simp) (by simp; omega) (by rw [last_snoc]; exact hw) hm (fun q v e hq => by
    obtain ⟨e1, _⟩ := List.append_inj' e rfl
    rcases ho with rfl | ho
    · exact absurd e1.symm hq
    · rw [← e1]; exact ho)
  refine ⟨r1, fun x => ?_⟩
  unfold T.putL
  rw [r2, mem_ins]
theorem putL_len (t : List Ln) (p : Pth) (w : List UInt8) (m : Int) : (putL t p w m).length = t.length + 1 := by
  unfold putL putT; rw [List.length_append, List.length_cons, List.length_take, List.length_drop]; omega
end Go.Proofs.YtfcikfohmehmkaaGreatDoor.T

namespace Go.Proofs.YtfcikfohmehmkaaGreatDoor.S
open T (Ln Pth at_ dp wd RightT pathL pathI underL findI putL entries)
open W (Tok)

inductive Mode where
  | start
  | marks (m : Int)
  | named (p : Pth)
structure PSt where
  mode : Mode
  t : List Ln
  path : Pth
end Go.Proofs.YtfcikfohmehmkaaGreatDoor.S

namespace Go.Proofs.YtfcikfohmehmkaaGreatDoor.S
open T (Ln Pth at_ dp wd RightT pathL pathI underL findI putL entries)
open W (Tok)

theorem right_nil : RightT [] := ⟨by simp, fun i h => by simp at h, fun i h => by simp at h, fun i h => by simp at h, fun h => by simp at h, fun i h => by simp at h, fun i k _ h => by simp at h⟩
end Go.Proofs.YtfcikfohmehmkaaGreatDoor.S

namespace Go.Proofs.YtfcikfohmehmkaaGreatDoor.S
open T (Ln Pth at_ dp wd RightT pathL pathI underL findI putL entries)
open W (Tok)

/-- What a reader holds that keeps whole paths. -/
structure CSt where
  found : List (Pth × Int)
  path : Pth
  named : Bool
  mark : Int
/-- Is the bit among the marks? -/
def hasBit (m b : Int) : Bool := decide ((b = 1 ∧ m % 2 = 1) ∨ (b = 2 ∧ 1 < m))
def hasP (l : List (Pth × Int)) (p : Pth) : Bool := l.any fun f => decide (f.1 = p)
structure RelP (p : PSt) (c : CSt) : Prop where
  mem : ∀ x, x ∈ entries p.t ↔ x ∈ c.found
  len : c.found.length = p.t.length
  once : c.found.Pairwise fun a b => a.1 ≠ b.1
  mode : match p.mode with
    | .start => c.named = false ∧ c.mark = 0 ∧ c.path = p.path
    | .marks m => c.named = false ∧ c.mark = m ∧ 0 < m ∧ c.path = p.path
    | .named q => c.named = true ∧ c.mark = 0 ∧ c.path = q ∧ ∃ w, q = p.path ++ [w]
end Go.Proofs.YtfcikfohmehmkaaGreatDoor.S

namespace Go.Proofs.YtfcikfohmehmkaaGreatDoor.S
open T (Ln Pth at_ dp wd RightT pathL pathI underL findI putL entries)
open W (Tok)

/-! places -/
/-! counts -/
def one (a b : Int) : Nat := if a = b then 1 else 0
end Go.Proofs.YtfcikfohmehmkaaGreatDoor.S
