/-
  Plain definitions and laws for layers 1 and 2 (words, tokens), without the program. No conditions but where a law says so.
-/
import Derived.Lib.Bytealg
import Derived.Lib.Strings

namespace Go.Proofs.Ytkifapbiimlafaa.W

/-- May a byte stand in a plain word? -/
def plainB (c : UInt8) : Bool :=
  decide (97 ≤ c.toNat ∧ c.toNat ≤ 122 ∨ 65 ≤ c.toNat ∧ c.toNat ≤ 90 ∨ 48 ≤ c.toNat ∧ c.toNat ≤ 57 ∨ c.toNat = 45 ∨ c.toNat = 95 ∨ c.toNat = 46 ∨ c.toNat = 47 ∨ c.toNat = 58 ∨ c.toNat = 42)
/-- Does a byte stand for itself between two quotes (or need a backslash)? -/
def shownB (c : UInt8) : Bool := decide (32 ≤ c.toNat ∧ c.toNat ≤ 126)
def allPlainL (l : List UInt8) : Bool := l.all plainB && !l.isEmpty
def inactiveL : List UInt8 := [105, 110, 97, 99, 116, 105, 118, 101, 58]
def protectL : List UInt8 := [112, 114, 111, 116, 101, 99, 116, 58]
def reservedL (l : List UInt8) : Bool := l == inactiveL || l == protectL || Lib.hasPrefix l [47, 42]
def bareL (l : List UInt8) : Bool := allPlainL l && !reservedL l
def plainL (l : List UInt8) : Bool := decide (l.length ≤ 40) && bareL l
def hexD (n : Nat) : UInt8 := if n < 10 then (48 + n).toUInt8 else (87 + n).toUInt8
/-- A byte, as it is written between two quotes. -/
def encB (c : UInt8) : List UInt8 :=
  if c == 34 || c == 92 then [92, c] else if shownB c then [c] else [92, 120, hexD (c.toNat / 16), hexD (c.toNat % 16)]
def encL (l : List UInt8) : List UInt8 := l.flatMap encB
def quotedL (l : List UInt8) : List UInt8 := 34 :: (encL l ++ [34])
def quoteL (l : List UInt8) : List UInt8 := if bareL l then l else quotedL l

/-- What a Bool function says of each of the 256 bytes it says of every byte. -/
theorem byte_all (p : UInt8 → Bool) (h : (List.range 256).all (fun n => p n.toUInt8) = true) (c : UInt8) : p c = true := by
  have hc : c.toNat < 256 := c.toNat_lt
  have := List.all_eq_true.1 h c.toNat (List.mem_range.2 hc)
  simpa using this
theorem plainB_idx (c : UInt8) (h1 : ¬ (97 ≤ c.toNat ∧ c.toNat ≤ 122)) (h2 : ¬ (65 ≤ c.toNat ∧ c.toNat ≤ 90)) (h3 : ¬ (48 ≤ c.toNat ∧ c.toNat ≤ 57)) : plainB c = decide (0 ≤ Lib.indexByte [45, 95, 46, 47, 58, 42] c) := by
  have := byte_all (fun c => decide (¬ (97 ≤ c.toNat ∧ c.toNat ≤ 122) → ¬ (65 ≤ c.toNat ∧ c.toNat ≤ 90) → ¬ (48 ≤ c.toNat ∧ c.toNat ≤ 57) → plainB c = decide (0 ≤ Lib.indexByte [45, 95, 46, 47, 58, 42] c))) (by decide +kernel) c
  exact (of_decide_eq_true this) h1 h2 h3
theorem plainB_of {c : UInt8} (h : 97 ≤ c.toNat ∧ c.toNat ≤ 122 ∨ 65 ≤ c.toNat ∧ c.toNat ≤ 90 ∨ 48 ≤ c.toNat ∧ c.toNat ≤ 57) : plainB c = true := by
  unfold plainB; simp; omega
theorem shown_yes {c : UInt8} (h : (32 : Int) ≤ c.toNat) : shownB c = decide ((c.toNat : Int) ≤ 126) := by
  unfold shownB; rw [Bool.eq_iff_iff]; simp; omega
theorem shown_no {c : UInt8} (h : (c.toNat : Int) < 32) : shownB c = false := by
  unfold shownB; simp; omega
theorem take_snoc (s : ByteArray) (k : Nat) (h : k < s.size) : s.data.toList.take (k + 1) = s.data.toList.take k ++ [s[k]] := by
  rw [List.take_succ_eq_append_getElem (by simpa using h)]; rfl
theorem all_snoc {p : UInt8 → Bool} (s : ByteArray) (k : Nat) (h : k < s.size) (h1 : (s.data.toList.take k).all p = true) (h2 : p s[k] = true) : (s.data.toList.take (k + 1)).all p = true := by
  rw [take_snoc s k h, List.all_append, h1]; simp [h2]
theorem all_miss {p : UInt8 → Bool} (s : ByteArray) (k : Nat) (h : k < s.size) (h2 : p s[k] = false) : s.data.toList.all p = false := by
  rw [List.all_eq_false]
  exact ⟨s[k], by simp [ByteArray.getElem_eq_getElem_data], by simp [h2]⟩
theorem allPlain_miss (s : ByteArray) (k : Nat) (h : k < s.size) (h2 : plainB s[k] = false) : allPlainL s.data.toList = false := by
  unfold allPlainL; rw [all_miss s k h h2]; rfl
theorem allPlain_all (s : ByteArray) (k : Nat) (h : s.size ≤ k) (h1 : (s.data.toList.take k).all plainB = true) : allPlainL s.data.toList = decide (0 < s.size) := by
  unfold allPlainL
  rw [List.take_of_length_le (by simpa using h)] at h1
  rw [h1]
  have hl : s.size = s.data.toList.length := Lib.size_eq s
  rw [hl]
  cases s.data.toList <;> simp
theorem prefix_yes (s p : ByteArray) (h : p.size ≤ s.size) : ((s.extract 0 p.size).toList == p.toList) = Lib.hasPrefix s.data.toList p.data.toList := by
  rw [← Lib.hasPrefix_raw]; simp [h]
theorem prefix_no (s p : ByteArray) (h : ¬ p.size ≤ s.size) : false = Lib.hasPrefix s.data.toList p.data.toList := by
  rw [← Lib.hasPrefix_raw]; simp [h]
theorem reserved_a (s : ByteArray) (h : s.toList = [105, 110, 97, 99, 116, 105, 118, 101, 58]) : reservedL s.data.toList = true := by
  rw [Lib.toList_data] at h; simp [reservedL, inactiveL, h]
theorem reserved_b (s : ByteArray) (h : s.toList = [112, 114, 111, 116, 101, 99, 116, 58]) : reservedL s.data.toList = true := by
  rw [Lib.toList_data] at h; simp [reservedL, protectL, h]
theorem reserved_c (s : ByteArray) (h : ¬ s.toList = [105, 110, 97, 99, 116, 105, 118, 101, 58]) (h2 : ¬ s.toList = [112, 114, 111, 116, 101, 99, 116, 58]) : reservedL s.data.toList = Lib.hasPrefix s.data.toList [47, 42] := by
  rw [Lib.toList_data] at h h2; simp [reservedL, inactiveL, protectL, h, h2]
theorem plain_a (s : ByteArray) (h : s.size ≤ 40) (h1 : allPlainL s.data.toList = true) : (!reservedL s.data.toList) = plainL s.data.toList := by
  rw [Lib.size_eq] at h; simp only [plainL, bareL, h, h1, decide_true, Bool.true_and]
theorem plain_b (s : ByteArray) (h1 : ¬ allPlainL s.data.toList = true) : false = plainL s.data.toList := by
  simp [plainL, bareL, h1]
theorem plain_c (s : ByteArray) (h : 40 < s.size) : false = plainL s.data.toList := by
  rw [Lib.size_eq] at h
  have : ¬ s.data.toList.length ≤ 40 := by omega
  simp only [plainL, this, decide_false, Bool.false_and]
end Go.Proofs.Ytkifapbiimlafaa.W

namespace Go.Proofs.Ytkifapbiimlafaa.W

/-- The bytes from here on, up to the quote that ends, with that. -/
def quotedRun : List UInt8 → Option Nat
  | [] => none
  | [c] => if c.toNat = 34 then some 1 else none
  | c :: d :: l => if c.toNat = 34 then some 1 else if c.toNat = 92 then (quotedRun l).map (· + 2) else (quotedRun (d :: l)).map (· + 1)
def plainRun (l : List UInt8) : Nat := (l.takeWhile plainB).length
/-- The length of the word at the front. -/
def scanD : List UInt8 → Option Nat
  | [] => none
  | c :: r => if c.toNat = 34 then (quotedRun r).map (· + 1) else if plainRun (c :: r) = 0 then none else some (plainRun (c :: r))
def scanL (l : List UInt8) (at_ : Int) : Option Nat := if at_ < 0 then none else (scanD (l.drop at_.toNat)).map (· + at_.toNat)
def optN (o : Option Nat) : Int := match o with | none => 0 | some n => n

/-- The end of a quoted word, from the place k on. -/
def qFrom (l : List UInt8) (k : Nat) : Option Nat := (quotedRun (l.drop k)).map (· + k)

def hexV (c : UInt8) : Int := Lib.indexByte [48, 49, 50, 51, 52, 53, 54, 55, 56, 57, 97, 98, 99, 100, 101, 102] c
def codedD : List UInt8 → Option UInt8
  | h :: l :: _ => if hexV h < 0 ∨ hexV l < 0 then none else some (hexV h * 16 + hexV l).toNat.toUInt8
  | _ => none
/-- What the byte at the front of a quoted text means, and how many bytes say it. -/
def oneD : List UInt8 → Option (UInt8 × Nat)
  | [] => none
  | c :: r => if c.toNat = 34 ∨ shownB c = false then none else if c.toNat ≠ 92 then some (c, 1) else
    match r with
    | [] => none
    | e :: r' => if e.toNat = 34 ∨ e.toNat = 92 then some (e, 2) else if e.toNat = 120 then (codedD r').map (·, 4) else none
def oneC (o : Option (UInt8 × Nat)) : UInt8 := match o with | none => 0 | some p => p.1
def oneN (o : Option (UInt8 × Nat)) : Int := match o with | none => 0 | some p => p.2

def decF : Nat → List UInt8 → Option (List UInt8)
  | 0, _ => some []
  | _ + 1, [] => some []
  | f + 1, c :: r => match oneD (c :: r) with
    | none => none
    | some (b, n) => (decF f ((c :: r).drop n)).map (b :: ·)
def decL (l : List UInt8) : Option (List UInt8) := decF l.length l

def meantL (l : List UInt8) : Option (List UInt8) :=
  if allPlainL l = true then (if reservedL l = true then none else some l)
  else if l.length < 2 ∨ l.head? ≠ some 34 ∨ l.getLast? ≠ some 34 then none
  else decL ((l.drop 1).take (l.length - 2))
/-- The word of a text, and the error's number. -/
def unqL (l : List UInt8) : List UInt8 × Int :=
  match meantL l with
  | none => ([], 2)
  | some s => if 40 < s.length then ([], 5) else (s, 0)

theorem quotedRun_hit (c : UInt8) (l : List UInt8) (h : c.toNat = 34) : quotedRun (c :: l) = some 1 := by
  cases l <;> simp [quotedRun, h]
theorem quotedRun_plain (c : UInt8) (l : List UInt8) (h : c.toNat ≠ 34) (h2 : c.toNat ≠ 92) : quotedRun (c :: l) = (quotedRun l).map (· + 1) := by
  cases l <;> simp [quotedRun, h, h2]
theorem quotedRun_back (c : UInt8) (l : List UInt8) (h2 : c.toNat = 92) : quotedRun (c :: l) = (quotedRun (l.drop 1)).map (· + 2) := by
  cases l <;> simp [quotedRun, h2]
theorem drop_at (s : ByteArray) (k : Nat) (h : k < s.size) : s.data.toList.drop k = s[k] :: s.data.toList.drop (k + 1) := by
  have hl : k < s.data.toList.length := by rw [← Lib.size_eq]; exact h
  rw [List.drop_eq_getElem_cons hl]; rfl
theorem drop_over (s : ByteArray) (k : Nat) (h : s.size ≤ k) : s.data.toList.drop k = [] := by
  apply List.drop_of_length_le; rw [← Lib.size_eq]; exact h
theorem qFrom_hit (s : ByteArray) (k : Nat) (h : k < s.size) (hc : s[k].toNat = 34) : qFrom s.data.toList k = some (k + 1) := by
  unfold qFrom; rw [drop_at s k h, quotedRun_hit _ _ hc]; simp; omega
theorem qFrom_plain (s : ByteArray) (k : Nat) (h : k < s.size) (h1 : s[k].toNat ≠ 34) (h2 : s[k].toNat ≠ 92) : qFrom s.data.toList k = qFrom s.data.toList (k + 1) := by
  unfold qFrom; rw [drop_at s k h, quotedRun_plain _ _ h1 h2]
  cases quotedRun (List.drop (k + 1) s.data.toList) <;> simp; omega
theorem qFrom_back (s : ByteArray) (k : Nat) (h : k < s.size) (h2 : s[k].toNat = 92) : qFrom s.data.toList k = qFrom s.data.toList (k + 2) := by
  unfold qFrom; rw [drop_at s k h, quotedRun_back _ _ h2, List.drop_drop]
  cases quotedRun (List.drop (k + 2) s.data.toList) <;> simp; omega
theorem qFrom_over (s : ByteArray) (k : Nat) (h : s.size ≤ k) : qFrom s.data.toList k = none := by
  unfold qFrom; rw [drop_over s k h]; rfl

theorem scan_neg (l : List UInt8) (a : Int) (h : a < 0) : scanL l a = none := by simp [scanL, h]
theorem scan_over (s : ByteArray) (k : Nat) (h : s.size ≤ k) : scanL s.data.toList k = none := by
  simp [scanL, drop_over s k h, scanD]; 
theorem scan_quote (s : ByteArray) (k : Nat) (h : k < s.size) (hc : s[k].toNat = 34) : scanL s.data.toList k = qFrom s.data.toList (k + 1) := by
  have h0 : ¬ ((k : Int) < 0) := by omega
  simp only [scanL, h0, if_false, Int.toNat_natCast, drop_at s k h, scanD, hc, if_true, qFrom]
  cases quotedRun (List.drop (k + 1) s.data.toList) <;> simp; omega
theorem plainRun_at (s : ByteArray) (k : Nat) (h : k < s.size) (hp : plainB s[k] = true) : plainRun (s.data.toList.drop k) = plainRun (s.data.toList.drop (k + 1)) + 1 := by
  rw [drop_at s k h]; simp [plainRun, hp]
theorem plainRun_stop (s : ByteArray) (k : Nat) (h : k < s.size) (hp : plainB s[k] = false) : plainRun (s.data.toList.drop k) = 0 := by
  rw [drop_at s k h]; simp [plainRun, hp]
theorem plainRun_over (s : ByteArray) (k : Nat) (h : s.size ≤ k) : plainRun (s.data.toList.drop k) = 0 := by
  rw [drop_over s k h]; simp [plainRun]
theorem scan_plain (s : ByteArray) (k : Nat) (h : k < s.size) (hc : s[k].toNat ≠ 34) :
    scanL s.data.toList k = if plainRun (s.data.toList.drop k) = 0 then none else some (k + plainRun (s.data.toList.drop k)) := by
  have h0 : ¬ ((k : Int) < 0) := by omega
  simp only [scanL, h0, if_false, Int.toNat_natCast, drop_at s k h, scanD, hc]
  split <;> simp; omega
theorem hexV_lt (c : UInt8) : -1 ≤ hexV c ∧ hexV c < 16 := by
  have := byte_all (fun c => decide (-1 ≤ hexV c ∧ hexV c < 16)) (by decide +kernel) c
  exact of_decide_eq_true this
theorem enc_esc {c : UInt8} (h : c.toNat = 34 ∨ c.toNat = 92) : encB c = [92, c] := by
  have e : (c == 34 || c == 92) = true := by
    rcases h with h | h
    · have : c = 34 := UInt8.toNat_inj.1 h
      simp [this]
    · have : c = 92 := UInt8.toNat_inj.1 h
      simp [this]
  unfold encB; rw [if_pos e]
theorem enc_no {c : UInt8} (h : ¬ (c.toNat = 34 ∨ c.toNat = 92)) : ¬ (c == 34 || c == 92) = true := by
  intro e
  simp at e
  rcases e with rfl | rfl <;> simp at h
theorem enc_self {c : UInt8} (h : ¬ (c.toNat = 34 ∨ c.toNat = 92)) (h2 : shownB c = true) : encB c = [c] := by
  unfold encB; rw [if_neg (enc_no h), if_pos h2]
theorem enc_hex {c : UInt8} (h : ¬ (c.toNat = 34 ∨ c.toNat = 92)) (h2 : shownB c = false) : encB c = [92, 120, hexD (c.toNat / 16), hexD (c.toNat % 16)] := by
  unfold encB; rw [if_neg (enc_no h), if_neg (by simp [h2])]
theorem shown_back {c : UInt8} (h : c.toNat = 92) : shownB c = true := by unfold shownB; simp; omega
theorem one_bad (s : ByteArray) (k : Nat) (hk : k < s.size) (h : s[k].toNat = 34 ∨ shownB s[k] = false) : oneD (s.data.toList.drop k) = none := by
  rw [drop_at s k hk]; simp only [oneD]; rw [if_pos h]
theorem one_self (s : ByteArray) (k : Nat) (hk : k < s.size) (h : ¬ (s[k].toNat = 34 ∨ shownB s[k] = false)) (h2 : s[k].toNat ≠ 92) : oneD (s.data.toList.drop k) = some (s[k], 1) := by
  rw [drop_at s k hk]; simp only [oneD]; rw [if_neg h, if_pos h2]
theorem one_end (s : ByteArray) (k : Nat) (hk : k < s.size) (hk2 : s.size ≤ k + 1) (h2 : s[k].toNat = 92) : oneD (s.data.toList.drop k) = none := by
  rw [drop_at s k hk, drop_over s (k + 1) hk2]; simp [oneD, h2]
theorem not_bad {c : UInt8} (h2 : c.toNat = 92) : ¬ (c.toNat = 34 ∨ shownB c = false) := by
  rw [shown_back h2]; simp [h2]
theorem one_esc (s : ByteArray) (k : Nat) (hk : k < s.size) (hk2 : k + 1 < s.size) (h2 : s[k].toNat = 92) (h3 : s[k + 1].toNat = 34 ∨ s[k + 1].toNat = 92) : oneD (s.data.toList.drop k) = some (s[k + 1], 2) := by
  rw [drop_at s k hk, drop_at s (k + 1) hk2]; simp only [oneD]; rw [if_neg (not_bad h2), if_neg (by simp [h2]), if_pos h3]
theorem one_hex (s : ByteArray) (k : Nat) (hk : k < s.size) (hk2 : k + 1 < s.size) (h2 : s[k].toNat = 92) (h3 : s[k + 1].toNat = 120) : oneD (s.data.toList.drop k) = (codedD (s.data.toList.drop (k + 2))).map (·, 4) := by
  rw [drop_at s k hk, drop_at s (k + 1) hk2]; simp only [oneD]; rw [if_neg (not_bad h2), if_neg (by simp [h2]), if_neg (by omega), if_pos h3]
theorem one_not (s : ByteArray) (k : Nat) (hk : k < s.size) (hk2 : k + 1 < s.size) (h2 : s[k].toNat = 92) (h3 : s[k + 1].toNat ≠ 34) (h4 : s[k + 1].toNat ≠ 92) (h5 : s[k + 1].toNat ≠ 120) : oneD (s.data.toList.drop k) = none := by
  rw [drop_at s k hk, drop_at s (k + 1) hk2]; simp only [oneD]; rw [if_neg (not_bad h2), if_neg (by simp [h2]), if_neg (by omega), if_neg h5]
theorem coded_short (s : ByteArray) (k : Nat) (h : s.size ≤ k + 1) : codedD (s.data.toList.drop k) = none := by
  have hl : (s.data.toList.drop k).length ≤ 1 := by rw [List.length_drop, ← Lib.size_eq]; omega
  match hd : s.data.toList.drop k with
  | [] => rfl
  | [_] => rfl
  | _ :: _ :: r => rw [hd] at hl; simp at hl
theorem coded_at (s : ByteArray) (k : Nat) (h : k + 1 < s.size) : codedD (s.data.toList.drop k) = if hexV s[k] < 0 ∨ hexV s[k + 1] < 0 then none else some (hexV s[k] * 16 + hexV s[k + 1]).toNat.toUInt8 := by
  rw [drop_at s k (by omega), drop_at s (k + 1) h]; rfl
theorem code_val (c d : UInt8) (h : 0 ≤ hexV c) (h2 : 0 ≤ hexV d) : (((hexV c * 16 + hexV d).toNat.toUInt8).toNat : Int) = hexV c * 16 + hexV d := by
  have h3 := hexV_lt c
  have h4 := hexV_lt d
  simp only [Nat.toUInt8_eq, UInt8.toNat_ofNat']
  omega
theorem quote_plain {l : List UInt8} (h : plainL l = true) : quoteL l = l := by
  unfold quoteL
  have : bareL l = true := by unfold plainL at h; simp only [Bool.and_eq_true] at h; exact h.2
  rw [if_pos this]
theorem quote_quoted (s : ByteArray) (h40 : s.size ≤ 40) (h : plainL s.data.toList = false) : quoteL s.data.toList = quotedL s.data.toList := by
  unfold quoteL
  have : bareL s.data.toList = false := by
    unfold plainL at h
    have h1 : decide (s.data.toList.length ≤ 40) = true := by rw [Lib.size_eq] at h40; exact decide_eq_true h40
    rw [h1, Bool.true_and] at h
    exact h
  rw [if_neg (by simp [this])]
theorem hex_at (n : Nat) (h : n < 16) : (⟨#[48, 49, 50, 51, 52, 53, 54, 55, 56, 57, 97, 98, 99, 100, 101, 102]⟩ : ByteArray)[n]'h = hexD n := by
  have hall : ∀ m : Fin 16, (⟨#[48, 49, 50, 51, 52, 53, 54, 55, 56, 57, 97, 98, 99, 100, 101, 102]⟩ : ByteArray)[m.val]'m.isLt = hexD m.val := by decide +kernel
  exact hall ⟨n, h⟩
theorem hex_list (c : UInt8) (h1 : ((c.toNat : Int) / 16).toNat < 16) (h2 : ((c.toNat : Int) % 16).toNat < 16) :
    [92, 120, (⟨#[48, 49, 50, 51, 52, 53, 54, 55, 56, 57, 97, 98, 99, 100, 101, 102]⟩ : ByteArray)[((c.toNat : Int) / 16).toNat]'h1, (⟨#[48, 49, 50, 51, 52, 53, 54, 55, 56, 57, 97, 98, 99, 100, 101, 102]⟩ : ByteArray)[((c.toNat : Int) % 16).toNat]'h2] =
    [92, 120, hexD (c.toNat / 16), hexD (c.toNat % 16)] := by
  rw [hex_at _ h1, hex_at _ h2]
  have e1 : ((c.toNat : Int) / 16).toNat = c.toNat / 16 := by omega
  have e2 : ((c.toNat : Int) % 16).toNat = c.toNat % 16 := by omega
  rw [e1, e2]
theorem encL_snoc (l : List UInt8) (c : UInt8) : encL (l ++ [c]) = encL l ++ encB c := by simp [encL]
theorem encB_len (c : UInt8) : 1 ≤ (encB c).length ∧ (encB c).length ≤ 4 := by
  unfold encB; split
  · simp
  · split <;> simp
theorem encL_len (l : List UInt8) : l.length ≤ (encL l).length ∧ (encL l).length ≤ 4 * l.length := by
  induction l with
  | nil => simp [encL]
  | cons c l ih =>
    have := encB_len c
    simp only [encL, List.flatMap_cons, List.length_append, List.length_cons] at ih ⊢
    omega
end Go.Proofs.Ytkifapbiimlafaa.W

namespace Go.Proofs.Ytkifapbiimlafaa.W

theorem codedD_len {l : List UInt8} {b : UInt8} (h : codedD l = some b) : 2 ≤ l.length := by
  match l, h with
  | _ :: _ :: r, _ => simp
theorem oneD_pos {l : List UInt8} {b : UInt8} {n : Nat} (h : oneD l = some (b, n)) : 1 ≤ n ∧ n ≤ 4 ∧ n ≤ l.length := by
  match l, h with
  | c :: r, h =>
    simp only [oneD] at h
    split at h
    · cases h
    · split at h
      · injection h with h; injection h with _ h; subst h; simp
      · match r, h with
        | e :: r', h =>
          simp only at h
          split at h
          · injection h with h; injection h with _ h; subst h; simp
          · split at h
            · cases hc : codedD r' with
              | none => rw [hc] at h; cases h
              | some x =>
                have := codedD_len hc
                rw [hc] at h; injection h with h; injection h with _ h; subst h; simp; omega
            · cases h
theorem decF_fuel : ∀ (f g : Nat) (l : List UInt8), l.length ≤ f → l.length ≤ g → decF f l = decF g l
  | 0, g, l, hf, _ => by
    have : l = [] := List.eq_nil_of_length_eq_zero (by omega)
    subst this; cases g <;> rfl
  | f + 1, 0, l, _, hg => by
    have : l = [] := List.eq_nil_of_length_eq_zero (by omega)
    subst this; rfl
  | f + 1, g + 1, [], _, _ => rfl
  | f + 1, g + 1, c :: r, hf, hg => by
    simp only [decF]
    cases h : oneD (c :: r) with
    | none => rfl
    | some p =>
      obtain ⟨b, n⟩ := p
      have hn := oneD_pos h
      simp only []
      rw [decF_fuel f g]
      · simp only [List.length_drop, List.length_cons] at hf ⊢; omega
      · simp only [List.length_drop, List.length_cons] at hg ⊢; omega
theorem decL_nil : decL [] = some [] := rfl
theorem decL_none {l : List UInt8} (hl : l ≠ []) (h : oneD l = none) : decL l = none := by
  match l, hl, h with
  | c :: r, _, h => simp only [decL, List.length_cons, decF, h]
theorem decL_some {l : List UInt8} {b : UInt8} {n : Nat} (h : oneD l = some (b, n)) : decL l = (decL (l.drop n)).map (b :: ·) := by
  match l, h with
  | c :: r, h =>
    have hn := oneD_pos h
    simp only [decL, List.length_cons, decF, h]
    rw [decF_fuel r.length ((c :: r).drop n).length]
    · simp only [List.length_drop, List.length_cons]; omega
    · exact Nat.le_refl _
theorem decL_len : ∀ (f : Nat) (l x : List UInt8), l.length ≤ f → decL l = some x → x.length ≤ l.length
  | f, [], x, _, h => by rw [decL_nil] at h; injection h with h; subst h; simp
  | 0, c :: r, x, hf, _ => by simp at hf
  | f + 1, c :: r, x, hf, h => by
    cases ho : oneD (c :: r) with
    | none => rw [decL_none (by simp) ho] at h; cases h
    | some p =>
      obtain ⟨b, n⟩ := p
      have hn := oneD_pos ho
      rw [decL_some ho] at h
      cases hd : decL ((c :: r).drop n) with
      | none => rw [hd] at h; cases h
      | some y =>
        rw [hd] at h
        injection h with h
        subst h
        have := decL_len f _ y (by simp only [List.length_drop, List.length_cons] at hf ⊢; omega) hd
        simp only [List.length_drop, List.length_cons] at this ⊢
        omega
theorem map_acc (o : Option (List UInt8)) (acc : List UInt8) (b : UInt8) : (o.map (b :: ·)).map (acc ++ ·) = o.map ((acc ++ [b]) ++ ·) := by
  cases o <;> simp
theorem head_at (s : ByteArray) (h : 0 < s.size) : s.data.toList.head? = some s[0] := by
  have := drop_at s 0 h
  rw [List.drop_zero] at this
  rw [this]; rfl
theorem last_at (s : ByteArray) (h : 0 < s.size) : s.data.toList.getLast? = some (s[s.size - 1]'(by omega)) := by
  have h1 : s.data.toList.length - 1 < s.data.toList.length := by rw [← Lib.size_eq]; omega
  rw [List.getLast?_eq_getElem?, List.getElem?_eq_getElem h1]
  rfl
theorem byte_eq {c : UInt8} {n : Nat} (hn : n < 256) : some c = some (UInt8.ofNat n) ↔ c.toNat = n := by
  constructor
  · intro h; injection h with h; subst h; simp; omega
  · intro h; congr 1; apply UInt8.toNat_inj.1; simp; omega
theorem meant_plain (s : ByteArray) (h : allPlainL s.data.toList = true) : meantL s.data.toList = if reservedL s.data.toList = true then none else some s.data.toList := by
  unfold meantL; rw [if_pos h]
theorem meant_short (s : ByteArray) (h : allPlainL s.data.toList = false) (h2 : s.size < 2) : meantL s.data.toList = none := by
  unfold meantL; rw [if_neg (by simp [h]), if_pos (Or.inl (by rw [← Lib.size_eq]; exact h2))]
theorem meant_head (s : ByteArray) (h : allPlainL s.data.toList = false) (h2 : 0 < s.size) (h3 : s[0].toNat ≠ 34) : meantL s.data.toList = none := by
  unfold meantL
  rw [if_neg (by simp [h]), if_pos (Or.inr (Or.inl ?_))]
  rw [head_at s h2]
  exact fun e => h3 ((byte_eq (n := 34) (by omega)).1 e)
theorem meant_last (s : ByteArray) (h : allPlainL s.data.toList = false) (h2 : 0 < s.size) (h3 : (s[s.size - 1]'(by omega)).toNat ≠ 34) : meantL s.data.toList = none := by
  unfold meantL
  rw [if_neg (by simp [h]), if_pos (Or.inr (Or.inr ?_))]
  rw [last_at s h2]
  exact fun e => h3 ((byte_eq (n := 34) (by omega)).1 e)
theorem meant_quoted (s : ByteArray) (h : allPlainL s.data.toList = false) (h2 : 2 ≤ s.size) (h3 : (s[0]'(by omega)).toNat = 34) (h4 : (s[s.size - 1]'(by omega)).toNat = 34) : meantL s.data.toList = decL (s.extract 1 (s.size - 1)).data.toList := by
  unfold meantL
  rw [if_neg (by simp [h]), if_neg ?_]
  · rw [Lib.extract_data, ← Lib.size_eq]
    have : s.size - 1 - 1 = s.size - 2 := by omega
    rw [this]
  · rw [← Lib.size_eq, head_at s (by omega), last_at s (by omega)]
    have e1 := (byte_eq (c := s[0]'(by omega)) (n := 34) (by omega)).2 h3
    have e2 := (byte_eq (c := s[s.size - 1]'(by omega)) (n := 34) (by omega)).2 h4
    rintro (h | h | h)
    · omega
    · exact h e1
    · exact h e2
theorem quote_len (l : List UInt8) : l.length ≤ (quoteL l).length ∧ (quoteL l).length ≤ 4 * l.length + 2 := by
  have := encL_len l
  unfold quoteL; split
  · omega
  · simp only [quotedL, List.length_cons, List.length_append, List.length_nil]; omega
theorem unq_none {l : List UInt8} (h : meantL l = none) : unqL l = ([], 2) := by unfold unqL; rw [h]
theorem unq_long {l y : List UInt8} (h : meantL l = some y) (h2 : 40 < y.length) : unqL l = ([], 5) := by unfold unqL; rw [h]; simp only [if_pos h2]
theorem unq_ok {l y : List UInt8} (h : meantL l = some y) (h2 : ¬ 40 < y.length) : unqL l = (y, 0) := by unfold unqL; rw [h]; simp only [if_neg h2]
end Go.Proofs.Ytkifapbiimlafaa.W

namespace Go.Proofs.Ytkifapbiimlafaa.W

theorem plainB_range {c : UInt8} (h : plainB c = true) : 42 ≤ c.toNat ∧ c.toNat ≤ 122 ∧ c.toNat ≠ 92 := by
  unfold plainB at h; have := of_decide_eq_true h; omega
theorem hexD_facts (n : Nat) (h : n < 16) : hexV (hexD n) = n ∧ (hexD n).toNat ≠ 34 ∧ (hexD n).toNat ≠ 92 ∧ 48 ≤ (hexD n).toNat ∧ (hexD n).toNat ≤ 102 := by
  have hall : ∀ m : Fin 16, hexV (hexD m.val) = m.val ∧ (hexD m.val).toNat ≠ 34 ∧ (hexD m.val).toNat ≠ 92 ∧ 48 ≤ (hexD m.val).toNat ∧ (hexD m.val).toNat ≤ 102 := by decide +kernel
  exact hall ⟨n, h⟩
theorem code_back (c : UInt8) : ((((c.toNat / 16 : Nat) : Int)) * 16 + ((c.toNat % 16 : Nat) : Int)).toNat.toUInt8 = c := by
  have h : ((((c.toNat / 16 : Nat) : Int)) * 16 + ((c.toNat % 16 : Nat) : Int)).toNat = c.toNat := by omega
  rw [h]; simp
theorem oneD_enc (c : UInt8) (r : List UInt8) : oneD (encB c ++ r) = some (c, (encB c).length) := by
  by_cases h : c.toNat = 34 ∨ c.toNat = 92
  · rw [enc_esc h]
    simp only [List.cons_append, List.nil_append, oneD, List.length_cons, List.length_nil]
    have h92 : ((92 : UInt8).toNat) = 92 := rfl
    rw [if_neg (not_bad h92), if_neg (by simp), if_pos h]
  · cases hs : shownB c with
    | true =>
      rw [enc_self h hs]
      simp only [List.cons_append, List.nil_append, oneD, List.length_cons, List.length_nil]
      rw [if_neg (by simp only [hs]; simp; omega), if_pos (by omega)]
    | false =>
      rw [enc_hex h hs]
      have hc : c.toNat < 256 := c.toNat_lt
      have h1 := hexD_facts (c.toNat / 16) (by omega)
      have h2 := hexD_facts (c.toNat % 16) (by omega)
      simp only [List.cons_append, List.nil_append, oneD, List.length_cons, List.length_nil]
      have h92 : ((92 : UInt8).toNat) = 92 := rfl
      have h120 : ((120 : UInt8).toNat) = 120 := rfl
      rw [if_neg (not_bad h92), if_neg (by simp), if_neg (by omega), if_pos h120]
      simp only [codedD, h1.1, h2.1]
      rw [if_neg (by omega), code_back]
      rfl
theorem decL_enc : ∀ l : List UInt8, decL (encL l) = some l
  | [] => rfl
  | c :: l => by
    have e : encL (c :: l) = encB c ++ encL l := by simp [encL]
    rw [e, decL_some (oneD_enc c _), List.drop_left, decL_enc l]
    rfl
theorem meant_quote (l : List UInt8) : meantL (quoteL l) = some l := by
  unfold quoteL
  cases hb : bareL l with
  | true =>
    rw [if_pos rfl]
    unfold bareL at hb
    simp only [Bool.and_eq_true, Bool.not_eq_true'] at hb
    unfold meantL
    rw [if_pos hb.1, if_neg (by simp [hb.2])]
  | false =>
    rw [if_neg (by simp)]
    have h34 : plainB 34 = false := by decide
    unfold meantL
    have hl : (quotedL l).getLast? = some 34 := by unfold quotedL; rw [← List.cons_append, List.getLast?_append]; rfl
    have hh : (quotedL l).head? = some 34 := rfl
    have hn : 2 ≤ (quotedL l).length := by simp [quotedL]
    rw [if_neg (by simp [allPlainL, quotedL, h34]), if_neg (by rw [hl, hh]; rintro (h | h | h); omega; exact h rfl; exact h rfl)]
    have : (List.take ((quotedL l).length - 2) (List.drop 1 (quotedL l))) = encL l := by
      simp [quotedL]
    rw [this, decL_enc]
theorem unq_quote (l : List UInt8) (h : l.length ≤ 40) : unqL (quoteL l) = (l, 0) := unq_ok (meant_quote l) (by omega)
theorem quote_inj {a b : List UInt8} (h : quoteL a = quoteL b) : a = b := by
  have h1 := meant_quote a
  rw [h, meant_quote b] at h1
  injection h1 with h1
  exact h1.symm

theorem quotedRun_enc (c : UInt8) (r : List UInt8) : quotedRun (encB c ++ r) = (quotedRun r).map (· + (encB c).length) := by
  by_cases h : c.toNat = 34 ∨ c.toNat = 92
  · rw [enc_esc h]
    simp only [List.cons_append, List.nil_append, List.length_cons, List.length_nil]
    rw [quotedRun_back _ _ rfl]; rfl
  · cases hs : shownB c with
    | true =>
      rw [enc_self h hs]
      simp only [List.cons_append, List.nil_append, List.length_cons, List.length_nil]
      rw [quotedRun_plain _ _ (by omega) (by omega)]
    | false =>
      rw [enc_hex h hs]
      have hc : c.toNat < 256 := c.toNat_lt
      have h1 := hexD_facts (c.toNat / 16) (by omega)
      have h2 := hexD_facts (c.toNat % 16) (by omega)
      simp only [List.cons_append, List.nil_append, List.length_cons, List.length_nil]
      rw [quotedRun_back _ _ rfl, List.drop_succ_cons, List.drop_zero, quotedRun_plain _ _ h1.2.1 h1.2.2.1, quotedRun_plain _ _ h2.2.1 h2.2.2.1]
      cases quotedRun r <;> simp
theorem quotedRun_encL : ∀ (l r : List UInt8), quotedRun (encL l ++ 34 :: r) = some ((encL l).length + 1)
  | [], r => by simp only [encL, List.flatMap_nil, List.nil_append]; rw [quotedRun_hit _ _ rfl]; rfl
  | c :: l, r => by
    have e : encL (c :: l) = encB c ++ encL l := by simp [encL]
    rw [e, List.append_assoc, quotedRun_enc, quotedRun_encL l r, List.length_append]
    simp; omega
theorem plainRun_all (l r : List UInt8) (h : l.all plainB = true) (hr : r = [] ∨ ∃ r', r = 32 :: r') : plainRun (l ++ r) = l.length := by
  unfold plainRun
  rw [List.takeWhile_append_of_pos (fun a ha => List.all_eq_true.1 h a ha)]
  rcases hr with rfl | ⟨r', rfl⟩
  · simp
  · have : plainB 32 = false := by decide
    simp [this]
theorem scanD_quote (l r : List UInt8) (hr : r = [] ∨ ∃ r', r = 32 :: r') : scanD (quoteL l ++ r) = some (quoteL l).length := by
  unfold quoteL
  cases hb : bareL l with
  | true =>
    rw [if_pos rfl]
    unfold bareL allPlainL at hb
    simp only [Bool.and_eq_true, Bool.not_eq_true'] at hb
    match l, hb with
    | c :: l', hb =>
      have hrun := plainRun_all (c :: l') r hb.1.1 hr
      have hc := plainB_range (List.all_eq_true.1 hb.1.1 c (by simp))
      simp only [List.cons_append, scanD] at hrun ⊢
      rw [if_neg (by omega), hrun, if_neg (by simp)]
  | false =>
    rw [if_neg (by simp)]
    have e : quotedL l ++ r = 34 :: (encL l ++ 34 :: r) := by simp [quotedL]
    rw [e]
    simp only [scanD]
    rw [if_pos (show (34 : UInt8).toNat = 34 from rfl), quotedRun_encL]
    simp [quotedL]
theorem scanL_quote (l : List UInt8) : scanL (quoteL l) 0 = some (quoteL l).length := by
  have := scanD_quote l [] (.inl rfl)
  rw [List.append_nil] at this
  simp [scanL, this]
theorem scanL_row (a l r : List UInt8) : scanL (a ++ (quoteL l ++ 32 :: r)) a.length = some (a.length + (quoteL l).length) := by
  have := scanD_quote l (32 :: r) (.inr ⟨r, rfl⟩)
  have h0 : ¬ ((a.length : Int) < 0) := by omega
  simp only [scanL, h0, if_false, Int.toNat_natCast, List.drop_left, this]
  simp; omega

theorem encB_bytes (c b : UInt8) (h : b ∈ encB c) : 32 ≤ b.toNat ∧ b.toNat ≤ 126 := by
  by_cases hq : c.toNat = 34 ∨ c.toNat = 92
  · rw [enc_esc hq] at h
    simp at h
    rcases h with rfl | rfl
    · simp
    · omega
  · cases hs : shownB c with
    | true =>
      rw [enc_self hq hs] at h
      simp at h
      subst h
      unfold shownB at hs
      exact of_decide_eq_true hs
    | false =>
      rw [enc_hex hq hs] at h
      have hc : c.toNat < 256 := c.toNat_lt
      have h1 := hexD_facts (c.toNat / 16) (by omega)
      have h2 := hexD_facts (c.toNat % 16) (by omega)
      simp at h
      rcases h with rfl | rfl | rfl | rfl
      · simp
      · simp
      · omega
      · omega
theorem quote_bytes (l : List UInt8) (b : UInt8) (h : b ∈ quoteL l) : 32 ≤ b.toNat ∧ b.toNat ≤ 126 := by
  unfold quoteL at h
  cases hb : bareL l with
  | true =>
    rw [if_pos hb] at h
    unfold bareL allPlainL at hb
    simp only [Bool.and_eq_true] at hb
    have := plainB_range (List.all_eq_true.1 hb.1.1 b h)
    omega
  | false =>
    rw [if_neg (by simp [hb])] at h
    simp only [quotedL, encL, List.mem_cons, List.mem_append, List.mem_flatMap, List.not_mem_nil, or_false] at h
    rcases h with rfl | ⟨c, _, h⟩ | rfl
    · simp
    · exact encB_bytes c b h
    · simp
theorem encB_quote (c : UInt8) (i : Nat) (b : UInt8) (h : (encB c)[i]? = some b) (hb : b.toNat = 34) : 0 < i ∧ (encB c)[i - 1]? = some 92 := by
  by_cases hq : c.toNat = 34 ∨ c.toNat = 92
  · rw [enc_esc hq] at h ⊢
    match i, h with
    | 0, h => simp at h; subst h; simp at hb
    | 1, h => simp
  · cases hs : shownB c with
    | true =>
      rw [enc_self hq hs] at h
      match i, h with
      | 0, h => simp at h; subst h; omega
    | false =>
      rw [enc_hex hq hs] at h
      have hc : c.toNat < 256 := c.toNat_lt
      have h1 := hexD_facts (c.toNat / 16) (by omega)
      have h2 := hexD_facts (c.toNat % 16) (by omega)
      match i, h with
      | 0, h => simp at h; subst h; simp at hb
      | 1, h => simp at h; subst h; simp at hb
      | 2, h => simp at h; subst h; omega
      | 3, h => simp at h; subst h; omega
theorem encL_quote : ∀ (l : List UInt8) (i : Nat) (b : UInt8), (encL l)[i]? = some b → b.toNat = 34 → 0 < i ∧ (encL l)[i - 1]? = some 92
  | [], i, b, h, _ => by simp [encL] at h
  | c :: l, i, b, h, hb => by
    have e : encL (c :: l) = encB c ++ encL l := by simp [encL]
    rw [e] at h ⊢
    by_cases hi : i < (encB c).length
    · rw [List.getElem?_append_left hi] at h
      have := encB_quote c i b h hb
      rw [List.getElem?_append_left (by omega)]
      exact this
    · rw [List.getElem?_append_right (by omega)] at h
      have := encL_quote l _ b h hb
      rw [List.getElem?_append_right (by omega)]
      refine ⟨by omega, ?_⟩
      rw [← this.2]; congr 1; omega
/-- A quote inside what is written has a backslash ahead. -/
theorem quote_inside (l : List UInt8) (i : Nat) (b : UInt8) (h : (quoteL l)[i]? = some b) (hb : b.toNat = 34) (h0 : 0 < i) (h1 : i < (quoteL l).length - 1) : (quoteL l)[i - 1]? = some 92 := by
  unfold quoteL at *
  cases hbr : bareL l with
  | true =>
    rw [if_pos hbr] at h
    have hm : b ∈ l := List.mem_of_getElem? h
    unfold bareL allPlainL at hbr
    simp only [Bool.and_eq_true] at hbr
    have := plainB_range (List.all_eq_true.1 hbr.1.1 b hm)
    omega
  | false =>
    rw [if_neg (by simp [hbr])] at h h1 ⊢
    simp only [quotedL, List.length_cons, List.length_append, List.length_nil] at h1
    match i, h0 with
    | j + 1, _ =>
      simp only [quotedL, List.getElem?_cons_succ] at h
      rw [List.getElem?_append_left (by omega)] at h
      have := encL_quote l j b h hb
      match j, this with
      | k + 1, this =>
        simp only [quotedL, Nat.add_sub_cancel, List.getElem?_cons_succ]
        rw [List.getElem?_append_left (by omega)]
        exact this.2
theorem quote_head (l : List UInt8) : (quoteL l).head? = some 34 ↔ bareL l = false := by
  unfold quoteL
  cases hbr : bareL l with
  | true =>
    rw [if_pos rfl]
    unfold bareL allPlainL at hbr
    simp only [Bool.and_eq_true] at hbr
    match l, hbr with
    | c :: l', hbr =>
      have := plainB_range (List.all_eq_true.1 hbr.1.1 c (by simp))
      constructor
      · intro h; simp at h; subst h; simp at this
      · intro h; cases h
  | false => simp [quotedL]
theorem quote_pos (l : List UInt8) : 0 < (quoteL l).length := by
  unfold quoteL
  cases hbr : bareL l with
  | true =>
    rw [if_pos rfl]
    unfold bareL allPlainL at hbr
    match l, hbr with
    | c :: l', _ => simp
    | [], h => simp at h
  | false => rw [if_neg (by simp)]; simp [quotedL]

theorem oneD_short {l : List UInt8} {b : UInt8} {n : Nat} (h : oneD l = some (b, n)) : (encB b).length ≤ n := by
  match l, h with
  | c :: r, h =>
    simp only [oneD] at h
    split at h
    · cases h
    · rename_i hbad
      split at h
      · rename_i h92
        injection h with h; injection h with h1 h2; subst h1; subst h2
        have hs : shownB c = true := by cases hs : shownB c; exact absurd (Or.inr hs) hbad; rfl
        rw [enc_self (by omega) hs]; simp
      · match r, h with
        | e :: r', h =>
          simp only at h
          split at h
          · rename_i he
            injection h with h; injection h with h1 h2; subst h1; subst h2
            rw [enc_esc he]; simp
          · split at h
            · cases hc : codedD r' with
              | none => rw [hc] at h; cases h
              | some x =>
                rw [hc] at h; injection h with h; injection h with h1 h2; subst h1; subst h2
                exact (encB_len x).2
            · cases h
theorem decL_enc_len : ∀ (f : Nat) (l x : List UInt8), l.length ≤ f → decL l = some x → (encL x).length ≤ l.length
  | f, [], x, _, h => by rw [decL_nil] at h; injection h with h; subst h; simp [encL]
  | 0, c :: r, x, hf, _ => by simp at hf
  | f + 1, c :: r, x, hf, h => by
    cases ho : oneD (c :: r) with
    | none => rw [decL_none (by simp) ho] at h; cases h
    | some p =>
      obtain ⟨b, n⟩ := p
      have hn := oneD_pos ho
      have hsh := oneD_short ho
      rw [decL_some ho] at h
      cases hd : decL ((c :: r).drop n) with
      | none => rw [hd] at h; cases h
      | some y =>
        rw [hd] at h
        injection h with h
        subst h
        have := decL_enc_len f _ y (by simp only [List.length_drop, List.length_cons] at hf ⊢; omega) hd
        have e : encL (b :: y) = encB b ++ encL y := by simp [encL]
        rw [e]
        simp only [List.length_drop, List.length_cons, List.length_append] at this hn ⊢
        omega
theorem unq_len {t s : List UInt8} (h : unqL t = (s, 0)) : s.length ≤ 40 ∧ (quoteL s).length ≤ t.length + 2 := by
  unfold unqL at h
  cases hm : meantL t with
  | none => rw [hm] at h; injection h with _ h; omega
  | some y =>
    rw [hm] at h
    simp only at h
    split at h
    · injection h with _ h; omega
    · injection h with h; subst h
      refine ⟨by omega, ?_⟩
      unfold meantL at hm
      split at hm
      · rename_i hp
        split at hm
        · cases hm
        · rename_i hr
          injection hm with hm; subst hm
          have : bareL t = true := by unfold bareL; simp [hp, hr]
          unfold quoteL; rw [if_pos this]; omega
      · split at hm
        · cases hm
        · rename_i hsh
          have h1 := decL_enc_len _ _ y (Nat.le_refl _) hm
          have h2 := encL_len y
          have h3 : 2 ≤ t.length := by omega
          rw [List.length_take, List.length_drop] at h1
          unfold quoteL; split
          · omega
          · simp only [quotedL, List.length_cons, List.length_append, List.length_nil]; omega
theorem unq_err {t : List UInt8} (h : (unqL t).2 ≠ 0) : (unqL t).1 = [] := by
  unfold unqL at *
  cases hm : meantL t with
  | none => rfl
  | some y =>
    rw [hm] at h
    simp only at h ⊢
    split
    · rfl
    · rename_i h40; rw [if_neg h40] at h; exact absurd rfl h
theorem hexV_eq (c : UInt8) : hexV c = if 48 ≤ c.toNat ∧ c.toNat ≤ 57 then (c.toNat : Int) - 48 else if 97 ≤ c.toNat ∧ c.toNat ≤ 102 then (c.toNat : Int) - 87 else -1 := by
  have := byte_all (fun c => decide (hexV c = if 48 ≤ c.toNat ∧ c.toNat ≤ 57 then (c.toNat : Int) - 48 else if 97 ≤ c.toNat ∧ c.toNat ≤ 102 then (c.toNat : Int) - 87 else -1)) (by decide +kernel) c
  exact of_decide_eq_true this
theorem hexD_eq (n : Nat) (h : n < 16) : ((hexD n).toNat : Int) = if n < 10 then 48 + (n : Int) else 97 + (n : Int) - 10 := by
  have hall : ∀ m : Fin 16, ((hexD m.val).toNat : Int) = if m.val < 10 then 48 + (m.val : Int) else 97 + (m.val : Int) - 10 := by decide +kernel
  exact hall ⟨n, h⟩
theorem pre_short (s : ByteArray) (h : s.size ≤ 1) : Lib.hasPrefix s.data.toList [47, 42] = false := by
  rw [Lib.size_eq] at h
  match hl : s.data.toList with
  | [] => rfl
  | [c] => simp [Lib.hasPrefix, List.isPrefixOf]
  | _ :: _ :: r => rw [hl] at h; simp at h
theorem pre_at (s : ByteArray) (h : 1 < s.size) : Lib.hasPrefix s.data.toList [47, 42] = (decide ((s[0]'(by omega)).toNat = 47) && decide ((s[1]'(by omega)).toNat = 42)) := by
  have e : s.data.toList = s[0]'(by omega) :: s[1]'(by omega) :: s.data.toList.drop 2 := by
    have h0 := drop_at s 0 (by omega)
    have h1 := drop_at s 1 (by omega)
    rw [List.drop_zero] at h0
    rw [h0, h1]
    simp
  rw [e]
  rw [Bool.eq_iff_iff]
  have h47 : s[0]'(by omega) = 47 ↔ (s[0]'(by omega)).toNat = 47 := ⟨fun h => by rw [h]; rfl, fun h => UInt8.toNat_inj.1 h⟩
  have h42 : s[1]'(by omega) = 42 ↔ (s[1]'(by omega)).toNat = 42 := ⟨fun h => by rw [h]; rfl, fun h => UInt8.toNat_inj.1 h⟩
  simp [Lib.hasPrefix, List.isPrefixOf]
  rw [eq_comm, h47, eq_comm (a := (42 : UInt8)), h42]
theorem bare_empty (s : ByteArray) (h : s.data.toList = []) : bareL s.data.toList = false := by rw [h]; rfl
theorem bare_res (s : ByteArray) (h : reservedL s.data.toList = true) : bareL s.data.toList = false := by unfold bareL; simp [h]
theorem bare_miss (s : ByteArray) (k : Nat) (h : k < s.size) (h2 : plainB s[k] = false) : bareL s.data.toList = false := by
  unfold bareL; rw [allPlain_miss s k h h2]; rfl
theorem bare_all (s : ByteArray) (k : Nat) (h : s.size ≤ k) (h0 : 0 < s.size) (h1 : (s.data.toList.take k).all plainB = true) (h2 : reservedL s.data.toList = false) : bareL s.data.toList = true := by
  unfold bareL; rw [allPlain_all s k h h1, h2]; simp [h0]
theorem mid_drop (t : ByteArray) (j : Nat) (h : j + 1 < t.size - 1) : (t.extract 1 (t.size - 1)).data.toList.drop j = (t[j + 1]'(by omega)) :: (t.extract (j + 1 + 1) (t.size - 1)).data.toList := by
  rw [Lib.extract_data, Lib.extract_data, List.drop_take, List.drop_drop, Nat.add_comm 1 j, drop_at t (j + 1) (by omega)]
  have : t.size - 1 - 1 - j = (t.size - 1 - (j + 1 + 1)) + 1 := by omega
  rw [this, List.take_succ_cons]
theorem mid_over (t : ByteArray) (j : Nat) (h : ¬ j + 1 < t.size - 1) : (t.extract 1 (t.size - 1)).data.toList.drop j = [] := by
  rw [Lib.extract_data]
  apply List.drop_of_length_le
  rw [List.length_take, List.length_drop, ← Lib.size_eq]; omega
theorem rest_size (t : ByteArray) (a b : Nat) (h : b ≤ t.size) : (t.extract a b).size = b - a := by
  rw [Lib.size_eq, Lib.extract_data, List.length_take, List.length_drop, ← Lib.size_eq]; omega
theorem oneB_none (c : UInt8) (R : ByteArray) (h : c.toNat = 92) (h0 : R.size = 0) : oneD (c :: R.data.toList) = none := by
  have e : R.data.toList = [] := List.eq_nil_of_length_eq_zero (by rw [← Lib.size_eq]; exact h0)
  rw [e]; simp only [oneD]; rw [if_neg (not_bad h), if_neg (by simp [h])]
theorem rest_cons (R : ByteArray) (h : 0 < R.size) : R.data.toList = R[0] :: R.data.toList.drop 1 := by
  have := drop_at R 0 h
  rw [List.drop_zero] at this; exact this
theorem oneB_esc (c : UInt8) (R : ByteArray) (h : c.toNat = 92) (h0 : 0 < R.size) (h1 : R[0].toNat = 34 ∨ R[0].toNat = 92) : oneD (c :: R.data.toList) = some (R[0], 2) := by
  rw [rest_cons R h0]; simp only [oneD]; rw [if_neg (not_bad h), if_neg (by simp [h]), if_pos h1]
theorem oneB_bad (c : UInt8) (R : ByteArray) (h : c.toNat = 92) (h0 : 0 < R.size) (h1 : ¬ (R[0].toNat = 34 ∨ R[0].toNat = 92)) (h2 : R[0].toNat ≠ 120) : oneD (c :: R.data.toList) = none := by
  rw [rest_cons R h0]; simp only [oneD]; rw [if_neg (not_bad h), if_neg (by simp [h]), if_neg h1, if_neg h2]
theorem oneB_hex (c : UInt8) (R : ByteArray) (h : c.toNat = 92) (h0 : 0 < R.size) (h2 : R[0].toNat = 120) : oneD (c :: R.data.toList) = (codedD (R.data.toList.drop 1)).map (·, 4) := by
  rw [rest_cons R h0]; simp only [oneD]; rw [if_neg (not_bad h), if_neg (by simp [h]), if_neg (by omega), if_pos h2]; rfl
theorem oneA_bad (c : UInt8) (r : List UInt8) (h : c.toNat = 34 ∨ shownB c = false) : oneD (c :: r) = none := by simp only [oneD]; rw [if_pos h]
theorem oneA_self (c : UInt8) (r : List UInt8) (h : ¬ (c.toNat = 34 ∨ shownB c = false)) (h2 : c.toNat ≠ 92) : oneD (c :: r) = some (c, 1) := by simp only [oneD]; rw [if_neg h, if_pos h2]
theorem meant_noshape (t : ByteArray) (h : t.size < 2 ∨ t.data.toList.head? ≠ some 34 ∨ t.data.toList.getLast? ≠ some 34) : meantL t.data.toList = if bareL t.data.toList = true then some t.data.toList else none := by
  rw [Lib.size_eq] at h
  unfold meantL bareL
  cases hp : allPlainL t.data.toList with
  | true => rw [if_pos rfl]; cases reservedL t.data.toList <;> rfl
  | false => rw [if_neg (by simp), if_pos h]; rfl
theorem quoted_not_plain (t : ByteArray) (h : 0 < t.size) (h3 : (t[0]'h).toNat = 34) : allPlainL t.data.toList = false :=
  allPlain_miss t 0 h (by unfold plainB; simp; omega)
end Go.Proofs.Ytkifapbiimlafaa.W

namespace Go.Proofs.Ytkifapbiimlafaa.W

structure Tok where
  kind : Int
  pos : Nat
  word : List UInt8
  bit : Int

inductive Step where
  | skip (n : Nat)
  | tok (k : Int) (w : List UInt8) (b : Int) (n : Nat)
  | bad (e : Int)

inductive Res where
  | ok (l : List Tok)
  | bad (p : Nat) (e : Int)

def Res.toks : Res → List Tok | .ok l => l | .bad _ _ => []
def Res.place : Res → Nat | .ok _ => 0 | .bad p _ => p
def Res.err : Res → Int | .ok _ => 0 | .bad _ e => e
/-- Tokens ahead of a result. -/
def Res.pre (a : List Tok) : Res → Res | .ok l => .ok (a ++ l) | .bad p e => .bad p e
def Tok.shift (q : Nat) (t : Tok) : Tok := ⟨t.kind, t.pos + q, t.word, t.bit⟩
def Res.shift (q : Nat) : Res → Res | .ok l => .ok (l.map (Tok.shift q)) | .bad p e => .bad (p + q) e

def blankB (c : UInt8) : Bool := decide (c.toNat = 32 ∨ c.toNat = 9 ∨ c.toNat = 10 ∨ c.toNat = 13)
def signK (c : UInt8) : Int := if c.toNat = 123 then 2 else if c.toNat = 125 then 3 else if c.toNat = 59 then 4 else 0
def markK (l : List UInt8) : Int := if l == inactiveL then 1 else if l == protectL then 2 else 0
def lineB (c : UInt8) : Bool := decide (c.toNat ≠ 10)
/-- So many bytes stand ahead of the next byte 10, or of the end. -/
def lineRun (l : List UInt8) : Nat := (l.takeWhile lineB).length
/-- So many bytes up to the next star and slash, with these. -/
def starEnd : List UInt8 → Option Nat
  | [] => none
  | [_] => none
  | c :: d :: l => if c.toNat = 42 ∧ d.toNat = 47 then some 2 else (starEnd (d :: l)).map (· + 1)
/-- What is left off at the front: none for a comment without an end. -/
def gapO : List UInt8 → Option Nat
  | [] => some 0
  | c :: r => if blankB c = true then some 1 else if c.toNat = 35 then some (lineRun (c :: r))
    else if Lib.hasPrefix (c :: r) [47, 42] = true then (starEnd (r.drop 1)).map (· + 2) else some 0
/-- The token at the front. -/
def takeD (l : List UInt8) : Step :=
  if signK (l.headD 0) ≠ 0 then .tok (signK (l.headD 0)) [] 0 1 else
  match scanD l with
  | none => .bad 2
  | some n => if markK (l.take n) ≠ 0 then .tok 5 [] (markK (l.take n)) n
    else if (unqL (l.take n)).2 ≠ 0 then .bad (unqL (l.take n)).2 else .tok 1 (unqL (l.take n)).1 0 n
def stepD (l : List UInt8) : Step :=
  match gapO l with
  | none => .bad 2
  | some 0 => takeD l
  | some (n + 1) => .skip (n + 1)

def lexF : Nat → Nat → List UInt8 → Res
  | 0, _, _ => .ok []
  | _ + 1, _, [] => .ok []
  | f + 1, p, c :: r => match stepD (c :: r) with
    | .skip n => lexF f (p + n) ((c :: r).drop n)
    | .tok k w b n => (lexF f (p + n) ((c :: r).drop n)).pre [⟨k, p, w, b⟩]
    | .bad e => .bad p e
/-- The tokens of a text whose first byte has the place p. -/
def lexL (p : Nat) (l : List UInt8) : Res := lexF l.length p l

theorem starEnd_le : ∀ (l : List UInt8) (n : Nat), starEnd l = some n → 2 ≤ n ∧ n ≤ l.length
  | [], _, h => by simp [starEnd] at h
  | [_], _, h => by simp [starEnd] at h
  | c :: d :: l, n, h => by
    simp only [starEnd] at h
    split at h
    · injection h with h; subst h; simp
    · cases hs : starEnd (d :: l) with
      | none => rw [hs] at h; cases h
      | some m =>
        rw [hs] at h
        simp only [Option.map_some, Option.some.injEq] at h
        have := starEnd_le (d :: l) m hs
        simp only [List.length_cons] at this ⊢
        omega
theorem lineRun_le (l : List UInt8) : lineRun l ≤ l.length := by
  unfold lineRun; exact (List.takeWhile_sublist _).length_le
theorem gapO_le (l : List UInt8) (n : Nat) (h : gapO l = some n) : n ≤ l.length := by
  match l, h with
  | [], h => simp [gapO] at h; omega
  | c :: r, h =>
    simp only [gapO] at h
    split at h
    · injection h with h; subst h; simp
    · split at h
      · injection h with h; subst h; exact lineRun_le _
      · split at h
        · cases hs : starEnd (r.drop 1) with
          | none => rw [hs] at h; cases h
          | some m =>
            rw [hs] at h
            simp only [Option.map_some, Option.some.injEq] at h
            have := starEnd_le _ m hs
            rw [List.length_drop] at this
            simp only [List.length_cons]
            omega
        · injection h with h; omega
theorem quotedRun_le : ∀ (l : List UInt8) (n : Nat), quotedRun l = some n → 1 ≤ n ∧ n ≤ l.length
  | [], _, h => by simp [quotedRun] at h
  | [c], n, h => by simp [quotedRun] at h; simp; omega
  | c :: d :: l, n, h => by
    simp only [quotedRun] at h
    split at h
    · injection h with h; subst h; simp
    · split at h
      · cases hs : quotedRun l with
        | none => rw [hs] at h; cases h
        | some m => rw [hs] at h; simp only [Option.map_some, Option.some.injEq] at h; have := quotedRun_le l m hs; simp only [List.length_cons]; omega
      · cases hs : quotedRun (d :: l) with
        | none => rw [hs] at h; cases h
        | some m => rw [hs] at h; simp only [Option.map_some, Option.some.injEq] at h; have := quotedRun_le (d :: l) m hs; simp only [List.length_cons] at this ⊢; omega
theorem scanD_le (l : List UInt8) (n : Nat) (h : scanD l = some n) : 1 ≤ n ∧ n ≤ l.length := by
  match l, h with
  | c :: r, h =>
    simp only [scanD] at h
    split at h
    · cases hs : quotedRun r with
      | none => rw [hs] at h; cases h
      | some m => rw [hs] at h; simp only [Option.map_some, Option.some.injEq] at h; have := quotedRun_le r m hs; simp only [List.length_cons]; omega
    · split at h
      · cases h
      · injection h with h
        have : plainRun (c :: r) ≤ (c :: r).length := by unfold plainRun; exact (List.takeWhile_sublist _).length_le
        omega
theorem takeD_tok {l : List UInt8} {k : Int} {w : List UInt8} {b : Int} {n : Nat} (hl : l ≠ []) (h : takeD l = .tok k w b n) : 1 ≤ n ∧ n ≤ l.length := by
  unfold takeD at h
  split at h
  · injection h with _ _ _ h; subst h
    exact ⟨Nat.le_refl _, List.length_pos_iff.2 hl⟩
  · cases hs : scanD l with
    | none => rw [hs] at h; cases h
    | some m =>
      rw [hs] at h
      simp only at h
      have := scanD_le l m hs
      split at h
      · injection h with _ _ _ h; subst h; exact this
      · split at h
        · cases h
        · injection h with _ _ _ h; subst h; exact this
theorem takeD_noskip {l : List UInt8} {n : Nat} : takeD l ≠ .skip n := by
  intro h
  unfold takeD at h
  split at h
  · cases h
  · cases hs : scanD l with
    | none => rw [hs] at h; cases h
    | some m =>
      rw [hs] at h
      simp only at h
      split at h
      · cases h
      · split at h <;> cases h
theorem stepD_skip {l : List UInt8} {n : Nat} (h : stepD l = .skip n) : 1 ≤ n ∧ n ≤ l.length ∧ gapO l = some n := by
  unfold stepD at h
  cases hg : gapO l with
  | none => rw [hg] at h; cases h
  | some m =>
    rw [hg] at h
    match m, hg, h with
    | 0, _, h => exact absurd h takeD_noskip
    | m + 1, hg, h =>
      simp only at h
      injection h with h
      subst h
      exact ⟨by omega, gapO_le l _ hg, rfl⟩
theorem stepD_tok {l : List UInt8} {k : Int} {w : List UInt8} {b : Int} {n : Nat} (hl : l ≠ []) (h : stepD l = .tok k w b n) : 1 ≤ n ∧ n ≤ l.length ∧ gapO l = some 0 ∧ takeD l = .tok k w b n := by
  unfold stepD at h
  cases hg : gapO l with
  | none => rw [hg] at h; cases h
  | some m =>
    rw [hg] at h
    match m, hg, h with
    | 0, _, h => exact ⟨(takeD_tok hl h).1, (takeD_tok hl h).2, rfl, h⟩
    | m + 1, hg, h => simp only at h; cases h
theorem stepD_gap {l : List UInt8} {n : Nat} (h : gapO l = some (n + 1)) : stepD l = .skip (n + 1) := by unfold stepD; rw [h]
theorem stepD_take {l : List UInt8} (h : gapO l = some 0) : stepD l = takeD l := by unfold stepD; rw [h]
theorem stepD_open {l : List UInt8} (h : gapO l = none) : stepD l = .bad 2 := by unfold stepD; rw [h]

theorem lexF_fuel : ∀ (f g p : Nat) (l : List UInt8), l.length ≤ f → l.length ≤ g → lexF f p l = lexF g p l
  | 0, g, p, l, hf, _ => by
    have : l = [] := List.eq_nil_of_length_eq_zero (by omega)
    subst this; cases g <;> rfl
  | f + 1, 0, p, l, _, hg => by
    have : l = [] := List.eq_nil_of_length_eq_zero (by omega)
    subst this; rfl
  | f + 1, g + 1, p, [], _, _ => rfl
  | f + 1, g + 1, p, c :: r, hf, hg => by
    simp only [lexF]
    cases h : stepD (c :: r) with
    | bad e => rfl
    | skip n =>
      have hn := stepD_skip h
      simp only []
      rw [lexF_fuel f g]
      · simp only [List.length_drop, List.length_cons] at hf ⊢; omega
      · simp only [List.length_drop, List.length_cons] at hg ⊢; omega
    | tok k w b n =>
      have hn := stepD_tok (by simp) h
      simp only []
      rw [lexF_fuel f g]
      · simp only [List.length_drop, List.length_cons] at hf ⊢; omega
      · simp only [List.length_drop, List.length_cons] at hg ⊢; omega
theorem lexL_nil (p : Nat) : lexL p [] = .ok [] := rfl
theorem lexL_skip {l : List UInt8} {n : Nat} (p : Nat) (hl : l ≠ []) (h : stepD l = .skip n) : lexL p l = lexL (p + n) (l.drop n) := by
  match l, hl, h with
  | c :: r, _, h =>
    have hn := stepD_skip h
    simp only [lexL, List.length_cons, lexF, h]
    rw [lexF_fuel r.length ((c :: r).drop n).length]
    · simp only [List.length_drop, List.length_cons]; omega
    · exact Nat.le_refl _
theorem lexL_tok {l : List UInt8} {k : Int} {w : List UInt8} {b : Int} {n : Nat} (p : Nat) (hl : l ≠ []) (h : stepD l = .tok k w b n) : lexL p l = (lexL (p + n) (l.drop n)).pre [⟨k, p, w, b⟩] := by
  match l, hl, h with
  | c :: r, hl, h =>
    have hn := stepD_tok hl h
    simp only [lexL, List.length_cons, lexF, h]
    rw [lexF_fuel r.length ((c :: r).drop n).length]
    · simp only [List.length_drop, List.length_cons]; omega
    · exact Nat.le_refl _
theorem lexL_bad {l : List UInt8} {e : Int} (p : Nat) (hl : l ≠ []) (h : stepD l = .bad e) : lexL p l = .bad p e := by
  match l, hl, h with
  | c :: r, hl, h => simp only [lexL, List.length_cons, lexF, h]

theorem pre_pre (a b : List Tok) (r : Res) : (r.pre b).pre a = r.pre (a ++ b) := by cases r <;> simp [Res.pre]
theorem pre_nil (r : Res) : r.pre [] = r := by cases r <;> simp [Res.pre]
theorem shift_pre (q : Nat) (a : List Tok) (r : Res) : (r.pre a).shift q = (r.shift q).pre (a.map (Tok.shift q)) := by cases r <;> simp [Res.pre, Res.shift]

/-- Induction over a text, step by step. -/
theorem step_ind {P : List UInt8 → Prop} (h0 : P []) (hs : ∀ l n, l ≠ [] → stepD l = .skip n → P (l.drop n) → P l)
    (ht : ∀ l k w b n, l ≠ [] → stepD l = .tok k w b n → P (l.drop n) → P l) (hb : ∀ l e, l ≠ [] → stepD l = .bad e → P l) : ∀ l, P l := by
  have key : ∀ (f : Nat) (l : List UInt8), l.length ≤ f → P l := by
    intro f
    induction f with
    | zero => intro l hl; have : l = [] := List.eq_nil_of_length_eq_zero (by omega); subst this; exact h0
    | succ f ih =>
      intro l hl
      by_cases he : l = []
      · subst he; exact h0
      · cases h : stepD l with
        | skip n => have hn := stepD_skip h; exact hs l n he h (ih _ (by rw [List.length_drop]; omega))
        | tok k w b n => have hn := stepD_tok he h; exact ht l k w b n he h (ih _ (by rw [List.length_drop]; omega))
        | bad e => exact hb l e he h
  exact fun l => key l.length l (Nat.le_refl _)

theorem lexL_shift (l : List UInt8) : ∀ p q : Nat, lexL (p + q) l = (lexL p l).shift q := by
  induction l using step_ind with
  | h0 => intro p q; rfl
  | hs l n he h ih => intro p q; rw [lexL_skip _ he h, lexL_skip _ he h, ← ih]; congr 1; omega
  | ht l k w b n he h ih =>
    intro p q
    rw [lexL_tok _ he h, lexL_tok _ he h, shift_pre, ← ih]
    have : p + q + n = p + n + q := by omega
    rw [this]; rfl
  | hb l e he h => intro p q; rw [lexL_bad _ he h, lexL_bad _ he h]; rfl

theorem pre2_app (c : UInt8) (r t : List UInt8) : Lib.hasPrefix (c :: r ++ 10 :: t) [47, 42] = Lib.hasPrefix (c :: r) [47, 42] := by
  cases r with
  | nil => simp [Lib.hasPrefix, List.isPrefixOf]
  | cons d r => simp [Lib.hasPrefix, List.isPrefixOf]
theorem lineRun_app (l t : List UInt8) : lineRun (l ++ 10 :: t) = lineRun l := by
  unfold lineRun
  induction l with
  | nil => simp [lineB]
  | cons c l ih =>
    simp only [List.cons_append, List.takeWhile_cons]
    split
    · simp only [List.length_cons]; rw [ih]
    · rfl
theorem starEnd_app : ∀ (l x : List UInt8) (n : Nat), starEnd l = some n → starEnd (l ++ x) = some n
  | [], _, _, h => by simp [starEnd] at h
  | [_], _, _, h => by simp [starEnd] at h
  | c :: d :: l, x, n, h => by
    simp only [starEnd, List.cons_append] at h ⊢
    split at h
    · rename_i hc; rw [if_pos hc]; exact h
    · rename_i hc
      rw [if_neg hc]
      cases hs : starEnd (d :: l) with
      | none => rw [hs] at h; cases h
      | some m =>
        have := starEnd_app (d :: l) x m hs
        rw [List.cons_append] at this
        rw [this]; rw [hs] at h; exact h
theorem gapO_app (l t : List UInt8) (n : Nat) (hl : l ≠ []) (h : gapO l = some n) : gapO (l ++ 10 :: t) = some n := by
  match l, hl, h with
  | c :: r, _, h =>
    have hp := pre2_app c r t
    have hr := lineRun_app (c :: r) t
    rw [List.cons_append] at hp hr
    simp only [gapO, List.cons_append] at h ⊢
    rw [hp, hr]
    split at h
    · rename_i h1; rw [if_pos h1]; exact h
    · rename_i h1
      rw [if_neg h1]
      split at h
      · rename_i h2; rw [if_pos h2]; exact h
      · rename_i h2
        rw [if_neg h2]
        split at h
        · rename_i h3
          rw [if_pos h3]
          cases hs : starEnd (r.drop 1) with
          | none => rw [hs] at h; cases h
          | some m =>
            rw [hs] at h
            have h0 : 1 ≤ r.length := by
              cases r with
              | nil => simp [Lib.hasPrefix, List.isPrefixOf] at h3
              | cons d r => simp
            rw [List.drop_append_of_le_length h0, starEnd_app _ _ _ hs]
            exact h
        · rename_i h3; rw [if_neg h3]; exact h
theorem quotedRun_app : ∀ (l x : List UInt8) (n : Nat), quotedRun l = some n → quotedRun (l ++ x) = some n
  | [], _, _, h => by simp [quotedRun] at h
  | [c], x, n, h => by
    simp [quotedRun] at h
    rw [List.singleton_append, quotedRun_hit _ _ h.1, h.2]
  | c :: d :: l, x, n, h => by
    simp only [quotedRun, List.cons_append] at h ⊢
    split at h
    · rename_i hc; rw [if_pos hc]; exact h
    · rename_i hc
      rw [if_neg hc]
      split at h
      · rename_i h2
        rw [if_pos h2]
        cases hs : quotedRun l with
        | none => rw [hs] at h; cases h
        | some m => rw [quotedRun_app l x m hs]; rw [hs] at h; exact h
      · rename_i h2
        rw [if_neg h2]
        cases hs : quotedRun (d :: l) with
        | none => rw [hs] at h; cases h
        | some m =>
          have := quotedRun_app (d :: l) x m hs
          rw [List.cons_append] at this
          rw [this]; rw [hs] at h; exact h
/-- No plain byte stands at the front. -/
def stops (r : List UInt8) : Prop := ∀ c, r.head? = some c → plainB c = false
theorem plainRun_stops (l r : List UInt8) (hr : stops r) : plainRun (l ++ r) = plainRun l := by
  unfold plainRun
  induction l with
  | nil =>
    cases r with
    | nil => rfl
    | cons c r => have := hr c rfl; simp [this]
  | cons c l ih =>
    simp only [List.cons_append, List.takeWhile_cons]
    split
    · simp only [List.length_cons]; rw [ih]
    · rfl
theorem scanD_app (l x : List UInt8) (n : Nat) (hx : stops x) (h : scanD l = some n) : scanD (l ++ x) = some n := by
  match l, h with
  | c :: r, h =>
    have hp := plainRun_stops (c :: r) x hx
    rw [List.cons_append] at hp
    simp only [scanD, List.cons_append] at h ⊢
    rw [hp]
    split at h
    · rename_i h1
      rw [if_pos h1]
      cases hs : quotedRun r with
      | none => rw [hs] at h; cases h
      | some m => rw [quotedRun_app r x m hs]; rw [hs] at h; exact h
    · rename_i h1; rw [if_neg h1]; exact h
theorem takeD_app (l x : List UInt8) (hl : l ≠ []) (hx : stops x) {k : Int} {w : List UInt8} {b : Int} {n : Nat} (h : takeD l = .tok k w b n) : takeD (l ++ x) = .tok k w b n := by
  unfold takeD at h ⊢
  have hh : (l ++ x).headD 0 = l.headD 0 := by cases l with
    | nil => exact absurd rfl hl
    | cons c r => rfl
  rw [hh]
  split at h
  · rename_i h1; rw [if_pos h1]; exact h
  · rename_i h1
    rw [if_neg h1]
    cases hs : scanD l with
    | none => rw [hs] at h; cases h
    | some m =>
      have hm := (scanD_le l m hs).2
      rw [hs] at h
      rw [scanD_app l x m hx hs]
      simp only at h ⊢
      rw [List.take_append_of_le_length hm]
      exact h
theorem stops_10 (t : List UInt8) : stops (10 :: t) := by intro c h; simp at h; subst h; decide
theorem stepD_join (l t : List UInt8) (hl : l ≠ []) (h : ∀ e, stepD l ≠ .bad e) : stepD (l ++ 10 :: t) = stepD l := by
  cases hs : stepD l with
  | bad e => exact absurd hs (h e)
  | skip n =>
    obtain ⟨h1, _, hg⟩ := stepD_skip hs
    obtain ⟨m, rfl⟩ : ∃ m, n = m + 1 := ⟨n - 1, by omega⟩
    exact stepD_gap (gapO_app l t _ hl hg)
  | tok k w b n =>
    obtain ⟨_, _, hg, ht⟩ := stepD_tok hl hs
    rw [stepD_take (gapO_app l t _ hl hg)]
    exact takeD_app l _ hl (stops_10 t) ht
theorem lexL_lf (p : Nat) (t : List UInt8) : lexL p (10 :: t) = lexL (p + 1) t := by
  rw [lexL_skip (n := 1) p (by simp) (stepD_gap (n := 0) (by simp [gapO, blankB]))]; rfl
/-- The tokens of two texts, a byte 10 between. -/
theorem lexL_join (t l : List UInt8) : ∀ (p : Nat) (a : List Tok), lexL p l = .ok a → lexL p (l ++ 10 :: t) = (lexL (p + l.length + 1) t).pre a := by
  induction l using step_ind with
  | h0 => intro p a h; rw [lexL_nil] at h; injection h with h; subst h; rw [List.nil_append, lexL_lf, pre_nil]; rfl
  | hs l n he h ih =>
    intro p a hp
    have hn := stepD_skip h
    rw [lexL_skip _ he h] at hp
    rw [lexL_skip (n := n) _ (by simp) (by rw [stepD_join l t he (by rw [h]; intro e; nofun)]; exact h), List.drop_append_of_le_length hn.2.1, ih _ _ hp, List.length_drop]
    congr 2; omega
  | ht l k w b n he h ih =>
    intro p a hp
    have hn := stepD_tok he h
    rw [lexL_tok _ he h] at hp
    cases hr : lexL (p + n) (l.drop n) with
    | bad q e => rw [hr] at hp; cases hp
    | ok a' =>
      rw [hr] at hp
      injection hp with hp
      subst hp
      rw [lexL_tok (n := n) _ (by simp) (by rw [stepD_join l t he (by rw [h]; intro e; nofun)]; exact h), List.drop_append_of_le_length hn.2.1, ih _ _ hr, List.length_drop, pre_pre]
      congr 2; omega
  | hb l e he h => intro p a hp; rw [lexL_bad _ he h] at hp; cases hp
end Go.Proofs.Ytkifapbiimlafaa.W

namespace Go.Proofs.Ytkifapbiimlafaa.W

theorem ne_drop (s : ByteArray) (k : Nat) (h : k < s.size) : s.data.toList.drop k ≠ [] := by rw [drop_at s k h]; simp
theorem gap_blank (s : ByteArray) (k : Nat) (h : k < s.size) (hb : blankB s[k] = true) : gapO (s.data.toList.drop k) = some 1 := by
  rw [drop_at s k h]; simp only [gapO]; rw [if_pos hb]
theorem gap_line (s : ByteArray) (k : Nat) (h : k < s.size) (hb : blankB s[k] = false) (h35 : s[k].toNat = 35) : gapO (s.data.toList.drop k) = some (lineRun (s.data.toList.drop k)) := by
  have e := drop_at s k h
  rw [e]; simp only [gapO]; rw [if_neg (by simp [hb]), if_pos h35]
theorem gap_star (s : ByteArray) (k : Nat) (h : k < s.size) (hb : blankB s[k] = false) (h35 : s[k].toNat ≠ 35) (hp : Lib.hasPrefix (s.data.toList.drop k) [47, 42] = true) : gapO (s.data.toList.drop k) = (starEnd (s.data.toList.drop (k + 2))).map (· + 2) := by
  have e := drop_at s k h
  rw [e] at hp ⊢
  simp only [gapO]; rw [if_neg (by simp [hb]), if_neg h35, if_pos hp, List.drop_drop]
theorem gap_no (s : ByteArray) (k : Nat) (h : k < s.size) (hb : blankB s[k] = false) (h35 : s[k].toNat ≠ 35) (hp : Lib.hasPrefix (s.data.toList.drop k) [47, 42] = false) : gapO (s.data.toList.drop k) = some 0 := by
  have e := drop_at s k h
  rw [e] at hp ⊢
  simp only [gapO]; rw [if_neg (by simp [hb]), if_neg h35, if_neg (by simp [hp])]
theorem lineRun_at (s : ByteArray) (k : Nat) (h : k < s.size) (hp : s[k].toNat ≠ 10) : lineRun (s.data.toList.drop k) = lineRun (s.data.toList.drop (k + 1)) + 1 := by
  have : lineB s[k] = true := by simp [lineB, hp]
  rw [drop_at s k h]; simp [lineRun, this]
theorem lineRun_stop (s : ByteArray) (k : Nat) (h : k < s.size) (hp : s[k].toNat = 10) : lineRun (s.data.toList.drop k) = 0 := by
  have : lineB s[k] = false := by simp [lineB, hp]
  rw [drop_at s k h]; simp [lineRun, this]
theorem lineRun_over (s : ByteArray) (k : Nat) (h : s.size ≤ k) : lineRun (s.data.toList.drop k) = 0 := by
  rw [drop_over s k h]; simp [lineRun]
theorem star_hit {l : List UInt8} (h : Lib.hasPrefix l [42, 47] = true) : starEnd l = some 2 := by
  match l, h with
  | [], h => simp [Lib.hasPrefix, List.isPrefixOf] at h
  | [c], h => simp [Lib.hasPrefix, List.isPrefixOf] at h
  | c :: d :: r, h =>
    simp [Lib.hasPrefix, List.isPrefixOf] at h
    simp only [starEnd]
    rw [← h.1, ← h.2, if_pos ⟨rfl, rfl⟩]
theorem star_miss {l : List UInt8} (h : Lib.hasPrefix l [42, 47] = false) : starEnd l = (starEnd (l.drop 1)).map (· + 1) := by
  match l, h with
  | [], h => rfl
  | [c], h => rfl
  | c :: d :: r, h =>
    simp [Lib.hasPrefix, List.isPrefixOf] at h
    simp only [starEnd, List.drop_succ_cons, List.drop_zero]
    rw [if_neg ?_]
    rintro ⟨h1, h2⟩
    exact h (UInt8.toNat_inj.1 h1).symm (UInt8.toNat_inj.1 h2).symm
theorem star_over (s : ByteArray) (k : Nat) (h : s.size ≤ k) : starEnd (s.data.toList.drop k) = none := by rw [drop_over s k h]; rfl
theorem pre2_size (s : ByteArray) (k : Nat) (a b : UInt8) (h : Lib.hasPrefix (s.data.toList.drop k) [a, b] = true) : k + 2 ≤ s.size := by
  have hl : (s.data.toList.drop k).length = s.size - k := by rw [List.length_drop, ← Lib.size_eq]
  match hd : s.data.toList.drop k, h with
  | [], h => simp [Lib.hasPrefix, List.isPrefixOf] at h
  | [c], h => simp [Lib.hasPrefix, List.isPrefixOf] at h
  | c :: d :: r, _ => rw [hd] at hl; simp at hl; omega

/-- The state of a reader of s: at the place k, with the tokens acc. -/
def Reading (s : ByteArray) (k : Nat) (acc : List Tok) : Prop := k ≤ s.size ∧ acc.length ≤ k ∧ lexL 0 s.data.toList = (lexL k (s.data.toList.drop k)).pre acc
theorem Reading.start (s : ByteArray) : Reading s 0 [] := ⟨Nat.zero_le _, Nat.le_refl _, by rw [List.drop_zero, pre_nil]⟩
theorem Reading.skip {s : ByteArray} {k : Nat} {acc : List Tok} (hr : Reading s k acc) {n : Nat} (hk : k < s.size) (h : gapO (s.data.toList.drop k) = some (n + 1)) : Reading s (k + (n + 1)) acc := by
  have hn := gapO_le _ _ h
  rw [List.length_drop, ← Lib.size_eq] at hn
  refine ⟨by omega, by have := hr.2.1; omega, ?_⟩
  rw [hr.2.2, lexL_skip _ (ne_drop s k hk) (stepD_gap h), List.drop_drop]
theorem Reading.open_ {s : ByteArray} {k : Nat} {acc : List Tok} (hr : Reading s k acc) (hk : k < s.size) (h : gapO (s.data.toList.drop k) = none) : lexL 0 s.data.toList = .bad k 2 := by
  rw [hr.2.2, lexL_bad _ (ne_drop s k hk) (stepD_open h)]; rfl
theorem Reading.bad {s : ByteArray} {k : Nat} {acc : List Tok} (hr : Reading s k acc) (hk : k < s.size) (h : gapO (s.data.toList.drop k) = some 0) {e : Int} (ht : takeD (s.data.toList.drop k) = .bad e) : lexL 0 s.data.toList = .bad k e := by
  rw [hr.2.2, lexL_bad _ (ne_drop s k hk) ((stepD_take h).trans ht)]; rfl
theorem Reading.tok {s : ByteArray} {k : Nat} {acc : List Tok} (hr : Reading s k acc) (hk : k < s.size) (h : gapO (s.data.toList.drop k) = some 0) {kd : Int} {wd : List UInt8} {b : Int} {n : Nat} (ht : takeD (s.data.toList.drop k) = .tok kd wd b n) : Reading s (k + n) (acc ++ [⟨kd, k, wd, b⟩]) := by
  have hn := takeD_tok (ne_drop s k hk) ht
  rw [List.length_drop, ← Lib.size_eq] at hn
  refine ⟨by omega, by have := hr.2.1; simp only [List.length_append, List.length_singleton]; omega, ?_⟩
  rw [hr.2.2, lexL_tok _ (ne_drop s k hk) ((stepD_take h).trans ht), List.drop_drop, pre_pre]
theorem Reading.done {s : ByteArray} {k : Nat} {acc : List Tok} (hr : Reading s k acc) (hk : s.size ≤ k) : lexL 0 s.data.toList = .ok acc := by
  rw [hr.2.2, drop_over s k hk, lexL_nil]; simp [Res.pre]
/-- A line of a comment, from k on, of which j is the place up to which no byte 10 is. -/
def Lined (s : ByteArray) (k j : Nat) : Prop := k ≤ j ∧ j ≤ s.size ∧ lineRun (s.data.toList.drop k) = j - k + lineRun (s.data.toList.drop j)
theorem Lined.start (s : ByteArray) (k : Nat) (h : k ≤ s.size) : Lined s k k := ⟨Nat.le_refl _, h, by simp⟩
theorem Lined.next {s : ByteArray} {k j : Nat} (h : Lined s k j) (hj : j < s.size) (hp : s[j].toNat ≠ 10) : Lined s k (j + 1) :=
  ⟨by have := h.1; omega, hj, by have := h.1; rw [h.2.2, lineRun_at s j hj hp]; omega⟩
theorem Lined.stop {s : ByteArray} {k j : Nat} (h : Lined s k j) (hj : j < s.size) (hp : s[j].toNat = 10) : lineRun (s.data.toList.drop k) = j - k := by
  rw [h.2.2, lineRun_stop s j hj hp]; omega
theorem Lined.over {s : ByteArray} {k j : Nat} (h : Lined s k j) (hj : s.size ≤ j) : lineRun (s.data.toList.drop k) = j - k := by
  rw [h.2.2, lineRun_over s j hj]; omega
theorem Reading.line {s : ByteArray} {k j : Nat} {acc : List Tok} (hr : Reading s k acc) (hk : k < s.size) (hb : blankB s[k] = false) (h35 : s[k].toNat = 35) (hj : k ≤ j) (hl : lineRun (s.data.toList.drop k) = j - k) : Reading s j acc := by
  have hlt : k < j := by
    rcases Nat.lt_or_ge k j with h | h
    · exact h
    · have : lineRun (s.data.toList.drop k) = lineRun (s.data.toList.drop (k + 1)) + 1 := lineRun_at s k hk (by omega)
      omega
  have := hr.skip (n := j - k - 1) hk (by rw [gap_line s k hk hb h35, hl]; congr 1; omega)
  have e : k + (j - k - 1 + 1) = j := by omega
  rw [e] at this
  exact this
/-- Inside a comment from k on: up to j no star and slash is. -/
def Starred (s : ByteArray) (k j : Nat) : Prop := k ≤ j ∧ j ≤ s.size ∧ starEnd (s.data.toList.drop k) = (starEnd (s.data.toList.drop j)).map (· + (j - k))
theorem Starred.start (s : ByteArray) (k : Nat) (h : k ≤ s.size) : Starred s k k := ⟨Nat.le_refl _, h, by cases starEnd (s.data.toList.drop k) <;> simp⟩
theorem Starred.next {s : ByteArray} {k j : Nat} (h : Starred s k j) (hj : j < s.size) (hp : Lib.hasPrefix (s.data.toList.drop j) [42, 47] = false) : Starred s k (j + 1) :=
  ⟨by have := h.1; omega, hj, by
    have := h.1
    rw [h.2.2, star_miss hp, List.drop_drop]
    cases starEnd (s.data.toList.drop (j + 1)) <;> simp; omega⟩
theorem Starred.stop {s : ByteArray} {k j : Nat} (h : Starred s k j) (hp : Lib.hasPrefix (s.data.toList.drop j) [42, 47] = true) : starEnd (s.data.toList.drop k) = some (j - k + 2) := by
  rw [h.2.2, star_hit hp]; simp; omega
theorem Starred.over {s : ByteArray} {k j : Nat} (h : Starred s k j) (hj : s.size ≤ j) : starEnd (s.data.toList.drop k) = none := by
  rw [h.2.2, star_over s j hj]; rfl
theorem Reading.star {s : ByteArray} {k j : Nat} {acc : List Tok} (hr : Reading s k acc) (hk : k < s.size) (hb : blankB s[k] = false) (h35 : s[k].toNat ≠ 35) (hp : Lib.hasPrefix (s.data.toList.drop k) [47, 42] = true) (hj : k + 2 ≤ j) (hs : starEnd (s.data.toList.drop (k + 2)) = some (j - (k + 2) + 2)) : Reading s (j + 2) acc := by
  have := hr.skip (n := j - k + 1) hk (by rw [gap_star s k hk hb h35 hp, hs]; simp; omega)
  have e : k + (j - k + 1 + 1) = j + 2 := by omega
  rw [e] at this
  exact this
theorem Reading.unstar {s : ByteArray} {k : Nat} {acc : List Tok} (hr : Reading s k acc) (hk : k < s.size) (hb : blankB s[k] = false) (h35 : s[k].toNat ≠ 35) (hp : Lib.hasPrefix (s.data.toList.drop k) [47, 42] = true) (hs : starEnd (s.data.toList.drop (k + 2)) = none) : lexL 0 s.data.toList = .bad k 2 :=
  hr.open_ hk (by rw [gap_star s k hk hb h35 hp, hs]; rfl)
theorem takeD_bad {l : List UInt8} {e : Int} (h : takeD l = .bad e) : e ≠ 0 := by
  unfold takeD at h
  split at h
  · cases h
  · cases hs : scanD l with
    | none => rw [hs] at h; injection h with h; omega
    | some m =>
      rw [hs] at h
      simp only at h
      split at h
      · cases h
      · split at h
        · rename_i h0; injection h with h; rw [← h]; exact h0
        · cases h
end Go.Proofs.Ytkifapbiimlafaa.W

namespace Go.Proofs.Ytkifapbiimlafaa.W

def goodB (c : UInt8) (k : Int) : Prop := (k = 2 ↔ c.toNat = 123) ∧ (k = 3 ↔ c.toNat = 125) ∧ (k = 4 ↔ c.toNat = 59) ∧ c.toNat ≠ 32 ∧ c.toNat ≠ 10 ∧ c.toNat ≠ 35
def Rising (s : List UInt8) : Nat → List Tok → Prop
  | _, [] => True
  | p, t :: r => p ≤ t.pos ∧ (∃ c, s[t.pos]? = some c ∧ goodB c t.kind) ∧ Rising s (t.pos + 1) r
theorem gapO_zero {c : UInt8} {r : List UInt8} (h : gapO (c :: r) = some 0) : blankB c = false ∧ c.toNat ≠ 35 := by
  simp only [gapO] at h
  split at h
  · cases h
  · rename_i hb
    refine ⟨by simpa using hb, fun h35 => ?_⟩
    rw [if_pos h35] at h
    injection h with h
    have : lineB c = true := by simp [lineB]; omega
    simp [lineRun, this] at h
theorem takeD_cases {l : List UInt8} {k : Int} {w : List UInt8} {b : Int} {n : Nat} (h : takeD l = .tok k w b n) :
    (signK (l.headD 0) ≠ 0 ∧ k = signK (l.headD 0) ∧ w = [] ∧ b = 0 ∧ n = 1) ∨
    (signK (l.headD 0) = 0 ∧ scanD l = some n ∧ markK (l.take n) ≠ 0 ∧ k = 5 ∧ w = [] ∧ b = markK (l.take n)) ∨
    (signK (l.headD 0) = 0 ∧ scanD l = some n ∧ markK (l.take n) = 0 ∧ unqL (l.take n) = (w, 0) ∧ k = 1 ∧ b = 0) := by
  unfold takeD at h
  by_cases hs : signK (l.headD 0) ≠ 0
  · rw [if_pos hs] at h
    injection h with h1 h2 h3 h4
    exact .inl ⟨hs, h1.symm, h2.symm, h3.symm, h4.symm⟩
  · rw [if_neg hs] at h
    have hs0 : signK (l.headD 0) = 0 := by omega
    cases hsc : scanD l with
    | none => rw [hsc] at h; cases h
    | some m =>
      rw [hsc] at h
      simp only at h
      by_cases hm : markK (l.take m) ≠ 0
      · rw [if_pos hm] at h
        injection h with h1 h2 h3 h4
        subst h4
        exact .inr (.inl ⟨hs0, rfl, hm, h1.symm, h2.symm, h3.symm⟩)
      · rw [if_neg hm] at h
        by_cases hu : (unqL (l.take m)).2 ≠ 0
        · rw [if_pos hu] at h; cases h
        · rw [if_neg hu] at h
          injection h with h1 h2 h3 h4
          subst h4
          refine .inr (.inr ⟨hs0, rfl, by omega, ?_, h1.symm, h3.symm⟩)
          have : (unqL (l.take m)).2 = 0 := by omega
          rw [← h2, ← this]
theorem signK_cases (c : UInt8) : (c.toNat = 123 ∧ signK c = 2) ∨ (c.toNat = 125 ∧ signK c = 3) ∨ (c.toNat = 59 ∧ signK c = 4) ∨ (c.toNat ≠ 123 ∧ c.toNat ≠ 125 ∧ c.toNat ≠ 59 ∧ signK c = 0) := by
  unfold signK
  by_cases h1 : c.toNat = 123
  · rw [if_pos h1]; omega
  · rw [if_neg h1]
    by_cases h2 : c.toNat = 125
    · rw [if_pos h2]; omega
    · rw [if_neg h2]
      by_cases h3 : c.toNat = 59
      · rw [if_pos h3]; omega
      · rw [if_neg h3]; omega
theorem takeD_good {c : UInt8} {r : List UInt8} {k : Int} {w : List UInt8} {b : Int} {n : Nat} (hg : gapO (c :: r) = some 0) (h : takeD (c :: r) = .tok k w b n) : goodB c k := by
  obtain ⟨hb, h35⟩ := gapO_zero hg
  have hb2 : ¬ (c.toNat = 32 ∨ c.toNat = 9 ∨ c.toNat = 10 ∨ c.toNat = 13) := of_decide_eq_false hb
  have hc := takeD_cases h
  simp only [List.headD_cons] at hc
  have hs := signK_cases c
  have hk : (signK c ≠ 0 ∧ k = signK c) ∨ (signK c = 0 ∧ (k = 5 ∨ k = 1)) := by
    rcases hc with ⟨h1, h2, _⟩ | ⟨h1, _, _, h2, _⟩ | ⟨h1, _, _, _, h2, _⟩
    · exact .inl ⟨h1, h2⟩
    · exact .inr ⟨h1, .inl h2⟩
    · exact .inr ⟨h1, .inr h2⟩
  unfold goodB
  clear hc h hg hb
  omega
theorem Rising.more {s : List UInt8} {p q : Nat} {l : List Tok} (h : Rising s q l) (hpq : p ≤ q) : Rising s p l := by
  cases l with
  | nil => trivial
  | cons t r => exact ⟨by have := h.1; omega, h.2⟩
theorem rising_of (l : List UInt8) : ∀ (s : List UInt8) (p : Nat) (a : List Tok), s.drop p = l → lexL p l = .ok a → Rising s p a := by
  induction l using step_ind with
  | h0 => intro s p a _ h; rw [lexL_nil] at h; injection h with h; subst h; trivial
  | hs l n he h ih =>
    intro s p a hd hp
    have hn := stepD_skip h
    rw [lexL_skip _ he h] at hp
    exact (ih s (p + n) a (by rw [← hd, List.drop_drop]) hp).more (by omega)
  | ht l k w b n he h ih =>
    intro s p a hd hp
    obtain ⟨hn1, hn2, hg, ht⟩ := stepD_tok he h
    rw [lexL_tok _ he h] at hp
    cases hr : lexL (p + n) (l.drop n) with
    | bad q e => rw [hr] at hp; cases hp
    | ok a' =>
      rw [hr] at hp
      injection hp with hp
      subst hp
      refine ⟨Nat.le_refl _, ?_, (ih s (p + n) a' (by rw [← hd, List.drop_drop]) hr).more (by simp only; omega)⟩
      match l, he, hd, hg, ht with
      | c :: r, _, hd, hg, ht =>
        refine ⟨c, ?_, takeD_good hg ht⟩
        have e : (s.drop p)[0]? = some c := by rw [hd]; rfl
        rw [List.getElem?_drop] at e
        simpa using e
  | hb l e he h => intro s p a _ hp; rw [lexL_bad _ he h] at hp; cases hp
theorem bad_lt (l : List UInt8) : ∀ (p q : Nat) (e : Int), lexL p l = .bad q e → p ≤ q ∧ q < p + l.length ∧ e ≠ 0 := by
  induction l using step_ind with
  | h0 => intro p q e h; rw [lexL_nil] at h; cases h
  | hs l n he h ih =>
    intro p q e hp
    have hn := stepD_skip h
    rw [lexL_skip _ he h] at hp
    have := ih _ _ _ hp
    rw [List.length_drop] at this
    omega
  | ht l k w b n he h ih =>
    intro p q e hp
    have hn := stepD_tok he h
    rw [lexL_tok _ he h] at hp
    cases hr : lexL (p + n) (l.drop n) with
    | ok a => rw [hr] at hp; cases hp
    | bad q' e' =>
      rw [hr] at hp
      injection hp with h1 h2
      subst h1; subst h2
      have := ih _ _ _ hr
      rw [List.length_drop] at this
      omega
  | hb l e' he h =>
    intro p q e hp
    rw [lexL_bad _ he h] at hp
    injection hp with h1 h2
    subst h1; subst h2
    refine ⟨Nat.le_refl _, by have := List.length_pos_iff.2 he; omega, ?_⟩
    unfold stepD at h
    cases hg : gapO l with
    | none => rw [hg] at h; injection h with h; omega
    | some m =>
      rw [hg] at h
      match m, h with
      | 0, h => exact takeD_bad h
      | m + 1, h => cases h
theorem lexL_len (l : List UInt8) : ∀ (p : Nat) (a : List Tok), lexL p l = .ok a → a.length ≤ l.length := by
  induction l using step_ind with
  | h0 => intro p a h; rw [lexL_nil] at h; injection h with h; subst h; simp
  | hs l n he h ih =>
    intro p a hp
    rw [lexL_skip _ he h] at hp
    have := ih _ _ hp
    rw [List.length_drop] at this
    omega
  | ht l k w b n he h ih =>
    intro p a hp
    have hn := stepD_tok he h
    rw [lexL_tok _ he h] at hp
    cases hr : lexL (p + n) (l.drop n) with
    | bad q e => rw [hr] at hp; cases hp
    | ok a' =>
      rw [hr] at hp
      injection hp with hp
      subst hp
      have := ih _ _ hr
      rw [List.length_drop] at this
      simp only [List.singleton_append, List.length_cons]
      omega
  | hb l e he h => intro p a hp; rw [lexL_bad _ he h] at hp; cases hp
end Go.Proofs.Ytkifapbiimlafaa.W

namespace Go.Proofs.Ytkifapbiimlafaa.W

theorem starEnd_note : ∀ (note t : List UInt8), (∀ c ∈ note, c.toNat ≠ 42) → starEnd (note ++ 42 :: 47 :: t) = some (note.length + 2)
  | [], t, _ => by simp [starEnd]
  | [c], t, h => by
    have hc := h c (by simp)
    simp only [List.singleton_append, starEnd, List.length_singleton]
    rw [if_neg (by omega), if_pos ⟨rfl, rfl⟩]; rfl
  | c :: d :: l, t, h => by
    have hc := h c (by simp)
    have ih := starEnd_note (d :: l) t (fun x hx => h x (by simp [hx]))
    rw [List.cons_append] at ih
    simp only [List.cons_append, starEnd]
    rw [if_neg (by omega), ih]
    simp
theorem lex_long (p : Nat) (note t : List UInt8) (h : ∀ c ∈ note, c.toNat ≠ 42) : lexL p (47 :: 42 :: (note ++ 42 :: 47 :: t)) = lexL (p + (note.length + 4)) t := by
  have hg : gapO (47 :: 42 :: (note ++ 42 :: 47 :: t)) = some (note.length + 3 + 1) := by
    simp only [gapO]
    rw [if_neg (by decide), if_neg (by decide), if_pos (by simp [Lib.hasPrefix, List.isPrefixOf]), List.drop_succ_cons, List.drop_zero, starEnd_note _ _ h]
    rfl
  rw [lexL_skip _ (by simp) (stepD_gap hg)]
  have e : (47 :: 42 :: (note ++ 42 :: 47 :: t)).drop (note.length + 3 + 1) = t := by
    have : note.length + 3 + 1 = (note.length + 2) + 1 + 1 := by omega
    rw [this, List.drop_succ_cons, List.drop_succ_cons, List.drop_append]
    simp
  rw [e]
theorem lineRun_note (note t : List UInt8) (h : ∀ c ∈ note, c.toNat ≠ 10) : lineRun (note ++ 10 :: t) = note.length := by
  unfold lineRun
  rw [List.takeWhile_append_of_pos (fun c hc => by simp [lineB, h c hc])]
  simp [lineB]
theorem lex_short (p : Nat) (note t : List UInt8) (h : ∀ c ∈ note, c.toNat ≠ 10) : lexL p (35 :: (note ++ 10 :: t)) = lexL (p + (note.length + 2)) t := by
  have hl := lineRun_note (35 :: note) t (by intro c hc; rcases List.mem_cons.1 hc with rfl | hc; decide; exact h c hc)
  rw [List.cons_append] at hl
  have hg : gapO (35 :: (note ++ 10 :: t)) = some (note.length + 1) := by
    simp only [gapO]
    rw [if_neg (by decide), if_pos (by decide), hl]; rfl
  rw [lexL_skip _ (by simp) (stepD_gap hg), List.drop_succ_cons, List.drop_left, lexL_lf]
  congr 1

/-- Tokens that differ in places alone. -/
def Alike (a b : List Tok) : Prop := a.length = b.length ∧ ∀ i (h : i < a.length) (h2 : i < b.length), a[i].kind = b[i].kind ∧ a[i].word = b[i].word ∧ a[i].bit = b[i].bit
theorem alike_shift (a b : List Tok) (p q : Nat) : Alike (a ++ b.map (Tok.shift p)) (a ++ b.map (Tok.shift q)) := by
  refine ⟨by simp, fun i h h2 => ?_⟩
  by_cases hi : i < a.length
  · rw [List.getElem_append_left hi, List.getElem_append_left hi]; exact ⟨rfl, rfl, rfl⟩
  · rw [List.getElem_append_right (by omega), List.getElem_append_right (by omega)]
    simp [Tok.shift]
theorem res_alike (r : Res) (a : List Tok) (p q : Nat) : Alike ((r.shift p).pre a).toks ((r.shift q).pre a).toks ∧ ((r.shift p).pre a).err = ((r.shift q).pre a).err := by
  cases r with
  | ok b => exact ⟨alike_shift a b p q, rfl⟩
  | bad _ _ => exact ⟨⟨rfl, fun i h => by simp [Res.shift, Res.pre, Res.toks] at h⟩, rfl⟩
theorem res_len (r : Res) (a : List Tok) (p : Nat) : ((r.shift p).pre a).toks.length ≤ a.length + r.toks.length := by
  cases r with
  | ok b => simp [Res.shift, Res.pre, Res.toks]
  | bad _ _ => simp [Res.shift, Res.pre, Res.toks]
theorem toks_len (p : Nat) (l : List UInt8) : (lexL p l).toks.length ≤ l.length := by
  cases h : lexL p l with
  | ok a => exact lexL_len _ _ _ h
  | bad _ _ => simp [Res.toks]
end Go.Proofs.Ytkifapbiimlafaa.W

namespace Go.Proofs.Ytkifapbiimlafaa.W

theorem stops_nil : stops [] := by intro c h; simp at h
theorem stops_cons (c : UInt8) (r : List UInt8) (h : plainB c = false) : stops (c :: r) := by intro d hd; simp at hd; subst hd; exact h
theorem bare_plain {w : List UInt8} (h : bareL w = true) : w.all plainB = true ∧ w ≠ [] ∧ reservedL w = false := by
  unfold bareL allPlainL at h
  simp only [Bool.and_eq_true, Bool.not_eq_true'] at h
  exact ⟨h.1.1, by intro e; rw [e] at h; simp at h, h.2⟩
theorem plainRun_full (l r : List UInt8) (h : l.all plainB = true) (hr : stops r) : plainRun (l ++ r) = l.length := by
  rw [plainRun_stops l r hr]
  unfold plainRun
  have := List.takeWhile_append_of_pos (p := plainB) (l₁ := l) (l₂ := []) (fun a ha => List.all_eq_true.1 h a ha)
  simp only [List.append_nil, List.takeWhile_nil] at this
  rw [this]
theorem scanD_plain (l r : List UInt8) (hl : l ≠ []) (h : l.all plainB = true) (hr : stops r) : scanD (l ++ r) = some l.length := by
  match l, hl with
  | c :: l', _ =>
    have hrun := plainRun_full (c :: l') r h hr
    have hc := plainB_range (List.all_eq_true.1 h c (by simp))
    simp only [List.cons_append, scanD] at hrun ⊢
    rw [if_neg (by omega), hrun, if_neg (by simp)]
theorem scanD_q (w r : List UInt8) (hr : stops r) : scanD (quoteL w ++ r) = some (quoteL w).length := by
  unfold quoteL
  cases hb : bareL w with
  | true =>
    rw [if_pos rfl]
    exact scanD_plain w r (bare_plain hb).2.1 (bare_plain hb).1 hr
  | false =>
    rw [if_neg (by simp)]
    have e : quotedL w ++ r = 34 :: (encL w ++ 34 :: r) := by simp [quotedL]
    rw [e]
    simp only [scanD]
    rw [if_pos (show (34 : UInt8).toNat = 34 from rfl), quotedRun_encL]
    simp [quotedL]
/-- A first byte that begins a word. -/
theorem gap_word (c : UInt8) (r : List UInt8) (h : plainB c = true ∨ c.toNat = 34) (hp : Lib.hasPrefix (c :: r) [47, 42] = false) : gapO (c :: r) = some 0 ∧ signK c = 0 := by
  have hr : (42 ≤ c.toNat ∧ c.toNat ≤ 122 ∧ c.toNat ≠ 59) ∨ c.toNat = 34 := by
    rcases h with h | h
    · left
      unfold plainB at h; have := of_decide_eq_true h; omega
    · exact .inr h
  refine ⟨?_, ?_⟩
  · simp only [gapO]
    rw [if_neg (by unfold blankB; simp; omega), if_neg (by omega), if_neg (by simp [hp])]
  · have := signK_cases c; omega
theorem pre2_stops (w r : List UInt8) (hw : w ≠ []) (h : Lib.hasPrefix w [47, 42] = false) (hr : stops r) : Lib.hasPrefix (w ++ r) [47, 42] = false := by
  match w, hw, h with
  | [c], _, _ =>
    match r, hr with
    | [], _ => simp [Lib.hasPrefix, List.isPrefixOf]
    | d :: r, hr =>
      have hd := hr d rfl
      have : ¬ d = 42 := by intro e; subst e; revert hd; decide
      simp [Lib.hasPrefix, List.isPrefixOf]
      intro _ h2; exact this h2.symm
  | c :: d :: w, _, h => simpa [Lib.hasPrefix, List.isPrefixOf] using h
theorem mark_of {w : List UInt8} (h : reservedL w = false) : markK w = 0 := by
  unfold reservedL at h
  simp only [Bool.or_eq_false_iff] at h
  unfold markK
  rw [if_neg (by rw [h.1.1]; simp), if_neg (by rw [h.1.2]; simp)]
theorem mark_q (w : List UInt8) : markK (quoteL w) = 0 := by
  unfold quoteL
  cases hb : bareL w with
  | true => rw [if_pos rfl]; exact mark_of (bare_plain hb).2.2
  | false => rw [if_neg (by simp)]; simp [markK, quotedL, inactiveL, protectL]
theorem step_name (w r : List UInt8) (h40 : w.length ≤ 40) (hr : stops r) : stepD (quoteL w ++ r) = .tok 1 w 0 (quoteL w).length := by
  have hg : gapO (quoteL w ++ r) = some 0 ∧ signK ((quoteL w ++ r).headD 0) = 0 := by
    unfold quoteL
    cases hb : bareL w with
    | true =>
      rw [if_pos rfl]
      obtain ⟨h1, h2, h3⟩ := bare_plain hb
      have hp : Lib.hasPrefix w [47, 42] = false := by
        unfold reservedL at h3; simp only [Bool.or_eq_false_iff] at h3; exact h3.2
      have hp2 := pre2_stops w r h2 hp hr
      match w, h2, h1, hp2 with
      | c :: w', _, h1, hp2 => exact gap_word c (w' ++ r) (.inl (List.all_eq_true.1 h1 c (by simp))) hp2
    | false =>
      rw [if_neg (by simp)]
      have e : quotedL w ++ r = 34 :: (encL w ++ 34 :: r) := by simp [quotedL]
      rw [e]
      exact gap_word 34 _ (.inr rfl) (by simp [Lib.hasPrefix, List.isPrefixOf])
  rw [stepD_take hg.1]
  unfold takeD
  rw [if_neg (fun h => h hg.2), scanD_q w r hr]
  simp only [List.take_left]
  rw [if_neg (by simp [mark_q]), unq_quote w h40, if_neg (by simp)]
theorem step_sign (c : UInt8) (r : List UInt8) (h : c.toNat = 123 ∨ c.toNat = 125 ∨ c.toNat = 59) : stepD (c :: r) = .tok (signK c) [] 0 1 := by
  have hp : ¬ Lib.hasPrefix (c :: r) [47, 42] = true := by
    intro hp
    have : c = 47 := by
      cases r <;> simp [Lib.hasPrefix, List.isPrefixOf] at hp
      exact hp.1.symm
    subst this; revert h; decide
  have hg : gapO (c :: r) = some 0 := by
    simp only [gapO]
    rw [if_neg (by unfold blankB; simp; omega), if_neg (by omega), if_neg hp]
  rw [stepD_take hg]
  unfold takeD
  rw [List.headD_cons, if_pos (by have := signK_cases c; omega)]
theorem step_mark (m r : List UInt8) (h : m = inactiveL ∨ m = protectL) (hr : stops r) : stepD (m ++ r) = .tok 5 [] (markK m) m.length := by
  have hm : m.all plainB = true ∧ m ≠ [] ∧ Lib.hasPrefix m [47, 42] = false ∧ markK m ≠ 0 := by
    rcases h with rfl | rfl
    · exact ⟨by decide, by decide, by decide, by decide⟩
    · exact ⟨by decide, by decide, by decide, by decide⟩
  obtain ⟨h1, h2, h3, h4⟩ := hm
  have hp2 := pre2_stops m r h2 h3 hr
  have hg : gapO (m ++ r) = some 0 ∧ signK ((m ++ r).headD 0) = 0 := by
    match m, h2, h1, hp2 with
    | c :: m', _, h1, hp2 => exact gap_word c (m' ++ r) (.inl (List.all_eq_true.1 h1 c (by simp))) hp2
  rw [stepD_take hg.1]
  unfold takeD
  rw [if_neg (fun h => h hg.2), scanD_plain m r h2 h1 hr]
  simp only [List.take_left]
  rw [if_pos h4]

/-- A token as All makes it. -/
def GoodTok (t : Tok) : Prop := (t.kind = 1 ∧ t.word.length ≤ 40 ∧ t.bit = 0) ∨ ((t.kind = 2 ∨ t.kind = 3 ∨ t.kind = 4) ∧ t.word = [] ∧ t.bit = 0) ∨ (t.kind = 5 ∧ t.word = [] ∧ (t.bit = 1 ∨ t.bit = 2))
def tokText (t : Tok) : List UInt8 :=
  if t.kind = 1 then quoteL t.word else if t.kind = 2 then [123] else if t.kind = 3 then [125] else if t.kind = 4 then [59] else if t.bit = 1 then inactiveL else protectL
def sepText (l : List Tok) : List UInt8 := l.flatMap fun t => 32 :: tokText t
def textL (l : List Tok) : List UInt8 := (sepText l).drop 1
theorem sep_stops (l : List Tok) : stops (sepText l) := by
  cases l with
  | nil => exact stops_nil
  | cons t l => exact stops_cons 32 _ (by decide)
theorem markK_cases (l : List UInt8) : markK l = 0 ∨ markK l = 1 ∨ markK l = 2 := by
  unfold markK; split
  · simp
  · split <;> simp
theorem takeD_goodTok {l : List UInt8} {k : Int} {w : List UInt8} {b : Int} {n p : Nat} (h : takeD l = .tok k w b n) : GoodTok ⟨k, p, w, b⟩ := by
  rcases takeD_cases h with ⟨h1, rfl, rfl, rfl, _⟩ | ⟨_, _, h1, rfl, rfl, rfl⟩ | ⟨_, _, _, hu, rfl, rfl⟩
  · have := signK_cases (l.headD 0)
    exact .inr (.inl ⟨by simp only; omega, rfl, rfl⟩)
  · have := markK_cases (l.take n)
    exact .inr (.inr ⟨rfl, rfl, by simp only; omega⟩)
  · exact .inl ⟨rfl, (unq_len hu).1, rfl⟩
theorem lexL_good (l : List UInt8) : ∀ (p : Nat) (a : List Tok), lexL p l = .ok a → ∀ t ∈ a, GoodTok t := by
  induction l using step_ind with
  | h0 => intro p a h; rw [lexL_nil] at h; injection h with h; subst h; simp
  | hs l n he h ih => intro p a hp; rw [lexL_skip _ he h] at hp; exact ih _ _ hp
  | ht l k w b n he h ih =>
    intro p a hp
    have hn := stepD_tok he h
    rw [lexL_tok _ he h] at hp
    cases hr : lexL (p + n) (l.drop n) with
    | bad q e => rw [hr] at hp; cases hp
    | ok a' =>
      rw [hr] at hp
      injection hp with hp
      subst hp
      intro t ht
      rcases List.mem_append.1 ht with ht | ht
      · simp at ht; subst ht; exact takeD_goodTok hn.2.2.2
      · exact ih _ _ hr t ht
  | hb l e he h => intro p a hp; rw [lexL_bad _ he h] at hp; cases hp
theorem step_text (t : Tok) (r : List UInt8) (h : GoodTok t) (hr : stops r) : stepD (tokText t ++ r) = .tok t.kind t.word t.bit (tokText t).length ∧ tokText t ≠ [] := by
  obtain ⟨k, p, w, b⟩ := t
  unfold GoodTok at h
  simp only at h
  rcases h with ⟨rfl, h40, rfl⟩ | ⟨hk, rfl, rfl⟩ | ⟨rfl, rfl, hb⟩
  · have e : tokText ⟨1, p, w, 0⟩ = quoteL w := by simp [tokText]
    rw [e]
    exact ⟨step_name w r h40 hr, by have := quote_pos w; intro e; rw [e] at this; simp at this⟩
  · rcases hk with rfl | rfl | rfl
    · exact ⟨step_sign 123 r (by decide), by simp [tokText]⟩
    · exact ⟨step_sign 125 r (by decide), by simp [tokText]⟩
    · exact ⟨step_sign 59 r (by decide), by simp [tokText]⟩
  · rcases hb with rfl | rfl
    · exact ⟨step_mark inactiveL r (.inl rfl) hr, by simp [tokText, inactiveL]⟩
    · exact ⟨step_mark protectL r (.inr rfl) hr, by simp [tokText, protectL]⟩
theorem alike_nil : Alike [] [] := ⟨rfl, fun i h => by simp at h⟩
theorem alike_cons {t u : Tok} {a b : List Tok} (h : t.kind = u.kind ∧ t.word = u.word ∧ t.bit = u.bit) (hab : Alike a b) : Alike (t :: a) (u :: b) := by
  refine ⟨by simp [hab.1], fun i h1 h2 => ?_⟩
  match i with
  | 0 => exact h
  | i + 1 => exact hab.2 i (by simpa using h1) (by simpa using h2)
/-- Tokens, a blank ahead of each, are read as these tokens. -/
theorem lex_sep : ∀ (l : List Tok) (p : Nat), (∀ t ∈ l, GoodTok t) → ∃ a, lexL p (sepText l) = .ok a ∧ Alike l a
  | [], p, _ => ⟨[], rfl, alike_nil⟩
  | t :: l, p, h => by
    have e : sepText (t :: l) = 32 :: (tokText t ++ sepText l) := by simp [sepText]
    obtain ⟨hs, hne⟩ := step_text t (sepText l) (h t (by simp)) (sep_stops l)
    have hne2 : tokText t ++ sepText l ≠ [] := by simp [hne]
    obtain ⟨a, ha, hal⟩ := lex_sep l (p + 1 + (tokText t).length) (fun x hx => h x (by simp [hx]))
    refine ⟨⟨t.kind, p + 1, t.word, t.bit⟩ :: a, ?_, alike_cons ⟨rfl, rfl, rfl⟩ hal⟩
    rw [e, lexL_skip (n := 1) p (by simp) (stepD_gap (n := 0) (by simp [gapO, blankB])), List.drop_succ_cons, List.drop_zero, lexL_tok _ hne2 hs, List.drop_left, ha]
    rfl
theorem lex_text (l : List Tok) (h : ∀ t ∈ l, GoodTok t) : ∃ a, lexL 0 (textL l) = .ok a ∧ Alike l a := by
  cases l with
  | nil => exact ⟨[], rfl, alike_nil⟩
  | cons t l =>
    obtain ⟨hs, hne⟩ := step_text t (sepText l) (h t (by simp)) (sep_stops l)
    have hne2 : tokText t ++ sepText l ≠ [] := by simp [hne]
    obtain ⟨a, ha, hal⟩ := lex_sep l (0 + (tokText t).length) (fun x hx => h x (by simp [hx]))
    refine ⟨⟨t.kind, 0, t.word, t.bit⟩ :: a, ?_, alike_cons ⟨rfl, rfl, rfl⟩ hal⟩
    have e : textL (t :: l) = tokText t ++ sepText l := by simp [textL, sepText]
    rw [e, lexL_tok _ hne2 hs, List.drop_left, ha]
    rfl
theorem sep_next (l : List Tok) (k : Nat) (h : k < l.length) : sepText (l.take (k + 1)) = sepText (l.take k) ++ 32 :: tokText l[k] := by
  rw [List.take_succ_eq_append_getElem h]; unfold sepText; rw [List.flatMap_append]; simp
theorem sep_pos (l : List Tok) (k : Nat) (h : k < l.length) (hk : 0 < k) : 1 ≤ (sepText (l.take k)).length := by
  obtain ⟨j, rfl⟩ : ∃ j, k = j + 1 := ⟨k - 1, by omega⟩
  rw [sep_next l j (by omega)]; simp; omega
theorem text_first (l : List Tok) (h : 0 < l.length) : textL (l.take 1) = tokText l[0] := by
  unfold textL; rw [sep_next l 0 h]; simp [sepText]
theorem text_next (l : List Tok) (k : Nat) (h : k < l.length) (hk : 0 < k) : textL (l.take (k + 1)) = textL (l.take k) ++ 32 :: tokText l[k] := by
  unfold textL; rw [sep_next l k h, List.drop_append_of_le_length (sep_pos l k h hk)]
theorem tokText_len (t : Tok) (h : GoodTok t) : (tokText t).length ≤ 162 := by
  obtain ⟨k, p, w, b⟩ := t
  unfold GoodTok at h
  simp only at h
  rcases h with ⟨rfl, h40, rfl⟩ | ⟨hk, rfl, rfl⟩ | ⟨rfl, rfl, hb⟩
  · have e : tokText ⟨1, p, w, 0⟩ = quoteL w := by simp [tokText]
    rw [e]
    have := (quote_len w).2; omega
  · rcases hk with rfl | rfl | rfl <;> simp [tokText]
  · rcases hb with rfl | rfl <;> simp [tokText, inactiveL, protectL]
theorem sep_len (l : List Tok) (h : ∀ t ∈ l, GoodTok t) : (sepText l).length ≤ 163 * l.length := by
  induction l with
  | nil => simp [sepText]
  | cons t l ih =>
    have h1 := ih (fun x hx => h x (by simp [hx]))
    have h2 := tokText_len t (h t (by simp))
    have e : sepText (t :: l) = 32 :: (tokText t ++ sepText l) := by simp [sepText]
    rw [e]
    simp only [List.length_cons, List.length_append]
    omega
theorem text_len (l : List Tok) (h : ∀ t ∈ l, GoodTok t) : (textL l).length ≤ 163 * l.length := by
  have := sep_len l h
  unfold textL; rw [List.length_drop]; omega
end Go.Proofs.Ytkifapbiimlafaa.W

namespace Go.Proofs.Ytkifapbiimlafaa.W

/-- What may stand behind a word: it ends the word, and holds no Name. -/
def SignOk (C : List UInt8) : Prop := C.length ≤ 6 ∧ (∀ r, stops (C ++ r)) ∧ ∀ (r : List UInt8) (p : Nat), ∃ b : List Tok, (∀ t ∈ b, t.kind ≠ 1) ∧ b.length ≤ 1 ∧ lexL p (C ++ r) = (lexL (p + C.length) r).pre b
theorem sign_skip (C : List UInt8) (c : UInt8) (C' : List UInt8) (hC : C = c :: C') (h6 : C.length ≤ 6) (hc : plainB c = false) (h : ∀ (r : List UInt8) (p : Nat), lexL p (C ++ r) = lexL (p + C.length) r) : SignOk C := by
  subst hC
  exact ⟨h6, fun r => stops_cons c _ hc, fun r p => ⟨[], by simp, by simp, by rw [h, pre_nil]⟩⟩
theorem lex_blank (c : UInt8) (r : List UInt8) (p : Nat) (h : blankB c = true) : lexL p (c :: r) = lexL (p + 1) r := by
  rw [lexL_skip (n := 1) p (by simp) (stepD_gap (n := 0) (by simp only [gapO]; rw [if_pos h])), List.drop_succ_cons, List.drop_zero]
theorem sign_sign (c : UInt8) (h : c.toNat = 123 ∨ c.toNat = 125 ∨ c.toNat = 59) : SignOk [c] := by
  have hp : plainB c = false := by unfold plainB; simp; omega
  refine ⟨by simp, fun r => stops_cons c _ hp, fun r p => ⟨[⟨signK c, p, [], 0⟩], ?_, by simp, ?_⟩⟩
  · intro t ht; simp at ht; subst ht; have := signK_cases c; simp only; omega
  · rw [List.singleton_append, lexL_tok p (by simp) (step_sign c r h), List.drop_succ_cons, List.drop_zero]; rfl
theorem ok_32 : SignOk [32] := sign_skip _ 32 [] rfl (by decide) (by decide) (fun r p => lex_blank 32 r p (by decide))
theorem ok_123 : SignOk [123] := sign_sign 123 (by decide)
theorem ok_125 : SignOk [125] := sign_sign 125 (by decide)
theorem ok_59 : SignOk [59] := sign_sign 59 (by decide)
theorem ok_10 : SignOk [10] := sign_skip _ 10 [] rfl (by decide) (by decide) (fun r p => lex_blank 10 r p (by decide))
theorem ok_line : SignOk [35, 120, 10] := sign_skip _ 35 [120, 10] rfl (by decide) (by decide) (fun r p => lex_short p [120] r (by decide))
theorem ok_star : SignOk [32, 47, 42, 32, 42, 47] := sign_skip _ 32 [47, 42, 32, 42, 47] rfl (by decide) (by decide) (fun r p => by
  show lexL p (32 :: 47 :: 42 :: ([32] ++ 42 :: 47 :: r)) = _
  rw [lex_blank 32 _ p (by decide), lex_long (p + 1) [32] r (by decide)]
  rfl)

def rowC (C : List UInt8) (ws : List (List UInt8)) : List UInt8 := ws.flatMap fun x => quoteL x ++ C
/-- The words of the Names. -/
def names : List Tok → List (List UInt8)
  | [] => []
  | t :: l => if t.kind = 1 then t.word :: names l else names l
theorem names_other (b l : List Tok) (h : ∀ t ∈ b, t.kind ≠ 1) : names (b ++ l) = names l := by
  induction b with
  | nil => rfl
  | cons t b ih =>
    simp only [List.cons_append, names]
    rw [if_neg (h t (by simp)), ih (fun x hx => h x (by simp [hx]))]
theorem lex_row (C : List UInt8) (hC : SignOk C) : ∀ (ws : List (List UInt8)) (p : Nat), (∀ x ∈ ws, x.length ≤ 40) → ∃ a, lexL p (rowC C ws) = .ok a ∧ names a = ws ∧ a.length ≤ 2 * ws.length
  | [], p, _ => ⟨[], rfl, rfl, by simp⟩
  | x :: ws, p, h => by
    have e : rowC C (x :: ws) = quoteL x ++ (C ++ rowC C ws) := by simp [rowC]
    have hne : quoteL x ++ (C ++ rowC C ws) ≠ [] := by
      have := quote_pos x
      intro e; rw [List.append_eq_nil_iff] at e; rw [e.1] at this; simp at this
    obtain ⟨b, hb1, hb2, hb⟩ := hC.2.2 (rowC C ws) (p + (quoteL x).length)
    obtain ⟨a, ha, hn, hl⟩ := lex_row C hC ws (p + (quoteL x).length + C.length) (fun y hy => h y (by simp [hy]))
    refine ⟨⟨1, p, x, 0⟩ :: (b ++ a), ?_, ?_, ?_⟩
    · rw [e, lexL_tok p hne (step_name x _ (h x (by simp)) (hC.2.1 _)), List.drop_left, hb, ha]; rfl
    · simp only [names, if_true]; rw [names_other b a hb1, hn]
    · simp only [List.length_cons, List.length_append]; omega
theorem row_len (C : List UInt8) (hC : C.length ≤ 6) (ws : List (List UInt8)) (h : ∀ x ∈ ws, x.length ≤ 40) : (rowC C ws).length ≤ 168 * ws.length := by
  induction ws with
  | nil => simp [rowC]
  | cons x ws ih =>
    have h1 := ih (fun y hy => h y (by simp [hy]))
    have h2 := (quote_len x).2
    have h3 := h x (by simp)
    have e : rowC C (x :: ws) = quoteL x ++ (C ++ rowC C ws) := by simp [rowC]
    rw [e]
    simp only [List.length_append, List.length_cons]
    omega
theorem names_skip {l : List Tok} {k : Nat} (h : k < l.length) {kd : Int} {pos : Nat} {wd : List UInt8} {b : Int} (ht : l[k] = ⟨kd, pos, wd, b⟩) (hk : kd ≠ 1) : names (l.drop k) = names (l.drop (k + 1)) := by
  rw [List.drop_eq_getElem_cons h, ht]; simp only [names]; rw [if_neg hk]
theorem names_hit {l : List Tok} {k : Nat} (h : k < l.length) {pos : Nat} {wd : List UInt8} {b : Int} (ht : l[k] = ⟨1, pos, wd, b⟩) : names (l.drop k) = wd :: names (l.drop (k + 1)) := by
  rw [List.drop_eq_getElem_cons h, ht]; simp only [names, if_true]
theorem drop_hit {α : Type} {ws : List α} {j : Nat} {x : α} {r : List α} (h : ws.drop j = x :: r) : ∃ hj : j < ws.length, ws[j] = x ∧ ws.drop (j + 1) = r := by
  have hj : j < ws.length := by
    rcases Nat.lt_or_ge j ws.length with h1 | h1
    · exact h1
    · rw [List.drop_of_length_le h1] at h; cases h
  rw [List.drop_eq_getElem_cons hj] at h
  injection h with h1 h2
  exact ⟨hj, h1, h2⟩
end Go.Proofs.Ytkifapbiimlafaa.W

namespace Go.Proofs.Ytkifapbiimlafaa.W

def gapF : Nat → List UInt8 → Option Nat
  | 0, _ => some 0
  | f + 1, l => match gapO l with
    | none => none
    | some 0 => some 0
    | some (n + 1) => (gapF f (l.drop (n + 1))).map (· + (n + 1))
/-- So many bytes are left off, from the front on, up to a token or the end; none: a comment does not end. -/
def gapD (l : List UInt8) : Option Nat := gapF l.length l
theorem gapF_fuel : ∀ (f g : Nat) (l : List UInt8), l.length ≤ f → l.length ≤ g → gapF f l = gapF g l
  | 0, g, l, hf, _ => by
    have : l = [] := List.eq_nil_of_length_eq_zero (by omega)
    subst this; cases g <;> rfl
  | f + 1, 0, l, _, hg => by
    have : l = [] := List.eq_nil_of_length_eq_zero (by omega)
    subst this; rfl
  | f + 1, g + 1, l, hf, hg => by
    simp only [gapF]
    cases h : gapO l with
    | none => rfl
    | some m =>
      match m, h with
      | 0, _ => rfl
      | m + 1, h =>
        have := gapO_le l _ h
        simp only []
        rw [gapF_fuel f g]
        · rw [List.length_drop]; omega
        · rw [List.length_drop]; omega
theorem gapD_open {l : List UInt8} (h : gapO l = none) : gapD l = none := by
  match l, h with
  | [], h => simp [gapO] at h
  | c :: r, h => simp only [gapD, List.length_cons, gapF, h]
theorem gapD_zero {l : List UInt8} (h : gapO l = some 0) : gapD l = some 0 := by
  match l, h with
  | [], h => rfl
  | c :: r, h => simp only [gapD, List.length_cons, gapF, h]
theorem gapD_skip {l : List UInt8} {n : Nat} (h : gapO l = some (n + 1)) : gapD l = (gapD (l.drop (n + 1))).map (· + (n + 1)) := by
  match l, h with
  | [], h => simp [gapO] at h
  | c :: r, h =>
    simp only [gapD, List.length_cons, gapF, h]
    rw [gapF_fuel r.length ((c :: r).drop (n + 1)).length]
    · rw [List.length_drop, List.length_cons]; omega
    · exact Nat.le_refl _
theorem gapD_some (l : List UInt8) : ∀ (p n : Nat), gapD l = some n → n ≤ l.length ∧ gapO (l.drop n) = some 0 ∧ lexL p l = lexL (p + n) (l.drop n) := by
  induction l using step_ind with
  | h0 => intro p n h; have : (some 0 : Option Nat) = some n := h; injection this with this; subst this; exact ⟨Nat.le_refl _, rfl, rfl⟩
  | hs l m he h ih =>
    intro p n hn
    obtain ⟨h1, h2, hg⟩ := stepD_skip h
    obtain ⟨m', rfl⟩ : ∃ m', m = m' + 1 := ⟨m - 1, by omega⟩
    rw [gapD_skip hg] at hn
    cases hd : gapD (l.drop (m' + 1)) with
    | none => rw [hd] at hn; cases hn
    | some q =>
      rw [hd] at hn
      simp only [Option.map_some, Option.some.injEq] at hn
      obtain ⟨i1, i2, i3⟩ := ih (p + (m' + 1)) q hd
      rw [List.length_drop] at i1
      rw [List.drop_drop] at i2 i3
      have e : m' + 1 + q = n := by omega
      rw [e] at i2 i3
      refine ⟨by omega, i2, ?_⟩
      rw [lexL_skip p he h, i3]
      congr 1; omega
  | ht l k w b m he h ih =>
    intro p n hn
    have hg := (stepD_tok he h).2.2.1
    rw [gapD_zero hg] at hn
    injection hn with hn
    subst hn
    exact ⟨Nat.zero_le _, hg, rfl⟩
  | hb l e he h =>
    intro p n hn
    unfold stepD at h
    cases hg : gapO l with
    | none => rw [gapD_open hg] at hn; cases hn
    | some m =>
      rw [hg] at h
      match m, hg, h with
      | 0, hg, _ =>
        rw [gapD_zero hg] at hn
        injection hn with hn
        subst hn
        exact ⟨Nat.zero_le _, hg, rfl⟩
      | m + 1, hg, h => cases h
/-- From k0 on all is left off up to k. -/
def GapAt (s : ByteArray) (k0 k : Nat) : Prop := k0 ≤ k ∧ k ≤ s.size ∧ gapD (s.data.toList.drop k0) = (gapD (s.data.toList.drop k)).map (· + (k - k0))
theorem GapAt.start (s : ByteArray) (k : Nat) (h : k ≤ s.size) : GapAt s k k := ⟨Nat.le_refl _, h, by cases gapD (s.data.toList.drop k) <;> simp⟩
theorem GapAt.skip {s : ByteArray} {k0 k n : Nat} (h : GapAt s k0 k) (hg : gapO (s.data.toList.drop k) = some (n + 1)) : GapAt s k0 (k + (n + 1)) := by
  have hn := gapO_le _ _ hg
  rw [List.length_drop, ← Lib.size_eq] at hn
  have h1 := h.1
  refine ⟨by omega, by omega, ?_⟩
  rw [h.2.2, gapD_skip hg, List.drop_drop]
  cases gapD (s.data.toList.drop (k + (n + 1))) <;> simp; omega
theorem GapAt.line {s : ByteArray} {k0 k j : Nat} (h : GapAt s k0 k) (hk : k < s.size) (hb : blankB s[k] = false) (h35 : s[k].toNat = 35) (hj : k ≤ j) (hl : lineRun (s.data.toList.drop k) = j - k) : GapAt s k0 j := by
  have hlt : k < j := by
    rcases Nat.lt_or_ge k j with h | h
    · exact h
    · have : lineRun (s.data.toList.drop k) = lineRun (s.data.toList.drop (k + 1)) + 1 := lineRun_at s k hk (by omega)
      omega
  have := h.skip (n := j - k - 1) (by rw [gap_line s k hk hb h35, hl]; congr 1; omega)
  have e : k + (j - k - 1 + 1) = j := by omega
  rw [e] at this
  exact this
theorem GapAt.star {s : ByteArray} {k0 k j : Nat} (h : GapAt s k0 k) (hk : k < s.size) (hb : blankB s[k] = false) (h35 : s[k].toNat ≠ 35) (hp : Lib.hasPrefix (s.data.toList.drop k) [47, 42] = true) (hj : k + 2 ≤ j) (hs : starEnd (s.data.toList.drop (k + 2)) = some (j - (k + 2) + 2)) : GapAt s k0 (j + 2) := by
  have := h.skip (n := j - k + 1) (by rw [gap_star s k hk hb h35 hp, hs]; simp; omega)
  have e : k + (j - k + 1 + 1) = j + 2 := by omega
  rw [e] at this
  exact this
theorem GapAt.unstar {s : ByteArray} {k0 k : Nat} (h : GapAt s k0 k) (hk : k < s.size) (hb : blankB s[k] = false) (h35 : s[k].toNat ≠ 35) (hp : Lib.hasPrefix (s.data.toList.drop k) [47, 42] = true) (hs : starEnd (s.data.toList.drop (k + 2)) = none) : gapD (s.data.toList.drop k0) = none := by
  rw [h.2.2, gapD_open (by rw [gap_star s k hk hb h35 hp, hs]; rfl)]; rfl
theorem GapAt.stop {s : ByteArray} {k0 k : Nat} (h : GapAt s k0 k) (hg : gapO (s.data.toList.drop k) = some 0) : gapD (s.data.toList.drop k0) = some (k - k0) := by
  rw [h.2.2, gapD_zero hg]; simp
theorem GapAt.over {s : ByteArray} {k0 k : Nat} (h : GapAt s k0 k) (hk : s.size ≤ k) : gapD (s.data.toList.drop k0) = some (k - k0) :=
  h.stop (by rw [drop_over s k hk]; rfl)
theorem pre2_at (s : ByteArray) (k : Nat) (a b : UInt8) (h : k + 1 < s.size) : Lib.hasPrefix (s.data.toList.drop k) [a, b] = (decide ((s[k]'(by omega)).toNat = a.toNat) && decide (s[k + 1].toNat = b.toNat)) := by
  rw [drop_at s k (by omega), drop_at s (k + 1) h]
  rw [Bool.eq_iff_iff]
  simp only [Lib.hasPrefix, List.isPrefixOf, Bool.and_true, Bool.and_eq_true, beq_iff_eq, decide_eq_true_eq, UInt8.toNat_inj]
  exact ⟨fun ⟨h1, h2⟩ => ⟨h1.symm, h2.symm⟩, fun ⟨h1, h2⟩ => ⟨h1.symm, h2.symm⟩⟩
theorem pre2_end (s : ByteArray) (k : Nat) (a b : UInt8) (h : s.size ≤ k + 1) : Lib.hasPrefix (s.data.toList.drop k) [a, b] = false := by
  cases hp : Lib.hasPrefix (s.data.toList.drop k) [a, b] with
  | false => rfl
  | true => have := pre2_size s k a b hp; omega
theorem Starred.ends {s : ByteArray} {k j : Nat} (h : Starred s k j) (hj : s.size ≤ j + 1) : starEnd (s.data.toList.drop k) = none := by
  by_cases hlt : j < s.size
  · exact (h.next hlt (pre2_end s j 42 47 hj)).over (by omega)
  · exact h.over (by omega)
theorem blank_is4 {c : UInt8} (h : blankB c = true) : c.toNat = 32 ∨ c.toNat = 9 ∨ c.toNat = 10 ∨ c.toNat = 13 := of_decide_eq_true h
theorem blank_not4 {c : UInt8} (h : blankB c = false) : ¬ (c.toNat = 32 ∨ c.toNat = 9 ∨ c.toNat = 10 ∨ c.toNat = 13) := of_decide_eq_false h
/-- Where a comment does not end there is a byte, that is left off, or begins it. -/
theorem gapD_none_lt {s : ByteArray} {k : Nat} (h : gapD (s.data.toList.drop k) = none) : k < s.size := by
  rcases Nat.lt_or_ge k s.size with h1 | h1
  · exact h1
  · rw [drop_over s k h1] at h; cases h
/-- A comment that does not end is ahead, and the tokens from k0 on are those from k on. -/
def OpenAt (s : ByteArray) (k0 k : Nat) : Prop := gapD (s.data.toList.drop k) = none ∧ lexL k0 (s.data.toList.drop k0) = lexL k (s.data.toList.drop k)
theorem OpenAt.lt {s : ByteArray} {k0 k : Nat} (h : OpenAt s k0 k) : k < s.size := gapD_none_lt h.1
theorem OpenAt.skip {s : ByteArray} {k0 k n : Nat} (h : OpenAt s k0 k) (hg : gapO (s.data.toList.drop k) = some (n + 1)) : OpenAt s k0 (k + (n + 1)) := by
  refine ⟨?_, ?_⟩
  · have := h.1
    rw [gapD_skip hg, List.drop_drop] at this
    cases hd : gapD (s.data.toList.drop (k + (n + 1))) with
    | none => rfl
    | some m => rw [hd] at this; cases this
  · rw [h.2, lexL_skip _ (ne_drop s k h.lt) (stepD_gap hg), List.drop_drop]
theorem OpenAt.prefix_ {s : ByteArray} {k0 k : Nat} (h : OpenAt s k0 k) (hk : k < s.size) (hb : blankB s[k] = false) (h35 : s[k].toNat ≠ 35) : Lib.hasPrefix (s.data.toList.drop k) [47, 42] = true := by
  cases hp : Lib.hasPrefix (s.data.toList.drop k) [47, 42] with
  | true => rfl
  | false => have := h.1; rw [gapD_zero (gap_no s k hk hb h35 hp)] at this; cases this
theorem OpenAt.line {s : ByteArray} {k0 k j : Nat} (h : OpenAt s k0 k) (hk : k < s.size) (hb : blankB s[k] = false) (h35 : s[k].toNat = 35) (hl : Lined s k j) : j < s.size ∧ (lineRun (s.data.toList.drop j) = 0 → k < j ∧ OpenAt s k0 j) := by
  have h1 := hl.1
  have hlr : lineRun (s.data.toList.drop k) = lineRun (s.data.toList.drop (k + 1)) + 1 := lineRun_at s k hk (by omega)
  have hsk := h.skip (n := lineRun (s.data.toList.drop (k + 1))) (by rw [gap_line s k hk hb h35, hlr])
  have hlt := hsk.lt
  have h2 := hl.2.2
  refine ⟨by omega, fun h0 => ?_⟩
  have e : k + (lineRun (s.data.toList.drop (k + 1)) + 1) = j := by omega
  rw [e] at hsk
  exact ⟨by omega, hsk⟩
theorem OpenAt.star {s : ByteArray} {k0 k j : Nat} (h : OpenAt s k0 k) (hk : k < s.size) (hb : blankB s[k] = false) (h35 : s[k].toNat ≠ 35) (hp : Lib.hasPrefix (s.data.toList.drop k) [47, 42] = true) (hj : k + 2 ≤ j) (hs : starEnd (s.data.toList.drop (k + 2)) = some (j - (k + 2) + 2)) : OpenAt s k0 (j + 2) := by
  have := h.skip (n := j - k + 1) (by rw [gap_star s k hk hb h35 hp, hs]; simp; omega)
  have e : k + (j - k + 1 + 1) = j + 2 := by omega
  rw [e] at this
  exact this
theorem OpenAt.bad {s : ByteArray} {k0 k : Nat} (h : OpenAt s k0 k) (hk : k < s.size) (hb : blankB s[k] = false) (h35 : s[k].toNat ≠ 35) (hp : Lib.hasPrefix (s.data.toList.drop k) [47, 42] = true) (hs : starEnd (s.data.toList.drop (k + 2)) = none) : lexL k0 (s.data.toList.drop k0) = .bad k 2 := by
  rw [h.2, lexL_bad _ (ne_drop s k hk) (stepD_open (by rw [gap_star s k hk hb h35 hp, hs]; rfl))]
end Go.Proofs.Ytkifapbiimlafaa.W
