/-
  Plain definitions on bytes for layer 1 (word), without the program: where a word ends (scanL), what a byte between two quotes means (oneD), what all of them mean (decL), the word of a text (meantL, unqL). No conditions.
-/
import Derived.Test.YtokhflpeeibeeaaWordPure
namespace Go.Proofs.Ytokhflpeeibeeaa.W

/-- The bytes from here on, up to the quote that ends, with that. -/
def quotedRun : List UInt8 → Option Nat
  | [] => none
  | [c] => if c.toNat = 34 then some 1 else none
  | c :: d :: l => if c.toNat = 34 then some 1 else if c.toNat = 92 then (quotedRun l).map (· + 2) else (quotedRun (d :: l)).map (· + 1)
def plainRun (l : List UInt8) : Nat := (l.takeWhile plainB).length
/-- The length of the word at the front. -/
def scanD : List UInt8 → Option Nat
  | [] => none
  | c :: r => if c.toNat = 34 then (quotedRun r).map (· + 1) else if plainRun (c :: r) = 0 then none else some (plainRun (c :: r))
def scanL (l : List UInt8) (at_ : Int) : Option Nat := if at_ < 0 then none else (scanD (l.drop at_.toNat)).map (· + at_.toNat)
def optN (o : Option Nat) : Int := match o with | none => 0 | some n => n

/-- The end of a quoted word, from the place k on. -/
def qFrom (l : List UInt8) (k : Nat) : Option Nat := (quotedRun (l.drop k)).map (· + k)

def hexV (c : UInt8) : Int := Lib.indexByte [48, 49, 50, 51, 52, 53, 54, 55, 56, 57, 97, 98, 99, 100, 101, 102] c
def codedD : List UInt8 → Option UInt8
  | h :: l :: _ => if hexV h < 0 ∨ hexV l < 0 then none else some (hexV h * 16 + hexV l).toNat.toUInt8
  | _ => none
/-- What the byte at the front of a quoted text means, and how many bytes say it. -/
def oneD : List UInt8 → Option (UInt8 × Nat)
  | [] => none
  | c :: r => if c.toNat = 34 ∨ shownB c = false then none else if c.toNat ≠ 92 then some (c, 1) else
    match r with
    | [] => none
    | e :: r' => if e.toNat = 34 ∨ e.toNat = 92 then some (e, 2) else if e.toNat = 120 then (codedD r').map (·, 4) else none
def oneC (o : Option (UInt8 × Nat)) : UInt8 := match o with | none => 0 | some p => p.1
def oneN (o : Option (UInt8 × Nat)) : Int := match o with | none => 0 | some p => p.2

def decF : Nat → List UInt8 → Option (List UInt8)
  | 0, _ => some []
  | _ + 1, [] => some []
  | f + 1, c :: r => match oneD (c :: r) with
    | none => none
    | some (b, n) => (decF f ((c :: r).drop n)).map (b :: ·)
def decL (l : List UInt8) : Option (List UInt8) := decF l.length l

def meantL (l : List UInt8) : Option (List UInt8) :=
  if allPlainL l = true then (if reservedL l = true then none else some l)
  else if l.length < 2 ∨ l.head? ≠ some 34 ∨ l.getLast? ≠ some 34 then none
  else decL ((l.drop 1).take (l.length - 2))
/-- The word of a text, and the error's number. -/
def unqL (l : List UInt8) : List UInt8 × Int :=
  match meantL l with
  | none => ([], 2)
  | some s => if 40 < s.length then ([], 5) else (s, 0)

theorem quotedRun_hit (c : UInt8) (l : List UInt8) (h : c.toNat = 34) : quotedRun (c :: l) = some 1 := by
  cases l <;> simp [quotedRun, h]
theorem quotedRun_plain (c : UInt8) (l : List UInt8) (h : c.toNat ≠ 34) (h2 : c.toNat ≠ 92) : quotedRun (c :: l) = (quotedRun l).map (· + 1) := by
  cases l <;> simp [quotedRun, h, h2]
theorem quotedRun_back (c : UInt8) (l : List UInt8) (h2 : c.toNat = 92) : quotedRun (c :: l) = (quotedRun (l.drop 1)).map (· + 2) := by
  cases l <;> simp [quotedRun, h2]
theorem drop_at (s : ByteArray) (k : Nat) (h : k < s.size) : s.data.toList.drop k = s[k] :: s.data.toList.drop (k + 1) := by
  have hl : k < s.data.toList.length := by rw [← Lib.size_eq]; exact h
  rw [List.drop_eq_getElem_cons hl]; rfl
theorem drop_over (s : ByteArray) (k : Nat) (h : s.size ≤ k) : s.data.toList.drop k = [] := by
  apply List.drop_of_length_le; rw [← Lib.size_eq]; exact h
theorem qFrom_hit (s : ByteArray) (k : Nat) (h : k < s.size) (hc : s[k].toNat = 34) : qFrom s.data.toList k = some (k + 1) := by
  unfold qFrom; rw [drop_at s k h, quotedRun_hit _ _ hc]; simp; omega
theorem qFrom_plain (s : ByteArray) (k : Nat) (h : k < s.size) (h1 : s[k].toNat ≠ 34) (h2 : s[k].toNat ≠ 92) : qFrom s.data.toList k = qFrom s.data.toList (k + 1) := by
  unfold qFrom; rw [drop_at s k h, quotedRun_plain _ _ h1 h2]
  cases quotedRun (List.drop (k + 1) s.data.toList) <;> simp; omega
theorem qFrom_back (s : ByteArray) (k : Nat) (h : k < s.size) (h2 : s[k].toNat = 92) : qFrom s.data.toList k = qFrom s.data.toList (k + 2) := by
  unfold qFrom; rw [drop_at s k h, quotedRun_back _ _ h2, List.drop_drop]
  cases quotedRun (List.drop (k + 2) s.data.toList) <;> simp; omega
theorem qFrom_over (s : ByteArray) (k : Nat) (h : s.size ≤ k) : qFrom s.data.toList k = none := by
  unfold qFrom; rw [drop_over s k h]; rfl

theorem scan_neg (l : List UInt8) (a : Int) (h : a < 0) : scanL l a = none := by simp [scanL, h]
theorem scan_over (s : ByteArray) (k : Nat) (h : s.size ≤ k) : scanL s.data.toList k = none := by
  simp [scanL, drop_over s k h, scanD]; 
theorem scan_quote (s : ByteArray) (k : Nat) (h : k < s.size) (hc : s[k].toNat = 34) : scanL s.data.toList k = qFrom s.data.toList (k + 1) := by
  have h0 : ¬ ((k : Int) < 0) := by omega
  simp only [scanL, h0, if_false, Int.toNat_natCast, drop_at s k h, scanD, hc, if_true, qFrom]
  cases quotedRun (List.drop (k + 1) s.data.toList) <;> simp; omega
theorem plainRun_at (s : ByteArray) (k : Nat) (h : k < s.size) (hp : plainB s[k] = true) : plainRun (s.data.toList.drop k) = plainRun (s.data.toList.drop (k + 1)) + 1 := by
  rw [drop_at s k h]; simp [plainRun, hp]
theorem plainRun_stop (s : ByteArray) (k : Nat) (h : k < s.size) (hp : plainB s[k] = false) : plainRun (s.data.toList.drop k) = 0 := by
  rw [drop_at s k h]; simp [plainRun, hp]
theorem plainRun_over (s : ByteArray) (k : Nat) (h : s.size ≤ k) : plainRun (s.data.toList.drop k) = 0 := by
  rw [drop_over s k h]; simp [plainRun]
theorem scan_plain (s : ByteArray) (k : Nat) (h : k < s.size) (hc : s[k].toNat ≠ 34) :
    scanL s.data.toList k = if plainRun (s.data.toList.drop k) = 0 then none else some (k + plainRun (s.data.toList.drop k)) := by
  have h0 : ¬ ((k : Int) < 0) := by omega
  simp only [scanL, h0, if_false, Int.toNat_natCast, drop_at s k h, scanD, hc]
  split <;> simp; omega
theorem hexV_lt (c : UInt8) : -1 ≤ hexV c ∧ hexV c < 16 := by
  have := byte_all (fun c => decide (-1 ≤ hexV c ∧ hexV c < 16)) (by decide +kernel) c
  exact of_decide_eq_true this
theorem enc_esc {c : UInt8} (h : c.toNat = 34 ∨ c.toNat = 92) : encB c = [92, c] := by
  have e : (c == 34 || c == 92) = true := by
    rcases h with h | h
    · have : c = 34 := UInt8.toNat_inj.1 h
      simp [this]
    · have : c = 92 := UInt8.toNat_inj.1 h
      simp [this]
  unfold encB; rw [if_pos e]
theorem enc_no {c : UInt8} (h : ¬ (c.toNat = 34 ∨ c.toNat = 92)) : ¬ (c == 34 || c == 92) = true := by
  intro e
  simp at e
  rcases e with rfl | rfl <;> simp at h
theorem enc_self {c : UInt8} (h : ¬ (c.toNat = 34 ∨ c.toNat = 92)) (h2 : shownB c = true) : encB c = [c] := by
  unfold encB; rw [if_neg (enc_no h), if_pos h2]
theorem enc_hex {c : UInt8} (h : ¬ (c.toNat = 34 ∨ c.toNat = 92)) (h2 : shownB c = false) : encB c = [92, 120, hexD (c.toNat / 16), hexD (c.toNat % 16)] := by
  unfold encB; rw [if_neg (enc_no h), if_neg (by simp [h2])]
theorem shown_back {c : UInt8} (h : c.toNat = 92) : shownB c = true := by unfold shownB; simp; omega
theorem one_bad (s : ByteArray) (k : Nat) (hk : k < s.size) (h : s[k].toNat = 34 ∨ shownB s[k] = false) : oneD (s.data.toList.drop k) = none := by
  rw [drop_at s k hk]; simp only [oneD]; rw [if_pos h]
theorem one_self (s : ByteArray) (k : Nat) (hk : k < s.size) (h : ¬ (s[k].toNat = 34 ∨ shownB s[k] = false)) (h2 : s[k].toNat ≠ 92) : oneD (s.data.toList.drop k) = some (s[k], 1) := by
  rw [drop_at s k hk]; simp only [oneD]; rw [if_neg h, if_pos h2]
theorem one_end (s : ByteArray) (k : Nat) (hk : k < s.size) (hk2 : s.size ≤ k + 1) (h2 : s[k].toNat = 92) : oneD (s.data.toList.drop k) = none := by
  rw [drop_at s k hk, drop_over s (k + 1) hk2]; simp [oneD, h2]
theorem not_bad {c : UInt8} (h2 : c.toNat = 92) : ¬ (c.toNat = 34 ∨ shownB c = false) := by
  rw [shown_back h2]; simp [h2]
theorem one_esc (s : ByteArray) (k : Nat) (hk : k < s.size) (hk2 : k + 1 < s.size) (h2 : s[k].toNat = 92) (h3 : s[k + 1].toNat = 34 ∨ s[k + 1].toNat = 92) : oneD (s.data.toList.drop k) = some (s[k + 1], 2) := by
  rw [drop_at s k hk, drop_at s (k + 1) hk2]; simp only [oneD]; rw [if_neg (not_bad h2), if_neg (by simp [h2]), if_pos h3]
theorem one_hex (s : ByteArray) (k : Nat) (hk : k < s.size) (hk2 : k + 1 < s.size) (h2 : s[k].toNat = 92) (h3 : s[k + 1].toNat = 120) : oneD (s.data.toList.drop k) = (codedD (s.data.toList.drop (k + 2))).map (·, 4) := by
  rw [drop_at s k hk, drop_at s (k + 1) hk2]; simp only [oneD]; rw [if_neg (not_bad h2), if_neg (by simp [h2]), if_neg (by omega), if_pos h3]
theorem one_not (s : ByteArray) (k : Nat) (hk : k < s.size) (hk2 : k + 1 < s.size) (h2 : s[k].toNat = 92) (h3 : s[k + 1].toNat ≠ 34) (h4 : s[k + 1].toNat ≠ 92) (h5 : s[k + 1].toNat ≠ 120) : oneD (s.data.toList.drop k) = none := by
  rw [drop_at s k hk, drop_at s (k + 1) hk2]; simp only [oneD]; rw [if_neg (not_bad h2), if_neg (by simp [h2]), if_neg (by omega), if_neg h5]
theorem coded_short (s : ByteArray) (k : Nat) (h : s.size ≤ k + 1) : codedD (s.data.toList.drop k) = none := by
  have hl : (s.data.toList.drop k).length ≤ 1 := by rw [List.length_drop, ← Lib.size_eq]; omega
  match hd : s.data.toList.drop k with
  | [] => rfl
  | [_] => rfl
  | _ :: _ :: r => rw [hd] at hl; simp at hl
theorem coded_at (s : ByteArray) (k : Nat) (h : k + 1 < s.size) : codedD (s.data.toList.drop k) = if hexV s[k] < 0 ∨ hexV s[k + 1] < 0 then none else some (hexV s[k] * 16 + hexV s[k + 1]).toNat.toUInt8 := by
  rw [drop_at s k (by omega), drop_at s (k + 1) h]; rfl
theorem code_val (c d : UInt8) (h : 0 ≤ hexV c) (h2 : 0 ≤ hexV d) : (((hexV c * 16 + hexV d).toNat.toUInt8).toNat : Int) = hexV c * 16 + hexV d := by
  have h3 := hexV_lt c
  have h4 := hexV_lt d
  simp only [Nat.toUInt8_eq, UInt8.toNat_ofNat']
  omega
theorem quote_plain {l : List UInt8} (h : plainL l = true) : quoteL l = l := by
  unfold quoteL
  have : bareL l = true := by unfold plainL at h; simp only [Bool.and_eq_true] at h; exact h.2
  rw [if_pos this]
theorem quote_quoted (s : ByteArray) (h40 : s.size ≤ 40) (h : plainL s.data.toList = false) : quoteL s.data.toList = quotedL s.data.toList := by
  unfold quoteL
  have : bareL s.data.toList = false := by
    unfold plainL at h
    have h1 : decide (s.data.toList.length ≤ 40) = true := by rw [Lib.size_eq] at h40; exact decide_eq_true h40
    rw [h1, Bool.true_and] at h
    exact h
  rw [if_neg (by simp [this])]
theorem hex_at (n : Nat) (h : n < 16) : (⟨#[48, 49, 50, 51, 52, 53, 54, 55, 56, 57, 97, 98, 99, 100, 101, 102]⟩ : ByteArray)[n]'h = hexD n := by
  have hall : ∀ m : Fin 16, (⟨#[48, 49, 50, 51, 52, 53, 54, 55, 56, 57, 97, 98, 99, 100, 101, 102]⟩ : ByteArray)[m.val]'m.isLt = hexD m.val := by decide +kernel
  exact hall ⟨n, h⟩
theorem hex_list (c : UInt8) (h1 : ((c.toNat : Int) / 16).toNat < 16) (h2 : ((c.toNat : Int) % 16).toNat < 16) :
    [92, 120, (⟨#[48, 49, 50, 51, 52, 53, 54, 55, 56, 57, 97, 98, 99, 100, 101, 102]⟩ : ByteArray)[((c.toNat : Int) / 16).toNat]'h1, (⟨#[48, 49, 50, 51, 52, 53, 54, 55, 56, 57, 97, 98, 99, 100, 101, 102]⟩ : ByteArray)[((c.toNat : Int) % 16).toNat]'h2] =
    [92, 120, hexD (c.toNat / 16), hexD (c.toNat % 16)] := by
  rw [hex_at _ h1, hex_at _ h2]
  have e1 : ((c.toNat : Int) / 16).toNat = c.toNat / 16 := by omega
  have e2 : ((c.toNat : Int) % 16).toNat = c.toNat % 16 := by omega
  rw [e1, e2]
theorem encL_snoc (l : List UInt8) (c : UInt8) : encL (l ++ [c]) = encL l ++ encB c := by simp [encL]
theorem encB_len (c : UInt8) : 1 ≤ (encB c).length ∧ (encB c).length ≤ 4 := by
  unfold encB; split
  · simp
  · split <;> simp
theorem encL_len (l : List UInt8) : l.length ≤ (encL l).length ∧ (encL l).length ≤ 4 * l.length := by
  induction l with
  | nil => simp [encL]
  | cons c l ih =>
    have := encB_len c
    simp only [encL, List.flatMap_cons, List.length_append, List.length_cons] at ih ⊢
    omega
end Go.Proofs.Ytokhflpeeibeeaa.W
