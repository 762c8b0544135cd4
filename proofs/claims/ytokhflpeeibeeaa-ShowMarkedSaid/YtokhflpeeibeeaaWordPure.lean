/-
  Plain definitions on bytes for layer 1 (word), without the program: which bytes and words are plain, how a word is written, how a text is read, where a word ends. No conditions.
-/
import Derived.Lib.Bytealg
import Derived.Lib.Strings
namespace Go.Proofs.Ytokhflpeeibeeaa.W

/-- May a byte stand in a plain word? -/
def plainB (c : UInt8) : Bool :=
  decide (97 ≤ c.toNat ∧ c.toNat ≤ 122 ∨ 65 ≤ c.toNat ∧ c.toNat ≤ 90 ∨ 48 ≤ c.toNat ∧ c.toNat ≤ 57 ∨ c.toNat = 45 ∨ c.toNat = 95 ∨ c.toNat = 46 ∨ c.toNat = 47 ∨ c.toNat = 58 ∨ c.toNat = 42)
/-- Does a byte stand for itself between two quotes (or need a backslash)? -/
def shownB (c : UInt8) : Bool := decide (32 ≤ c.toNat ∧ c.toNat ≤ 126)
def allPlainL (l : List UInt8) : Bool := l.all plainB && !l.isEmpty
def inactiveL : List UInt8 := [105, 110, 97, 99, 116, 105, 118, 101, 58]
def protectL : List UInt8 := [112, 114, 111, 116, 101, 99, 116, 58]
def reservedL (l : List UInt8) : Bool := l == inactiveL || l == protectL || Lib.hasPrefix l [47, 42]
def bareL (l : List UInt8) : Bool := allPlainL l && !reservedL l
def plainL (l : List UInt8) : Bool := decide (l.length ≤ 40) && bareL l
def hexD (n : Nat) : UInt8 := if n < 10 then (48 + n).toUInt8 else (87 + n).toUInt8
/-- A byte, as it is written between two quotes. -/
def encB (c : UInt8) : List UInt8 :=
  if c == 34 || c == 92 then [92, c] else if shownB c then [c] else [92, 120, hexD (c.toNat / 16), hexD (c.toNat % 16)]
def encL (l : List UInt8) : List UInt8 := l.flatMap encB
def quotedL (l : List UInt8) : List UInt8 := 34 :: (encL l ++ [34])
def quoteL (l : List UInt8) : List UInt8 := if bareL l then l else quotedL l

/-- What a Bool function says of each of the 256 bytes it says of every byte. -/
theorem byte_all (p : UInt8 → Bool) (h : (List.range 256).all (fun n => p n.toUInt8) = true) (c : UInt8) : p c = true := by
  have hc : c.toNat < 256 := c.toNat_lt
  have := List.all_eq_true.1 h c.toNat (List.mem_range.2 hc)
  simpa using this
theorem plainB_idx (c : UInt8) (h1 : ¬ (97 ≤ c.toNat ∧ c.toNat ≤ 122)) (h2 : ¬ (65 ≤ c.toNat ∧ c.toNat ≤ 90)) (h3 : ¬ (48 ≤ c.toNat ∧ c.toNat ≤ 57)) : plainB c = decide (0 ≤ Lib.indexByte [45, 95, 46, 47, 58, 42] c) := by
  have := byte_all (fun c => decide (¬ (97 ≤ c.toNat ∧ c.toNat ≤ 122) → ¬ (65 ≤ c.toNat ∧ c.toNat ≤ 90) → ¬ (48 ≤ c.toNat ∧ c.toNat ≤ 57) → plainB c = decide (0 ≤ Lib.indexByte [45, 95, 46, 47, 58, 42] c))) (by decide +kernel) c
  exact (of_decide_eq_true this) h1 h2 h3
theorem plainB_of {c : UInt8} (h : 97 ≤ c.toNat ∧ c.toNat ≤ 122 ∨ 65 ≤ c.toNat ∧ c.toNat ≤ 90 ∨ 48 ≤ c.toNat ∧ c.toNat ≤ 57) : plainB c = true := by
  unfold plainB; simp; omega
theorem shown_yes {c : UInt8} (h : (32 : Int) ≤ c.toNat) : shownB c = decide ((c.toNat : Int) ≤ 126) := by
  unfold shownB; rw [Bool.eq_iff_iff]; simp; omega
theorem shown_no {c : UInt8} (h : (c.toNat : Int) < 32) : shownB c = false := by
  unfold shownB; simp; omega
theorem take_snoc (s : ByteArray) (k : Nat) (h : k < s.size) : s.data.toList.take (k + 1) = s.data.toList.take k ++ [s[k]] := by
  rw [List.take_succ_eq_append_getElem (by simpa using h)]; rfl
theorem all_snoc {p : UInt8 → Bool} (s : ByteArray) (k : Nat) (h : k < s.size) (h1 : (s.data.toList.take k).all p = true) (h2 : p s[k] = true) : (s.data.toList.take (k + 1)).all p = true := by
  rw [take_snoc s k h, List.all_append, h1]; simp [h2]
theorem all_miss {p : UInt8 → Bool} (s : ByteArray) (k : Nat) (h : k < s.size) (h2 : p s[k] = false) : s.data.toList.all p = false := by
  rw [List.all_eq_false]
  exact ⟨s[k], by simp [ByteArray.getElem_eq_getElem_data], by simp [h2]⟩
theorem allPlain_miss (s : ByteArray) (k : Nat) (h : k < s.size) (h2 : plainB s[k] = false) : allPlainL s.data.toList = false := by
  unfold allPlainL; rw [all_miss s k h h2]; rfl
theorem allPlain_all (s : ByteArray) (k : Nat) (h : s.size ≤ k) (h1 : (s.data.toList.take k).all plainB = true) : allPlainL s.data.toList = decide (0 < s.size) := by
  unfold allPlainL
  rw [List.take_of_length_le (by simpa using h)] at h1
  rw [h1]
  have hl : s.size = s.data.toList.length := Lib.size_eq s
  rw [hl]
  cases s.data.toList <;> simp
theorem prefix_yes (s p : ByteArray) (h : p.size ≤ s.size) : ((s.extract 0 p.size).toList == p.toList) = Lib.hasPrefix s.data.toList p.data.toList := by
  rw [← Lib.hasPrefix_raw]; simp [h]
theorem prefix_no (s p : ByteArray) (h : ¬ p.size ≤ s.size) : false = Lib.hasPrefix s.data.toList p.data.toList := by
  rw [← Lib.hasPrefix_raw]; simp [h]
theorem reserved_a (s : ByteArray) (h : s.toList = [105, 110, 97, 99, 116, 105, 118, 101, 58]) : reservedL s.data.toList = true := by
  rw [Lib.toList_data] at h; simp [reservedL, inactiveL, h]
theorem reserved_b (s : ByteArray) (h : s.toList = [112, 114, 111, 116, 101, 99, 116, 58]) : reservedL s.data.toList = true := by
  rw [Lib.toList_data] at h; simp [reservedL, protectL, h]
theorem reserved_c (s : ByteArray) (h : ¬ s.toList = [105, 110, 97, 99, 116, 105, 118, 101, 58]) (h2 : ¬ s.toList = [112, 114, 111, 116, 101, 99, 116, 58]) : reservedL s.data.toList = Lib.hasPrefix s.data.toList [47, 42] := by
  rw [Lib.toList_data] at h h2; simp [reservedL, inactiveL, protectL, h, h2]
theorem plain_a (s : ByteArray) (h : s.size ≤ 40) (h1 : allPlainL s.data.toList = true) : (!reservedL s.data.toList) = plainL s.data.toList := by
  rw [Lib.size_eq] at h; simp only [plainL, bareL, h, h1, decide_true, Bool.true_and]
theorem plain_b (s : ByteArray) (h1 : ¬ allPlainL s.data.toList = true) : false = plainL s.data.toList := by
  simp [plainL, bareL, h1]
theorem plain_c (s : ByteArray) (h : 40 < s.size) : false = plainL s.data.toList := by
  rw [Lib.size_eq] at h
  have : ¬ s.data.toList.length ≤ 40 := by omega
  simp only [plainL, this, decide_false, Bool.false_and]
end Go.Proofs.Ytokhflpeeibeeaa.W
