/-
  Contracts of the document's answers for layer 1 (ferryslipref01): bare, Bare, digit, value, Scan return what the plain definitions say, and leave the world as it was. Condition: strings of at most 2^40 bytes.
  Contracts of the document's answers for layer 1 (ferryslipref01): Quote and Scan return what the plain definitions say; below the heap's size at the call the world is as it was. Condition: strings of at most 2^30 bytes.
  Contract of the document's answer for layer 1 (ferryslipref01): Unquote returns what the plain definitions say; below the heap's size at the call the world is as it was. Condition: strings of at most 2^30 bytes.
  Contracts of the document's answers for layer 1 (ferryslipref01): Unquote, whatever the text; Bare, Quote and Scan with what they answer as a variable. Condition: strings of at most 2^30 bytes.
-/
import Derived.Test.YtfajfjocpgbmeaaWordC
import Derived.Test.YtfajfjocpgbmeaaPureW
import Derived.Deep.RegionLaw
import Derived.Deep.Cut
import Derived.IntWalk

namespace Go.Proofs.Ytfajfjocpgbmeaa
open Go.RowKit

theorem ret_u8 {a b : Int} (h : a = b) : Ending.returned (.int .u8 a) = .returned (.int .u8 b) := by rw [h]
theorem ret_i64 {a b : Int} (h : a = b) : Ending.returned (.int .i64 a) = .returned (.int .i64 b) := by rw [h]

end Go.Proofs.Ytfajfjocpgbmeaa

namespace Go.Proofs.Ytfajfjocpgbmeaa
open Go.RowKit

def WroteQ (B : Nat) (w : World) (l : List UInt8) (e : Ending) (w' : World) : Prop := e = .returned (.string ⟨l.toArray⟩) ∧ Below B w w'
theorem hex_pair (c : UInt8) : W.hexD ((c.toNat : Int) / 16).toNat = W.hexD (c.toNat / 16) ∧ W.hexD ((c.toNat : Int) % 16).toNat = W.hexD (c.toNat % 16) := by
  have e1 : ((c.toNat : Int) / 16).toNat = c.toNat / 16 := by omega
  have e2 : ((c.toNat : Int) % 16).toNat = c.toNat % 16 := by omega
  rw [e1, e2]; exact ⟨rfl, rfl⟩

end Go.Proofs.Ytfajfjocpgbmeaa

namespace Go.Proofs.Ytfajfjocpgbmeaa
open Go.RowKit

def RelU (t : ByteArray) (w : World) (b i : Value) (wr : World) : Prop :=
  ∃ (j : Nat) (acc : List UInt8), j + 1 ≤ t.size - 1 ∧ acc.length ≤ j ∧ i = .int .i64 (j + 1 : Nat) ∧ OwnB wr w.heap.size b acc ∧ Below w.heap.size w wr ∧
    W.decL (t.extract 1 (t.size - 1)).data.toList = (W.decL ((t.extract 1 (t.size - 1)).data.toList.drop j)).map (acc ++ ·)

theorem relU_step {t : ByteArray} {w wr w1 : World} {v1 : Value} {j n : Nat} {acc : List UInt8} {c : UInt8} (hj : j + 1 < t.size - 1) (hac : acc.length ≤ j)
    (hb : Below w.heap.size w wr) (H : W.decL (t.extract 1 (t.size - 1)).data.toList = (W.decL ((t.extract 1 (t.size - 1)).data.toList.drop j)).map (acc ++ ·))
    (ho : W.oneD ((t.extract 1 (t.size - 1)).data.toList.drop j) = some (c, n)) (hown1 : OwnB w1 w.heap.size v1 (acc ++ [c])) (hb1 : Below w.heap.size wr w1) {i : Value} (hi : i = .int .i64 ((j + n + 1 : Nat) : Int)) :
    RelU t w v1 i w1 := by
  have hn := W.oneD_pos ho
  have hl : ((t.extract 1 (t.size - 1)).data.toList.drop j).length = t.size - 2 - j := by rw [List.length_drop, ← Lib.size_eq, W.rest_size t 1 _ (by omega)]; omega
  rw [hl] at hn
  refine ⟨j + n, acc ++ [c], by omega, by simp only [List.length_append, List.length_singleton]; omega, hi, hown1, hb.trans hb1, ?_⟩
  rw [H, W.decL_some ho, W.map_acc, List.drop_drop]

theorem decU_none {t : ByteArray} {j : Nat} {acc : List UInt8} (hj : j + 1 < t.size - 1) (H : W.decL (t.extract 1 (t.size - 1)).data.toList = (W.decL ((t.extract 1 (t.size - 1)).data.toList.drop j)).map (acc ++ ·))
    (ho : W.oneD ((t.extract 1 (t.size - 1)).data.toList.drop j) = none) (h0 : 0 < t.size) (h3 : (t[0]'h0).toNat = 34) (h4 : (t[t.size - 1]'(by omega)).toNat = 34) : W.unqL t.data.toList = ([], 2) := by
  apply W.unq_none
  rw [W.meant_quoted t (W.quoted_not_plain t h0 h3) (by omega) h3 h4, H, W.decL_none ?_ ho]
  · rfl
  · rw [W.mid_drop t j hj]; simp

theorem wrapA (n : Int) (h : -1 ≤ n ∧ n < 16) : IntKind.i64.wrap (16 * n) = 16 * n := IntWalk.i64_in _ (by omega)
theorem cell_code (c : UInt8) (n : Int) (h : n = (c.toNat : Int)) : (#[Value.int .u8 (IntKind.u8.wrap (IntKind.i64.wrap n))] : Array Value).toList = byteCells [c] := by
  have hc := c.toNat_lt
  rw [h, IntWalk.i64_in _ (by omega), IntWalk.u8_in _ (by omega)]; rfl

end Go.Proofs.Ytfajfjocpgbmeaa

namespace Go.Proofs.Ytfajfjocpgbmeaa
open Go.RowKit

theorem shape_head (t : ByteArray) (h : 0 < t.size) (h3 : t[0].toNat ≠ 34) : t.data.toList.head? ≠ some 34 := by
  rw [W.head_at t h]; exact fun e => h3 ((W.byte_eq (n := 34) (by omega)).1 e)
theorem shape_last (t : ByteArray) (h : 0 < t.size) (h3 : (t[t.size - 1]'(by omega)).toNat ≠ 34) : t.data.toList.getLast? ≠ some 34 := by
  rw [W.last_at t h]; exact fun e => h3 ((W.byte_eq (n := 34) (by omega)).1 e)

/-- How the three ways ahead of the quotes end, once for all: a bare word, one that is too long, none. -/
theorem unq_bare (t : ByteArray) (h : t.size < 2 ∨ t.data.toList.head? ≠ some 34 ∨ t.data.toList.getLast? ≠ some 34) (hb : W.bareL t.data.toList = true) (h40 : ¬ 40 < t.size) : W.unqL t.data.toList = (t.data.toList, 0) := by
  refine W.unq_ok ?_ (by rw [← Lib.size_eq]; exact h40)
  rw [W.meant_noshape t h, if_pos hb]
theorem unq_bareLong (t : ByteArray) (h : t.size < 2 ∨ t.data.toList.head? ≠ some 34 ∨ t.data.toList.getLast? ≠ some 34) (hb : W.bareL t.data.toList = true) (h40 : 40 < t.size) : W.unqL t.data.toList = ([], 5) := by
  refine W.unq_long (y := t.data.toList) ?_ (by rw [← Lib.size_eq]; exact h40)
  rw [W.meant_noshape t h, if_pos hb]
theorem unq_notBare (t : ByteArray) (h : t.size < 2 ∨ t.data.toList.head? ≠ some 34 ∨ t.data.toList.getLast? ≠ some 34) (hb : W.bareL t.data.toList = false) : W.unqL t.data.toList = ([], 2) := by
  refine W.unq_none ?_
  rw [W.meant_noshape t h, if_neg (by simp [hb])]

end Go.Proofs.Ytfajfjocpgbmeaa
