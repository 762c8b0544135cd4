/-
  Contracts of layer 3's kid and Find: the line of a path, or none; below the heap's size at the call the world is as it was. Condition: at most 2^30 lines, a path of at most 2^30 words.
-/
import Derived.Test.YtokhflpeeibeeaaTreeSubC
namespace Go.Proofs.Ytokhflpeeibeeaa.T
theorem RightT.no_more {t : List Ln} (h : RightT t) {i : Int} {k : Nat} (hik : i < k) (hs : k < t.length → dp t k < kidD t i) : ∀ m, k ≤ m → m < t.length → underL t m ≠ i := by
  intro m hm1 hm2 e
  obtain ⟨j, rfl⟩ : ∃ j, m = k + j := ⟨m - k, by omega⟩
  have hs := hs (by omega)
  rcases h.under (k + j) (by omega) with ⟨a1, a2⟩ | ⟨u, u1, u2, u3, u4⟩
  · unfold kidD at hs
    rw [if_pos (by omega)] at hs
    have := (h.deep k (by omega)).1; omega
  · unfold kidD at hs
    rw [if_neg (by omega)] at hs
    have hu : i.toNat = u := by omega
    rw [hu] at hs
    rcases Nat.eq_zero_or_pos j with rfl | hp
    · rw [Nat.add_zero] at u3; omega
    · have := u4 k (by omega) (by omega); omega
end Go.Proofs.Ytokhflpeeibeeaa.T
namespace Go.Proofs.Ytokhflpeeibeeaa
open Go.RowKit

def KidS (w : World) (t : List T.Ln) (i : Int) (s : List UInt8) (e : Ending) (w' : World) : Prop :=
  ((∃ k : Nat, k < t.length ∧ T.underL t k = i ∧ T.wd t k = s ∧ e = .returned (.tuple #[.int .i64 (k : Int), .bool true])) ∨ ((∀ k, k < t.length → T.underL t k = i → T.wd t k ≠ s) ∧ e = .returned (.tuple #[.int .i64 0, .bool false]))) ∧ Below w.heap.size w w'
def RelKd (w : World) (t : List T.Ln) (i : Int) (s : List UInt8) (g : Nat) (x : Value) (wr : World) : Prop :=
  ∃ k : Nat, k + g = t.length ∧ i < k ∧ x = .int .i64 k ∧ T.DeepTo t i k ∧ (∀ m, m < k → T.underL t m = i → T.wd t m ≠ s) ∧ w = wr

def FindS (w : World) (t : List T.Ln) (p : List (List UInt8)) (e : Ending) (w' : World) : Prop :=
  ((∃ i : Nat, i < t.length ∧ T.pathL t i = p ∧ e = .returned (.tuple #[.int .i64 (i : Int), .bool true])) ∨ ((∀ i, i < t.length → T.pathL t i ≠ p) ∧ e = .returned (.tuple #[.int .i64 0, .bool false]))) ∧ Below w.heap.size w w'
def RelFd (w : World) (t : List T.Ln) (p : List (List UInt8)) (g : Nat) (a x : Value) (wr : World) : Prop :=
  ∃ (d : Nat) (at' : Int), d + g = p.length ∧ x = .int .i64 d ∧ a = .int .i64 at' ∧ -1 ≤ at' ∧ at' < t.length ∧ T.pathI t at' = p.take d ∧ Below w.heap.size w wr

end Go.Proofs.Ytokhflpeeibeeaa
