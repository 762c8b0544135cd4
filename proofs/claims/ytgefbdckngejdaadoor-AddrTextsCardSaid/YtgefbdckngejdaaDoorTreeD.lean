/-
  Contract of layer 3's Path: the path of a line, or ErrArg; below the heap's size at the call the world is as it was. Condition: at most 2^30 lines.
  Contracts of layer 3's Kids and Leaves: the places that the plain definitions say, or none; below the heap's size at the call the world is as it was. Condition: at most 2^30 lines.
  Contract of layer 3's Sub: the part that the plain definition says, or none; below the heap's size at the call the world is as it was. Condition: at most 2^30 lines.
  Contracts of the document's Path, Find and Kids (layer 3): what the plain definitions say; below the heap's size at the call the world is as it was. Condition: a tree where it says so, at most 2^30 lines.
  Contract of the document's Sub (layer 3): the part that the plain definition says; below the heap's size at the call the world is as it was. Condition: a tree, a place of a line, at most 2^30 lines.
  Contracts of layer 3's kid and Find: the line of a path, or none; below the heap's size at the call the world is as it was. Condition: at most 2^30 lines, a path of at most 2^30 words.
-/
import Derived.Test.YtgefbdckngejdaaDoorTreeC
import Derived.Test.YtgefbdckngejdaaDoorPureT
import Derived.BigRegion

namespace Go.Proofs.YtgefbdckngejdaaDoor
open Go.RowKit

/-- A path comes back, in memory of the call's own. -/
def FreshP (w : World) (l : List (List UInt8)) (e : Ending) (w' : World) : Prop := ∃ A cap, e = .returned (.slice A l.length cap) ∧ l.length ≤ cap ∧ Seen eS w' A l ∧ (∀ a, A = some a → w.heap.size ≤ a.block) ∧ Below w.heap.size w w'
def FreshE (w : World) (l : List (List UInt8)) (er : Int) (e : Ending) (w' : World) : Prop := ∃ A cap, e = .returned (.tuple #[.slice A l.length cap, .int .i64 er]) ∧ l.length ≤ cap ∧ Seen eS w' A l ∧ (∀ a, A = some a → w.heap.size ≤ a.block) ∧ Below w.heap.size w w'
/-- What Path leaves. -/
def PathS (w : World) (l : List (List UInt8)) (er : Int) (e : Ending) (w' : World) : Prop := ∃ A cap, e = .returned (.tuple #[.slice A l.length cap, .int .i64 er]) ∧ l.length ≤ cap ∧ Seen eS w' A l ∧ Below w.heap.size w w'
theorem str_info : (Tryd.prog.info? 9).map (fun i => (i.zero, i.size, i.bytes)) = some (some (.string ⟨#[]⟩), 1, 16) := by kernel_rfl
/-- A row of strings is seen. -/
theorem row_seen {w : World} {g : Nat} {l : List (List UInt8)} {F : Nat → List UInt8} (h : w.rowIs g 9 l.length (fun d => .string (sB (F d)))) (hF : ∀ d, d < l.length → F d = l.getD d []) : Seen eS w (some ⟨g, 0, none⟩) l := by
  intro _
  refine ⟨g, 0, rfl, h.lt, fun i hi j u hu => ?_⟩
  match j, hu with
  | 0, hu =>
    simp only [eS, List.getElem?_cons_zero, Option.some.injEq] at hu ⊢
    rw [← hu, Nat.zero_add, Nat.mul_one, Nat.add_zero, h.cell hi, hF i hi]
    unfold List.getD
    rw [List.getElem?_eq_getElem hi]; rfl
  | j + 1, hu => simp [eS] at hu
theorem row_path {w : World} {g n d : Nat} {F : Nat → List UInt8} (h : w.rowIs g 9 n (fun d => .string (sB (F d)))) (s : List UInt8) :
    (w.setCell ⟨g, d, none⟩ (.string (sB s))).rowIs g 9 n (fun x => .string (sB (if x = d then s else F x))) := by
  refine (h.set d (.string (sB s))).congr fun i _ => ?_
  by_cases hi : i = d
  · simp [hi]
  · simp [hi]

def RelPa (w : World) (t : List T.Ln) (p : List (List UInt8)) (g n : Nat) (x : Value) (wr : World) : Prop :=
  ∃ (j : Int) (F : Nat → List UInt8), x = .int .i64 j ∧ j < n ∧ T.Laid t p j F ∧ wr.rowIs g 9 p.length (fun d => .string (sB (F d))) ∧ w.heap.size ≤ g ∧ Below w.heap.size w wr

end Go.Proofs.YtgefbdckngejdaaDoor

namespace Go.Proofs.YtgefbdckngejdaaDoor
open Go.RowKit

end Go.Proofs.YtgefbdckngejdaaDoor

namespace Go.Proofs.YtgefbdckngejdaaDoor
open Go.RowKit

end Go.Proofs.YtgefbdckngejdaaDoor

namespace Go.Proofs.YtgefbdckngejdaaDoor
open Go.RowKit

def RelPr (w : World) (t : List T.Ln) (p : List (List UInt8)) (n : Nat) (x v : Value) (wr : World) : Prop :=
  ∃ (j : Int) (acc : List (List UInt8)), x = .int .i64 j ∧ -1 ≤ j ∧ j < n ∧ j < t.length ∧ p = T.pathI t j ++ acc ∧ Own eS wr w.heap.size v acc ∧ Below w.heap.size w wr
theorem Own.base {α : Type} {E : Elem α} {w : World} {b1 b2 : Nat} {v : Value} {l : List α} (h : Own E w b1 v l) (hb : b2 ≤ b1) : Own E w b2 v l := by
  refine ⟨h.1, ?_⟩
  rcases h.2 with hn | ⟨g, cap, cur, rfl, hbg, rest⟩
  · exact .inl hn
  · exact .inr ⟨g, cap, cur, rfl, Nat.le_trans hb hbg, rest⟩
/-- What is owned: nothing, or cells. -/
theorem Own.src {α : Type} {E : Elem α} {w : World} {base : Nat} {v : Value} {l : List α} (h : Own E w base v l) : (v = .slice none 0 0 ∧ l = []) ∨ ∃ g cap, v = .slice (some ⟨g, 0, none⟩) l.length cap ∧ g < w.heap.size ∧ Holds E w g 0 l := by
  obtain ⟨A, cap, rfl, _, hs⟩ := h.seen
  rcases h.2 with ⟨e, hn⟩ | ⟨g, cap2, cur, e, hbg, hgg, _⟩
  · exact .inl ⟨e, List.eq_nil_of_length_eq_zero hn⟩
  · injection e with e1 e2 e3
    subst e1
    by_cases hl : 0 < l.length
    · obtain ⟨b, o, e, hb, hh⟩ := hs hl
      injection e with e
      injection e with e1 e2
      subst e1; subst e2
      exact .inr ⟨g, cap, rfl, hb, hh⟩
    · exact .inr ⟨g, cap, rfl, (Array.getElem?_eq_some_iff.1 hgg).1, fun i hi => absurd hi (by omega)⟩

end Go.Proofs.YtgefbdckngejdaaDoor

namespace Go.Proofs.YtgefbdckngejdaaDoor
open Go.RowKit

end Go.Proofs.YtgefbdckngejdaaDoor

namespace Go.Proofs.YtgefbdckngejdaaDoor.T
theorem RightT.no_more {t : List Ln} (h : RightT t) {i : Int} {k : Nat} (hik : i < k) (hs : k < t.length → dp t k < kidD t i) : ∀ m, k ≤ m → m < t.length → underL t m ≠ i := by
  intro m hm1 hm2 e
  obtain ⟨j, rfl⟩ : ∃ j, m = k + j := ⟨m - k, by omega⟩
  have hs := hs (by omega)
  rcases h.under (k + j) (by omega) with ⟨a1, a2⟩ | ⟨u, u1, u2, u3, u4⟩
  · unfold kidD at hs
    rw [if_pos (by omega)] at hs
    have := (h.deep k (by omega)).1; omega
  · unfold kidD at hs
    rw [if_neg (by omega)] at hs
    have hu : i.toNat = u := by omega
    rw [hu] at hs
    rcases Nat.eq_zero_or_pos j with rfl | hp
    · rw [Nat.add_zero] at u3; omega
    · have := u4 k (by omega) (by omega); omega
end Go.Proofs.YtgefbdckngejdaaDoor.T
namespace Go.Proofs.YtgefbdckngejdaaDoor
open Go.RowKit

def KidS (w : World) (t : List T.Ln) (i : Int) (s : List UInt8) (e : Ending) (w' : World) : Prop :=
  ((∃ k : Nat, k < t.length ∧ T.underL t k = i ∧ T.wd t k = s ∧ e = .returned (.tuple #[.int .i64 (k : Int), .bool true])) ∨ ((∀ k, k < t.length → T.underL t k = i → T.wd t k ≠ s) ∧ e = .returned (.tuple #[.int .i64 0, .bool false]))) ∧ Below w.heap.size w w'
def RelKd (w : World) (t : List T.Ln) (i : Int) (s : List UInt8) (g : Nat) (x : Value) (wr : World) : Prop :=
  ∃ k : Nat, k + g = t.length ∧ i < k ∧ x = .int .i64 k ∧ T.DeepTo t i k ∧ (∀ m, m < k → T.underL t m = i → T.wd t m ≠ s) ∧ w = wr

def FindS (w : World) (t : List T.Ln) (p : List (List UInt8)) (e : Ending) (w' : World) : Prop :=
  ((∃ i : Nat, i < t.length ∧ T.pathL t i = p ∧ e = .returned (.tuple #[.int .i64 (i : Int), .bool true])) ∨ ((∀ i, i < t.length → T.pathL t i ≠ p) ∧ e = .returned (.tuple #[.int .i64 0, .bool false]))) ∧ Below w.heap.size w w'
def RelFd (w : World) (t : List T.Ln) (p : List (List UInt8)) (g : Nat) (a x : Value) (wr : World) : Prop :=
  ∃ (d : Nat) (at' : Int), d + g = p.length ∧ x = .int .i64 d ∧ a = .int .i64 at' ∧ -1 ≤ at' ∧ at' < t.length ∧ T.pathI t at' = p.take d ∧ Below w.heap.size w wr

end Go.Proofs.YtgefbdckngejdaaDoor
