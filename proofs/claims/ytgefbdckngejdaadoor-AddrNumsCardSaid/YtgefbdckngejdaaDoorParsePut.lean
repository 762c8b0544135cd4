/-
  Contracts of the document's With and Put (layer 5): a path and one more word; a line where it belongs. Condition: a tree, and the path of one of its lines, or of none.
  Contract of the document's Put (layer 5): a line where it belongs. Condition: a tree, and the path of one of its lines, or of none.
-/
import Derived.Test.YtgefbdckngejdaaDoorTreeE
import Derived.Test.YtgefbdckngejdaaDoorPureP
import Derived.Deep.LoopGhost
import Derived.WalkMore

namespace Go.Proofs.YtgefbdckngejdaaDoor
open Go.RowKit

/-- A slice value that reads as l, at an address that may be cut. -/
def VecAt {α : Type} (E : Elem α) (w : World) (v : Value) (l : List α) : Prop :=
  (v = .slice none 0 0 ∧ l = []) ∨ ∃ b o c, v = .slice (some ⟨b, o, none⟩) l.length c ∧ l.length ≤ c ∧ b < w.heap.size ∧ Holds E w b o l
section
variable {α : Type} {E : Elem α} {w w1 : World} {v : Value} {l : List α}
theorem VecAt.nil (E : Elem α) (w : World) : VecAt E w (.slice none 0 0) [] := .inl ⟨rfl, rfl⟩
theorem VecAt.below (h : VecAt E w v l) (hb : Below w.heap.size w w1) : VecAt E w1 v l := by
  rcases h with h | ⟨b, o, c, h1, h2, h3, h4⟩
  · exact .inl h
  · exact .inr ⟨b, o, c, h1, h2, Nat.lt_of_lt_of_le h3 hb.size, h4.below hb h3⟩
theorem VecAt.seen (h : VecAt E w v l) : ∃ A c, v = .slice A l.length c ∧ l.length ≤ c ∧ Seen E w A l := by
  rcases h with ⟨h1, h2⟩ | ⟨b, o, c, h1, h2, h3, h4⟩
  · subst h2; exact ⟨none, 0, h1, Nat.le_refl _, Seen.nil⟩
  · exact ⟨_, c, h1, h2, fun _ => ⟨b, o, rfl, h3, h4⟩⟩
theorem VecAt.own {base : Nat} (h : Own E w base v l) : VecAt E w v l := by
  rcases h.2 with ⟨h1, h2⟩ | ⟨g, cap, cur, rfl, hbg, hgg, hnc, hcm, hcs, htk⟩
  · exact .inl ⟨h1, List.eq_nil_of_length_eq_zero h2⟩
  · refine .inr ⟨g, 0, cap, rfl, hnc, (Array.getElem?_eq_some_iff.1 hgg).1, fun i hi j u hu => ?_⟩
    obtain ⟨A, c, e, _, hs⟩ := h.seen
    injection e with e1 e2 e3
    subst e1
    obtain ⟨b2, o2, e4, _, hh⟩ := hs (by omega)
    injection e4 with e4
    injection e4 with e5 e6
    subst e5; subst e6
    exact hh i hi j u hu
end
/-- A call leaves a slice that reads as l. -/
def VecS {α : Type} (E : Elem α) (w : World) (l : List α) (e : Ending) (w' : World) : Prop := ∃ v, e = .returned v ∧ VecAt E w' v l ∧ Below w.heap.size w w'

/-- The place of a new word ahead of the kids from k on, at the latest at d. -/
def posF (t : List T.Ln) (w : List UInt8) (K : List Nat) (d g : Nat) : Nat := ((K.drop g).find? fun k => Op.bytesLess w (T.wd t k)).getD d
theorem posF_end (t : List T.Ln) (w : List UInt8) (K : List Nat) (d : Nat) : posF t w K d K.length = d := by unfold posF; rw [List.drop_length]; rfl
theorem posF_hit {t : List T.Ln} {w : List UInt8} {K : List Nat} {d g : Nat} (h : g < K.length) (hw : Op.bytesLess w (T.wd t K[g]) = true) : posF t w K d g = K[g] := by
  unfold posF; rw [List.drop_eq_getElem_cons h, List.find?_cons, hw]; rfl
theorem posF_miss {t : List T.Ln} {w : List UInt8} {K : List Nat} {d g : Nat} (h : g < K.length) (hw : Op.bytesLess w (T.wd t K[g]) = false) : posF t w K d g = posF t w K d (g + 1) := by
  unfold posF; rw [List.drop_eq_getElem_cons h, List.find?_cons, hw]
theorem posF_le {t : List T.Ln} {w : List UInt8} {K : List Nat} {d g n : Nat} (hK : ∀ k ∈ K, k ≤ n) (hd : d ≤ n) : posF t w K d g ≤ n := by
  unfold posF
  cases h : (K.drop g).find? fun k => Op.bytesLess w (T.wd t k) with
  | none => exact hd
  | some k => exact hK k (List.mem_of_mem_drop (List.mem_of_find?_eq_some h))
theorem posF_zero (t : List T.Ln) (p : T.Pth) (w : List UInt8) : posF t w (T.kidsL t (T.findI t p)) (T.endI t (T.findI t p)) 0 = T.posL t (T.findI t p) w := rfl
end Go.Proofs.YtgefbdckngejdaaDoor

namespace Go.Proofs.YtgefbdckngejdaaDoor
open Go.RowKit

theorem putL_is (t : List T.Ln) (p : T.Pth) (wd : List UInt8) (mk : Int) (P : Nat) (hP : T.posL t (T.findI t p) wd = P) : [] ++ t.take P ++ [(⟨(p.length : Int), wd, mk⟩ : T.Ln)] ++ t.drop P = T.putL t p wd mk := by
  have e : T.lnOf (p ++ [wd], mk) = ⟨(p.length : Int), wd, mk⟩ := by
    unfold T.lnOf
    rw [T.last_snoc]
    congr 1
    simp
  unfold T.putL T.putT
  rw [hP, e]; simp

end Go.Proofs.YtgefbdckngejdaaDoor
