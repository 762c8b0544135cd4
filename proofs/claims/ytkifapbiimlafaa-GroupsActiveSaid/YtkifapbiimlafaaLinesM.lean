/-
  A mark of a line in a slice of the call's own, stored.
-/
import Derived.Test.YtkifapbiimlafaaParseC
import Derived.Test.YtkifapbiimlafaaPureL
import Derived.Test.YtkifapbiimlafaaLinesC
namespace Go.Proofs.Ytkifapbiimlafaa
open Go.RowKit
set_option linter.unusedVariables false

theorem Own.nilOk {α : Type} {E : Elem α} {w : World} {base n c : Nat} {A : Option Addr} {l : List α} (h : Own E w base (.slice A n c) l) : NilOk A c := by
  rintro rfl
  rcases h.2 with ⟨e, _⟩ | ⟨g, cap, cur, e, _⟩
  · injection e
  · injection e with e1; cases e1
theorem cells_mark (t : List T.Ln) : ∀ (i : Nat) (m : Int), i < t.length → (cellsG eL t).set (i * 3 + 2) (.int .i64 m) = cellsG eL (S.setM t i m) := by
  induction t with
  | nil => intro i m h; simp at h
  | cons x t ih =>
    intro i m h
    cases i with
    | zero => rfl
    | succ i =>
      have e1 : cellsG eL (x :: t) = .int .i64 x.depth :: .string (sB x.word) :: .int .i64 x.mark :: cellsG eL t := rfl
      have e2 : S.setM (x :: t) (i + 1) m = x :: S.setM t i m := rfl
      have e3 : cellsG eL (x :: S.setM t i m) = .int .i64 x.depth :: .string (sB x.word) :: .int .i64 x.mark :: cellsG eL (S.setM t i m) := rfl
      rw [e2, e3, ← ih i m (by simpa using h), e1, show (i + 1) * 3 + 2 = (i * 3 + 2) + 1 + 1 + 1 by omega]
      rfl
/-- A mark, stored. -/
theorem Own.mark {w : World} {base g n cap : Nat} {t : List T.Ln} (h : Own eL w base (.slice (some ⟨g, 0, none⟩) n cap) t) {i : Nat} (hi : i < t.length) (m : Int) : Own eL (w.setCell ⟨g, i * 3 + 2, none⟩ (.int .i64 m)) base (.slice (some ⟨g, 0, none⟩) n cap) (S.setM t i m) := by
  have hl := S.setM_len t i m
  have hcl := cellsG_len eL t
  have hcl2 := cellsG_len eL (S.setM t i m)
  rcases h.2 with ⟨e, _⟩ | ⟨g2, cap2, cur, e, hbg, hgg, hnc, hcm, hcs, htk⟩
  · cases e
  · injection e with e1 e2 e3
    injection e1 with e1
    injection e1 with e1
    subst e1; subst e2; subst e3
    refine ⟨hcl2, .inr ⟨g, cap, cur.setIfInBounds (i * 3 + 2) (.int .i64 m), by rw [hl], hbg, ?_, by rw [hl]; exact hnc, hcm, by rw [Array.size_setIfInBounds]; exact hcs, ?_⟩⟩
    · simp [World.setCell, Array.getElem?_modify, hgg]
    · rw [hl, ← cells_mark t i m hi, ← htk, Array.toList_setIfInBounds, List.take_set]
theorem Own.unfrozen {w : World} {base g n cap : Nat} {t : List T.Ln} (h : Own eL w base (.slice (some ⟨g, 0, none⟩) n cap) t) (j : Nat) : w.frozen? ⟨g, j, none⟩ = false ∧ base ≤ g ∧ g < w.heap.size := by
  rcases h.2 with ⟨e, _⟩ | ⟨g2, cap2, cur, e, hbg, hgg, _⟩
  · cases e
  · injection e with e1 e2 e3
    injection e1 with e1
    injection e1 with e1
    subst e1
    exact ⟨Lib.frozen_of_heap hgg j, hbg, (Array.getElem?_eq_some_iff.1 hgg).1⟩
end Go.Proofs.Ytkifapbiimlafaa
