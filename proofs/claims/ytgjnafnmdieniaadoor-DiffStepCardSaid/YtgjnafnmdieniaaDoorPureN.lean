/-
  Plain laws for layer 8's code: a path that is new at its last word alone, added; its mark, set. Condition: trees.
-/
import Derived.Test.YtgjnafnmdieniaaDoorPureI
namespace Go.Proofs.YtgjnafnmdieniaaDoor
namespace T
open Go

theorem add_put {t : List Ln} (h : RightT t) {up : Pth} {w : List UInt8} (ho : Open t up) (hn : ∀ i, i < t.length → pathL t i ≠ up ++ [w]) : addL t (up ++ [w]) = putL t up w 0 := by
  have key : ∀ n, n ≤ up.length → addTo t (up ++ [w]) n = t := by
    intro n
    induction n with
    | zero => intro _; rfl
    | succ n ih =>
      intro hl
      have e := ih (by omega)
      show (if findI (addTo t (up ++ [w]) n) ((up ++ [w]).take (n + 1)) < 0 then putL (addTo t (up ++ [w]) n) ((up ++ [w]).take n) ((up ++ [w]).getD n []) 0 else addTo t (up ++ [w]) n) = t
      rw [e, if_neg]
      rw [List.take_append_of_le_length hl]
      rcases ho with rfl | ⟨i, hi, ei⟩
      · simp at hl
      · obtain ⟨k, hk, ek⟩ := h.path_take i i (n + 1) (Nat.le_refl _) hi (by omega) (by rw [ei]; exact hl)
        rw [ei] at ek
        rw [findI_some h hk ek]; omega
  unfold addL
  rw [List.length_append, List.length_singleton]
  show (if findI (addTo t (up ++ [w]) up.length) ((up ++ [w]).take (up.length + 1)) < 0 then putL (addTo t (up ++ [w]) up.length) ((up ++ [w]).take up.length) ((up ++ [w]).getD up.length []) 0 else addTo t (up ++ [w]) up.length) = _
  rw [key _ (Nat.le_refl _), List.take_of_length_le (show (up ++ [w]).length ≤ up.length + 1 by simp), List.take_left, findI_none hn, if_pos (by omega)]
  congr 1
  simp [List.getD]
theorem put_mark {t : List Ln} (h : RightT t) {up : Pth} {w : List UInt8} (ho : Open t up) (hn : ∀ i, i < t.length → pathL t i ≠ up ++ [w]) (h200 : t.length < 200) (hdeep : up.length < 16) (hw : w.length ≤ 40) {m : Int} (hm : 0 ≤ m ∧ m ≤ 3)
    {i : Nat} (hi : i < (T.putL t up w 0).length) (hp : pathL (T.putL t up w 0) i = up ++ [w]) : S.setM (T.putL t up w 0) i m = T.putL t up w m := by
  obtain ⟨a1, a2⟩ := h.putL (m := 0) ho hn h200 hdeep hw ⟨by omega, by omega⟩
  obtain ⟨b1, b2⟩ := h.putL (m := m) ho hn h200 hdeep hw hm
  refine (S.RightT.setM a1 hi hm).ext b1 fun x => ?_
  rw [mark_entries a1 hi m x, hp, a2 x, b2 x]
  constructor
  · rintro (⟨h1 | h1, h2⟩ | h1)
    · subst h1; exact absurd rfl h2
    · exact .inr h1
    · exact .inl h1
  · rintro (h1 | h1)
    · exact .inr h1
    · refine .inl ⟨.inr h1, fun e => ?_⟩
      obtain ⟨k, hk, ek⟩ := isIn_of h1
      exact hn k hk (ek.trans e)
end T
end Go.Proofs.YtgjnafnmdieniaaDoor
