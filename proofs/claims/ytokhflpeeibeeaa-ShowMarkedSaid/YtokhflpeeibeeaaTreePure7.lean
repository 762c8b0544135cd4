/-
  Plain laws on lines for layer 3 (tree): all parts of Depth 0, one behind the other, are the tree. Condition: a tree.
-/
import Derived.Test.YtokhflpeeibeeaaTreePure6
namespace Go.Proofs.Ytokhflpeeibeeaa.T

theorem kidsTo_add (t : List Ln) (i : Int) (a n : Nat) : kidsTo t i (a + n) = kidsTo t i a ++ ((List.range n).map (a + ·)).filter fun m => underL t m == i := by
  unfold kidsTo; rw [List.range_add, List.filter_append]
theorem RightT.root_iff {t : List Ln} (h : RightT t) {k : Nat} (hk : k < t.length) : underL t k = -1 ↔ dp t k = 0 := by
  rcases h.under k hk with ⟨a1, a2⟩ | ⟨u, u1, u2, u3, _⟩
  · rw [a1, a2]; simp
  · have := (h.deep u (by omega)).1
    rw [u2]; omega
/-- j parts of Depth 0 are the first m lines. -/
def Parts (t : List Ln) (K : List Nat) (j m : Nat) : Prop := m ≤ t.length ∧ kidsTo t (-1) m = K.take j ∧ (m = t.length ∨ (m < t.length ∧ underL t m = -1))
theorem Parts.start (t : List Ln) (K : List Nat) : Parts t K 0 0 := by
  refine ⟨Nat.zero_le _, by simp [kidsTo], ?_⟩
  rcases Nat.eq_zero_or_pos t.length with h | h
  · exact .inl h.symm
  · exact .inr ⟨h, rfl⟩
theorem sub_root (t : List Ln) (m : Nat) (h : dp t m = 0) : subL t m = (t.drop m).take (endL t m - m) := by
  unfold subL
  rw [h]
  have : (fun x : Ln => (⟨x.depth - 0, x.word, x.mark⟩ : Ln)) = id := by funext x; simp
  rw [this, List.map_id]
theorem Parts.next {t : List Ln} (h : RightT t) {K : List Nat} (hK : kidsL t (-1) = K) {j m : Nat} (hp : Parts t K j m) (hj : j < K.length) :
    K[j] = m ∧ m < t.length ∧ Parts t K (j + 1) (endL t m) ∧ t.take m ++ subL t m = t.take (endL t m) := by
  obtain ⟨h1, h2, h3⟩ := hp
  have hm : m < t.length ∧ underL t m = -1 := by
    rcases h3 with h3 | h3
    · subst h3
      rw [kids_full, hK] at h2
      have := congrArg List.length h2
      rw [List.length_take] at this
      omega
    · exact h3
  obtain ⟨hml, hmu⟩ := hm
  have hd := (h.root_iff hml).1 hmu
  obtain ⟨g1, g2, g3, g4⟩ := end_spec t m hml
  have e1 : kidsTo t (-1) (m + 1) = K.take j ++ [m] := by rw [kids_next, if_pos hmu, h2]
  have e2 : K = K.take j ++ ([m] ++ ((List.range (t.length - (m + 1))).map ((m + 1) + ·)).filter fun x => underL t x == -1) := by
    have := kidsTo_add t (-1) (m + 1) (t.length - (m + 1))
    rw [show m + 1 + (t.length - (m + 1)) = t.length by omega, kids_full, hK, e1, List.append_assoc] at this
    exact this
  have e3 : K[j]? = some m := by
    rw [e2, List.getElem?_append_right (by rw [List.length_take]; omega)]
    simp [List.length_take, Nat.min_eq_left (Nat.le_of_lt hj)]
  have e4 : K[j] = m := by rw [List.getElem?_eq_getElem hj] at e3; injection e3
  refine ⟨e4, hml, ⟨g2, ?_, ?_⟩, ?_⟩
  · have := kidsTo_add t (-1) (m + 1) (endL t m - (m + 1))
    rw [show m + 1 + (endL t m - (m + 1)) = endL t m by omega, e1, filter_rest] at this
    · rw [this, List.append_nil, List.take_succ_eq_append_getElem hj, e4]
    · intro x hx
      obtain ⟨y, hy, rfl⟩ := List.mem_map.1 hx
      have hy := List.mem_range.1 hy
      have hgt := g3 (m + 1 + y) (by omega) (by omega)
      rw [beq_eq_false_iff_ne]
      intro e
      have := (h.root_iff (show m + 1 + y < t.length by omega)).1 e
      omega
  · rcases Nat.lt_or_ge (endL t m) t.length with hlt | hge
    · have := g4 hlt
      have := (h.deep _ hlt).1
      exact .inr ⟨hlt, (h.root_iff hlt).2 (by omega)⟩
    · exact .inl (by omega)
  · rw [sub_root t m hd, ← List.take_add, show m + (endL t m - m) = endL t m by omega]
theorem Parts.done {t : List Ln} {K : List Nat} (hK : kidsL t (-1) = K) {m : Nat} (hp : Parts t K K.length m) : m = t.length := by
  obtain ⟨h1, h2, h3⟩ := hp
  rcases h3 with h3 | ⟨h3, h4⟩
  · exact h3
  · rw [List.take_length] at h2
    have e1 : kidsTo t (-1) (m + 1) = K ++ [m] := by rw [kids_next, if_pos h4, h2]
    have := kidsTo_add t (-1) (m + 1) (t.length - (m + 1))
    rw [show m + 1 + (t.length - (m + 1)) = t.length by omega, kids_full, hK, e1, List.append_assoc] at this
    have := congrArg List.length this
    simp at this
end Go.Proofs.Ytokhflpeeibeeaa.T
