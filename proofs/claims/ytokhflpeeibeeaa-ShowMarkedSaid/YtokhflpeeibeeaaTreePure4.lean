/-
  Plain laws on lines for layer 3 (tree): all that stand under a line, all lines under which nothing stands, how many they are. No conditions.
-/
import Derived.Test.YtokhflpeeibeeaaTreePure3
namespace Go.Proofs.Ytokhflpeeibeeaa.T

def kidsL (t : List Ln) (i : Int) : List Nat := (List.range t.length).filter fun k => underL t k == i
def leafB (t : List Ln) (i : Nat) : Bool := endL t i == i + 1
def leavesL (t : List Ln) : List Nat := (List.range t.length).filter (leafB t)
theorem mem_kids (t : List Ln) (i : Int) (k : Nat) : k ∈ kidsL t i ↔ k < t.length ∧ underL t k = i := by
  unfold kidsL; rw [List.mem_filter, List.mem_range, beq_iff_eq]
/-- A line right behind one of a lower depth stands under it. -/
theorem under_next (t : List Ln) (i : Nat) (h : dp t i < dp t (i + 1)) : underL t (i + 1) = (i : Int) := by
  unfold underL; simp only [underF]; rw [if_pos h]
theorem leaf_iff (t : List Ln) (i : Nat) (hi : i < t.length) : leafB t i = true ↔ kidsL t i = [] := by
  obtain ⟨g1, g2, g3, g4⟩ := end_spec t i hi
  unfold leafB
  rw [beq_iff_eq]
  constructor
  · intro he
    rw [List.eq_nil_iff_forall_not_mem]
    intro k hk
    rw [mem_kids] at hk
    obtain ⟨hkl, hku⟩ := hk
    unfold underL at hku
    rcases under_spec t (dp t k) k with ⟨h1, _⟩ | ⟨u, u1, u2, u3, u4⟩
    · omega
    · obtain rfl : u = i := by omega
      rcases Nat.eq_or_lt_of_le u1 with h | h
      · obtain rfl : k = u + 1 := by omega
        have := g4 (by omega)
        rw [he] at this; omega
      · have h1 := u4 (u + 1) (by omega) h
        have := g4 (by omega)
        rw [he] at this; omega
  · intro hk
    rcases Nat.eq_or_lt_of_le g1 with h | h
    · omega
    · have h1 := g3 (i + 1) (by omega) h
      have hm : i + 1 ∈ kidsL t i := (mem_kids t i (i + 1)).2 ⟨by omega, under_next t i h1⟩
      rw [hk] at hm; cases hm
/-- How many lines stand under one ahead of i, or under none. -/
def manyL (t : List Ln) (i : Int) : Nat := ((List.range t.length).filter fun k => decide (underL t k < i)).length
theorem filter_split (l : List Nat) (f : Nat → Int) (i : Int) : (l.filter fun k => decide (f k < i + 1)).length = (l.filter fun k => decide (f k < i)).length + (l.filter fun k => f k == i).length := by
  induction l with
  | nil => rfl
  | cons x l ih =>
    simp only [List.filter_cons]
    rcases Int.lt_trichotomy (f x) i with h | h | h
    · have h1 : f x < i + 1 := by omega
      have h2 : ¬ f x = i := by omega
      simp [h, h1, h2, ih]; omega
    · have h1 : decide (f x < i + 1) = true := decide_eq_true (by omega)
      have h2 : decide (f x < i) = false := decide_eq_false (by omega)
      have h3 : (f x == i) = true := beq_iff_eq.2 h
      rw [h1, h2, h3]
      simp only [if_true, List.length_cons, Bool.false_eq_true, if_false]
      omega
    · have h1 : ¬ f x < i + 1 := by omega
      have h2 : ¬ f x < i := by omega
      have h3 : ¬ f x = i := by omega
      simp [h1, h2, h3, ih]
theorem many_next (t : List Ln) (i : Int) : manyL t (i + 1) = manyL t i + (kidsL t i).length := filter_split _ (fun k => underL t k) i
theorem many_none (t : List Ln) : manyL t (-1) = 0 := by
  unfold manyL
  rw [List.length_eq_zero_iff, List.filter_eq_nil_iff]
  intro k _
  have := (under_lt t k).1
  simp; omega
theorem many_all (t : List Ln) : manyL t t.length = t.length := by
  unfold manyL
  rw [List.filter_eq_self.2 (fun k hk => ?_), List.length_range]
  have := (under_lt t k).2
  have := List.mem_range.1 hk
  simp; omega
/-- How many of the first n lines have nothing under them. -/
def leafN (t : List Ln) (n : Nat) : Nat := ((List.range n).filter (leafB t)).length
theorem leafN_next (t : List Ln) (n : Nat) : leafN t (n + 1) = leafN t n + if leafB t n = true then 1 else 0 := by
  unfold leafN
  rw [List.range_succ, List.filter_append, List.length_append]
  cases h : leafB t n <;> simp [h]
theorem leafN_all (t : List Ln) : leafN t t.length = (leavesL t).length := rfl
end Go.Proofs.Ytokhflpeeibeeaa.T
