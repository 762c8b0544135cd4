/-
  slices.Delete and clear at lines of the call's own; elements stored over others. Condition: at most 2^30 lines.
-/
import Derived.Test.YtgefbdckngejdaaDoorLinesC
import Derived.Test.YtgefbdckngejdaaDoorOwnMany
import Derived.StillTailTactics
import Derived.ArgAppend
import Derived.Lib.AppendZeros
import Derived.Lib.AppendZerosOnto
namespace Go.Proofs.YtgefbdckngejdaaDoor
open Go.RowKit
set_option linter.unusedVariables false

theorem Own.frozenNo {α : Type} {E : Elem α} {w : World} {base g n cap : Nat} {t : List α} (h : Own E w base (.slice (some ⟨g, 0, none⟩) n cap) t) (j : Nat) : w.frozen? ⟨g, j, none⟩ = false ∧ base ≤ g ∧ g < w.heap.size := by
  rcases h.2 with ⟨e, _⟩ | ⟨g2, cap2, cur, e, hbg, hgg, _⟩
  · cases e
  · injection e with e1 e2 e3
    injection e1 with e1
    injection e1 with e1
    subst e1
    exact ⟨Lib.frozen_of_heap hgg j, hbg, (Array.getElem?_eq_some_iff.1 hgg).1⟩
theorem Own.sight {α : Type} {E : Elem α} {w : World} {base n cap : Nat} {A : Option Addr} {l : List α} (h : Own E w base (.slice A n cap) l) : Seen E w A l := by
  obtain ⟨A2, c2, e, _, hs⟩ := h.seen
  injection e with e1 _ _
  rw [e1]; exact hs
theorem below_cells {B : Nat} {a : World} (b : Nat) (hb : B ≤ b) : ∀ (vs : List Value) (o : Nat) {w : World}, Below B a w → Below B a (w.setCells b o vs)
  | [], _, _, h => h
  | v :: r, o, _, h => below_cells b hb r (o + 1) (h.setCell (p := ⟨b, o, none⟩) hb v)
theorem set_split (l r : List Value) (o : Nat) (v : Value) (h : o < l.length) : (l.set o v).take (o + 1) ++ r ++ (l.set o v).drop (o + 1 + r.length) = l.take o ++ (v :: r) ++ l.drop (o + (r.length + 1)) := by
  obtain ⟨A, x, B, rfl, rfl⟩ : ∃ (A : List Value) (x : Value) (B : List Value), l = A ++ x :: B ∧ A.length = o :=
    ⟨l.take o, l[o], l.drop (o + 1), by rw [List.getElem_cons_drop, List.take_append_drop], by rw [List.length_take]; omega⟩
  have e : (A ++ x :: B).set A.length v = A ++ v :: B := by simp
  rw [e, List.take_length_add_append, Nat.add_assoc, List.drop_length_add_append, List.take_left, List.drop_length_add_append, Nat.add_comm 1 r.length]
  simp
theorem setCells_block (g : Nat) (T : TypeId) : ∀ (vs : List Value) (o : Nat) (w : World) (cur : Array Value), w.heap[g]? = some (.cells cur T) → o + vs.length ≤ cur.size →
    ∃ cur2 : Array Value, (w.setCells g o vs).heap[g]? = some (.cells cur2 T) ∧ cur2.toList = cur.toList.take o ++ vs ++ cur.toList.drop (o + vs.length)
  | [], o, w, cur, h, _ => ⟨cur, h, by simp⟩
  | v :: r, o, w, cur, h, hl => by
    rw [List.length_cons] at hl
    have h1 : (w.setCell ⟨g, o, none⟩ v).heap[g]? = some (.cells (cur.setIfInBounds o v) T) := by simp [World.setCell, Array.getElem?_modify, h]
    obtain ⟨cur2, h2, h3⟩ := setCells_block g T r (o + 1) _ _ h1 (by rw [Array.size_setIfInBounds]; omega)
    refine ⟨cur2, h2, ?_⟩
    have hol : o < cur.toList.length := by rw [Array.length_toList]; omega
    rw [h3, Array.toList_setIfInBounds, set_split _ _ _ _ hol, List.length_cons]
theorem Own.parts {α : Type} {E : Elem α} {w : World} {base g n cap : Nat} {t : List α} (h : Own E w base (.slice (some ⟨g, 0, none⟩) n cap) t) : ∃ cur : Array Value, t.length = n ∧ base ≤ g ∧ w.heap[g]? = some (.cells cur E.T) ∧ n ≤ cap ∧ cap ≤ maxLen ∧ cur.size = cap * E.sz ∧ cur.toList.take (n * E.sz) = cellsG E t := by
  rcases h.2 with ⟨e, _⟩ | ⟨g2, cap2, cur, e, hbg, hgg, hnc, hcm, hcs, htk⟩
  · cases e
  · injection e with e1 e2 e3
    injection e1 with e1
    injection e1 with e1
    subst e1; subst e2; subst e3
    exact ⟨cur, rfl, hbg, hgg, hnc, hcm, hcs, htk⟩
theorem cellsG_take {α : Type} (E : Elem α) (t : List α) (i : Nat) : (cellsG E t).take (i * E.sz) = cellsG E (t.take i) := by
  conv => lhs; rw [← List.take_append_drop i t, cellsG_append]
  rcases Nat.lt_or_ge t.length i with h | h
  · rw [List.take_of_length_le (Nat.le_of_lt h), List.drop_eq_nil_of_le (Nat.le_of_lt h)]
    have e : cellsG E ([] : List α) = [] := rfl
    rw [e, List.append_nil, List.take_of_length_le]
    rw [cellsG_len]; exact Nat.mul_le_mul_right _ (Nat.le_of_lt h)
  · have e : (cellsG E (t.take i)).length = i * E.sz := by rw [cellsG_len, List.length_take, Nat.min_eq_left h]
    rw [← e, List.take_left]
/-- Elements, stored over those from a place on; what stands behind is cut off. -/
theorem Own.over {α : Type} {E : Elem α} {w : World} {base g n cap : Nat} {t l2 : List α} (h : Own E w base (.slice (some ⟨g, 0, none⟩) n cap) t) {i r : Nat} (hi : i ≤ n) (hr : l2.length = r) (hc : i + r ≤ cap) : Own E (w.setCells g (i * E.sz) (cellsG E l2)) base (.slice (some ⟨g, 0, none⟩) (i + r) cap) (t.take i ++ l2) := by
  obtain ⟨cur, h1, h2, h3, h4, h5, h6, h7⟩ := h.parts
  have hl2 := cellsG_len E l2
  have hmul : (i + r) * E.sz ≤ cap * E.sz := Nat.mul_le_mul_right _ hc
  have hmul2 : i * E.sz ≤ n * E.sz := Nat.mul_le_mul_right _ hi
  rw [Nat.add_mul] at hmul
  obtain ⟨cur2, k1, k2⟩ := setCells_block g E.T (cellsG E l2) (i * E.sz) w cur h3 (by rw [hl2, hr]; omega)
  have hlen : (t.take i ++ l2).length = i + r := by rw [List.length_append, List.length_take, hr]; omega
  refine ⟨by rw [cellsG_len], .inr ⟨g, cap, cur2, by rw [hlen], h2, k1, by rw [hlen]; exact hc, h5, ?_, ?_⟩⟩
  · have e := congrArg List.length k2
    rw [Array.length_toList] at e
    rw [e, List.length_append, List.length_append, List.length_take, List.length_drop, Array.length_toList, hl2, hr, h6]
    omega
  · have e0 : cur.toList.take (i * E.sz) = cellsG E (t.take i) := by
      rw [← cellsG_take, ← h7, List.take_take, Nat.min_eq_left hmul2]
    have e1 : (cellsG E (t.take i) ++ cellsG E l2).length = (i + r) * E.sz := by
      rw [List.length_append, cellsG_len, cellsG_len, hr, List.length_take, Nat.add_mul, Nat.min_eq_left (by omega)]
    rw [hlen, cellsG_append, k2, e0, ← e1, List.take_left]
/-- What is stored behind the last element turns nothing. -/
theorem Own.behind {α : Type} {E : Elem α} {w : World} {base g n cap : Nat} {t : List α} (h : Own E w base (.slice (some ⟨g, 0, none⟩) n cap) t) {o : Nat} (vs : List Value) (ho : n * E.sz ≤ o) (hc : o + vs.length ≤ cap * E.sz) : Own E (w.setCells g o vs) base (.slice (some ⟨g, 0, none⟩) n cap) t := by
  obtain ⟨cur, h1, h2, h3, h4, h5, h6, h7⟩ := h.parts
  obtain ⟨cur2, k1, k2⟩ := setCells_block g E.T vs o w cur h3 (by omega)
  subst h1
  refine ⟨h.1, .inr ⟨g, cap, cur2, rfl, h2, k1, h4, h5, ?_, ?_⟩⟩
  · have e := congrArg List.length k2
    rw [Array.length_toList] at e
    rw [e, List.length_append, List.length_append, List.length_take, List.length_drop, Array.length_toList, h6]
    omega
  · rw [k2, List.append_assoc, List.take_append, List.take_take, Nat.min_eq_left ho, h7, List.length_take]
    have e : t.length * E.sz - min o cur.toList.length = 0 := by
      have hmul : t.length * E.sz ≤ cap * E.sz := Nat.mul_le_mul_right _ h4
      have hcl : cur.toList.length = cur.size := Array.length_toList
      omega
    rw [e, List.take_zero, List.append_nil]
theorem zeroCells_one (a : Array Value) (h : ∀ v ∈ a, v.oneCell' = true) (n : Nat) : ∀ v ∈ (Builtin.zeroCells a n).toList, v.oneCell' = true := by
  intro v hv
  unfold Builtin.zeroCells at hv
  rw [Array.toList_map] at hv
  obtain ⟨i, hi, rfl⟩ := List.mem_map.1 hv
  have hi2 : i < n * a.size := by simpa using hi
  have hpos : 0 < a.size := Nat.pos_of_ne_zero fun e => by rw [e] at hi2; omega
  have hm : i % a.size < a.size := Nat.mod_lt _ hpos
  rw [getElem!_pos a (i % a.size) hm]
  exact h _ (Array.getElem_mem hm)

theorem holds_cells {α : Type} {E : Elem α} {w : World} {b q : Nat} {l2 : List α} (hc : Holds E w b q l2) : ∀ j u, (cellsG E l2)[j]? = some u → w.cell? ((⟨b, q, none⟩ : Addr).add j) = some u := by
  intro j u hu
  have hj : j < l2.length * E.sz := by rw [← cellsG_len]; exact (List.getElem?_eq_some_iff.1 hu).1
  have hsz := E.hsz
  have hi : j / E.sz < l2.length := Nat.div_lt_of_lt_mul (by rw [Nat.mul_comm]; exact hj)
  have hr : j % E.sz < E.sz := Nat.mod_lt _ hsz
  have e : j / E.sz * E.sz + j % E.sz = j := by rw [Nat.mul_comm]; exact Nat.div_add_mod j E.sz
  rw [← e, cellsG_at E l2 _ _ hi hr] at hu
  have := hc _ hi _ u hu
  rw [show q + j / E.sz * E.sz + j % E.sz = q + j by omega] at this
  rw [add_off]; exact this

end Go.Proofs.YtgefbdckngejdaaDoor
