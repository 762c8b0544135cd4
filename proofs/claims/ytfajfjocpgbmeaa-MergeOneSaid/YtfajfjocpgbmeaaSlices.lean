/-
  slices.Delete and clear at lines of the call's own; elements stored over others. Condition: at most 2^30 lines.
-/
import Derived.Test.YtfajfjocpgbmeaaLinesC
import Derived.Test.YtfajfjocpgbmeaaOwnMany
import Derived.StillTailTactics
import Derived.ArgAppend
import Derived.Lib.AppendZeros
import Derived.Lib.AppendZerosOnto
namespace Go.Proofs.Ytfajfjocpgbmeaa
open Go.RowKit
set_option linter.unusedVariables false

theorem Own.frozenNo {α : Type} {E : Elem α} {w : World} {base g n cap : Nat} {t : List α} (h : Own E w base (.slice (some ⟨g, 0, none⟩) n cap) t) (j : Nat) : w.frozen? ⟨g, j, none⟩ = false ∧ base ≤ g ∧ g < w.heap.size := by
  rcases h.2 with ⟨e, _⟩ | ⟨g2, cap2, cur, e, hbg, hgg, _⟩
  · cases e
  · injection e with e1 e2 e3
    injection e1 with e1
    injection e1 with e1
    subst e1
    exact ⟨Lib.frozen_of_heap hgg j, hbg, (Array.getElem?_eq_some_iff.1 hgg).1⟩
theorem Own.sight {α : Type} {E : Elem α} {w : World} {base n cap : Nat} {A : Option Addr} {l : List α} (h : Own E w base (.slice A n cap) l) : Seen E w A l := by
  obtain ⟨A2, c2, e, _, hs⟩ := h.seen
  injection e with e1 _ _
  rw [e1]; exact hs
theorem below_cells {B : Nat} {a : World} (b : Nat) (hb : B ≤ b) : ∀ (vs : List Value) (o : Nat) {w : World}, Below B a w → Below B a (w.setCells b o vs)
  | [], _, _, h => h
  | v :: r, o, _, h => below_cells b hb r (o + 1) (h.setCell (p := ⟨b, o, none⟩) hb v)
theorem set_split (l r : List Value) (o : Nat) (v : Value) (h : o < l.length) : (l.set o v).take (o + 1) ++ r ++ (l.set o v).drop (o + 1 + r.length) = l.take o ++ (v :: r) ++ l.drop (o + (r.length + 1)) := by
  obtain ⟨A, x, B, rfl, rfl⟩ : ∃ (A : List Value) (x : Value) (B : List Value), l = A ++ x :: B ∧ A.length = o :=
    ⟨l.take o, l[o], l.drop (o + 1), by rw [List.getElem_cons_drop, List.take_append_drop], by rw [List.length_take]; omega⟩
  have e : (A ++ x :: B).set A.length v = A ++ v :: B := by simp
  rw [e, List.take_length_add_append, Nat.add_assoc, List.drop_length_add_append, List.take_left, List.drop_length_add_append, Nat.add_comm 1 r.length]
  simp
theorem setCells_block (g : Nat) (T : TypeId) : ∀ (vs : List Value) (o : Nat) (w : World) (cur : Array Value), w.heap[g]? = some (.cells cur T) → o + vs.length ≤ cur.size →
    ∃ cur2 : Array Value, (w.setCells g o vs).heap[g]? = some (.cells cur2 T) ∧ cur2.toList = cur.toList.take o ++ vs ++ cur.toList.drop (o + vs.length)
  | [], o, w, cur, h, _ => ⟨cur, h, by simp⟩
  | v :: r, o, w, cur, h, hl => by
    rw [List.length_cons] at hl
    have h1 : (w.setCell ⟨g, o, none⟩ v).heap[g]? = some (.cells (cur.setIfInBounds o v) T) := by simp [World.setCell, Array.getElem?_modify, h]
    obtain ⟨cur2, h2, h3⟩ := setCells_block g T r (o + 1) _ _ h1 (by rw [Array.size_setIfInBounds]; omega)
    refine ⟨cur2, h2, ?_⟩
    have hol : o < cur.toList.length := by rw [Array.length_toList]; omega
    rw [h3, Array.toList_setIfInBounds, set_split _ _ _ _ hol, List.length_cons]
theorem Own.parts {α : Type} {E : Elem α} {w : World} {base g n cap : Nat} {t : List α} (h : Own E w base (.slice (some ⟨g, 0, none⟩) n cap) t) : ∃ cur : Array Value, t.length = n ∧ base ≤ g ∧ w.heap[g]? = some (.cells cur E.T) ∧ n ≤ cap ∧ cap ≤ maxLen ∧ cur.size = cap * E.sz ∧ cur.toList.take (n * E.sz) = cellsG E t := by
  rcases h.2 with ⟨e, _⟩ | ⟨g2, cap2, cur, e, hbg, hgg, hnc, hcm, hcs, htk⟩
  · cases e
  · injection e with e1 e2 e3
    injection e1 with e1
    injection e1 with e1
    subst e1; subst e2; subst e3
    exact ⟨cur, rfl, hbg, hgg, hnc, hcm, hcs, htk⟩
theorem cellsG_take {α : Type} (E : Elem α) (t : List α) (i : Nat) : (cellsG E t).take (i * E.sz) = cellsG E (t.take i) := by
  conv => lhs; rw [← List.take_append_drop i t, cellsG_append]
  rcases Nat.lt_or_ge t.length i with h | h
  · rw [List.take_of_length_le (Nat.le_of_lt h), List.drop_eq_nil_of_le (Nat.le_of_lt h)]
    have e : cellsG E ([] : List α) = [] := rfl
    rw [e, List.append_nil, List.take_of_length_le]
    rw [cellsG_len]; exact Nat.mul_le_mul_right _ (Nat.le_of_lt h)
  · have e : (cellsG E (t.take i)).length = i * E.sz := by rw [cellsG_len, List.length_take, Nat.min_eq_left h]
    rw [← e, List.take_left]
/-- Elements, stored over those from a place on; what stands behind is cut off. -/
theorem Own.over {α : Type} {E : Elem α} {w : World} {base g n cap : Nat} {t l2 : List α} (h : Own E w base (.slice (some ⟨g, 0, none⟩) n cap) t) {i r : Nat} (hi : i ≤ n) (hr : l2.length = r) (hc : i + r ≤ cap) : Own E (w.setCells g (i * E.sz) (cellsG E l2)) base (.slice (some ⟨g, 0, none⟩) (i + r) cap) (t.take i ++ l2) := by
  obtain ⟨cur, h1, h2, h3, h4, h5, h6, h7⟩ := h.parts
  have hl2 := cellsG_len E l2
  have hmul : (i + r) * E.sz ≤ cap * E.sz := Nat.mul_le_mul_right _ hc
  have hmul2 : i * E.sz ≤ n * E.sz := Nat.mul_le_mul_right _ hi
  rw [Nat.add_mul] at hmul
  obtain ⟨cur2, k1, k2⟩ := setCells_block g E.T (cellsG E l2) (i * E.sz) w cur h3 (by rw [hl2, hr]; omega)
  have hlen : (t.take i ++ l2).length = i + r := by rw [List.length_append, List.length_take, hr]; omega
  refine ⟨by rw [cellsG_len], .inr ⟨g, cap, cur2, by rw [hlen], h2, k1, by rw [hlen]; exact hc, h5, ?_, ?_⟩⟩
  · have e := congrArg List.length k2
    rw [Array.length_toList] at e
    rw [e, List.length_append, List.length_append, List.length_take, List.length_drop, Array.length_toList, hl2, hr, h6]
    omega
  · have e0 : cur.toList.take (i * E.sz) = cellsG E (t.take i) := by
      rw [← cellsG_take, ← h7, List.take_take, Nat.min_eq_left hmul2]
    have e1 : (cellsG E (t.take i) ++ cellsG E l2).length = (i + r) * E.sz := by
      rw [List.length_append, cellsG_len, cellsG_len, hr, List.length_take, Nat.add_mul, Nat.min_eq_left (by omega)]
    rw [hlen, cellsG_append, k2, e0, ← e1, List.take_left]
/-- What is stored behind the last element turns nothing. -/
theorem Own.behind {α : Type} {E : Elem α} {w : World} {base g n cap : Nat} {t : List α} (h : Own E w base (.slice (some ⟨g, 0, none⟩) n cap) t) {o : Nat} (vs : List Value) (ho : n * E.sz ≤ o) (hc : o + vs.length ≤ cap * E.sz) : Own E (w.setCells g o vs) base (.slice (some ⟨g, 0, none⟩) n cap) t := by
  obtain ⟨cur, h1, h2, h3, h4, h5, h6, h7⟩ := h.parts
  obtain ⟨cur2, k1, k2⟩ := setCells_block g E.T vs o w cur h3 (by omega)
  subst h1
  refine ⟨h.1, .inr ⟨g, cap, cur2, rfl, h2, k1, h4, h5, ?_, ?_⟩⟩
  · have e := congrArg List.length k2
    rw [Array.length_toList] at e
    rw [e, List.length_append, List.length_append, List.length_take, List.length_drop, Array.length_toList, h6]
    omega
  · rw [k2, List.append_assoc, List.take_append, List.take_take, Nat.min_eq_left ho, h7, List.length_take]
    have e : t.length * E.sz - min o cur.toList.length = 0 := by
      have hmul : t.length * E.sz ≤ cap * E.sz := Nat.mul_le_mul_right _ h4
      have hcl : cur.toList.length = cur.size := Array.length_toList
      omega
    rw [e, List.take_zero, List.append_nil]
theorem zeroCells_one (a : Array Value) (h : ∀ v ∈ a, v.oneCell' = true) (n : Nat) : ∀ v ∈ (Builtin.zeroCells a n).toList, v.oneCell' = true := by
  intro v hv
  unfold Builtin.zeroCells at hv
  rw [Array.toList_map] at hv
  obtain ⟨i, hi, rfl⟩ := List.mem_map.1 hv
  have hi2 : i < n * a.size := by simpa using hi
  have hpos : 0 < a.size := Nat.pos_of_ne_zero fun e => by rw [e] at hi2; omega
  have hm : i % a.size < a.size := Nat.mod_lt _ hpos
  rw [getElem!_pos a (i % a.size) hm]
  exact h _ (Array.getElem_mem hm)

/-- clear, of lines of the call's own. -/
theorem run_clear_lines (w : World) (g o n c : Nat) (hn : 0 < n) (hc : ∀ j, j < n * 3 → (w.cell? ⟨g, o + j, none⟩).isSome = true) (hf : ∀ j, j < n * 3 → w.frozen? ⟨g, o + j, none⟩ = false) :
    ∃ vs : List Value, vs.length = n * 3 ∧ ∀ ty : TypeId, (Builtin.clear_ #[22] ty #[.slice (some ⟨g, o, none⟩) n c]).run Try.prog w = .ok (.tuple #[]) (w.setCells g o vs) := by
  obtain ⟨i0, hi0, hz0, hz1, hz2⟩ := info_parts eL.hin
  have hv : ∀ w, (zeroValue 35).run Try.prog w = .ok zeroLn w := fun w => by
    have e : Try.prog.info? 35 = some i0 := hi0
    have e2 : i0.zero = some zeroLn := hz0
    simp [zeroValue, typeInfo, e, e2]
  have hu : Try.prog.underlying 22 = some (.slice 35) := Try.underlying22
  obtain ⟨vs, hvs⟩ : ∃ vs, (Builtin.zeroCells zeroLn.cells n).toList = vs := ⟨_, rfl⟩
  have hl : vs.length = n * 3 := by rw [← hvs, Array.length_toList, size_zeroCells]; rfl
  have h1 : ∀ v ∈ vs, v.oneCell' = true := by
    rw [← hvs]
    refine zeroCells_one _ ?_ n
    decide +kernel
  have hst := run_storeCells_cells (P := Try.prog) g o vs 0 w (by rw [hl]; simpa using hc) (by rw [hl]; simpa using hf) h1
  simp only [Nat.add_zero] at hst
  obtain ⟨m, rfl⟩ : ∃ m, n = m + 1 := ⟨n - 1, by omega⟩
  refine ⟨vs, hl, fun ty => ?_⟩
  simp [Builtin.clear_, run_underlying hu, hv, hvs, hst]

theorem holds_cells {α : Type} {E : Elem α} {w : World} {b q : Nat} {l2 : List α} (hc : Holds E w b q l2) : ∀ j u, (cellsG E l2)[j]? = some u → w.cell? ((⟨b, q, none⟩ : Addr).add j) = some u := by
  intro j u hu
  have hj : j < l2.length * E.sz := by rw [← cellsG_len]; exact (List.getElem?_eq_some_iff.1 hu).1
  have hsz := E.hsz
  have hi : j / E.sz < l2.length := Nat.div_lt_of_lt_mul (by rw [Nat.mul_comm]; exact hj)
  have hr : j % E.sz < E.sz := Nat.mod_lt _ hsz
  have e : j / E.sz * E.sz + j % E.sz = j := by rw [Nat.mul_comm]; exact Nat.div_add_mod j E.sz
  rw [← e, cellsG_at E l2 _ _ hi hr] at hu
  have := hc _ hi _ u hu
  rw [show q + j / E.sz * E.sz + j % E.sz = q + j by omega] at this
  rw [add_off]; exact this

set_option maxRecDepth 100000 in
set_option maxHeartbeats 4000000 in
theorem delete_any (base g cap i j n : Nat) (t : List T.Ln) (w : World) (hown : Own eL w base (.slice (some ⟨g, 0, none⟩) n cap) t) (hij : i < j) (hjn : j ≤ n) (hl : n ≤ 1073741824) :
    Calls Try.prog 55 #[.slice (some ⟨g, 0, none⟩) n cap, .int .i64 i, .int .i64 j] w (fun e w' => e = .returned (.slice (some ⟨g, 0, none⟩) (i + (n - j)) cap) ∧ Own eL w' base (.slice (some ⟨g, 0, none⟩) (i + (n - j)) cap) (t.take i ++ t.drop j) ∧ Below base w w') := by
  obtain ⟨cur, hn, hbg, hgg, hnc, hcm, hcs, htk⟩ := hown.parts
  have hne : ((i : Int) == (j : Int)) = false := beq_eq_false_iff_ne.2 (by omega)
  have hne2 : (i == j) = false := beq_eq_false_iff_ne.2 (by omega)
  have hic : i ≤ cap := by omega
  have hjc : j ≤ cap := by omega
  have hil : i ≤ j := by omega
  have hin : i ≤ n := by omega
  -- what stands behind
  have hcur : ∀ x, x < cur.size → (w.cell? ⟨g, x, none⟩).isSome = true := by
    intro x hx
    simp [World.cell?, hgg, hx]
  obtain ⟨_, _, hhg0⟩ : ∃ _ : True, ∃ _ : True, Holds eL w g 0 t := by
    by_cases h0 : 0 < t.length
    · obtain ⟨b2, e2, _, _, hh⟩ := hown.block h0
      injection e2 with e2
      injection e2 with e2
      subst e2
      exact ⟨trivial, trivial, hh⟩
    · omega
  have hlen2 : (cellsG eL (t.drop j)).length = (n - j) * 3 := by rw [cellsG_len, List.length_drop, hn]; rfl
  obtain ⟨ad, had, hsrc⟩ : ∃ ad : Addr, (if cap = j then some (⟨g, 0, none⟩ : Addr) else some ⟨g, j * 3, none⟩) = some ad ∧ ∀ q u, (cellsG eL (t.drop j))[q]? = some u → w.drew.cell? (ad.add q) = some u := by
    by_cases h : cap = j
    · refine ⟨⟨g, 0, none⟩, by simp [h], fun q u hu => ?_⟩
      rw [List.drop_eq_nil_of_le (by omega)] at hu
      simp [cellsG] at hu
    · refine ⟨⟨g, j * 3, none⟩, by simp [h], fun q u hu => ?_⟩
      have := holds_cells (hhg0.drop j) q u hu
      rw [Nat.zero_add] at this
      exact this
  obtain ⟨i0, hi0, hz0, hz1, hz2⟩ := info_parts eL.hin
  have hz3 : i0.size = 3 := hz1
  have hr := fun ty => run_append_room_cells (P := Try.prog) (w := w.drew) 22 ty 35 i0 Try.underlying22 hi0 g 0 i cap ad (n - j) (cap - j) (cellsG eL (t.drop j)) (by rw [hlen2, hz3]) hsrc (cellsG_onec eL _) (by omega)
    (fun q hq => by rw [hlen2] at hq; rw [hz3, Nat.zero_add]; exact hcur _ (by rw [hcs]; show i * 3 + q < cap * 3; omega))
    (fun q hq => Lib.frozen_of_heap hgg _)
  rw [hz3, Nat.zero_add] at hr
  have hO1 : Own eL (w.drew.setCells g (i * 3) (cellsG eL (t.drop j))) base (.slice (some ⟨g, 0, none⟩) (i + (n - j)) cap) (t.take i ++ t.drop j) := Own.over (E := eL) hown.drew hin (by rw [List.length_drop, hn]) (by omega)
  obtain ⟨W1, hW1⟩ : ∃ W1, W1 = w.drew.setCells g (i * 3) (cellsG eL (t.drop j)) := ⟨_, rfl⟩
  rw [← hW1] at hO1
  have hB1 : Below base w W1 := by rw [hW1]; exact below_cells g hbg _ _ ((Below.refl base w).drew)
  have HR := Lib.hid hr
  have HW := Lib.hid hW1
  obtain ⟨cur1, k1, k2, k3, k4, k5, k6, k7⟩ := hO1.parts
  have k8 : cur1.size = cap * 3 := k6
  obtain ⟨vs, hvs, hcl⟩ := run_clear_lines W1 g ((i + (n - j)) * 3) (n - (i + (n - j))) (cap - (i + (n - j))) (by omega)
    (fun x hx => by simp [World.cell?, k3, show (i + (n - j)) * 3 + x < cur1.size by omega]) (fun x hx => Lib.frozen_of_heap k3 _)
  have hO2 := Lib.hid (hO1.behind (o := (i + (n - j)) * 3) vs (Nat.le_refl _) (by rw [hvs]; show _ ≤ cap * 3; omega))
  have hB2 := Lib.hid (below_cells g hbg vs ((i + (n - j)) * 3) hB1)
  have hmc : i + (n - j) ≤ cap := by omega
  have hmn : i + (n - j) ≤ n := by omega
  clear hr hW1 hsrc hhg0 hlen2 hcur k1 k2 k3 k4 k5 k6 k7 k8 hO1 hB1 hvs hi0 hz0 hz1 hz2 hz3 hgg hcs htk hown
  go_enter Try.func55, Try.ntmps55
  go_wp2_with fail
  go_still_tail 6, (by kernel_rfl)
  change wpList _ _ _ _ _ w.drew
  refine Lib.wpList_append_run w.drew rfl (.tmp 22) (.tmp 25) _ _ rfl _ _ rfl rfl _ _ (HR.out _) ?_
  rw [← HW.out]
  go_wp2
  go_ret
  exact ⟨rfl, hO2.out, hB2.out⟩

end Go.Proofs.Ytfajfjocpgbmeaa
