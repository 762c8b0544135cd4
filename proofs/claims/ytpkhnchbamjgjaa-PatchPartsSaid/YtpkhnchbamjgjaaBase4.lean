/-
  Contract of the code's Compare: which of two entries stands ahead. No conditions.
  Contracts of slices.Clone and slices.Compact at entries of the call's own, and of the code's Set. Condition: at most 2^30 entries.
  Contracts of slices.Compact and slices.Clone at entries, and of the code's Set. Condition: at most 2^30 entries.
  Contracts of the code's slices.BinarySearchFunc at entries in order, without and of. Condition: at most 2^30 entries.
  append of what is seen, wherever it lies; slices.Grow and slices.Concat of two slices of entries. Condition: at most 2^30 entries.
  What the library proves once of slices.Sort and slices.Compact at strings, at this program's numbers. No conditions.
-/
import Derived.Test.YtpkhnchbamjgjaaBase3
import Derived.Laws.IdiomCopy
import Derived.Lib.AppendZeros
import Derived.Lib.AppendZerosOnto
import Derived.Shelf.Sort.Plain
import Derived.Shelf.Slices.CompactS
import Derived.Shelf.Slices.In.SortNone

namespace Go.Proofs.Ytpkhnchbamjgjaa.H
def cmpI (a b : Int) : Int := if a < b then -1 else if b < a then 1 else 0
theorem cmpI_zero {a b : Int} : cmpI a b = 0 ↔ a = b := by
  unfold cmpI
  constructor
  · intro h
    by_cases h1 : a < b
    · rw [if_pos h1] at h; omega
    · by_cases h2 : b < a
      · rw [if_neg h1, if_pos h2] at h; omega
      · omega
  · rintro rfl
    rw [if_neg (by omega), if_neg (by omega)]
/-- The first one that is not 0. -/
def orZ : List Int → Int
  | [] => 0
  | x :: l => if x = 0 then orZ l else x
theorem orZ_at {l : List Int} {k : Nat} (h : k < l.length) : orZ (l.drop k) = if l[k] = 0 then orZ (l.drop (k + 1)) else l[k] := by
  rw [List.drop_eq_getElem_cons h, orZ]
theorem cmp_or (x y : En) : orZ [cmpW x.host y.host, cmpI x.kind y.kind, cmpW x.key y.key, cmpW x.val y.val] = cmpE x y := by
  by_cases h1 : x.host = y.host
  · by_cases h2 : x.kind = y.kind
    · by_cases h3 : x.key = y.key
      · have a1 : aheadE x y = Op.bytesLess x.val y.val := by unfold aheadE; rw [if_neg (fun h => h h1), if_neg (fun h => h h2), if_neg (fun h => h h3)]
        have a2 : aheadE y x = Op.bytesLess y.val x.val := by unfold aheadE; rw [if_neg (fun h => h h1.symm), if_neg (fun h => h h2.symm), if_neg (fun h => h h3.symm)]
        unfold cmpE
        rw [a1, a2, orZ, if_pos (cmpW_zero.2 h1), orZ, if_pos (cmpI_zero.2 h2), orZ, if_pos (cmpW_zero.2 h3), orZ, orZ]
        by_cases h4 : cmpW x.val y.val = 0
        · rw [if_pos h4]; exact h4.symm
        · rw [if_neg h4]; rfl
      · have a1 : aheadE x y = Op.bytesLess x.key y.key := by unfold aheadE; rw [if_neg (fun h => h h1), if_neg (fun h => h h2), if_pos h3]
        have a2 : aheadE y x = Op.bytesLess y.key x.key := by unfold aheadE; rw [if_neg (fun h => h h1.symm), if_neg (fun h => h h2.symm), if_pos (fun h => h3 h.symm)]
        unfold cmpE
        rw [a1, a2, orZ, if_pos (cmpW_zero.2 h1), orZ, if_pos (cmpI_zero.2 h2), orZ, if_neg (fun h => h3 (cmpW_zero.1 h))]
        rfl
    · have a1 : aheadE x y = decide (x.kind < y.kind) := by unfold aheadE; rw [if_neg (fun h => h h1), if_pos h2]
      have a2 : aheadE y x = decide (y.kind < x.kind) := by unfold aheadE; rw [if_neg (fun h => h h1.symm), if_pos (fun h => h2 h.symm)]
      unfold cmpE
      rw [a1, a2, orZ, if_pos (cmpW_zero.2 h1), orZ, if_neg (fun h => h2 (cmpI_zero.1 h))]
      unfold cmpI
      simp only [decide_eq_true_eq]
  · have a1 : aheadE x y = Op.bytesLess x.host y.host := by unfold aheadE; rw [if_pos h1]
    have a2 : aheadE y x = Op.bytesLess y.host x.host := by unfold aheadE; rw [if_pos (fun h => h1 h.symm)]
    unfold cmpE
    rw [a1, a2, orZ, if_neg (fun h => h1 (cmpW_zero.1 h))]
    rfl
end Go.Proofs.Ytpkhnchbamjgjaa.H

namespace Go.Proofs.Ytpkhnchbamjgjaa
open Go.RowKit
set_option linter.unusedVariables false

theorem nanI (k : Int) (w : World) : Calls Try.prog 65 #[.int .i64 k] w (fun e w' => e = .returned (.bool false) ∧ w = w') := by
  go_enter Try.func65, Try.ntmps65
  go_wp2
  go_ret
  exact ⟨rfl, rfl⟩
theorem cmpInt (a b r : Int) (w : World) (h : H.cmpI a b = r) : Calls Try.prog 44 #[.int .i64 a, .int .i64 b] w (fun e w' => e = .returned (.int .i64 r) ∧ w' = w) := by
  by_cases h1 : a < b
  · have e : -1 = r := by rw [← h]; exact (if_pos h1).symm
    have b1 : decide (a < b) = true := decide_eq_true h1
    subst e
    clear h1 h
    go_enter Try.func44, Try.ntmps44
    go_wp2_with fail
    refine (nanI _ _).mono ?_
    rintro e w1 ⟨rfl, rfl⟩
    go_wp2_with fail
    refine (nanI _ _).mono ?_
    rintro e w1 ⟨rfl, rfl⟩
    go_wp2
    go_ret
    exact ⟨rfl, rfl⟩
  · have b1 : decide (a < b) = false := decide_eq_false h1
    by_cases h2 : b < a
    · have e : 1 = r := by rw [← h]; unfold H.cmpI; rw [if_neg h1, if_pos h2]
      have b2 : decide (b < a) = true := decide_eq_true h2
      subst e
      clear h1 h2 h
      go_enter Try.func44, Try.ntmps44
      go_wp2_with fail
      refine (nanI _ _).mono ?_
      rintro e w1 ⟨rfl, rfl⟩
      go_wp2_with fail
      refine (nanI _ _).mono ?_
      rintro e w1 ⟨rfl, rfl⟩
      go_wp2
      go_ret
      exact ⟨rfl, rfl⟩
    · have e : 0 = r := by rw [← h]; unfold H.cmpI; rw [if_neg h1, if_neg h2]
      have b2 : decide (b < a) = false := decide_eq_false h2
      subst e
      clear h1 h2 h
      go_enter Try.func44, Try.ntmps44
      go_wp2_with fail
      refine (nanI _ _).mono ?_
      rintro e w1 ⟨rfl, rfl⟩
      go_wp2_with fail
      refine (nanI _ _).mono ?_
      rintro e w1 ⟨rfl, rfl⟩
      go_wp2
      go_ret
      exact ⟨rfl, rfl⟩
set_option maxHeartbeats 4000000 in
theorem orC (g n c : Nat) (l : List Int) (r : Int) (w : World) (hn : l.length = n) (hA : ∀ i (h : i < l.length), w.cell? ⟨g, i, none⟩ = some (.int .i64 l[i])) (hl : n ≤ 1073741824) (hr : H.orZ l = r) :
    Calls Try.prog 42 #[.slice (some ⟨g, 0, none⟩) n c] w (fun e w' => e = .returned (.int .i64 r) ∧ w' = w) := by
  have HN := Lib.hid hn
  have HA := Lib.hid hA
  have HR := Lib.hid (show H.orZ (l.drop 0) = r from hr)
  clear hn hA hr
  go_enter Try.func42, Try.ntmps42
  go_wp2
  go_loopg [5, 8] n (fun gk vx vi wr => ∃ k : Nat, Hid (k + gk = n) ∧ k ≤ n ∧ vi = .int .i64 (k : Int) ∧ Hid (H.orZ (l.drop k) = r) ∧ wr = w)
  case atStart => exact ⟨0, Nat.zero_add _, Nat.zero_le _, rfl, HR.out, rfl⟩
  case round =>
    obtain ⟨k, HG, hk, rfl, HF, rfl⟩ := hrel
    have hgk := HG.out
    by_cases hlt : k < n
    · have blt : decide ((k : Int) < (n : Int)) = true := decide_eq_true (by omega)
      have blt2 : decide (k < n) = true := decide_eq_true hlt
      have hki : (k : Int) < (n : Int) := by omega
      have hkl : k < l.length := by have := HN.out; omega
      have c0 := HA.out k hkl
      have HX := Lib.hid (H.orZ_at hkl)
      generalize l[k] = y at c0 HX
      by_cases he : y = 0
      · subst he
        have HNX := Lib.hid (show H.orZ (l.drop (k + 1)) = r by rw [← HF.out, HX.out, if_pos rfl])
        go_wp2
        go_roundg (n - (k + 1))
        case rel => exact ⟨k + 1, (by show _ = _; omega), by omega, by go_num, HNX, rfl⟩
        case measure => omega
      · have n0 : (y != 0) = true := bne_iff_ne.2 he
        have n1 : (y == 0) = false := beq_eq_false_iff_ne.2 he
        have HE := Lib.hid (show y = r by rw [← HF.out, HX.out, if_neg he])
        clear he
        go_wp2
        go_ret
        exact ⟨by rw [HE.out]; rfl, rfl⟩
    · have blt : decide ((k : Int) < (n : Int)) = false := decide_eq_false (by omega)
      have blt2 : decide (k < n) = false := decide_eq_false hlt
      have HE := Lib.hid (show (0 : Int) = r by
        rw [← HF.out, List.drop_of_length_le (by have := HN.out; omega)]; rfl)
      go_wp2
      go_ret
      exact ⟨by rw [HE.out]; rfl, rfl⟩
set_option maxRecDepth 100000 in
set_option maxHeartbeats 4000000 in
theorem compareC (x y : H.En) (w : World) : Calls Try.prog 34 #[enV x, enV y] w (fun e w' => e = .returned (.int .i64 (H.cmpE x y)) ∧ GrewD w w') := by
  obtain ⟨r1, h1⟩ : ∃ r, cmpW x.host y.host = r := ⟨_, rfl⟩
  obtain ⟨r2, h2⟩ : ∃ r, H.cmpI x.kind y.kind = r := ⟨_, rfl⟩
  obtain ⟨r3, h3⟩ : ∃ r, cmpW x.key y.key = r := ⟨_, rfl⟩
  obtain ⟨r4, h4⟩ : ∃ r, cmpW x.val y.val = r := ⟨_, rfl⟩
  have HE := Lib.hid (show H.orZ [r1, r2, r3, r4] = H.cmpE x y by rw [← h1, ← h2, ← h3, ← h4]; exact H.cmp_or x y)
  obtain ⟨W1, hW1⟩ : ∃ W1, (w.alloc (.cells #[.string (sB x.host), .int .i64 x.kind, .string (sB x.key), .string (sB x.val)] 44)).alloc (.cells #[.string (sB y.host), .int .i64 y.kind, .string (sB y.key), .string (sB y.val)] 44) = W1 := ⟨_, rfl⟩
  have hb : Below w.heap.size w W1 := by rw [← hW1]; exact (up w _).alloc (by simp) _
  have hd : W1.drawn = w.drawn := by rw [← hW1]; rfl
  obtain ⟨x0, x1, x2, x3⟩ : W1.cell? ⟨w.heap.size, 0, none⟩ = some (.string (sB x.host)) ∧ W1.cell? ⟨w.heap.size, 1, none⟩ = some (.int .i64 x.kind) ∧ W1.cell? ⟨w.heap.size, 2, none⟩ = some (.string (sB x.key)) ∧ W1.cell? ⟨w.heap.size, 3, none⟩ = some (.string (sB x.val)) := by
    rw [← hW1]; exact (ent_below (ent_laid w x.host x.kind x.key x.val) (up _ _)).cells
  obtain ⟨y0, y1, y2, y3⟩ : W1.cell? ⟨w.heap.size + 1, 0, none⟩ = some (.string (sB y.host)) ∧ W1.cell? ⟨w.heap.size + 1, 1, none⟩ = some (.int .i64 y.kind) ∧ W1.cell? ⟨w.heap.size + 1, 2, none⟩ = some (.string (sB y.key)) ∧ W1.cell? ⟨w.heap.size + 1, 3, none⟩ = some (.string (sB y.val)) := by
    have h := (ent_laid (w.alloc (.cells #[.string (sB x.host), .int .i64 x.kind, .string (sB x.key), .string (sB x.val)] 44)) y.host y.kind y.key y.val).cells
    rw [hW1] at h
    simpa using h
  have HW1 := Lib.hid hW1
  have HB := Lib.hid hb
  have HD := Lib.hid hd
  have H1 := Lib.hid h1
  have H2 := Lib.hid h2
  have H3 := Lib.hid h3
  have H4 := Lib.hid h4
  clear hW1 hb hd h1 h2 h3 h4
  unfold enV
  go_enter Try.func34, Try.ntmps34
  go_wp2
  rw [HW1.out]
  go_still_tail 20, (by kernel_rfl)
  still_call (strCmp _ _ _ _ H1.out)
  repeat still_step
  still_call (cmpInt _ _ _ _ H2.out)
  repeat still_step
  still_call (strCmp _ _ _ _ H3.out)
  repeat still_step
  still_call (strCmp _ _ _ _ H4.out)
  repeat still_step
  refine wpStill_nil ?_
  change wpList _ _ _ _ _ W1.drew
  go_wp2_with fail
  refine (orC W1.heap.size 4 4 [r1, r2, r3, r4] _ _ rfl (fun i hi => ?_) (by omega) HE.out).mono ?_
  · match i, hi with
    | 0, _ => exact World.cell?_alloc_mark W1.drew _ _ (0, 0) 0
    | 1, _ => exact World.cell?_alloc_mark W1.drew _ _ (0, 0) 1
    | 2, _ => exact World.cell?_alloc_mark W1.drew _ _ (0, 0) 2
    | 3, _ => exact World.cell?_alloc_mark W1.drew _ _ (0, 0) 3
  rintro e w2 ⟨rfl, rfl⟩
  go_wp2
  go_ret
  exact ⟨rfl, HB.out.drew.alloc HB.out.size _, by show w.drawn ≤ W1.drawn + 1; rw [HD.out]; omega⟩
end Go.Proofs.Ytpkhnchbamjgjaa

namespace Go.Proofs.Ytpkhnchbamjgjaa.H
theorem sqE_short {l : List En} (h : l.length < 2) : sqE l = l := by
  match l, h with
  | [], _ => rfl
  | [x], _ => rfl
  | x :: y :: r, h => simp at h; omega
theorem ent_apart {a b : En} (h : a ≠ b) : a.host ≠ b.host ∨ (a.host = b.host ∧ a.kind ≠ b.kind) ∨ (a.host = b.host ∧ a.kind = b.kind ∧ a.key ≠ b.key) ∨ (a.host = b.host ∧ a.kind = b.kind ∧ a.key = b.key ∧ a.val ≠ b.val) := by
  obtain ⟨a1, a2, a3, a4⟩ := a
  obtain ⟨b1, b2, b3, b4⟩ := b
  simp only
  by_cases h1 : a1 = b1
  · by_cases h2 : a2 = b2
    · by_cases h3 : a3 = b3
      · exact .inr (.inr (.inr ⟨h1, h2, h3, fun h4 => h (by rw [h1, h2, h3, h4])⟩))
      · exact .inr (.inr (.inl ⟨h1, h2, h3⟩))
    · exact .inr (.inl ⟨h1, h2⟩)
  · exact .inl h1
end Go.Proofs.Ytpkhnchbamjgjaa.H

namespace Go.Proofs.Ytpkhnchbamjgjaa
open Go.RowKit
set_option linter.unusedVariables false

theorem wrapE (x : Int) (h : -9223372036854775808 ≤ x ∧ x ≤ 9223372036854775807) : IntKind.i64.wrap x = x := by rw [IntKind.wrap_i64]; omega
theorem RowE.at_ {w : World} {g : Nat} {l : List H.En} (h : RowE w g l) {i o : Nat} {x : H.En} (hx : l[i]? = some x) (ho : o = i * 4) : w.cell? ⟨g, o, none⟩ = some (.string (sB x.host)) ∧ w.cell? ⟨g, o + 1, none⟩ = some (.int .i64 x.kind) ∧ w.cell? ⟨g, o + 2, none⟩ = some (.string (sB x.key)) ∧ w.cell? ⟨g, o + 3, none⟩ = some (.string (sB x.val)) := by
  subst ho
  obtain ⟨h1, rfl⟩ := List.getElem?_eq_some_iff.1 hx
  have := h.cells.entry rfl rfl h1
  simpa using this
theorem RowE.first {w : World} {g : Nat} {a b : List H.En} (h : RowE w g (a ++ b)) : RowE w g a :=
  ⟨h.lt, fun i hi j u hu => h.cells i (by rw [List.length_append]; omega) j u (by rw [List.getElem_append_left hi]; exact hu), h.thaw⟩
theorem RowE.put {w : World} {g k : Nat} {l : List H.En} (h : RowE w g l) (hk : k < l.length) (x : H.En) : RowE (w.setCells g (k * 4) (enC x)) g (l.set k x) := by
  have some4 : ∀ j, j < (enC x).length → (w.cell? ⟨g, k * 4 + j, none⟩).isSome = true := fun j hj => by
    have hj : j < 4 := hj
    have := h.cells k hk j ((enC l[k])[j]'hj) (List.getElem?_eq_getElem _)
    rw [show 0 + k * eEc.sz + j = k * 4 + j by show 0 + k * 4 + j = _; omega] at this
    rw [this]; rfl
  refine ⟨Nat.lt_of_lt_of_le h.lt (below_cells g (Nat.le_refl _) (enC x) (k * 4) (Below.refl g w)).size, fun i hi j u hu => ?_, fun j => by rw [World.frozen?_setCells]; exact h.thaw j⟩
  rw [List.length_set] at hi
  have hj : j < 4 := by
    have := (List.getElem?_eq_some_iff.1 hu).1
    rw [eEc.len] at this; exact this
  show (w.setCells g (k * 4) (enC x)).cell? ⟨g, 0 + i * 4 + j, none⟩ = some u
  by_cases e : i = k
  · subst e
    rw [List.getElem_set_self] at hu
    have := World.cell?_setCells_in g (enC x) (i * 4) w some4 j hj
    rw [show 0 + i * 4 + j = i * 4 + j by omega, this, ← hu]
    exact (List.getElem?_eq_getElem _).symm
  · rw [List.getElem_set_ne (fun e2 => e e2.symm)] at hu
    rw [World.cell?_setCells_out g (enC x) (k * 4) w _ (fun _ _ => by show 0 + i * 4 + j < k * 4 ∨ k * 4 + 4 ≤ 0 + i * 4 + j; omega)]
    exact h.cells i hi j u hu
theorem RowE.behind {w : World} {g o : Nat} {l : List H.En} (h : RowE w g l) (vs : List Value) (ho : l.length * 4 ≤ o) : RowE (w.setCells g o vs) g l := by
  refine ⟨Nat.lt_of_lt_of_le h.lt (below_cells g (Nat.le_refl _) vs o (Below.refl g w)).size, fun i hi j u hu => ?_, fun j => by rw [World.frozen?_setCells]; exact h.thaw j⟩
  have hj : j < 4 := by
    have := (List.getElem?_eq_some_iff.1 hu).1
    rw [eEc.len] at this; exact this
  show (w.setCells g o vs).cell? ⟨g, 0 + i * 4 + j, none⟩ = some u
  rw [World.cell?_setCells_out g vs o w _ (fun _ _ => by show 0 + i * 4 + j < o ∨ _; omega)]
  exact h.cells i hi j u hu
/-- clear, of entries of the call's own. -/
theorem run_clear_ent (w : World) (g o n c : Nat) (hn : 0 < n) (hc : ∀ j, j < n * 4 → (w.cell? ⟨g, o + j, none⟩).isSome = true) (hf : ∀ j, j < n * 4 → w.frozen? ⟨g, o + j, none⟩ = false) :
    ∃ vs : List Value, vs.length = n * 4 ∧ ∀ ty : TypeId, (Builtin.clear_ #[22] ty #[.slice (some ⟨g, o, none⟩) n c]).run Try.prog w = .ok (.tuple #[]) (w.setCells g o vs) := by
  obtain ⟨i0, hi0, hz0, hz1, hz2⟩ := info_parts eEc.hin
  have hv : ∀ w, (zeroValue 44).run Try.prog w = .ok zeroEn w := fun w => by
    have e : Try.prog.info? 44 = some i0 := hi0
    have e2 : i0.zero = some zeroEn := hz0
    simp [zeroValue, typeInfo, e, e2]
  have hu : Try.prog.underlying 22 = some (.slice 44) := Try.underlying22
  obtain ⟨vs, hvs⟩ : ∃ vs, (Builtin.zeroCells zeroEn.cells n).toList = vs := ⟨_, rfl⟩
  have hl : vs.length = n * 4 := by rw [← hvs, Array.length_toList, size_zeroCells]; rfl
  have h1 : ∀ v ∈ vs, v.oneCell' = true := by
    rw [← hvs]
    refine zeroCells_one _ ?_ n
    decide +kernel
  have hst := run_storeCells_cells (P := Try.prog) g o vs 0 w (by rw [hl]; simpa using hc) (by rw [hl]; simpa using hf) h1
  simp only [Nat.add_zero] at hst
  obtain ⟨m, rfl⟩ : ∃ m, n = m + 1 := ⟨n - 1, by omega⟩
  refine ⟨vs, hl, fun ty => ?_⟩
  simp [Builtin.clear_, run_underlying hu, hv, hvs, hst]
/-- How far slices.Compact is: of the first q entries of X those of Y are left, in the first kk places. -/
structure InE (w : World) (g : Nat) (X Y : List H.En) (wr : World) (q kk : Nat) : Prop where
  len : Y.length = kk
  sq : Y = H.sqE (X.take q)
  row : RowE wr g (Y ++ X.drop kk)
  low : Below g w wr
theorem InE.at_ {w wr : World} {g q kk : Nat} {X Y : List H.En} (h : InE w g X Y wr q kk) {a : Nat} (ha : kk ≤ a) : (Y ++ X.drop kk)[a]? = X[a]? := by
  rw [List.getElem?_append_right (by rw [h.len]; exact ha), List.getElem?_drop, h.len, Nat.add_sub_cancel' ha]
theorem InE.full {w wr : World} {g q kk : Nat} {X Y : List H.En} (h : InE w g X Y wr q kk) (hk : kk ≤ X.length) : (Y ++ X.drop kk).length = X.length := by
  rw [List.length_append, h.len, List.length_drop]; omega
theorem InE.skip {w wr w' : World} {g q kk : Nat} {X Y : List H.En} (h : InE w g X Y wr q kk) (hb : Below wr.heap.size wr w') {q' : Nat} (hq : H.sqE (X.take q') = H.sqE (X.take q)) : InE w g X Y w' q' kk :=
  ⟨h.len, h.sq.trans hq.symm, h.row.keep hb h.row.lt, h.low.trans (hb.mono (Nat.le_of_lt h.row.lt))⟩
theorem setE_drop {α : Type} (Y X : List α) (k : Nat) (hY : Y.length = k) (hk : k < X.length) (x : α) : (Y ++ X.drop k).set k x = (Y ++ [x]) ++ X.drop (k + 1) := by
  subst hY
  obtain ⟨r, hr⟩ : ∃ r, X.drop (Y.length + 1) = r := ⟨_, rfl⟩
  obtain ⟨y, hy⟩ : ∃ y, X[Y.length] = y := ⟨_, rfl⟩
  rw [show X.drop Y.length = y :: r by rw [← hr, ← hy]; exact (List.getElem_cons_drop hk).symm, hr]
  simp
theorem InE.put {w wr w' : World} {g q kk : Nat} {X Y : List H.En} (h : InE w g X Y wr q kk) (hb : Below wr.heap.size wr w') {q' : Nat} {p : H.En} (hk : kk < X.length) (hq : H.sqE (X.take q') = H.sqE (X.take q) ++ [p]) : InE w g X (Y ++ [p]) (w'.setCells g (kk * 4) (enC p)) q' (kk + 1) := by
  have h2 := (h.row.keep hb h.row.lt).put (k := kk) (by rw [h.full (Nat.le_of_lt hk)]; exact hk) p
  rw [setE_drop _ _ _ h.len hk] at h2
  exact ⟨by rw [List.length_append, h.len]; rfl, by rw [hq, h.sq], h2, below_cells g (Nat.le_refl _) _ _ (h.low.trans (hb.mono (Nat.le_of_lt h.row.lt)))⟩
end Go.Proofs.Ytpkhnchbamjgjaa

namespace Go.Proofs.Ytpkhnchbamjgjaa
open Go.RowKit
set_option linter.unusedVariables false

set_option maxRecDepth 100000 in
set_option maxHeartbeats 16000000 in
theorem compactE (g cap n : Nat) (X : List H.En) (w : World) (hn : X.length = n) (hc : n ≤ cap) (hl : n ≤ 1073741824) (hR : RowE w g X) :
    Calls Try.prog 35 #[.slice (some ⟨g, 0, none⟩) n cap] w (fun e w' => ∃ m, e = .returned (.slice (some ⟨g, 0, none⟩) m cap) ∧ (H.sqE X).length = m ∧ m ≤ n ∧ RowE w' g (H.sqE X) ∧ Below g w w') := by
  have HN := Lib.hid hn
  have HR := Lib.hid hR
  by_cases h2 : n < 2
  · have b2 : decide ((n : Int) < 2) = true := decide_eq_true (by omega)
    have HY := Lib.hid (show H.sqE X = X from H.sqE_short (by omega))
    clear hn hR
    go_enter Try.func35, Try.ntmps35
    go_wp2
    go_ret
    exact ⟨n, rfl, by rw [HY.out]; exact HN.out, Nat.le_refl _, by rw [HY.out]; exact HR.out, Below.refl _ _⟩
  have b2 : decide ((n : Int) < 2) = false := decide_eq_false (by omega)
  have H1 := Lib.hid (show H.sqE (X.take 1) = X.take 1 from H.sqE_short (by rw [List.length_take]; omega))
  have HLT := Lib.hid hR.lt
  clear hR hn
  go_enter Try.func35, Try.ntmps35
  go_wp2
  go_loopg [3] (n - 1) (fun gk vi wr => ∃ k : Nat, Hid (k + gk = n) ∧ 1 ≤ k ∧ k ≤ n ∧ vi = .int .i64 (k : Int) ∧ Hid (H.sqE (X.take k) = X.take k) ∧ Below w.heap.size w wr)
  case atStart => exact ⟨1, (by show _ = _; omega), Nat.le_refl _, by omega, by go_num, H1.out, Below.refl _ _⟩
  case round =>
    obtain ⟨k, HG, hk1, hkn, rfl, HQ, hb⟩ := hrel
    by_cases hlt : k < n
    · have blt : decide ((k : Int) < (n : Int)) = true := decide_eq_true (by omega)
      have blt2 : decide (k < n) = true := decide_eq_true hlt
      obtain ⟨j, hj⟩ : ∃ j, k = j + 1 := ⟨k - 1, by omega⟩
      have hkX : k < X.length := by have := HN.out; omega
      have hjX : j < X.length := by omega
      obtain ⟨p, hp⟩ : ∃ p, X[k]? = some p := ⟨_, List.getElem?_eq_getElem hkX⟩
      obtain ⟨q, hq⟩ : ∃ q, X[j]? = some q := ⟨_, List.getElem?_eq_getElem hjX⟩
      have HNX := Lib.hid (H.sqE_step X k j p q hj hp hq)
      obtain ⟨p0, p1, p2, p3⟩ := (HR.out.keep hb HLT.out).at_ hp rfl
      obtain ⟨q0, q1, q2, q3⟩ := (HR.out.keep hb HLT.out).at_ hq rfl
      have hw : IntKind.i64.wrap ((k : Int) - 1) = (j : Int) := by rw [wrapE _ (by omega)]; omega
      have hki : (k : Int) < (n : Int) := by omega
      have hji : (j : Int) < (n : Int) := by omega
      have hgk := HG.out
      have HJ := Lib.hid hj
      clear hp hq hj hkX hjX
      by_cases he : p = q
      · subst he
        obtain ⟨nn, hnn⟩ : ∃ nn, n - k = nn := ⟨_, rfl⟩
        obtain ⟨cc, hcc⟩ : ∃ cc, cap - k = cc := ⟨_, rfl⟩
        have hkc : k ≤ cap := by omega
        have hkne : ¬ cap = k := by omega
        have hkn' : k ≤ n := by omega
        have HNN := Lib.hid hnn
        have HI0 := Lib.hid (fun w' (h : Below w.heap.size w w') => show InE w g X (X.take k) w' (k + 1) k from ⟨by rw [List.length_take, HN.out]; omega, by rw [HNX.out.2.2 (decide_eq_true rfl)]; exact HQ.out.symm, by rw [List.take_append_drop]; exact HR.out.keep h HLT.out, h.mono (Nat.le_of_lt HLT.out)⟩)
        go_wp2
        go_quiet (fail)
        all_goals go_wp2
        go_loopg [3, 5] (nn - 1) (fun gk v5 v7 wr => ∃ (k2 kk : Nat) (Y : List H.En), Hid (k2 + gk = nn) ∧ 1 ≤ k2 ∧ k2 ≤ nn ∧ v5 = .int .i64 (kk : Int) ∧ v7 = .int .i64 (k2 : Int) ∧ Hid (kk < k + k2) ∧ Hid (InE w g X Y wr (k + k2) kk))
        case atStart => exact ⟨1, k, X.take k, (by show _ = _; omega), Nat.le_refl _, by omega, rfl, by go_num, (by show _ < _; omega), HI0.out _ (bthen hb (drew_below _ _))⟩
        case round =>
          obtain ⟨k2, kk, Y, HG2, hk21, hk2n, rfl, rfl, HKK, HI⟩ := hrel
          by_cases hlt2 : k2 < nn
          · have blt3 : decide ((k2 : Int) < (nn : Int)) = true := decide_eq_true (by omega)
            have blt4 : decide (k2 < nn) = true := decide_eq_true hlt2
            obtain ⟨j2, hj2⟩ : ∃ j2, k2 = j2 + 1 := ⟨k2 - 1, by omega⟩
            have hkk := HKK.out
            have hxl : X.length = n := HN.out
            have hnn2 : n - k = nn := HNN.out
            obtain ⟨p, hp⟩ : ∃ p, X[k + k2]? = some p := ⟨_, List.getElem?_eq_getElem (by omega)⟩
            obtain ⟨q, hq⟩ : ∃ q, X[k + j2]? = some q := ⟨_, List.getElem?_eq_getElem (by omega)⟩
            have HNX := Lib.hid (H.sqE_step X (k + k2) (k + j2) p q (by omega) hp hq)
            obtain ⟨p0, p1, p2, p3⟩ := HI.out.row.at_ (o := k * 4 + k2 * 4) ((HI.out.at_ (a := k + k2) (by omega)).trans hp) (by omega)
            obtain ⟨q0, q1, q2, q3⟩ := HI.out.row.at_ (o := k * 4 + j2 * 4) ((HI.out.at_ (a := k + j2) (by omega)).trans hq) (by omega)
            have hw : IntKind.i64.wrap ((k2 : Int) - 1) = (j2 : Int) := by rw [wrapE _ (by omega)]; omega
            have hki : (k2 : Int) < (nn : Int) := by omega
            have hji : (j2 : Int) < (nn : Int) := by omega
            have hkkn : kk < n := by omega
            have hkki : (kk : Int) < (n : Int) := by omega
            have hgk2 := HG2.out
            obtain ⟨z, hz⟩ : ∃ z, (Y ++ X.drop kk)[kk]? = some z := ⟨_, List.getElem?_eq_getElem (by rw [HI.out.full (by omega)]; omega)⟩
            obtain ⟨z0, z1, z2, z3⟩ := HI.out.row.at_ (o := kk * 4) hz rfl
            have f0 := HI.out.row.thaw (kk * 4)
            have f1 := HI.out.row.thaw (kk * 4 + 1)
            have f2 := HI.out.row.thaw (kk * 4 + 2)
            have f3 := HI.out.row.thaw (kk * 4 + 3)
            have HKX := Lib.hid (show kk < X.length by omega)
            clear hp hq hj2 hxl hnn2 hkk hz
            by_cases he : p = q
            · subst he
              clear z0 z1 z2 z3 f0 f1 f2 f3
              go_wp2
              go_quiet (fail)
              all_goals go_wp2
              all_goals
                go_roundg (nn - (k2 + 1))
                case rel => exact ⟨k2 + 1, kk, Y, (by show _ = _; omega), by omega, by omega, rfl, by go_num, (by have := HKK.out; show _ < _; omega), HI.out.skip (drew_below _ _) (HNX.out.2.2 (by simp))⟩
                case measure => omega
            · rcases H.ent_apart he with e1 | ⟨e1, e2⟩ | ⟨e1, e2, e3⟩ | ⟨e1, e2, e3, e4⟩
              · have n1 := sB_ne e1
                have HD := Lib.hid he
                clear e1 he
                go_wp2
                go_quiet (fail)
                all_goals go_wp2
                all_goals
                  go_roundg (nn - (k2 + 1))
                  case rel => exact ⟨k2 + 1, kk + 1, Y ++ [p], (by show _ = _; omega), by omega, by omega, by go_num, by go_num, (by have := HKK.out; show _ < _; omega), HI.out.put (q' := k + (k2 + 1)) (drew_below _ _) HKX.out (HNX.out.1 (decide_eq_false HD.out))⟩
                  case measure => omega
              · have n1 := sB_eq e1
                have n2 : (p.kind == q.kind) = false := beq_eq_false_iff_ne.2 e2
                have HD := Lib.hid he
                clear e1 e2 he
                go_wp2
                go_quiet (fail)
                all_goals go_wp2
                all_goals
                  go_roundg (nn - (k2 + 1))
                  case rel => exact ⟨k2 + 1, kk + 1, Y ++ [p], (by show _ = _; omega), by omega, by omega, by go_num, by go_num, (by have := HKK.out; show _ < _; omega), HI.out.put (q' := k + (k2 + 1)) (drew_below _ _) HKX.out (HNX.out.1 (decide_eq_false HD.out))⟩
                  case measure => omega
              · have n1 := sB_eq e1
                have n2 : (p.kind == q.kind) = true := beq_iff_eq.2 e2
                have n3 := sB_ne e3
                have HD := Lib.hid he
                clear e1 e2 e3 he
                go_wp2
                go_quiet (fail)
                all_goals go_wp2
                all_goals
                  go_roundg (nn - (k2 + 1))
                  case rel => exact ⟨k2 + 1, kk + 1, Y ++ [p], (by show _ = _; omega), by omega, by omega, by go_num, by go_num, (by have := HKK.out; show _ < _; omega), HI.out.put (q' := k + (k2 + 1)) (drew_below _ _) HKX.out (HNX.out.1 (decide_eq_false HD.out))⟩
                  case measure => omega
              · have n1 := sB_eq e1
                have n2 : (p.kind == q.kind) = true := beq_iff_eq.2 e2
                have n3 := sB_eq e3
                have n4 := sB_ne e4
                have HD := Lib.hid he
                clear e1 e2 e3 e4 he
                go_wp2
                go_quiet (fail)
                all_goals go_wp2
                all_goals
                  go_roundg (nn - (k2 + 1))
                  case rel => exact ⟨k2 + 1, kk + 1, Y ++ [p], (by show _ = _; omega), by omega, by omega, by go_num, by go_num, (by have := HKK.out; show _ < _; omega), HI.out.put (q' := k + (k2 + 1)) (drew_below _ _) HKX.out (HNX.out.1 (decide_eq_false HD.out))⟩
                  case measure => omega
          · have blt3 : decide ((k2 : Int) < (nn : Int)) = false := decide_eq_false (by omega)
            have blt4 : decide (k2 < nn) = false := decide_eq_false hlt2
            have hkk := HKK.out
            have hxl : X.length = n := HN.out
            have hnn2 : n - k = nn := HNN.out
            have hkkn : kk ≤ n := by omega
            have hkkc : kk ≤ cap := by omega
            have hkkne : ¬ cap = kk := by omega
            obtain ⟨n3, hn3⟩ : ∃ n3, n - kk = n3 := ⟨_, rfl⟩
            obtain ⟨c3, hc3⟩ : ∃ c3, cap - kk = c3 := ⟨_, rfl⟩
            obtain ⟨vs, hvs, hcl⟩ := run_clear_ent wr g (kk * 4) n3 c3 (by omega) (fun x hx => by
              obtain ⟨z, hz⟩ : ∃ z, (Y ++ X.drop kk)[kk + x / 4]? = some z := ⟨_, List.getElem?_eq_getElem (by rw [HI.out.full (by omega)]; omega)⟩
              obtain ⟨h1, h2⟩ := List.getElem?_eq_some_iff.1 hz
              have hx4 : x % 4 < 4 := Nat.mod_lt _ (by decide)
              have h := HI.out.row.cells (kk + x / 4) h1 (x % 4) ((enC _)[x % 4]'hx4) (List.getElem?_eq_getElem _)
              rw [show 0 + (kk + x / 4) * eEc.sz + x % 4 = kk * 4 + x by show 0 + (kk + x / 4) * 4 + x % 4 = _; omega] at h
              rw [h]; rfl) (fun x hx => HI.out.row.thaw _)
            have HSQ := Lib.hid (show Y = H.sqE X by
              rw [HI.out.sq, List.take_of_length_le (by omega)])
            have HRW := Lib.hid (show RowE (wr.setCells g (kk * 4) vs) g Y from HI.out.row.first.behind vs (by rw [HI.out.len]; exact Nat.le_refl _))
            have HBT := Lib.hid (below_cells g (Nat.le_refl _) vs (kk * 4) HI.out.low)
            have HYL := Lib.hid HI.out.len
            clear hkk hvs
            go_wp2
            go_ret
            exact ⟨kk, rfl, by rw [← HSQ.out]; exact HYL.out, hkkn, by rw [← HSQ.out]; exact HRW.out, HBT.out⟩
      · rcases H.ent_apart he with e1 | ⟨e1, e2⟩ | ⟨e1, e2, e3⟩ | ⟨e1, e2, e3, e4⟩
        · have n1 := sB_ne e1
          have HD := Lib.hid he
          clear e1 he
          go_wp2
          go_quiet (fail)
          all_goals go_wp2
          all_goals
            go_roundg (n - (k + 1))
            case rel => exact ⟨k + 1, (by show _ = _; omega), by omega, by omega, by go_num, (HNX.out.1 (decide_eq_false HD.out)).trans (by rw [HQ.out]; exact HNX.out.2.1), bthen hb (drew_below _ _)⟩
            case measure => omega
        · have n1 := sB_eq e1
          have n2 : (p.kind == q.kind) = false := beq_eq_false_iff_ne.2 e2
          have HD := Lib.hid he
          clear e1 e2 he
          go_wp2
          go_quiet (fail)
          all_goals go_wp2
          all_goals
            go_roundg (n - (k + 1))
            case rel => exact ⟨k + 1, (by show _ = _; omega), by omega, by omega, by go_num, (HNX.out.1 (decide_eq_false HD.out)).trans (by rw [HQ.out]; exact HNX.out.2.1), bthen hb (drew_below _ _)⟩
            case measure => omega
        · have n1 := sB_eq e1
          have n2 : (p.kind == q.kind) = true := beq_iff_eq.2 e2
          have n3 := sB_ne e3
          have HD := Lib.hid he
          clear e1 e2 e3 he
          go_wp2
          go_quiet (fail)
          all_goals go_wp2
          all_goals
            go_roundg (n - (k + 1))
            case rel => exact ⟨k + 1, (by show _ = _; omega), by omega, by omega, by go_num, (HNX.out.1 (decide_eq_false HD.out)).trans (by rw [HQ.out]; exact HNX.out.2.1), bthen hb (drew_below _ _)⟩
            case measure => omega
        · have n1 := sB_eq e1
          have n2 : (p.kind == q.kind) = true := beq_iff_eq.2 e2
          have n3 := sB_eq e3
          have n4 := sB_ne e4
          have HD := Lib.hid he
          clear e1 e2 e3 e4 he
          go_wp2
          go_quiet (fail)
          all_goals go_wp2
          all_goals
            go_roundg (n - (k + 1))
            case rel => exact ⟨k + 1, (by show _ = _; omega), by omega, by omega, by go_num, (HNX.out.1 (decide_eq_false HD.out)).trans (by rw [HQ.out]; exact HNX.out.2.1), bthen hb (drew_below _ _)⟩
            case measure => omega
    · have blt : decide ((k : Int) < (n : Int)) = false := decide_eq_false (by omega)
      have blt2 : decide (k < n) = false := decide_eq_false hlt
      have HY := Lib.hid (show H.sqE X = X by
        have h := HQ.out
        rw [List.take_of_length_le (by rw [HN.out]; omega)] at h
        exact h)
      go_wp2
      go_ret
      exact ⟨n, rfl, by rw [HY.out]; exact HN.out, Nat.le_refl _, by rw [HY.out]; exact HR.out.keep hb HLT.out, hb.mono (Nat.le_of_lt HLT.out)⟩
set_option maxRecDepth 100000 in
theorem cloneEZ (c : Nat) (w : World) : Calls Try.prog 32 #[.slice none 0 c] w (OwnS eEc w []) := by
  have q := fun (w : World) (a : Option Addr) (n c : Nat) => Lib.run_eql_slice_nil (P := Try.prog) w 22 _ a n c 0 0 Try.underlying22
  go_enter Try.func32, Try.ntmps32
  go_wp2
  go_ret
  exact ⟨_, rfl, Own.nil _ _, Below.refl _ _⟩
set_option maxRecDepth 100000 in
theorem cloneES (ad : Addr) (cap n : Nat) (t : List H.En) (w : World) (hn : t.length = n) (hp : n ≤ 1073741824) (h : Seen eEc w (some ad) t) :
    Calls Try.prog 32 #[.slice (some ad) n cap] w (OwnS eEc w t) := by
  have HH := Lib.hid (h.below ((Below.refl _ _).alloc (Nat.le_refl _) (.cells #[] eEc.T)))
  have HO := Lib.hid (Own.empty eEc w)
  clear h
  have q := fun (w : World) (a : Option Addr) (n c : Nat) => Lib.run_eql_slice_nil (P := Try.prog) w 22 _ a n c 0 0 Try.underlying22
  have HN := Lib.hid hn
  clear hn
  go_enter Try.func32, Try.ntmps32
  go_wp2_with (first | (at_builtin; refine wpList_appSeen eEc (w.alloc (.cells #[] eEc.T)) rfl (.tmp 5) (.tmp 6) rfl w.heap.size _ [] rfl HO.out ad t n cap HN.out rfl HH.out (by simp; omega) (by simp) ?_; intro v3 w3 hown3 hb3))
  go_ret
  exact ⟨v3, rfl, hown3, ((Below.refl _ _).alloc (Nat.le_refl _) _).trans hb3⟩
theorem cloneE (A : Option Addr) (c n : Nat) (p : List H.En) (w : World) (hn : p.length = n) (hp : n ≤ 1073741824) (h : Seen eEc w A p) : Calls Try.prog 32 #[.slice A n c] w (OwnS eEc w p) := by
  cases A with
  | none =>
    have h0 : p = [] := by
      cases p with
      | nil => rfl
      | cons a r => obtain ⟨b, o, e, _⟩ := h (by simp); cases e
    subst h0
    obtain rfl : n = 0 := hn.symm
    exact cloneEZ c w
  | some ad => exact cloneES ad c n p w hn hp h
theorem enters_compare : ∀ args w, (callFunc 34 args).run Try.prog w = .ok (.enter 34 args) w := enters_of Try.func34 (by kernel_rfl) rfl
/-- slices.Compact of no entries. -/
theorem compactZ (A : Option Addr) (c : Nat) (w : World) : Calls Try.prog 35 #[.slice A 0 c] w (fun e w' => e = .returned (.slice A 0 c) ∧ w = w') := by
  go_enter Try.func35, Try.ntmps35
  go_wp2
  go_ret
  exact ⟨rfl, rfl⟩
set_option maxRecDepth 100000 in
set_option maxHeartbeats 4000000 in
/-- Entries in order, each once. -/
theorem setC (A : Option Addr) (c n m : Nat) (l : List H.En) (w : World) (hn : l.length = n) (hl : n ≤ 1073741824) (hA : Seen eEc w A l) (hm : (H.setE l).length = m) :
    Calls Try.prog 25 #[.slice A n c] w (fun e w' => ∃ B d, e = .returned (.slice B m d) ∧ m ≤ d ∧ Seen eEc w' B (H.setE l) ∧ Below w.heap.size w w') := by
  have HC := Lib.hid (cloneE A c n l w hn hl hA)
  have HN := Lib.hid hn
  have HM := Lib.hid hm
  clear hA hm hn
  by_cases h0 : n = 0
  · have HL0 := Lib.hid (show l = [] from List.eq_nil_of_length_eq_zero (by have := HN.out; omega))
    obtain rfl : m = 0 := by rw [← HM.out, HL0.out]; rfl
    subst h0
    go_enter Try.func25, Try.ntmps25
    go_wp2_with fail
    refine HC.out.mono ?_
    rintro e w1 ⟨v, rfl, ho, hb1⟩
    rw [HL0.out] at ho
    obtain ⟨B, d, rfl, _, _⟩ := ho.seen
    have HB1 := Lib.hid hb1
    clear ho hb1
    simp only [List.length_nil]
    go_wp2_with fail
    refine (AnyF.slices_SortFunc_none (P := Try.prog) (ρ := renSortE) laysSortE B d (.func (.func 34) #[] #[]) w1).mono ?_
    rintro e w2 ⟨rfl, rfl⟩
    go_wp2_with fail
    refine (compactZ B d _).mono ?_
    rintro e w3 ⟨rfl, rfl⟩
    go_wp2
    go_ret
    refine ⟨B, d, rfl, Nat.zero_le _, ?_, HB1.out⟩
    rw [HL0.out]
    exact Seen.nil
  · have hn0 : 0 < n := by omega
    go_enter Try.func25, Try.ntmps25
    go_wp2_with fail
    refine HC.out.mono ?_
    rintro e w1 ⟨v, rfl, ho, hb1⟩
    obtain ⟨B, d, rfl, hd, _⟩ := ho.seen
    rw [HN.out] at ho hd ⊢
    obtain ⟨g, rfl, hg1, hg2, _⟩ := ho.block (by have := HN.out; omega)
    have HR := Lib.hid (RowE.own ho (by have := HN.out; omega))
    have HB1 := Lib.hid hb1
    clear ho hb1
    go_wp2_with fail
    refine (sortE_any 34 enters_compare compareC g n d l w1 HN.out hn0 HR.out hl).mono ?_
    rintro e w2 ⟨rfl, s, hp, hso, hr, hb2⟩
    have HSQ := Lib.hid (H.sq_set hp hso)
    have HSL := Lib.hid (hp.length_eq.trans HN.out)
    have HR2 := Lib.hid hr
    have HB2 := Lib.hid (HB1.out.trans (hb2.mono hg1))
    clear hp hso hr hb2
    go_wp2_with fail
    refine (compactE g d n s _ HSL.out hd hl HR2.out).mono ?_
    rintro e w3 ⟨q, rfl, hq, hqn, hr3, hb3⟩
    have HR3 := Lib.hid hr3
    have HB3 := Lib.hid (HB2.out.trans (hb3.mono hg1))
    have hqm : q = m := by rw [← hq, HSQ.out, HM.out]
    subst hqm
    clear hr3 hb3 hq
    go_wp2
    go_ret
    refine ⟨_, d, rfl, by omega, ?_, HB3.out⟩
    rw [← HSQ.out]
    exact HR3.out.seen
end Go.Proofs.Ytpkhnchbamjgjaa

namespace Go.Proofs.Ytpkhnchbamjgjaa.Pt
open C (Wd)
open H (En setE putE SortE cmpE aheadE)

theorem cmp_neg (a b : En) : cmpE a b < 0 ↔ aheadE a b = true := by
  unfold cmpE
  by_cases h : aheadE a b = true
  · rw [if_pos h]; simp [h]
  · rw [if_neg h]
    split <;> simp [h]
theorem cmp_zero (a b : En) : cmpE a b = 0 ↔ a = b := by
  unfold cmpE
  constructor
  · intro h
    by_cases h1 : aheadE a b = true
    · rw [if_pos h1] at h; omega
    · rw [if_neg h1] at h
      by_cases h2 : aheadE b a = true
      · rw [if_pos h2] at h; omega
      · rcases H.ahead_tri a b with k | k | k
        · exact absurd k h1
        · exact k
        · exact absurd k h2
  · rintro rfl
    rw [if_neg (by rw [H.ahead_irr]; decide), if_neg (by rw [H.ahead_irr]; decide)]
/-- What a search by halves knows: what stands ahead of i is less than x, what stands from j on is not. -/
structure Half (s : List En) (x : En) (i j : Nat) : Prop where
  low : ∀ k (h : k < s.length), k < i → aheadE s[k] x = true
  up : ∀ k (h : k < s.length), j ≤ k → aheadE s[k] x = false
theorem sort_at {s : List En} (hs : SortE s) {i j : Nat} (hi : i < s.length) (hj : j < s.length) (h : i < j) : aheadE s[i] s[j] = true := List.pairwise_iff_getElem.1 hs i j hi hj h
theorem half_start (s : List En) (x : En) {n : Nat} (hn : s.length = n) : Half s x 0 n := ⟨fun k _ h => absurd h (Nat.not_lt_zero k), fun k h h2 => by omega⟩
theorem half_low {s : List En} {x : En} {i j m : Nat} (hs : SortE s) (h : Half s x i j) (hm : m < s.length) (ha : aheadE s[m] x = true) : Half s x (m + 1) j := ⟨fun k hk hkm => by
  rcases Nat.lt_or_ge k m with c | c
  · exact H.ahead_trans (sort_at hs hk hm c) ha
  · obtain rfl : k = m := by omega
    exact ha, h.up⟩
theorem half_up {s : List En} {x : En} {i j m : Nat} (hs : SortE s) (h : Half s x i j) (hm : m < s.length) (ha : aheadE s[m] x = false) : Half s x i m := ⟨h.low, fun k hk hkm => by
  cases e : aheadE s[k] x with
  | false => rfl
  | true =>
    rcases Nat.lt_or_ge m k with c | c
    · rw [H.ahead_trans (sort_at hs hm hk c) e] at ha; cases ha
    · obtain rfl : k = m := by omega
      rw [e] at ha; cases ha⟩
theorem half_end {s : List En} {x : En} {i : Nat} (hs : SortE s) (h : Half s x i i) (hi : i < s.length) : x ∈ s ↔ cmpE s[i] x = 0 := by
  refine ⟨fun hx => ?_, fun e => (cmp_zero _ _).1 e ▸ List.getElem_mem hi⟩
  obtain ⟨k, hk, rfl⟩ := List.getElem_of_mem hx
  rcases Nat.lt_trichotomy k i with c | c | c
  · have := h.low k hk c; rw [H.ahead_irr] at this; cases this
  · subst c; exact (cmp_zero _ _).2 rfl
  · have := h.up i hi (Nat.le_refl _); rw [sort_at hs hi hk c] at this; cases this
theorem half_none {s : List En} {x : En} {i j : Nat} (h : Half s x i j) (hi : s.length ≤ i) : x ∉ s := fun hx => by
  obtain ⟨k, hk, rfl⟩ := List.getElem_of_mem hx
  have := h.low k hk (by omega); rw [H.ahead_irr] at this; cases this
/-- What is in one list, and not in another one, as it stands. -/
def outE (a b : List En) : List En := a.filter fun x => decide (x ∉ b)
theorem out_yes {a b : List En} {k : Nat} (hk : k < a.length) (h : decide (a[k] ∈ b) = false) : outE (a.take (k + 1)) b = outE (a.take k) b ++ [a[k]] := by
  unfold outE
  rw [List.take_succ_eq_append_getElem hk, List.filter_append, List.filter_cons_of_pos (by simpa using of_decide_eq_false h)]; rfl
theorem out_no {a b : List En} {k : Nat} (hk : k < a.length) (h : decide (a[k] ∈ b) = true) : outE (a.take (k + 1)) b = outE (a.take k) b := by
  unfold outE
  rw [List.take_succ_eq_append_getElem hk, List.filter_append, List.filter_cons_of_neg (by simpa using of_decide_eq_true h), List.filter_nil, List.append_nil]
theorem out_len (a b : List En) (k : Nat) : (outE (a.take k) b).length ≤ k := Nat.le_trans (List.length_filter_le _ _) (by rw [List.length_take]; exact Nat.min_le_left _ _)
theorem only_yes {a : List En} {h : Wd} {k : Nat} (hk : k < a.length) (e : a[k].host = h) : onlyE (a.take (k + 1)) h = onlyE (a.take k) h ++ [a[k]] := by
  unfold onlyE
  rw [List.take_succ_eq_append_getElem hk, List.filter_append, List.filter_cons_of_pos (by simpa using e)]; rfl
theorem only_no {a : List En} {h : Wd} {k : Nat} (hk : k < a.length) (e : ¬ a[k].host = h) : onlyE (a.take (k + 1)) h = onlyE (a.take k) h := by
  unfold onlyE
  rw [List.take_succ_eq_append_getElem hk, List.filter_append, List.filter_cons_of_neg (by simpa using e), List.filter_nil, List.append_nil]
theorem only_few (a : List En) (h : Wd) (k : Nat) : (onlyE (a.take k) h).length ≤ k := Nat.le_trans (List.length_filter_le _ _) (by rw [List.length_take]; exact Nat.min_le_left _ _)
end Go.Proofs.Ytpkhnchbamjgjaa.Pt

namespace Go.Proofs.Ytpkhnchbamjgjaa
open Go.RowKit
set_option linter.unusedVariables false
set_option linter.unusedSimpArgs false

set_option maxRecDepth 100000 in
set_option maxHeartbeats 8000000 in
theorem search16 (A : Option Addr) (c n : Nat) (s : List H.En) (x : H.En) (r : Bool) (w : World) (hn : s.length = n) (hl : n ≤ 1073741824) (hA : Seen eEc w A s) (hs : H.SortE s) (hr : decide (x ∈ s) = r) :
    Calls Try.prog 36 #[.slice A n c, enV x, .func (.func 34) #[] #[]] w (fun e w' => ∃ i : Int, e = .returned (.tuple #[.int .i64 i, .bool r]) ∧ Below w.heap.size w w') := by
  have HN := Lib.hid hn
  have HR := Lib.hid hr
  have HS := Lib.hid hs
  obtain ⟨w1, hw1⟩ : ∃ w1, w.alloc (.cells #[.string (sB x.host), .int .i64 x.kind, .string (sB x.key), .string (sB x.val)] 44) = w1 := ⟨_, rfl⟩
  have hb1 : Below w.heap.size w w1 := by rw [← hw1]; exact up _ _
  obtain ⟨g, hg⟩ : ∃ g, w.heap.size = g := ⟨_, rfl⟩
  obtain ⟨p0, p1, p2, p3⟩ : w1.cell? ⟨g, 0, none⟩ = some (.string (sB x.host)) ∧ w1.cell? ⟨g, 1, none⟩ = some (.int .i64 x.kind) ∧ w1.cell? ⟨g, 2, none⟩ = some (.string (sB x.key)) ∧ w1.cell? ⟨g, 3, none⟩ = some (.string (sB x.val)) := by rw [← hw1, ← hg]; exact (ent_laid w x.host x.kind x.key x.val).cells
  have hgw : g < w1.heap.size := by rw [← hw1, ← hg]; simp
  have HA := Lib.hid (hA.below hb1)
  have HW1 := Lib.hid hw1
  have HG0 := Lib.hid hg
  have HB1 := Lib.hid hb1
  clear hA hn hr hs hw1 hb1 hg
  have HC := fun y w => compareC y x w
  unfold enV at HC ⊢
  go_enter Try.func36, Try.ntmps36
  go_wp2
  rw [HW1.out, HG0.out]
  go_loopg [9, 10] n (fun gk vi vj wr => ∃ i j : Nat, vi = .int .i64 (i : Int) ∧ vj = .int .i64 (j : Int) ∧ i ≤ j ∧ j ≤ n ∧ j - i ≤ gk ∧ Hid (Pt.Half s x i j) ∧ Hid (Below w1.heap.size w1 wr))
  case atStart => exact ⟨0, n, rfl, rfl, Nat.zero_le _, Nat.le_refl _, by omega, Pt.half_start s x HN.out, Below.refl _ _⟩
  case round =>
    obtain ⟨i, j, rfl, rfl, hij, hjn, hgk, HH, HB⟩ := hrel
    by_cases hlt : i < j
    · obtain ⟨m, hm⟩ : ∃ m, (i + j) / 2 = m := ⟨_, rfl⟩
      have hmi : ((i : Int) + (j : Int)) / 2 = (m : Int) := by omega
      have hml : m < s.length := by have := HN.out; omega
      have hki : (m : Int) < (n : Int) := by omega
      have hmb : i ≤ m ∧ m < j := by omega
      clear hm
      obtain ⟨b, o, rfl, hwb, hL⟩ := HA.out (by omega)
      obtain ⟨d0, d1, d2, d3⟩ := hL.entry rfl rfl hml
      have HLO := Lib.hid (fun q => Pt.half_low HS.out HH.out hml q)
      have HUP := Lib.hid (fun q => Pt.half_up HS.out HH.out hml q)
      generalize s[m] = y at d0 d1 d2 d3 HLO HUP
      have HKP := Lib.hid (fun w' (h : Below w1.heap.size w1 w') => show (fun w' => Below w1.heap.size w1 w' ∧ w'.cell? ⟨g, 0, none⟩ = some (.string (sB x.host)) ∧ w'.cell? ⟨g, 1, none⟩ = some (.int .i64 x.kind) ∧ w'.cell? ⟨g, 2, none⟩ = some (.string (sB x.key)) ∧ w'.cell? ⟨g, 3, none⟩ = some (.string (sB x.val)) ∧ w'.cell? ⟨b, o + m * 4, none⟩ = some (.string (sB y.host)) ∧ w'.cell? ⟨b, o + m * 4 + 1, none⟩ = some (.int .i64 y.kind) ∧ w'.cell? ⟨b, o + m * 4 + 2, none⟩ = some (.string (sB y.key)) ∧ w'.cell? ⟨b, o + m * 4 + 3, none⟩ = some (.string (sB y.val))) w' from by
        obtain ⟨_, q0, q1, q2, q3, e0, e1, e2, e3⟩ := TwoE.more (w1 := w1) ⟨Below.refl _ _, p0, p1, p2, p3, d0, d1, d2, d3⟩ hgw hwb h
        exact ⟨h, q0, q1, q2, q3, e0, e1, e2, e3⟩)
      clear d0 d1 d2 d3 hL
      obtain ⟨v, hv⟩ : ∃ v, H.cmpE y x = v := ⟨_, rfl⟩
      have HV := Lib.hid hv
      have HCC := Lib.hid (fun w => HC y w)
      rw [hv] at HCC
      obtain ⟨hbr, q0, q1, q2, q3, e0, e1, e2, e3⟩ := HKP.out wr HB.out
      have hbd := hbr.drew
      clear hv
      by_cases hneg : v < 0
      · go_wp2
        go_region_held3 (fun w' => Below w1.heap.size w1 w' ∧ w'.cell? ⟨g, 0, none⟩ = some (.string (sB x.host)) ∧ w'.cell? ⟨g, 1, none⟩ = some (.int .i64 x.kind) ∧ w'.cell? ⟨g, 2, none⟩ = some (.string (sB x.key)) ∧ w'.cell? ⟨g, 3, none⟩ = some (.string (sB x.val)) ∧ w'.cell? ⟨b, o + m * 4, none⟩ = some (.string (sB y.host)) ∧ w'.cell? ⟨b, o + m * 4 + 1, none⟩ = some (.int .i64 y.kind) ∧ w'.cell? ⟨b, o + m * 4 + 2, none⟩ = some (.string (sB y.key)) ∧ w'.cell? ⟨b, o + m * 4 + 3, none⟩ = some (.string (sB y.val))) (first | (refine HKP.out _ ?_; first | assumption | (refine Below.drew ?_; assumption)) | go_keep) (first | (go_at_call 34; refine (HCC.out _).mono ?_; rintro e w' ⟨rfl, hx, _⟩; have hbx := bthen (show Below w1.heap.size w1 _ by assumption) hx))
        all_goals go_wp2
        have HB2 := Lib.hid hbx
        go_roundg (j - (m + 1))
        case measure => omega
        case rel => exact ⟨m + 1, j, by go_num, rfl, by omega, hjn, Nat.le_refl _, HLO.out ((Pt.cmp_neg _ _).1 (by rw [HV.out]; exact hneg)), HB2.out⟩
      · go_wp2
        go_region_held3 (fun w' => Below w1.heap.size w1 w' ∧ w'.cell? ⟨g, 0, none⟩ = some (.string (sB x.host)) ∧ w'.cell? ⟨g, 1, none⟩ = some (.int .i64 x.kind) ∧ w'.cell? ⟨g, 2, none⟩ = some (.string (sB x.key)) ∧ w'.cell? ⟨g, 3, none⟩ = some (.string (sB x.val)) ∧ w'.cell? ⟨b, o + m * 4, none⟩ = some (.string (sB y.host)) ∧ w'.cell? ⟨b, o + m * 4 + 1, none⟩ = some (.int .i64 y.kind) ∧ w'.cell? ⟨b, o + m * 4 + 2, none⟩ = some (.string (sB y.key)) ∧ w'.cell? ⟨b, o + m * 4 + 3, none⟩ = some (.string (sB y.val))) (first | (refine HKP.out _ ?_; first | assumption | (refine Below.drew ?_; assumption)) | go_keep) (first | (go_at_call 34; refine (HCC.out _).mono ?_; rintro e w' ⟨rfl, hx, _⟩; have hbx := bthen (show Below w1.heap.size w1 _ by assumption) hx))
        all_goals go_wp2
        have HB2 := Lib.hid hbx
        go_roundg (m - i)
        case measure => omega
        case rel => exact ⟨i, m, rfl, rfl, by omega, by omega, Nat.le_refl _, HUP.out (by
          cases q : H.aheadE y x with
          | false => rfl
          | true => exact absurd ((Pt.cmp_neg _ _).2 q) (by rw [HV.out]; omega)), HB2.out⟩
    · obtain rfl : j = i := by omega
      by_cases hjn2 : j < n
      · have hml : j < s.length := by rw [HN.out]; exact hjn2
        have hki : (j : Int) < (n : Int) := by omega
        obtain ⟨b, o, rfl, hwb, hL⟩ := HA.out (by omega)
        obtain ⟨d0, d1, d2, d3⟩ := hL.entry rfl rfl hml
        have HE := Lib.hid (Pt.half_end HS.out HH.out hml)
        generalize s[j] = y at d0 d1 d2 d3 HE
        have HKP := Lib.hid (fun w' (h : Below w1.heap.size w1 w') => show (fun w' => Below w1.heap.size w1 w' ∧ w'.cell? ⟨g, 0, none⟩ = some (.string (sB x.host)) ∧ w'.cell? ⟨g, 1, none⟩ = some (.int .i64 x.kind) ∧ w'.cell? ⟨g, 2, none⟩ = some (.string (sB x.key)) ∧ w'.cell? ⟨g, 3, none⟩ = some (.string (sB x.val)) ∧ w'.cell? ⟨b, o + j * 4, none⟩ = some (.string (sB y.host)) ∧ w'.cell? ⟨b, o + j * 4 + 1, none⟩ = some (.int .i64 y.kind) ∧ w'.cell? ⟨b, o + j * 4 + 2, none⟩ = some (.string (sB y.key)) ∧ w'.cell? ⟨b, o + j * 4 + 3, none⟩ = some (.string (sB y.val))) w' from by
          obtain ⟨_, q0, q1, q2, q3, e0, e1, e2, e3⟩ := TwoE.more (w1 := w1) ⟨Below.refl _ _, p0, p1, p2, p3, d0, d1, d2, d3⟩ hgw hwb h
          exact ⟨h, q0, q1, q2, q3, e0, e1, e2, e3⟩)
        clear d0 d1 d2 d3 hL
        obtain ⟨v, hv⟩ : ∃ v, H.cmpE y x = v := ⟨_, rfl⟩
        have HV := Lib.hid hv
        have HCC := Lib.hid (fun w => HC y w)
        rw [hv] at HCC
        obtain ⟨hbr, q0, q1, q2, q3, e0, e1, e2, e3⟩ := HKP.out wr HB.out
        have hbd := hbr.drew
        clear hv
        by_cases hz : v = 0
        · have HT := Lib.hid (show r = true by rw [← HR.out]; exact decide_eq_true (HE.out.2 (HV.out.trans hz)))
          subst hz
          go_wp2
          go_region_held3 (fun w' => Below w1.heap.size w1 w' ∧ w'.cell? ⟨g, 0, none⟩ = some (.string (sB x.host)) ∧ w'.cell? ⟨g, 1, none⟩ = some (.int .i64 x.kind) ∧ w'.cell? ⟨g, 2, none⟩ = some (.string (sB x.key)) ∧ w'.cell? ⟨g, 3, none⟩ = some (.string (sB x.val)) ∧ w'.cell? ⟨b, o + j * 4, none⟩ = some (.string (sB y.host)) ∧ w'.cell? ⟨b, o + j * 4 + 1, none⟩ = some (.int .i64 y.kind) ∧ w'.cell? ⟨b, o + j * 4 + 2, none⟩ = some (.string (sB y.key)) ∧ w'.cell? ⟨b, o + j * 4 + 3, none⟩ = some (.string (sB y.val))) (first | (refine HKP.out _ ?_; first | assumption | (refine Below.drew ?_; assumption)) | go_keep) (first | (go_at_call 34; refine (HCC.out _).mono ?_; rintro e w' ⟨rfl, hx, _⟩; have hbx := bthen (show Below w1.heap.size w1 _ by assumption) hx))
          all_goals go_wp2
          have HB2 := Lib.hid hbx
          go_ret2
          exact ⟨j, by rw [HT.out]; rfl, bthen HB1.out HB2.out⟩
        · have HT := Lib.hid (show r = false by rw [← HR.out]; exact decide_eq_false fun q => hz (by rw [← HV.out]; exact HE.out.1 q))
          have n0 : (v == 0) = false := beq_eq_false_iff_ne.2 hz
          go_wp2
          go_region_held3 (fun w' => Below w1.heap.size w1 w' ∧ w'.cell? ⟨g, 0, none⟩ = some (.string (sB x.host)) ∧ w'.cell? ⟨g, 1, none⟩ = some (.int .i64 x.kind) ∧ w'.cell? ⟨g, 2, none⟩ = some (.string (sB x.key)) ∧ w'.cell? ⟨g, 3, none⟩ = some (.string (sB x.val)) ∧ w'.cell? ⟨b, o + j * 4, none⟩ = some (.string (sB y.host)) ∧ w'.cell? ⟨b, o + j * 4 + 1, none⟩ = some (.int .i64 y.kind) ∧ w'.cell? ⟨b, o + j * 4 + 2, none⟩ = some (.string (sB y.key)) ∧ w'.cell? ⟨b, o + j * 4 + 3, none⟩ = some (.string (sB y.val))) (first | (refine HKP.out _ ?_; first | assumption | (refine Below.drew ?_; assumption)) | go_keep) (first | (go_at_call 34; refine (HCC.out _).mono ?_; rintro e w' ⟨rfl, hx, _⟩; have hbx := bthen (show Below w1.heap.size w1 _ by assumption) hx))
          all_goals go_wp2
          have HB2 := Lib.hid hbx
          go_ret2
          exact ⟨j, by rw [HT.out]; simp [hz], bthen HB1.out HB2.out⟩
      · have HT := Lib.hid (show r = false by rw [← HR.out]; exact decide_eq_false (Pt.half_none HH.out (by rw [HN.out]; omega)))
        go_wp2
        go_quiet (fail)
        all_goals go_wp2
        go_ret2
        exact ⟨j, by rw [HT.out]; simp [hjn2], bthen HB1.out (HB.out.trans ((drew_below _ _).mono HB.out.size))⟩
set_option maxRecDepth 100000 in
set_option maxHeartbeats 8000000 in
theorem of16 (A : Option Addr) (c n : Nat) (l : List H.En) (h : List UInt8) (w : World) (hn : l.length = n) (hl : n ≤ 1073741824) (hA : Seen eEc w A l) :
    Calls Try.prog 27 #[.slice A n c, .string (sB h)] w (OwnS eEc w (Pt.onlyE l h)) := by
  have HN := Lib.hid hn
  have HA := Lib.hid hA
  clear hA hn
  go_enter Try.func27, Try.ntmps27
  go_wp2
  go_loopg [5, 10] n (fun gk vo vi wr => ∃ k : Nat, Hid (k + gk = n) ∧ k ≤ n ∧ vi = .int .i64 (k : Int) ∧ Hid (Own eEc wr w.heap.size vo (Pt.onlyE (l.take k) h)) ∧ Hid (Below w.heap.size w wr))
  case atStart => exact ⟨0, Nat.zero_add _, Nat.zero_le _, rfl, Own.nil _ _, Below.refl _ _⟩
  case round =>
    obtain ⟨k, HG, hk, rfl, HO, HB⟩ := hrel
    have hgk := HG.out
    by_cases hlt : k < n
    · have blt : decide ((k : Int) < (n : Int)) = true := decide_eq_true (by omega)
      have blt2 : decide (k < n) = true := decide_eq_true hlt
      have hki : (k : Int) < (n : Int) := by omega
      have hkl : k < l.length := by have := HN.out; omega
      obtain ⟨b, o, rfl, hwb, hL⟩ := HA.out (by omega)
      obtain ⟨d0, d1, d2, d3⟩ := (hL.below HB.out hwb).entry rfl rfl hkl
      have HY := Lib.hid (fun q => Pt.only_yes (h := h) hkl q)
      have HX := Lib.hid (fun q => Pt.only_no (h := h) hkl q)
      have HLN := Lib.hid (show (Pt.onlyE (l.take k) h).length + 1 ≤ 1099511627776 by have := Pt.only_few l h k; omega)
      generalize l[k] = y at d0 d1 d2 d3 HX HY
      obtain ⟨yh, yk, yy, yv⟩ := y
      simp only at d0 d1 d2 d3 HX HY
      obtain ⟨z0, z1, z2, z3⟩ := (ent_laid wr yh yk yy yv).cells
      have HUP := Lib.hid (bthen HB.out (up wr (.cells #[.string (sB yh), .int .i64 yk, .string (sB yy), .string (sB yv)] 44)))
      have HO2 := Lib.hid (HO.out.alloc (.cells #[.string (sB yh), .int .i64 yk, .string (sB yy), .string (sB yv)] 44))
      have hsz := HB.out.size
      clear hL
      by_cases he : yh = h
      · have n0 := sB_eq he
        have HF2 := Lib.hid (HY.out he)
        clear he
        go_wp2_with (at_builtin; refine wpList_appG eEc _ rfl (.tmp 18) (.tmp 20) rfl w.heap.size u5 (Pt.onlyE (l.take k) h) rfl HO2.out ⟨yh, yk, yy, yv⟩ 1 _ rfl (wr.heap.size + 1) (by simp) rfl HLN.out (by simp; omega) ?_; intro v5 w5 hown5 hb5)
        go_roundg (n - (k + 1))
        case rel => exact ⟨k + 1, (by show _ = _; omega), by omega, by go_num, (by rw [HF2.out]; exact hown5), HUP.out.trans hb5⟩
        case measure => omega
      · have n0 := sB_ne he
        have HF2 := Lib.hid (HX.out he)
        clear he
        go_wp2
        go_roundg (n - (k + 1))
        case rel => exact ⟨k + 1, (by show _ = _; omega), by omega, by go_num, (by rw [HF2.out]; exact HO2.out), HUP.out⟩
        case measure => omega
    · have blt : decide ((k : Int) < (n : Int)) = false := decide_eq_false (by omega)
      have blt2 : decide (k < n) = false := decide_eq_false hlt
      have HE := Lib.hid (show Pt.onlyE (l.take k) h = Pt.onlyE l h by rw [List.take_of_length_le (by have := HN.out; omega)])
      go_wp2
      go_ret
      exact ⟨_, rfl, by rw [← HE.out]; exact HO.out, HB.out⟩
set_option maxRecDepth 100000 in
set_option maxHeartbeats 8000000 in
theorem without16 (A B : Option Addr) (c d n m : Nat) (a b : List H.En) (w : World) (hn : a.length = n) (hm : b.length = m) (hl : n ≤ 1073741824) (hl2 : m ≤ 1073741824) (hA : Seen eEc w A a) (hB : Seen eEc w B b) :
    Calls Try.prog 26 #[.slice A n c, .slice B m d] w (OwnS eEc w (Pt.outE a b)) := by
  obtain ⟨q, hq⟩ : ∃ q, (H.setE b).length = q := ⟨_, rfl⟩
  have HQ := Lib.hid hq
  have HQL := Lib.hid (show q ≤ 1073741824 by have := H.set_len b; omega)
  have HC := Lib.hid (setC B d m q b w hm hl2 hB hq)
  have HN := Lib.hid hn
  have HA := Lib.hid hA
  clear hA hB hn hm hq
  go_enter Try.func26, Try.ntmps26
  go_wp2_with fail
  refine HC.out.mono ?_
  rintro e w1 ⟨S, sc, rfl, hqs, hS, hb1⟩
  have HS := Lib.hid hS
  have HB1 := Lib.hid hb1
  clear hS hb1
  go_wp2
  go_loopg [5, 14] n (fun gk vo vi wr => ∃ k : Nat, Hid (k + gk = n) ∧ k ≤ n ∧ vi = .int .i64 (k : Int) ∧ Hid (Own eEc wr w1.heap.size vo (Pt.outE (a.take k) b)) ∧ Hid (Below w1.heap.size w1 wr))
  case atStart => exact ⟨0, Nat.zero_add _, Nat.zero_le _, rfl, Own.nil _ _, Below.refl _ _⟩
  case round =>
    obtain ⟨k, HG, hk, rfl, HO, HB⟩ := hrel
    have hgk := HG.out
    by_cases hlt : k < n
    · have blt : decide ((k : Int) < (n : Int)) = true := decide_eq_true (by omega)
      have blt2 : decide (k < n) = true := decide_eq_true hlt
      have hki : (k : Int) < (n : Int) := by omega
      have hkl : k < a.length := by have := HN.out; omega
      obtain ⟨ab, o, rfl, hwb, hL⟩ := HA.out (by omega)
      obtain ⟨d0, d1, d2, d3⟩ := ((hL.below HB1.out hwb).below HB.out (Nat.lt_of_lt_of_le hwb HB1.out.size)).entry rfl rfl hkl
      have HY := Lib.hid (fun q => Pt.out_yes (b := b) hkl q)
      have HX := Lib.hid (fun q => Pt.out_no (b := b) hkl q)
      have HLN := Lib.hid (show (Pt.outE (a.take k) b).length + 1 ≤ 1099511627776 by have := Pt.out_len a b k; omega)
      generalize a[k] = y at d0 d1 d2 d3 HX HY
      obtain ⟨yh, yk, yy, yv⟩ := y
      simp only at d0 d1 d2 d3 HX HY
      obtain ⟨wq, hwq⟩ : ∃ wq, wr.alloc (.cells #[.string (sB yh), .int .i64 yk, .string (sB yy), .string (sB yv)] 44) = wq := ⟨_, rfl⟩
      obtain ⟨gx, hgx⟩ : ∃ gx, wr.heap.size = gx := ⟨_, rfl⟩
      have HE := Lib.hid (show EntAt wq gx yh yk yy yv by rw [← hwq, ← hgx]; exact ent_laid wr yh yk yy yv)
      have hup : Below wr.heap.size wr wq := by rw [← hwq]; exact up _ _
      have HUP := Lib.hid (bthen HB.out hup)
      have HO2 := Lib.hid (show Own eEc wq w1.heap.size u5 (Pt.outE (a.take k) b) by rw [← hwq]; exact HO.out.alloc _)
      obtain ⟨z0, z1, z2, z3⟩ := HE.out.cells
      have HWQ := Lib.hid hwq
      have HGX := Lib.hid hgx
      obtain ⟨r, hr⟩ : ∃ r, decide ((⟨yh, yk, yy, yv⟩ : H.En) ∈ b) = r := ⟨_, rfl⟩
      have HRR := Lib.hid hr
      have hc := search16 S sc q (H.setE b) ⟨yh, yk, yy, yv⟩ r wq HQ.out HQL.out (HS.out.below HUP.out) (H.set_sort b) (by rw [← hr, decide_eq_decide]; exact H.mem_set)
      have HSZ := Lib.hid (show w1.heap.size ≤ wq.heap.size from Nat.le_trans HB.out.size hup.size)
      unfold enV at hc
      have HCC := Lib.hid hc
      clear hL hwq hgx hr hc hup
      go_wp2_with fail
      rw [HWQ.out, HGX.out]
      refine HCC.out.mono ?_
      rintro e w2 ⟨i, rfl, hx⟩
      have HE2 := Lib.hid (ent_below HE.out hx)
      have HO3 := Lib.hid (HO2.out.keep hx)
      have HU3 := Lib.hid (bthen HUP.out hx)
      clear hx z0 z1 z2 z3
      obtain ⟨z0, z1, z2, z3⟩ := HE2.out.cells
      have hsz := HU3.out.size
      cases r with
      | true =>
        have HF2 := Lib.hid (HX.out HRR.out)
        go_wp2
        go_roundg (n - (k + 1))
        case rel => exact ⟨k + 1, (by show _ = _; omega), by omega, by go_num, (by rw [HF2.out]; exact HO3.out), HU3.out⟩
        case measure => omega
      | false =>
        have HF2 := Lib.hid (HY.out HRR.out)
        go_wp2_with (at_builtin; refine wpList_appG eEc _ rfl (.tmp 26) (.tmp 28) rfl w1.heap.size u5 (Pt.outE (a.take k) b) rfl HO3.out ⟨yh, yk, yy, yv⟩ 1 _ rfl w2.heap.size (by rfl) rfl HLN.out hsz ?_; intro v5 w5 hown5 hb5)
        go_roundg (n - (k + 1))
        case rel => exact ⟨k + 1, (by show _ = _; omega), by omega, by go_num, (by rw [HF2.out]; exact hown5), HU3.out.trans hb5⟩
        case measure => omega
    · have blt : decide ((k : Int) < (n : Int)) = false := decide_eq_false (by omega)
      have blt2 : decide (k < n) = false := decide_eq_false hlt
      have HE := Lib.hid (show Pt.outE (a.take k) b = Pt.outE a b by rw [List.take_of_length_le (by have := HN.out; omega)])
      go_wp2
      go_ret
      exact ⟨_, rfl, by rw [← HE.out]; exact HO.out.base HB1.out.size, bthen HB1.out HB.out⟩
end Go.Proofs.Ytpkhnchbamjgjaa

namespace Go.Proofs.Ytpkhnchbamjgjaa
open Go.ChangeShapes Go.WideShapes Go.ChangeAt Go.RowKit
set_option linter.unusedVariables false

theorem run_none16 {P : Program} (w : World) (base : Nat) (t ty e : TypeId) (i : TypeInfo) (size c : Nat) (ht : P.underlying t = some (.slice e)) (hi : P.info? e = some i)
    (v : Value) (n : Nat) (xs : List Value) (hown : w.ownsRow base e size v n xs) :
    (Builtin.append_ #[t, t] ty #[v, .slice none 0 c]).run P w = .ok v w := by
  rcases hown.2 with ⟨rfl, rfl⟩ | ⟨g, cap, cur, rfl, _, _, hnc, _⟩
  · simp [Builtin.append_, run_underlying ht, sizeOf, typeInfo, hi, Builtin.lenOf, Builtin.firstCells]
  · simp [Builtin.append_, run_underlying ht, sizeOf, typeInfo, hi, Builtin.lenOf, Builtin.firstCells, hnc, storeCells]
theorem wp_none16 {α : Type} (E : Elem α) {o : Oper} {a : Act} {K : Act → World → Prop} {Q : Exit → Act → World → Prop} (w : World) (s x : Operand) (c : Nat)
    (ho : o.op = .call { callee := .builtin .append, args := #[s, x], argTypes := #[E.st, E.st] })
    (base : Nat) (v : Value) (l : List α) (hs : a.eval s = v) (hown : Own E w base v l) (hx : a.eval x = .slice none 0 c)
    (h : K (a.put o.dst v) w) : o.wp Try.prog a w K Q := by
  obtain ⟨i0, hi0, hz0, hz1, hz2⟩ := info_parts E.hin
  have hr := run_none16 (P := Try.prog) w base E.st o.type E.T i0 E.sz c E.hst hi0 v l.length (cellsG E l) hown
  unfold Oper.wp execOp
  simp only [ho, resolve, invoke, builtin, Sem.run_bind, Sem.run_pure, Result.andThen_ok, List.map_toArray, List.map_cons, List.map_nil, hs, hx, hr]
  exact h
theorem wp_app16 {α : Type} (E : Elem α) {o : Oper} {a : Act} {K : Act → World → Prop} {Q : Exit → Act → World → Prop} (w : World) (s x : Operand)
    (ho : o.op = .call { callee := .builtin .append, args := #[s, x], argTypes := #[E.st, E.st] })
    (base : Nat) (v : Value) (l : List α) (hs : a.eval s = v) (hown : Own E w base v l) (A : Option Addr) (l2 : List α) (m cap : Nat) (hm : l2.length = m)
    (hx : a.eval x = .slice A m cap) (hc : Seen E w A l2) (hlen : l.length + m ≤ 1099511627776) (hb : base ≤ w.heap.size)
    (h : ∀ v' w', Own E w' base v' (l ++ l2) → Below base w w' → K (a.put o.dst v') w') : o.wp Try.prog a w K Q := by
  cases A with
  | some ad => exact wp_appSeen E w s x ho base v l hs hown ad l2 m cap hm hx hc hlen hb h
  | none =>
    have h0 : l2 = [] := by
      cases l2 with
      | nil => rfl
      | cons y r => obtain ⟨b, o, e, _⟩ := hc (by simp); cases e
    subst h0
    obtain rfl : m = 0 := hm.symm
    refine wp_none16 E w s x cap ho base v l hs hown hx ?_
    exact h v w (by rw [List.append_nil]; exact hown) (Below.refl _ _)
theorem wpList_app16 {α : Type} (E : Elem α) {ops : Array Oper} {rest : List Oper} {o : Oper} {a : Act} {Q : Exit → Act → World → Prop} (w : World) (hgd : o.guard = none) (s x : Operand)
    (ho : o.op = .call { callee := .builtin .append, args := #[s, x], argTypes := #[E.st, E.st] })
    (base : Nat) (v : Value) (l : List α) (hs : a.eval s = v) (hown : Own E w base v l) (A : Option Addr) (l2 : List α) (m cap : Nat) (hm : l2.length = m)
    (hx : a.eval x = .slice A m cap) (hc : Seen E w A l2) (hlen : l.length + m ≤ 1099511627776) (hb : base ≤ w.heap.size)
    (h : ∀ v' w', Own E w' base v' (l ++ l2) → Below base w w' → wpList Try.prog ops Q rest (a.put o.dst v') w') : wpList Try.prog ops Q (o :: rest) a w :=
  wpList_plain hgd fun _ hK => wp_app16 E w s x ho base v l hs hown A l2 m cap hm hx hc hlen hb fun v' w' h1 h2 => hK _ _ (h v' w' h1 h2)
set_option maxRecDepth 100000 in
set_option maxHeartbeats 2000000 in
theorem grow16 (n : Nat) (w : World) (h0 : 0 < n) (hl : n ≤ 1073741824) :
    Calls Try.prog 38 #[.slice none 0 0, .int .i64 (n : Int)] w (OwnS eEc w []) := by
  obtain ⟨i0, hi0, hz0, hz1, hz2⟩ := info_parts eEc.hin
  have hz3 : i0.size = 4 := hz1
  have hz4 : i0.bytes = 56 := hz2
  have hz5 : i0.zero = some zeroEn := hz0
  have h1 : decide ((n : Int) < 0) = false := decide_eq_false (by omega)
  have h4 : decide ((0 : Int) < (n : Int)) = true := decide_eq_true (by omega)
  have h5 : decide (0 < n) = true := decide_eq_true h0
  have hold : (Builtin.firstCells i0.size 0 (.slice none 0 0)).run Try.prog w.drew = .ok (#[] : Array Value) w.drew := run_firstCells_none w.drew i0.size 0 0 0
  have hr := fun ty => Lib.run_append_grow_zeros (P := Try.prog) w 22 3 ty 44 i0 zeroEn .i64 .i64 Try.underlying22 Try.underlying3 hi0 hz5 none 0 0 [] hold n h0 (by omega) (by omega) (by omega) (by rw [hz4]; omega) (by rw [Nat.zero_add]; exact growslice_fits h0 (by rw [hz4]; omega))
  rw [Nat.zero_add] at hr
  obtain ⟨G, hG⟩ : ∃ G, grownCap w n 0 44 = G := ⟨_, rfl⟩
  have hGn : n ≤ G := by rw [← hG]; exact grownCap_ge w _ _ _
  have hGm : G ≤ maxLen := by rw [← hG]; exact grownCap_le_maxLen w n 0 _ (by unfold maxLen; omega)
  rw [hG] at hr
  obtain ⟨cs, hcs⟩ : ∃ cs, (([] : List Value).toArray ++ Builtin.zeroCells zeroEn.cells n ++ Builtin.zeroCells zeroEn.cells (G - n)) = cs := ⟨_, rfl⟩
  have hsz : cs.size = G * 4 := by
    rw [← hcs, Array.size_append, Array.size_append, size_zeroCells, size_zeroCells]
    show 0 + n * 4 + (G - n) * 4 = G * 4
    omega
  rw [hcs] at hr
  obtain ⟨W1, hW1⟩ : ∃ W1, w.drew.alloc (.cells cs 44) = W1 := ⟨_, rfl⟩
  rw [hW1] at hr
  have hB : Below w.heap.size w W1 := by rw [← hW1]; exact ((Below.refl w.heap.size w).drew).alloc (Nat.le_refl _) _
  have hO : Own eEc W1 w.heap.size (.slice (some ⟨w.heap.size, 0, none⟩) 0 G) [] := by
    refine ⟨rfl, .inr ⟨w.heap.size, G, cs, rfl, Nat.le_refl _, ?_, Nat.zero_le _, hGm, hsz, ?_⟩⟩
    · rw [← hW1]; exact heap_alloc_new w.drew _
    · rfl
  have HR := Lib.hid hr
  have HO := Lib.hid hO
  have HB := Lib.hid hB
  clear hr hG hold hW1 hcs hO hB hsz hi0 hz0 hz1 hz2 hz3 hz4 hz5
  go_enter Try.func38, Try.ntmps38
  go_wp2_with (at_builtin; refine Lib.wpList_append_run _ rfl (.tmp 20) (.tmp 21) _ _ rfl _ _ rfl rfl _ _ (HR.out _) ?_)
  go_ret
  exact ⟨_, rfl, HO.out, HB.out⟩
set_option maxRecDepth 100000 in
theorem growZ16 (w : World) : Calls Try.prog 38 #[.slice none 0 0, .int .i64 0] w (OwnS eEc w []) := by
  go_enter Try.func38, Try.ntmps38
  go_wp2
  go_ret
  exact ⟨_, rfl, Own.nil _ _, Below.refl _ _⟩
theorem growAll16 (n : Nat) (w : World) (hl : n ≤ 1073741824) : Calls Try.prog 38 #[.slice none 0 0, .int .i64 (n : Int)] w (OwnS eEc w []) := by
  rcases Nat.eq_zero_or_pos n with rfl | h
  · exact growZ16 w
  · exact grow16 n w h hl
/-- The first lists, one behind the other. -/
def cat16 (L : Nat → List H.En) : Nat → List H.En
  | 0 => []
  | k + 1 => cat16 L k ++ L k
def sum16 (N : Nat → Nat) : Nat → Nat
  | 0 => 0
  | k + 1 => sum16 N k + N k
theorem cat16_len {L : Nat → List H.En} {N : Nat → Nat} (h : ∀ k, k < 2 → (L k).length = N k) : ∀ k, k ≤ 2 → (cat16 L k).length = sum16 N k
  | 0, _ => rfl
  | k + 1, hk => by unfold cat16 sum16; rw [List.length_append, cat16_len h k (by omega), h k (by omega)]
theorem sum16_mono (N : Nat → Nat) : ∀ (k j : Nat), k ≤ j → sum16 N k ≤ sum16 N j
  | k, 0, h => by obtain rfl : k = 0 := by omega
                  exact Nat.le_refl _
  | k, j + 1, h => by
    rcases Nat.eq_or_lt_of_le h with rfl | h1
    · exact Nat.le_refl _
    · have := sum16_mono N k j (by omega)
      show _ ≤ sum16 N j + N j
      omega
set_option maxRecDepth 100000 in
set_option maxHeartbeats 2000000 in
theorem concat16 (b : Nat) (ad : Nat → Option Addr) (N C : Nat → Nat) (L : Nat → List H.En) (w : World) (hs : sum16 N 2 ≤ 1073741824) (hb : b < w.heap.size) (hc : ∀ k, k < 2 → w.cell? ⟨b, k, none⟩ = some (.slice (ad k) (N k) (C k))) (hN : ∀ k, k < 2 → (L k).length = N k) (hL : ∀ k, k < 2 → Seen eEc w (ad k) (L k))  :
    Calls Try.prog 29 #[.slice (some ⟨b, 0, none⟩) 2 2] w (OwnS eEc w (cat16 L 2)) := by
  have HS := Lib.hid hs
  have HC := Lib.hid hc
  have HN := Lib.hid hN
  have HL := Lib.hid hL
  obtain ⟨s4, hs4⟩ : ∃ s, sum16 N 2 = s := ⟨_, rfl⟩
  have HS4 := Lib.hid hs4
  clear hs hc hN hL hs4
  go_enter Try.func29, Try.ntmps29
  go_wp2
  go_loopg [3, 11] 2 (fun gk x y wr => ∃ k s : Nat, Hid (k + gk = 2) ∧ k ≤ 2 ∧ Hid (sum16 N k = s) ∧ x = .int .i64 (s : Int) ∧ y = .int .i64 (k : Int) ∧ w = wr)
  case atStart => exact ⟨0, 0, Nat.zero_add _, Nat.zero_le _, rfl, rfl, rfl, rfl⟩
  case round =>
    obtain ⟨k, s, HG, hk, HK, rfl, rfl, rfl⟩ := hrel
    by_cases hlt : k < 2
    · have blt : decide ((k : Int) < 2) = true := decide_eq_true (by omega)
      have blt2 : decide (k < 2) = true := decide_eq_true hlt
      obtain ⟨nk, hnk⟩ : ∃ nk, N k = nk := ⟨_, rfl⟩
      have c0 := HC.out k hlt
      rw [hnk] at c0
      have hki : (k : Int) < 2 := by omega
      have hsum : sum16 N (k + 1) = s + nk := by show sum16 N k + N k = _; rw [HK.out, hnk]
      have hle := sum16_mono N (k + 1) 2 (by omega)
      have hs4 := HS.out
      have hsn : s + nk ≤ 1073741824 := by omega
      have hneg : decide ((s : Int) + (nk : Int) < 0) = false := decide_eq_false (by omega)
      have HSM := Lib.hid hsum
      clear hsum hle hs4 hnk
      go_wp2
      have hgk := HG.out
      go_roundg (2 - (k + 1))
      case rel => exact ⟨k + 1, s + nk, (by show _ = _; omega), by omega, HSM, by go_num, by go_num, rfl⟩
      case measure => omega
    · have blt : decide ((k : Int) < 2) = false := decide_eq_false (by omega)
      have blt2 : decide (k < 2) = false := decide_eq_false hlt
      obtain rfl : k = 2 := by omega
      have hss : s = s4 := HK.out.symm.trans HS4.out
      subst hss
      have h4 := HS4.out
      have hs0 := HS.out
      rw [h4] at hs0
      clear h4
      go_wp2_with fail
      refine (growAll16 s w hs0).mono ?_
      rintro e w1 ⟨v1, rfl, hown1, hx1⟩
      have HO1 := Lib.hid hown1
      have HX1 := Lib.hid hx1
      clear hown1 hx1 hs0
      go_wp2
      go_loopg [6, 27] 2 (fun gk x y wr => ∃ k : Nat, Hid (k + gk = 2) ∧ k ≤ 2 ∧ Own eEc wr w.heap.size x (cat16 L k) ∧ y = .int .i64 (k : Int) ∧ Below w.heap.size w wr)
      case atStart => exact ⟨0, Nat.zero_add _, Nat.zero_le _, HO1.out, rfl, HX1.out⟩
      case round =>
        obtain ⟨k, HG, hk, hown, rfl, hbr⟩ := hrel
        have hsz := hbr.size
        by_cases hlt : k < 2
        · have blt : decide ((k : Int) < 2) = true := decide_eq_true (by omega)
          have blt2 : decide (k < 2) = true := decide_eq_true hlt
          obtain ⟨nk, hnk⟩ : ∃ nk, N k = nk := ⟨_, rfl⟩
          have c0 := (hbr.cell (p := ⟨b, k, none⟩) hb).trans (HC.out k hlt)
          rw [hnk] at c0
          have hki : (k : Int) < 2 := by omega
          have HNK := Lib.hid ((HN.out k hlt).trans hnk)
          have HLK := Lib.hid ((HL.out k hlt).below hbr)
          have hcl := cat16_len HN.out k hk
          have hle := sum16_mono N (k + 1) 2 (by omega)
          have hle2 : (cat16 L k).length + nk ≤ 1099511627776 := by
            have e : sum16 N (k + 1) = sum16 N k + N k := rfl
            have := HS.out
            rw [hcl]
            omega
          have HO := Lib.hid hown
          have HB := Lib.hid hbr
          clear hown hcl hle hnk
          go_wp2_with (at_builtin; refine wpList_app16 eEc wr rfl (.tmp 31) (.tmp 32) rfl w.heap.size _ (cat16 L k) rfl HO.out (ad k) (L k) nk (C k) HNK.out rfl HLK.out hle2 hsz ?_; intro v3 w3 hown3 hb3)
          have hgk := HG.out
          go_roundg (2 - (k + 1))
          case rel => exact ⟨k + 1, (by show _ = _; omega), by omega, hown3, by go_num, HB.out.trans hb3⟩
          case measure => omega
        · have blt : decide ((k : Int) < 2) = false := decide_eq_false (by omega)
          have blt2 : decide (k < 2) = false := decide_eq_false hlt
          obtain rfl : k = 2 := by omega
          go_wp2
          go_ret
          exact ⟨_, rfl, hown, hbr⟩

end Go.Proofs.Ytpkhnchbamjgjaa

namespace Go.Proofs.Ytpkhnchbamjgjaa
open Go.Shelf Go.RowKit
set_option linter.unusedVariables false

def ren190 : Go.Shelf.Ren := ⟨fun | 125 => 40 | 128 => 54 | 129 => 55 | 190 => 30 | 258 => 39 | 302 => 45 | 303 => 46 | 304 => 47 | 305 => 48 | 306 => 49 | 307 => 50 | 308 => 51 | 309 => 52 | 310 => 53 | 329 => 67 | 330 => 68 | 333 => 66 | 334 => 69 | 335 => 70 | 336 => 71 | 344 => 76 | n => n, fun | 0 => 0 | 3 => 3 | 4 => 4 | 5 => 5 | 9 => 9 | 31 => 37 | 46 => 68 | 51 => 82 | 53 => 84 | 131 => 61 | 182 => 74 | 183 => 75 | 218 => 92 | 222 => 96 | 228 => 101 | 229 => 102 | n => n, fun  n => n⟩
set_option maxRecDepth 100000 in
theorem lays190 : Go.Proofs.Lays.n190 Try.prog ren190 := {
  mixed := by kernel_rfl
  f125 := Try.func40.trans (congrArg some (by kernel_rfl))
  f128 := Try.func54.trans (congrArg some (by kernel_rfl))
  f129 := Try.func55.trans (congrArg some (by kernel_rfl))
  f190 := Try.func30.trans (congrArg some (by kernel_rfl))
  f258 := Try.func39.trans (congrArg some (by kernel_rfl))
  f302 := Try.func45.trans (congrArg some (by kernel_rfl))
  f303 := Try.func46.trans (congrArg some (by kernel_rfl))
  f304 := Try.func47.trans (congrArg some (by kernel_rfl))
  f305 := Try.func48.trans (congrArg some (by kernel_rfl))
  f306 := Try.func49.trans (congrArg some (by kernel_rfl))
  f307 := Try.func50.trans (congrArg some (by kernel_rfl))
  f308 := Try.func51.trans (congrArg some (by kernel_rfl))
  f309 := Try.func52.trans (congrArg some (by kernel_rfl))
  f310 := Try.func53.trans (congrArg some (by kernel_rfl))
  f329 := Try.func67.trans (congrArg some (by kernel_rfl))
  f330 := Try.func68.trans (congrArg some (by kernel_rfl))
  f333 := Try.func66.trans (congrArg some (by kernel_rfl))
  f334 := Try.func69.trans (congrArg some (by kernel_rfl))
  f335 := Try.func70.trans (congrArg some (by kernel_rfl))
  f336 := Try.func71.trans (congrArg some (by kernel_rfl))
  f344 := Try.func76.trans (congrArg some (by kernel_rfl))
  t0 := Try.underlying0
  a0 := Try.isAgg0
  z0 := Try.sizeOf0
  v0 := Try.zeroValue0
  t3 := Try.underlying3
  a3 := Try.isAgg3
  z3 := Try.sizeOf3
  v3 := Try.zeroValue3
  t4 := Try.underlying4
  a4 := Try.isAgg4
  z4 := Try.sizeOf4
  v4 := Try.zeroValue4
  t5 := Try.underlying5
  a5 := Try.isAgg5
  z5 := Try.sizeOf5
  v5 := Try.zeroValue5
  t9 := Try.underlying9
  a9 := Try.isAgg9
  z9 := Try.sizeOf9
  v9 := Try.zeroValue9
  t31 := Try.underlying37
  a31 := Try.isAgg37
  z31 := Try.sizeOf37
  v31 := Try.zeroValue37
  t46 := Try.underlying68
  a46 := Try.isAgg68
  z46 := Try.sizeOf68
  v46 := Try.zeroValue68
  t51 := Try.underlying82
  a51 := Try.isAgg82
  z51 := Try.sizeOf82
  v51 := Try.zeroValue82
  t53 := Try.underlying84
  a53 := Try.isAgg84
  z53 := Try.sizeOf84
  v53 := Try.zeroValue84
  t131 := Try.underlying61
  a131 := Try.isAgg61
  z131 := Try.sizeOf61
  v131 := Try.zeroValue61
  t182 := Try.underlying74
  a182 := Try.isAgg74
  z182 := Try.sizeOf74
  v182 := Try.zeroValue74
  t183 := Try.underlying75
  a183 := Try.isAgg75
  z183 := Try.sizeOf75
  v183 := Try.zeroValue75
  t218 := Try.underlying92
  a218 := Try.isAgg92
  z218 := Try.sizeOf92
  v218 := Try.zeroValue92
  t222 := Try.underlying96
  a222 := Try.isAgg96
  z222 := Try.sizeOf96
  v222 := Try.zeroValue96
  t228 := Try.underlying101
  a228 := Try.isAgg101
  z228 := Try.sizeOf101
  v228 := Try.zeroValue101
  t229 := Try.underlying102
  a229 := Try.isAgg102
  z229 := Try.sizeOf102
  v229 := Try.zeroValue102 }
def ren194 : Go.Shelf.Ren := ⟨fun | 194 => 31 | n => n, fun | 0 => 0 | 3 => 3 | 4 => 4 | 9 => 9 | 31 => 37 | n => n, fun  n => n⟩
set_option maxRecDepth 100000 in
theorem lays194 : Go.Proofs.Lays.n194 Try.prog ren194 := {
  mixed := by kernel_rfl
  f194 := Try.func31.trans (congrArg some (by kernel_rfl))
  t0 := Try.underlying0
  a0 := Try.isAgg0
  z0 := Try.sizeOf0
  v0 := Try.zeroValue0
  t3 := Try.underlying3
  a3 := Try.isAgg3
  z3 := Try.sizeOf3
  v3 := Try.zeroValue3
  t4 := Try.underlying4
  a4 := Try.isAgg4
  z4 := Try.sizeOf4
  v4 := Try.zeroValue4
  t9 := Try.underlying9
  a9 := Try.isAgg9
  z9 := Try.sizeOf9
  v9 := Try.zeroValue9
  t31 := Try.underlying37
  a31 := Try.isAgg37
  z31 := Try.sizeOf37
  v31 := Try.zeroValue37 }
theorem le16 (x y : List UInt8) : decide (x ≤ y) = !Op.bytesLess y x := by
  rw [bytesLess_eq, ← decide_not]
  exact decide_eq_decide.2 List.not_lt.symm
theorem sort16 (l : List (List UInt8)) : (l.mergeSort fun x y => decide (x ≤ y)).Pairwise fun a b => a = b ∨ Op.bytesLess a b = true := by
  have h : ((l.mergeSort fun x y => decide (x ≤ y)).Pairwise fun a b => decide (a ≤ b) = true) := by
    refine List.pairwise_mergeSort (fun a b c h1 h2 => ?_) (fun a b => ?_) l
    · rw [le16] at h1 h2 ⊢
      cases k : Op.bytesLess c a with
      | false => rfl
      | true =>
        rw [Bool.not_eq_true'] at h1 h2
        rcases T.less_tri a b with q | q | q
        · rcases T.less_tri b c with p | p | p
          · have := T.less_trans _ _ _ (T.less_trans _ _ _ q p) k; rw [T.less_irr] at this; cases this
          · subst p; have := T.less_trans _ _ _ q k; rw [T.less_irr] at this; cases this
          · rw [h2] at p; cases p
        · subst q; rw [h2] at k; cases k
        · rw [h1] at q; cases q
    · rw [le16, le16]
      cases k : Op.bytesLess b a with
      | false => rfl
      | true =>
        cases k2 : Op.bytesLess a b with
        | false => rfl
        | true => have := T.less_trans _ _ _ k k2; rw [T.less_irr] at this; cases this
  refine h.imp fun {a b} k => ?_
  rw [le16, Bool.not_eq_true'] at k
  rcases T.less_tri a b with q | q | q
  · exact .inr q
  · exact .inl q
  · rw [k] at q; cases q
/-- Words in a block that may be written over. -/
structure RowS (w : World) (g : Nat) (l : List (List UInt8)) : Prop where
  lt : g < w.heap.size
  cells : Holds eS w g 0 l
  thaw : ∀ j, w.frozen? ⟨g, j, none⟩ = false
theorem RowS.own16 {w : World} {base g n cap : Nat} {l : List (List UInt8)} (h : Own eS w base (.slice (some ⟨g, 0, none⟩) n cap) l) (hl : 0 < l.length) : RowS w g l := by
  obtain ⟨b, e, h1, h2, h3⟩ := h.block hl
  injection e with e
  injection e with e
  subst e
  exact ⟨h2, h3, fun j => (h.frozenNo j).1⟩
theorem RowS.rowed {w : World} {g : Nat} {l : List (List UInt8)} (h : RowS w g l) : Go.Sort.Holds encStr w g 0 l.toArray := by
  intro j hj
  have hj2 : j < l.length := by simpa using hj
  refine ⟨?_, by rw [Nat.zero_add]; exact h.thaw j⟩
  have := h.cells j hj2 0 (.string (sB l[j])) rfl
  rw [getElem!_pos l.toArray j hj, List.getElem_toArray]
  show w.cell? ⟨g, 0 + j, none⟩ = some (.string (sB l[j]))
  rw [← this]; congr 2; show 0 + j = 0 + j * 1 + 0; omega
theorem rowed_back {w : World} {g : Nat} {l : List (List UInt8)} {d : Array (List UInt8)} (h : Go.Sort.Holds encStr w g 0 d) (hd : ∀ i (hi : i < l.length), d[i]? = some l[i]) : Holds eS w g 0 l := by
  intro i hi j u hu
  have hj : j < 1 := (List.getElem?_eq_some_iff.1 hu).1
  obtain rfl : j = 0 := by omega
  obtain ⟨h1, h2⟩ := Array.getElem?_eq_some_iff.1 (hd i hi)
  have := (h i h1).1
  rw [getElem!_pos d i h1, h2] at this
  have hu2 : (Value.string (sB l[i])) = u := by injection hu
  subst hu2
  rw [show (0 + i * eS.sz + 0) = 0 + i by show 0 + i * 1 + 0 = 0 + i; omega]
  exact this
theorem put_below16 (w : World) (n g : Nat) (d : Array (List UInt8)) (os : Array Obj) (hg : g < w.heap.size) : Below g w (Go.Sort.grow (Go.Sort.putRow encStr (Go.Sort.ahead w n) g 0 d) os) := by
  refine ⟨rfl, rfl, rfl, ?_, fun c hc => ?_⟩
  · show w.heap.size ≤ ((w.heap.modify g _) ++ os).size
    rw [Array.size_append, Array.size_modify]; omega
  · rw [Go.Sort.heap_grow_old _ _ (by show c < (w.heap.modify g _).size; rw [Array.size_modify]; omega)]
    show (w.heap.modify g _)[c]? = _
    rw [Array.getElem?_modify, if_neg (by omega)]
theorem sortS16 (g n cap : Nat) (l : List (List UInt8)) (w : World) (hn : l.length = n) (h0 : 0 < n) (hl : n ≤ 1073741824) (hO : RowS w g l) :
    Calls Try.prog 30 #[.slice (some ⟨g, 0, none⟩) n cap] w (fun e w' => e = .returned (.tuple #[]) ∧ ∃ s, s.Perm l ∧ (s.Pairwise fun a b => a = b ∨ Op.bytesLess a b = true) ∧ RowS w' g s ∧ Below g w w') := by
  have h := Any.slices_Sort_string (P := Try.prog) (ρ := ren190) lays190 g 0 cap l w hO.rowed hO.lt (by omega)
  rw [hn] at h
  refine h.mono ?_
  rintro e w' ⟨he, m, os, rfl⟩
  have hp := List.mergeSort_perm l fun x y => decide (x ≤ y)
  have hsz : (l.mergeSort fun x y => decide (x ≤ y)).toArray.size = l.toArray.size := by simp
  have hh := Go.Sort.holds_putRow encStr (Go.Sort.ahead w m) g 0 l.toArray _ (Go.Sort.holds_ahead encStr w m g 0 _ hO.rowed) hsz
  have hlt : g < (Go.Sort.putRow encStr (Go.Sort.ahead w m) g 0 (l.mergeSort fun x y => decide (x ≤ y)).toArray).heap.size := by
    show g < (w.heap.modify g _).size
    rw [Array.size_modify]; exact hO.lt
  refine ⟨he, _, hp, sort16 l, ⟨?_, rowed_back (Go.Sort.holds_grow encStr _ os g 0 _ hlt hh) (fun i hi => by simp), fun j => ?_⟩, put_below16 w m g _ os hO.lt⟩
  · have := (put_below16 w m g (l.mergeSort fun x y => decide (x ≤ y)).toArray os hO.lt).size
    have := hO.lt
    omega
  · rw [Go.Sort.frozen?_grow _ _ _ hlt, Go.Sort.frozen?_putRow]
    exact hO.thaw j
theorem compact_sq (s : List (List UInt8)) : ∀ k, k ≤ s.length → Lib.compactUpTo s.toArray k = Pt.sqH (s.take k) := by
  intro k
  induction k with
  | zero => intro _; rfl
  | succ k ih =>
    intro hk
    have hks : k < s.length := hk
    rw [Lib.compactUpTo_succ, ih (Nat.le_of_succ_le hk), Pt.sq_take hks]
    have hat : ∀ i (hi : i < s.length), s.toArray[i]! = s[i] := fun i hi => by rw [getElem!_pos s.toArray i (by simpa using hi), List.getElem_toArray]
    rw [hat k hks]
    by_cases h0 : k = 0
    · have hkp : Lib.keeps s.toArray k = true := Lib.keeps_lt_one _ k (by omega)
      rw [hkp, if_pos rfl, if_neg (fun q => by omega)]
    · have hk1 : k - 1 < s.length := by omega
      by_cases he : s[k - 1] = s[k]
      · have hkp : Lib.keeps s.toArray k = false := Lib.keeps_neg (by omega) (by rw [hat k hks, hat (k - 1) hk1, he])
        rw [hkp, if_neg (by decide), if_pos ⟨by omega, by rw [List.getElem?_eq_getElem hk1, he]⟩, List.append_nil]
      · have hkp : Lib.keeps s.toArray k = true := Lib.keeps_pos (by rw [hat k hks, hat (k - 1) hk1]; exact fun q => he q.symm)
        rw [hkp, if_pos rfl, if_neg (fun q => he (by have := q.2; rw [List.getElem?_eq_getElem hk1] at this; exact Option.some.inj this))]
theorem sq_len16 : ∀ l : List (List UInt8), (Pt.sqH l).length ≤ l.length
  | [] => by simp [Pt.sqH]
  | [x] => by simp [Pt.sqH]
  | x :: y :: r => by
    have ih := sq_len16 (y :: r)
    unfold Pt.sqH
    split
    · exact Nat.le_trans ih (by simp)
    · rw [List.length_cons, List.length_cons]; omega
theorem compactS16 (g n cap : Nat) (s : List (List UInt8)) (w : World) (hn : s.length = n) (hc : n ≤ cap) (hl : n ≤ 1073741824) (hO : RowS w g s) :
    Calls Try.prog 31 #[.slice (some ⟨g, 0, none⟩) n cap] w (fun e w' => ∃ m, e = .returned (.slice (some ⟨g, 0, none⟩) m cap) ∧ (Pt.sqH s).length = m ∧ m ≤ n ∧ Seen eS w' (some ⟨g, 0, none⟩) (Pt.sqH s) ∧ Below g w w') := by
  have h := Any.slices_Compact_string (P := Try.prog) (ρ := ren194) lays194 g 0 cap s w hO.rowed (by omega) (by omega)
  rw [hn] at h
  have hq : Lib.compact s = Pt.sqH s := by
    show Lib.compactUpTo s.toArray s.length = _
    rw [compact_sq s s.length (Nat.le_refl _), List.take_length]
  rw [hq] at h
  refine h.mono ?_
  rintro e w' ⟨he, m, rfl⟩
  have hle : (Pt.sqH s).length ≤ n := by rw [← hn]; exact sq_len16 s
  have hsz : (Pt.sqH s ++ List.replicate (n - (Pt.sqH s).length) []).toArray.size = s.toArray.size := by simp; omega
  have hh := Go.Sort.holds_putRow encStr (Go.Sort.ahead w m) g 0 s.toArray _ (Go.Sort.holds_ahead encStr w m g 0 _ hO.rowed) hsz
  have hb := put_below16 w m g (Pt.sqH s ++ List.replicate (n - (Pt.sqH s).length) []).toArray #[] hO.lt
  rw [Go.Sort.grow_empty] at hb
  refine ⟨_, he, rfl, hle, fun _ => ⟨g, 0, rfl, ?_, rowed_back hh (fun i hi => ?_)⟩, hb⟩
  · have := hb.size
    have := hO.lt
    omega
  · rw [List.getElem?_toArray, List.getElem?_append_left hi, List.getElem?_eq_getElem hi]
namespace Pt
theorem rise_ext {a b : List C.Wd} (ha : a.Pairwise fun x y => Op.bytesLess x y = true) (hb : b.Pairwise fun x y => Op.bytesLess x y = true) (h : ∀ x, x ∈ a ↔ x ∈ b) : a = b := by
  let f : C.Wd → H.En := fun x => ⟨x, 0, [], []⟩
  have hf : ∀ x y, f x = f y → x = y := fun x y e => by injection e
  have key : ∀ l : List C.Wd, (l.Pairwise fun x y => Op.bytesLess x y = true) → H.SortE (l.map f) := fun l hl => by
    unfold H.SortE
    rw [List.pairwise_map]
    exact hl.imp fun {x y} k => (H.ahead_iff _ _).2 (.inl k)
  have e := H.sort_ext (key a ha) (key b hb) fun z => by
    rw [List.mem_map, List.mem_map]
    exact ⟨fun ⟨x, hx, e⟩ => ⟨x, (h x).1 hx, e⟩, fun ⟨x, hx, e⟩ => ⟨x, (h x).2 hx, e⟩⟩
  exact (List.map_inj_right hf).1 e
/-- All hosts, in order, squeezed: each host once, in order. -/
theorem hosts_sq {l : List H.En} {s : List C.Wd} (hp : s.Perm (l.map fun x => x.host)) (hs : s.Pairwise fun a b => a = b ∨ Op.bytesLess a b = true) : sqH s = hostsE l := by
  refine rise_ext (sq_rise hs) (hosts_rise l) fun x => ?_
  rw [mem_sq, hp.mem_iff, mem_hosts, List.mem_map]
end Pt
end Go.Proofs.Ytpkhnchbamjgjaa
