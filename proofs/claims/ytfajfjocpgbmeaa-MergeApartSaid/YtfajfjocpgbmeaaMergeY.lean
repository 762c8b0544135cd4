/-
  merge.Of: both sides, brought together, as the document says. No conditions.
-/
import Derived.Test.YtfajfjocpgbmeaaMergeE
import Derived.Test.YtfajfjocpgbmeaaMergeA
import Derived.Test.YtfajfjocpgbmeaaLinesM
namespace Go.Proofs.Ytfajfjocpgbmeaa
open Go.RowKit
set_option linter.unusedVariables false

theorem rightCQ (A : Option Addr) (c n : Nat) (t : List T.Ln) (r : Bool) (w : World) (hA : TArg w A c n t) (h : r = true ↔ T.RightT t) :
    Calls Try.prog 16 #[.slice A n c] w (BoolS w r) := by
  obtain ⟨rfl, hl, hc, hs, hN⟩ := hA
  exact right_is A c t r w hs hl h
set_option maxRecDepth 100000 in
set_option maxHeartbeats 2000000 in
theorem of_bad (A B C : Option Addr) (c d f n m k : Nat) (b s t : List T.Ln) (w : World) (hA : TArg w A c n b) (hB : TArg w B d m s) (hC : TArg w C f k t) (h : ¬ (T.RightT b ∧ T.RightT s ∧ T.RightT t)) :
    Calls Try.prog 11 #[.slice A n c, .slice B m d, .slice C k f] w (MergeS w [] [] 1) := by
  have HA := Lib.hid hA
  have HB := Lib.hid hB
  have HC := Lib.hid hC
  clear hA hB hC
  have hb : Below w.heap.size w w := Below.refl _ _
  by_cases h1 : T.RightT b
  · have H1 := Lib.hid h1
    by_cases h2 : T.RightT s
    · have H2 := Lib.hid h2
      have H3 := Lib.hid (show ¬ T.RightT t from fun h3 => h ⟨h1, h2, h3⟩)
      clear h h1 h2
      go_enter Try.func11, Try.ntmps11
      go_wp2_with fail
      refine (rightCQ A c n b true _ HA.out (yes_iff H1.out)).mono ?_
      rintro e w1 ⟨rfl, hx⟩
      replace hb := bthen hb hx
      clear hx
      go_wp2_with fail
      refine (rightCQ B d m s true _ (HB.out.below hb) (yes_iff H2.out)).mono ?_
      rintro e w2 ⟨rfl, hx⟩
      replace hb := bthen hb hx
      clear hx
      go_wp2_with fail
      refine (rightCQ C f k t false _ (HC.out.below hb) (no_iff H3.out)).mono ?_
      rintro e w3 ⟨rfl, hx⟩
      replace hb := bthen hb hx
      clear hx
      go_wp2
      go_ret3
      exact ⟨none, 0, none, 0, rfl, Seen.nil, Nat.le_refl _, fun _ => rfl, fun hl => absurd hl (Nat.lt_irrefl 0), Nat.le_refl _, hb⟩
    · have H2 := Lib.hid h2
      clear h h1 h2
      go_enter Try.func11, Try.ntmps11
      go_wp2_with fail
      refine (rightCQ A c n b true _ HA.out (yes_iff H1.out)).mono ?_
      rintro e w1 ⟨rfl, hx⟩
      replace hb := bthen hb hx
      clear hx
      go_wp2_with fail
      refine (rightCQ B d m s false _ (HB.out.below hb) (no_iff H2.out)).mono ?_
      rintro e w2 ⟨rfl, hx⟩
      replace hb := bthen hb hx
      clear hx
      go_wp2
      go_ret3
      exact ⟨none, 0, none, 0, rfl, Seen.nil, Nat.le_refl _, fun _ => rfl, fun hl => absurd hl (Nat.lt_irrefl 0), Nat.le_refl _, hb⟩
  · have H1 := Lib.hid h1
    clear h h1
    go_enter Try.func11, Try.ntmps11
    go_wp2_with fail
    refine (rightCQ A c n b false _ HA.out (no_iff H1.out)).mono ?_
    rintro e w1 ⟨rfl, hx⟩
    replace hb := bthen hb hx
    clear hx
    go_wp2
    go_ret3
    exact ⟨none, 0, none, 0, rfl, Seen.nil, Nat.le_refl _, fun _ => rfl, fun hl => absurd hl (Nat.lt_irrefl 0), Nat.le_refl _, hb⟩

theorem grew_apart {α β : Type} {E : Elem α} {E2 : Elem β} {w w' : World} {base b2 : Nat} {u v v' : Value} {l : List α} {l2 : List β} (h : Grew E w w' base v v' l) (hu : Own E2 w b2 u l2) (ha : Apart u v) : Apart u v' := by
  intro k hk e
  have h2 := hu.lt k hk
  rcases h.at_ with h3 | ⟨g, h3, h4⟩
  · rw [h3] at e; exact ha k hk e
  · rw [h3] at e; injection e with e; omega
/-- Sixteen zeros. -/
def zeros16 : Array Value := #[.int .i64 0, .int .i64 0, .int .i64 0, .int .i64 0, .int .i64 0, .int .i64 0, .int .i64 0, .int .i64 0, .int .i64 0, .int .i64 0, .int .i64 0, .int .i64 0, .int .i64 0, .int .i64 0, .int .i64 0, .int .i64 0]
/-- What the loop of merge.Of keeps, in memory: what comes out, what conflicts, and how the newest path of each Depth is decided. -/
structure LoopM (w w2 wr : World) (gN : Nat) (vo vc : Value) (U : List T.Ln) (M : List PtM) (f : Nat → Int) : Prop where
  ago : Below w.heap.size w wr
  but : But gN w2 wr
  row : ∃ (cur : Array Value) (ty : TypeId), wr.heap[gN]? = some (.cells cur ty) ∧ cur.size = 16 ∧ ∀ d, d < 16 → cur[d]? = some (.int .i64 (f d))
  out : Own eL wr w2.heap.size vo U
  con : Own eQ wr w2.heap.size vc M
  apart : Apart vo vc
section
variable {w w2 wr w' : World} {gN : Nat} {vo vc vo' vc' : Value} {U : List T.Ln} {M : List PtM} {f : Nat → Int}
theorem LoopM.more (h : LoopM w w2 wr gN vo vc U M f) (hb : Below wr.heap.size wr w') : LoopM w w2 w' gN vo vc U M f := by
  obtain ⟨cur, ty, h1, h2, h3⟩ := h.row
  exact ⟨bthen h.ago hb, h.but.more hb, ⟨cur, ty, (hb.block gN (Array.getElem?_eq_some_iff.1 h1).1).trans h1, h2, h3⟩, h.out.keep hb, h.con.keep hb, h.apart⟩
theorem LoopM.cellN (h : LoopM w w2 wr gN vo vc U M f) {d : Nat} (hd : d < 16) : wr.cell? ⟨gN, d, none⟩ = some (.int .i64 (f d)) := by
  obtain ⟨cur, ty, h1, h2, h3⟩ := h.row
  simp [World.cell?, h1, h3 d hd]
theorem LoopM.openN (h : LoopM w w2 wr gN vo vc U M f) (d : Nat) : wr.frozen? ⟨gN, d, none⟩ = false := by
  obtain ⟨cur, ty, h1, h2, h3⟩ := h.row
  exact Lib.frozen_of_heap h1 d
theorem LoopM.putN (h : LoopM w w2 wr gN vo vc U M f) (h1 : w.heap.size ≤ gN) (h2 : gN < w2.heap.size) {q : Nat} (hq : q < 16) (r : Int) {f' : Nat → Int} (hf : ∀ d, f' d = if d = q then r else f d) : LoopM w w2 (wr.setCell ⟨gN, q, none⟩ (.int .i64 r)) gN vo vc U M f' := by
  obtain ⟨cur, ty, h3, h4, h5⟩ := h.row
  refine ⟨h.ago.setCell (p := ⟨gN, q, none⟩) h1 _, h.but.and (But.store _ _ _), ⟨cur.setIfInBounds q (.int .i64 r), ty, by simp [World.setCell, Array.getElem?_modify, h3], by rw [Array.size_setIfInBounds]; exact h4, fun d hd => ?_⟩,
    h.out.stored _ (fun k hk => by have := h.out.lt k hk; omega), h.con.stored _ (fun k hk => by have := h.con.lt k hk; omega), h.apart⟩
  rw [Array.getElem?_setIfInBounds, hf]
  by_cases e : q = d
  · subst e; rw [if_pos rfl, if_pos rfl, if_pos (by omega)]
  · rw [if_neg e, if_neg (fun e2 => e e2.symm)]; exact h5 d hd
theorem LoopM.grown {α : Type} {E : Elem α} {v v' : Value} {l l2 : List α} (h : LoopM w w2 wr gN vo vc U M f) (hg : Grew E wr w' w2.heap.size v v' l) (hv : Own E wr w2.heap.size v l2) (h1 : w.heap.size ≤ w2.heap.size) (h2 : gN < w2.heap.size) : Below w.heap.size w w' ∧ But gN w2 w' ∧ ∃ (cur : Array Value) (ty : TypeId), w'.heap[gN]? = some (.cells cur ty) ∧ cur.size = 16 ∧ ∀ d, d < 16 → cur[d]? = some (.int .i64 (f d)) := by
  have hB := hg.below hv h.but.size
  obtain ⟨cur, ty, h3, h4, h5⟩ := h.row
  exact ⟨h.ago.trans (hB.mono h1), ⟨hB.os.trans h.but.os, hB.tape.trans h.but.tape, hB.output.trans h.but.output, Nat.le_trans h.but.size hB.size, fun k hk hne => (hB.block k hk).trans (h.but.block k hk hne)⟩, cur, ty, (hB.block gN h2).trans h3, h4, h5⟩
theorem LoopM.outs (h : LoopM w w2 wr gN vo vc U M f) {x : T.Ln} (hg : Grew eL wr w' w2.heap.size vo vo' (U ++ [x])) (h1 : w.heap.size ≤ w2.heap.size) (h2 : gN < w2.heap.size) : LoopM w w2 w' gN vo' vc (U ++ [x]) M f := by
  obtain ⟨k1, k2, k3⟩ := h.grown hg h.out h1 h2
  exact ⟨k1, k2, k3, hg.own, h.con.other hg.grown h.apart.symm, (grew_apart hg h.con h.apart.symm).symm⟩
theorem LoopM.cons (h : LoopM w w2 wr gN vo vc U M f) {x : PtM} (hg : Grew eQ wr w' w2.heap.size vc vc' (M ++ [x])) (h1 : w.heap.size ≤ w2.heap.size) (h2 : gN < w2.heap.size) : LoopM w w2 w' gN vo vc' U (M ++ [x]) f := by
  obtain ⟨k1, k2, k3⟩ := h.grown hg h.con h1 h2
  exact ⟨k1, k2, k3, h.out.other hg.grown h.apart, hg.own, grew_apart hg h.out h.apart⟩
end
/-- The conflicts' slices, of the first i paths. -/
def conM (b s t : List T.Ln) (X : List (PtM × T.Pth)) : List PtM := (X.filter fun x => T.badB b s t x.2).map Prod.fst
theorem con_next (b s t : List T.Ln) (X : List (PtM × T.Pth)) {i : Nat} {m : PtM} {P : T.Pth} (h : X[i]? = some (m, P)) : conM b s t (X.take (i + 1)) = conM b s t (X.take i) ++ if T.badB b s t P = true then [m] else [] := by
  obtain ⟨h1, h2⟩ := List.getElem?_eq_some_iff.1 h
  unfold conM
  rw [List.take_succ_eq_append_getElem h1, List.filter_append, List.map_append, T.filter_one, h2]
  split <;> rfl
theorem con_le (b s t : List T.Ln) (X : List (PtM × T.Pth)) : (conM b s t X).length ≤ X.length := by unfold conM; rw [List.length_map]; exact List.length_filter_le _ _
theorem con_all (b s t : List T.Ln) {X : List (PtM × T.Pth)} (h : X.map Prod.snd = T.allP b s t) : (X.filter fun x => T.badB b s t x.2).map Prod.snd = T.confL b s t := by
  unfold T.confL
  rw [← h, List.filter_map]; rfl
theorem out_next (b s t : List T.Ln) (X : List (PtM × T.Pth)) {i : Nat} {m : PtM} {P : T.Pth} (h : X[i]? = some (m, P)) : T.outTo b s t ((X.map Prod.snd).take (i + 1)) = T.outTo b s t ((X.map Prod.snd).take i) ++ if (T.thereB b s t P && !T.badB b s t P) = true then [T.lnOf (P, T.decO b s t P)] else [] := by
  obtain ⟨h1, h2⟩ := List.getElem?_eq_some_iff.1 h
  rw [List.take_succ_eq_append_getElem (by rw [List.length_map]; exact h1), T.outTo_next, List.getElem_map, h2]
theorem heap_laid (w : World) (o : Obj) : (w.alloc o).heap[w.heap.size]? = some o := by unfold World.alloc; exact Array.getElem?_push_size
theorem cell_heap {w : World} {g j : Nat} {cur : Array Value} {ty : TypeId} {v : Value} (h : w.heap[g]? = some (.cells cur ty)) (hj : cur[j]? = some v) : w.cell? ⟨g, j, none⟩ = some v := by simp [World.cell?, h, hj]
theorem last_word {P : T.Pth} {q : Nat} {wd : List UInt8} (h : P.length = q + 1) (hw : P[q]? = some wd) (r : Int) : T.lnOf (P, r) = ⟨(q : Int), wd, r⟩ := by
  have e : P.getLastD [] = wd := by rw [List.getLastD_eq_getLast?, List.getLast?_eq_getElem?, h, Nat.add_sub_cancel, hw]; rfl
  unfold T.lnOf
  simp only [e, h]
  congr 1
  omega
/-- The trees, as merge.Of hands them over. -/
theorem args_three {w : World} {A B C : Option Addr} {c d f n m k : Nat} {b s t : List T.Ln} {w3 : World} (o : Obj) (ty : TypeId) (hA : TArg w3 A c n b) (hB : TArg w3 B d m s) (hC : TArg w3 C f k t) (h1 : T.RightT b) (h2 : T.RightT s) (h3 : T.RightT t) :
    VArg ((w3.alloc o).alloc (.cells #[.slice A n c, .slice B m d, .slice C k f] ty)) (w3.heap.size + 1) [⟨A, n, c, b⟩, ⟨B, m, d, s⟩, ⟨C, k, f, t⟩] := by
  have hb : Below w3.heap.size w3 ((w3.alloc o).alloc (.cells #[.slice A n c, .slice B m d, .slice C k f] ty)) := ((Below.refl _ _).alloc (Nat.le_refl _) _).alloc (by simp) _
  have hz : (w3.alloc o).heap.size = w3.heap.size + 1 := by simp
  refine ⟨by simp, fun i v hv => ?_, fun v hv => ?_, fun v hv => ?_⟩
  · rw [← hz]
    match i, hv with
    | 0, hv => injection hv with hv; subst hv; exact cell_heap (heap_laid _ _) rfl
    | 1, hv => injection hv with hv; subst hv; exact cell_heap (heap_laid _ _) rfl
    | 2, hv => injection hv with hv; subst hv; exact cell_heap (heap_laid _ _) rfl
  · simp only [List.mem_cons, List.not_mem_nil, or_false] at hv
    rcases hv with rfl | rfl | rfl
    · exact hA.below hb
    · exact hB.below hb
    · exact hC.below hb
  · simp only [List.mem_cons, List.not_mem_nil, or_false] at hv
    rcases hv with rfl | rfl | rfl
    · exact h1
    · exact h2
    · exact h3
theorem zeros_at {d : Nat} (h : d < 16) : zeros16[d]? = some (.int .i64 0) := by
  match d, h with
  | 0, _ => rfl
  | 1, _ => rfl
  | 2, _ => rfl
  | 3, _ => rfl
  | 4, _ => rfl
  | 5, _ => rfl
  | 6, _ => rfl
  | 7, _ => rfl
  | 8, _ => rfl
  | 9, _ => rfl
  | 10, _ => rfl
  | 11, _ => rfl
  | 12, _ => rfl
  | 13, _ => rfl
  | 14, _ => rfl
  | 15, _ => rfl
  | k + 16, h => exact absurd h (by omega)
theorem LoopM.first {w w2 : World} {gN : Nat} {b s t : List T.Ln} {X : List (PtM × T.Pth)} (h : Below w.heap.size w w2) (hN : w2.heap[gN]? = some (.cells zeros16 49)) : LoopM w w2 w2 gN (.slice none 0 0) (.slice none 0 0) (T.outTo b s t ((X.map Prod.snd).take 0)) (conM b s t (X.take 0)) (fun _ => 0) :=
  ⟨h, But.same _ _, ⟨zeros16, _, hN, rfl, fun d hd => zeros_at hd⟩, Own.nil _ _, Own.nil _ _, Apart.nil _⟩
/-- What the loop has brought together at its end. -/
theorem LoopM.last {w w2 wr : World} {gN no co nc cc : Nat} {Ao Ac : Option Addr} {b s t : List T.Ln} {X : List (PtM × T.Pth)} {f : Nat → Int} {n0 : Nat} (h : LoopM w w2 wr gN (.slice Ao no co) (.slice Ac nc cc) (T.outTo b s t ((X.map Prod.snd).take n0)) (conM b s t (X.take n0)) f)
    (hn : X.length = n0) (hX : X.map Prod.snd = T.allP b s t) (hP : ∀ x ∈ X, PtO w2 gN x) :
    ((T.outTo b s t (T.allP b s t)).length = no ∧ no ≤ co ∧ Seen eL wr Ao (T.outTo b s t (T.allP b s t)) ∧ NilOk Ao co) ∧ (T.confL b s t).length = nc ∧ nc ≤ cc ∧ SeenP wr Ac (T.confL b s t) := by
  rw [List.take_of_length_le (by rw [List.length_map]; omega), List.take_of_length_le (by omega), hX] at h
  have hC := con_all b s t hX
  obtain ⟨A1, c1, e1, h1, h2⟩ := h.out.seen
  obtain ⟨A2, c2, e2, h3, h4⟩ := h.con.seen
  have k1 := h.out.nilOk
  injection e1 with e3 e4 e5
  injection e2 with e6 e7 e8
  subst e3 e5 e6 e8
  have hl : (conM b s t X).length = (T.confL b s t).length := by rw [← hC]; unfold conM; rw [List.length_map, List.length_map]
  refine ⟨⟨e4.symm, by omega, h2, k1⟩, by omega, by omega, SeenQ.seenP ⟨conM b s t X, hl, h4, fun i g1 g2 => ?_⟩⟩
  obtain ⟨x, hx⟩ : ∃ x, (X.filter fun x => T.badB b s t x.2)[i]? = some x := ⟨_, List.getElem?_eq_getElem (by unfold conM at g1; rwa [List.length_map] at g1)⟩
  have m1 : (conM b s t X)[i] = x.1 := by
    have : (conM b s t X)[i]? = some x.1 := by unfold conM; rw [List.getElem?_map, hx]; rfl
    rw [List.getElem?_eq_getElem g1] at this
    injection this
  have m2 : (T.confL b s t)[i] = x.2 := by
    have : (T.confL b s t)[i]? = some x.2 := by rw [← hC, List.getElem?_map, hx]; rfl
    rw [List.getElem?_eq_getElem g2] at this
    injection this
  rw [m1, m2]
  exact ((hP x (List.mem_filter.1 (List.mem_of_getElem? hx)).1).but h.but).pt
set_option maxRecDepth 100000 in
set_option maxHeartbeats 8000000 in
theorem of_good (A B C : Option Addr) (c d f n m k : Nat) (b s t u : List T.Ln) (l : List T.Pth) (er : Int) (w : World) (hA : TArg w A c n b) (hB : TArg w B d m s) (hC : TArg w C f k t) (h1 : T.RightT b) (h2 : T.RightT s) (h3 : T.RightT t)
    (h : (T.confL b s t ≠ [] ∧ u = [] ∧ l = T.confL b s t ∧ er = 8) ∨ (T.confL b s t = [] ∧ 200 < (T.decE b s t).length ∧ u = [] ∧ l = [] ∧ er = 5) ∨ (T.confL b s t = [] ∧ (T.decE b s t).length ≤ 200 ∧ u = T.ofP (T.decE b s t) ∧ l = [] ∧ er = 0)) :
    Calls Try.prog 11 #[.slice A n c, .slice B m d, .slice C k f] w (MergeS w u l er) := by
  have HA := Lib.hid hA
  have HB := Lib.hid hB
  have HC := Lib.hid hC
  have H1 := Lib.hid h1
  have H2 := Lib.hid h2
  have H3 := Lib.hid h3
  have HH := Lib.hid h
  have hb : Below w.heap.size w w := Below.refl _ _
  clear hA hB hC h1 h2 h3 h
  go_enter Try.func11, Try.ntmps11
  go_wp2_with fail
  refine (rightCQ A c n b true _ HA.out (yes_iff H1.out)).mono ?_
  rintro e w1 ⟨rfl, hx⟩
  replace hb := bthen hb hx
  clear hx
  go_wp2_with fail
  refine (rightCQ B d m s true _ (HB.out.below hb) (yes_iff H2.out)).mono ?_
  rintro e w2 ⟨rfl, hx⟩
  replace hb := bthen hb hx
  clear hx
  go_wp2_with fail
  refine (rightCQ C f k t true _ (HC.out.below hb) (yes_iff H3.out)).mono ?_
  rintro e w3 ⟨rfl, hx⟩
  replace hb := bthen hb hx
  clear hx
  have hV := args_three (w := w) (A := A) (B := B) (C := C) (c := c) (d := d) (f := f) (n := n) (m := m) (k := k) (b := b) (s := s) (t := t) (w3 := w3) (.cells zeros16 49) 22 (HA.out.below hb) (HB.out.below hb) (HC.out.below hb) H1.out H2.out H3.out
  have hpaths := paths_any (w3.heap.size + 1) _ _ (T.allP b s t) hV rfl (fun l h1 h2 => T.sq_all h1 (by simpa [flatP] using h2))
  have HB0 := Lib.hid (show Below w.heap.size w ((w3.alloc (.cells zeros16 49)).alloc (.cells #[.slice A n c, .slice B m d, .slice C k f] 22)) from (hb.alloc hb.size _).alloc (by simp; have := hb.size; omega) _)
  have hg0 := hb.size
  obtain ⟨gN, hgN⟩ : ∃ gN, w3.heap.size = gN := ⟨_, rfl⟩
  rw [hgN] at hpaths hg0
  have HN0 := Lib.hid (show ((w3.alloc (.cells zeros16 49)).alloc (.cells #[.slice A n c, .slice B m d, .slice C k f] 22)).heap[gN]? = some (.cells zeros16 49) by rw [← hgN]; exact (Below.heap_alloc _ _ _ (by simp)).trans (heap_laid _ _))
  have HSZ := Lib.hid (show ((w3.alloc (.cells zeros16 49)).alloc (.cells #[.slice A n c, .slice B m d, .slice C k f] 22)).heap.size = gN + 2 by rw [← hgN]; simp)
  clear hV
  go_wp2_with fail
  refine hpaths.mono ?_
  rintro e w2 ⟨X, AP, cp, rfl, hX, hRN, hB2⟩
  clear hgN
  have HX := Lib.hid hX
  have HRN := Lib.hid hRN
  have HBW := Lib.hid (bthen HB0.out hB2)
  have HS2 := Lib.hid (show gN + 2 ≤ w2.heap.size by have h := hB2.size; rw [HSZ.out] at h; exact h)
  have HN2 := Lib.hid (show w2.heap[gN]? = some (.cells zeros16 49) from (hB2.block gN (by rw [HSZ.out]; omega)).trans HN0.out)
  have HPO := Lib.hid (show ∀ x ∈ X, PtO w2 gN x from fun x hx => ⟨hRN.pts x hx, fun _ a ha e => by have h := hRN.young x hx a ha; rw [HSZ.out] at h; omega⟩)
  have hww : w.heap.size ≤ w2.heap.size := HBW.out.size
  have HWW := Lib.hid hww
  obtain ⟨n0, hn0⟩ : ∃ n0, X.length = n0 := ⟨_, rfl⟩
  have HX0 := Lib.hid hn0
  have hn600 : n0 ≤ 600 := by
    have h := T.all_len b s t
    rw [← hX, List.length_map, hn0] at h
    have := H1.out.len; have := H2.out.len; have := H3.out.len; omega
  rw [hn0]
  clear hX hRN hn0 hB2 HB0 HN0 hpaths hww
  go_wp2
  go_loopg [9, 10, 35] n0 (fun gk v9 v10 vi wr => ∃ (i : Nat) (f : Nat → Int) (Ao Ac : Option Addr) (co cc no nc : Nat), Hid (i + gk = n0) ∧ i ≤ n0 ∧ vi = .int .i64 (i : Int) ∧ v9 = .slice Ao no co ∧ v10 = .slice Ac nc cc ∧ Hid (LoopM w w2 wr gN (.slice Ao no co) (.slice Ac nc cc) (T.outTo b s t ((X.map Prod.snd).take i)) (conM b s t (X.take i)) f) ∧ Hid (T.NewestIs b s t (X.map Prod.snd) i f))
  case atStart => exact ⟨0, fun _ => 0, none, none, 0, 0, 0, 0, Nat.zero_add _, Nat.zero_le _, rfl, rfl, rfl, LoopM.first HBW.out HN2.out, T.newest_none _ _ _ _ _⟩
  case round =>
    obtain ⟨i, f0, Ao, Ac, co, cc, no, nc, HG, hi, rfl, rfl, rfl, HL, HNW⟩ := hrel
    by_cases hlt : i < n0
    · have blt : decide ((i : Int) < (n0 : Int)) = true := decide_eq_true (by omega)
      have blt2 : decide (i < n0) = true := decide_eq_true hlt
      have hii : (i : Int) < (n0 : Int) := by omega
      have hgk := HG.out
      have hiX : i < X.length := by have := HX0.out; omega
      obtain ⟨⟨⟨A1, n1, c1⟩, P⟩, hXi⟩ : ∃ x, X[i]? = some x := ⟨_, List.getElem?_eq_getElem hiX⟩
      have hpo := HPO.out _ (List.mem_of_getElem? hXi)
      have hPi : (X.map Prod.snd)[i]? = some P := by rw [List.getElem?_map, hXi]; rfl
      obtain ⟨hP0, hP16, hPl⟩ := T.all_good H1.out H2.out H3.out (show P ∈ T.allP b s t by rw [← HX.out]; exact List.mem_of_getElem? hPi)
      obtain ⟨q, hq⟩ : ∃ q, P.length = q + 1 := ⟨P.length - 1, by have := List.length_pos_iff.2 hP0; omega⟩
      have hq16 : q < 16 := by omega
      have hqi : (q : Int) < 16 := by omega
      obtain ⟨gA, rfl, hgA, hRow⟩ := HRN.out.row (by omega)
      rw [HSZ.out] at hgA
      have hRow2 : RowAt wr gA (X.map Prod.fst) := hRow.keep (HL.out.but.block gA hRow.lt (by omega))
      have hc0 : wr.cell? ⟨gA, i, none⟩ = some (.slice A1 n1 c1) := hRow2.cell? (by rw [List.getElem?_map, hXi]; rfl)
      have hpw := hpo.but HL.out.but
      have hPn : P.length = n1 := hpw.pt.len
      have hPc : n1 ≤ c1 := hpw.pt.cap
      have hn1 : n1 = q + 1 := by omega
      have hn1b : n1 ≤ 16 := by omega
      have hw1 : IntKind.i64.wrap ((n1 : Int) - 1) = (q : Int) := by rw [wrapB _ (by omega)]; omega
      have HPN := Lib.hid hPn
      have HQ := Lib.hid hq
      have HPS := Lib.hid hpw.pt.seen
      obtain ⟨x1, hx1⟩ : ∃ x, T.stO b P = x := ⟨_, rfl⟩
      obtain ⟨x2, hx2⟩ : ∃ x, T.stO s P = x := ⟨_, rfl⟩
      obtain ⟨x3, hx3⟩ : ∃ x, T.stO t P = x := ⟨_, rfl⟩
      obtain ⟨r, hr⟩ : ∃ r, T.dec3 x1 x2 x3 = r := ⟨_, rfl⟩
      have HD := Lib.hid (show T.decO b s t P = r by unfold T.decO; rw [hx1, hx2, hx3, hr])
      have HX1 := Lib.hid hx1
      have HX2 := Lib.hid hx2
      have HX3 := Lib.hid hx3
      have HR := Lib.hid hr
      obtain ⟨hiM, hPg⟩ := List.getElem?_eq_some_iff.1 hPi
      have HCN := Lib.hid (con_next b s t X hXi)
      have HON := Lib.hid (out_next b s t X hXi)
      have HNX := Lib.hid (T.newest_next (by rw [HX.out]; exact T.asc_all b s t) (fun p hp => (T.all_good H1.out H2.out H3.out (show p ∈ T.allP b s t by rw [← HX.out]; exact hp)).1) hiM hPg hq HD.out HNW.out (g := fun d => if d = q then r else f0 d) (fun d => rfl))
      have HNA := Lib.hid (fun (h0 : 0 < q) => T.newest_at HX.out H1.out H2.out H3.out hiM hPg hq h0 HNW.out)
      have HN1 := Lib.hid hn1
      have HOFF := Lib.hid hpw.off
      have HXL := Lib.hid (show (X.take i).length ≤ 600 by rw [List.length_take]; omega)
      clear hXi hpo hPi hP0 hP16 hPl hq hRow hRow2 hpw hPn hx1 hx2 hx3 hr hiX hPg hiM hn1
      go_wp2_with fail
      refine (state_any A A1 c c1 n n1 b P x1 _ (HA.out.below HL.out.ago) HPN.out (by omega) HPS.out H1.out HX1.out).mono ?_
      rintro e w4 ⟨rfl, hx⟩
      replace HL := Lib.hid (HL.out.more hx)
      replace HPS := Lib.hid (HPS.out.below hx)
      clear hx hc0
      go_wp2_with fail
      refine (state_any B A1 d c1 m n1 s P x2 _ (HB.out.below HL.out.ago) HPN.out (by omega) HPS.out H2.out HX2.out).mono ?_
      rintro e w5 ⟨rfl, hx⟩
      replace HL := Lib.hid (HL.out.more hx)
      replace HPS := Lib.hid (HPS.out.below hx)
      clear hx
      go_wp2_with fail
      refine (state_any C A1 f c1 k n1 t P x3 _ (HC.out.below HL.out.ago) HPN.out (by omega) HPS.out H3.out HX3.out).mono ?_
      rintro e w6 ⟨rfl, hx⟩
      replace HL := Lib.hid (HL.out.more hx)
      replace HPS := Lib.hid (HPS.out.below hx)
      clear hx
      go_wp2_with fail
      refine (decided_any x1 x2 x3 r w6 HR.out).mono ?_
      rintro e w7 ⟨rfl, hw7⟩
      replace HL := Lib.hid (show LoopM w w2 w7 gN _ _ _ _ _ by rw [hw7]; exact HL.out)
      replace HPS := Lib.hid (show Seen eS w7 A1 P by rw [hw7]; exact HPS.out)
      clear hw7
      have hcN := HL.out.cellN hq16
      have hfN := HL.out.openN q
      have hgN2 : gN < w2.heap.size := by have := HS2.out; omega
      have hb7 : w2.heap.size ≤ w7.heap.size := HL.out.but.size
      have HL7 := Lib.hid (HL.out.putN hg0 hgN2 hq16 r (f' := fun d => if d = q then r else f0 d) (fun d => rfl))
      have hzc : (conM b s t (X.take i)).length + 1 ≤ 1099511627776 := by have := con_le b s t (X.take i); have := HXL.out; omega
      have hzo : (T.outTo b s t ((X.map Prod.snd).take i)).length + 1 ≤ 1099511627776 := by have h := T.outTo_le b s t ((X.map Prod.snd).take i); rw [← List.map_take, List.length_map] at h; have := HXL.out; rw [← List.map_take]; omega
      have HZC := Lib.hid hzc
      have HZO := Lib.hid hzo
      have hpW : PtO (w7.setCell ⟨gN, q, none⟩ (.int .i64 r)) gN ((⟨A1, n1, c1⟩, P) : PtM × T.Pth) := PtO.but ⟨⟨HPN.out, hPc, HPS.out⟩, HOFF.out⟩ (But.store _ _ _)
      obtain ⟨wd, hwd⟩ : ∃ wd, P[q]? = some wd := ⟨_, List.getElem?_eq_getElem (by have := HQ.out; omega)⟩
      have HWD := Lib.hid (last_word HQ.out hwd r)
      obtain ⟨pb, po, hA1, hbp, hH⟩ := hpW.pt.seen (by have := HQ.out; show 0 < P.length; omega)
      have hA1 : A1 = some ⟨pb, po, none⟩ := hA1
      subst hA1
      have hcw : (w7.setCell ⟨gN, q, none⟩ (.int .i64 r)).cell? ⟨pb, po + q, none⟩ = some (.string (sB wd)) := by
        obtain ⟨h1, rfl⟩ := List.getElem?_eq_some_iff.1 hwd
        exact hH.str h1
      have hqn : q < n1 := by have := HN1.out; omega
      have hqni : (q : Int) < (n1 : Int) := by omega
      clear hH hpW hwd hzc hzo
      by_cases hr1 : r = -1
      · have b1 : (r == -1) = true := beq_iff_eq.2 hr1
        have HLf := Lib.hid (show LoopM w w2 (w7.setCell ⟨gN, q, none⟩ (.int .i64 r)) gN (.slice Ao no co) (.slice Ac nc cc) (T.outTo b s t ((X.map Prod.snd).take (i + 1))) (conM b s t (X.take (i + 1))) (fun d => if d = q then r else f0 d) by
          rw [HON.out, HCN.out, T.there_no HD.out (by omega), T.bad_absent (HD.out.trans hr1)]; simpa using HL7.out)
        clear hr1
        go_wp2
        go_roundg (n0 - (i + 1))
        case rel => exact ⟨i + 1, _, Ao, Ac, co, cc, no, nc, (by show _ = _; omega), by omega, by go_num, rfl, rfl, HLf.out, HNX.out⟩
        case measure => omega
      have b1 : (r == -1) = false := beq_eq_false_iff_ne.2 hr1
      by_cases hr2 : r = -2
      · have b2 : (r == -2) = true := beq_iff_eq.2 hr2
        have HO2 := Lib.hid (show T.outTo b s t ((X.map Prod.snd).take (i + 1)) = T.outTo b s t ((X.map Prod.snd).take i) by rw [HON.out, T.there_no HD.out (by omega)]; simp)
        have HC2 := Lib.hid (show conM b s t (X.take (i + 1)) = conM b s t (X.take i) ++ [⟨some ⟨pb, po, none⟩, n1, c1⟩] by rw [HCN.out, T.bad_torn (HD.out.trans hr2)]; rfl)
        clear hr1 hr2
        go_wp2_with (at_builtin; refine wpList_app3 eQ _ rfl (.tmp 80) (.tmp 82) rfl w2.heap.size (.slice Ac nc cc) (conM b s t (X.take i)) rfl HL7.out.con ⟨some ⟨pb, po, none⟩, n1, c1⟩ 1 _ rfl w7.heap.size (by simp) rfl HZC.out (by simpa using hb7) ?_; intro v1 x1 hG)
        have HLf := Lib.hid (HL7.out.cons hG HWW.out hgN2)
        obtain ⟨A4, c4, hv4, _⟩ := hG.own.seen
        subst hv4
        clear hG
        go_wp2
        go_roundg (n0 - (i + 1))
        case rel => exact ⟨i + 1, _, Ao, A4, co, c4, no, _, (by show _ = _; omega), by omega, by go_num, rfl, rfl, (by show LoopM _ _ _ _ _ _ _ _ _; rw [HO2.out, HC2.out]; exact HLf.out), HNX.out⟩
        case measure => omega
      have b2 : (r == -2) = false := beq_eq_false_iff_ne.2 hr2
      have hr0 : 0 ≤ r := by
        rcases T.dec_cases (b := b) H2.out H3.out P with h | h | h
        · exact absurd (HD.out.symm.trans h) hr2
        · exact absurd (HD.out.symm.trans h) hr1
        · rw [← HD.out]; exact h.1
      have HTH := Lib.hid (T.there_yes HD.out hr0)
      have HBT := Lib.hid (T.bad_there HD.out hr0)
      clear hr1 hr2
      by_cases hq0 : q = 0
      · have d1 : decide ((q : Int) > 0) = false := decide_eq_false (by omega)
        have d2 : decide ((0 : Int) < (q : Int)) = false := decide_eq_false (by omega)
        have d3 : decide (0 < q) = false := decide_eq_false (by omega)
        have HBF := Lib.hid (show T.badB b s t P = false by rw [HBT.out, HQ.out, hq0]; rfl)
        have HO2 := Lib.hid (show T.outTo b s t ((X.map Prod.snd).take (i + 1)) = T.outTo b s t ((X.map Prod.snd).take i) ++ [⟨(q : Int), wd, r⟩] by rw [HON.out, HTH.out, HBF.out, HD.out, HWD.out]; rfl)
        have HC2 := Lib.hid (show conM b s t (X.take (i + 1)) = conM b s t (X.take i) by rw [HCN.out, HBF.out]; simp)
        clear hq0
        go_wp2_with (at_builtin; refine wpList_app3 eL _ rfl (.tmp 55) (.tmp 63) rfl w2.heap.size (.slice Ao no co) (T.outTo b s t ((X.map Prod.snd).take i)) rfl HL7.out.out ⟨(q : Int), wd, r⟩ 1 _ rfl w7.heap.size (by simp) rfl HZO.out (by simpa using hb7) ?_; intro v1 x1 hG)
        have HLf := Lib.hid (HL7.out.outs hG HWW.out hgN2)
        obtain ⟨A4, c4, hv4, _⟩ := hG.own.seen
        subst hv4
        clear hG
        go_wp2
        go_roundg (n0 - (i + 1))
        case rel => exact ⟨i + 1, _, A4, Ac, c4, cc, _, nc, (by show _ = _; omega), by omega, by go_num, rfl, rfl, (by show LoopM _ _ _ _ _ _ _ _ _; rw [HO2.out, HC2.out]; exact HLf.out), HNX.out⟩
        case measure => omega
      obtain ⟨q1, hq1⟩ : ∃ q1, q = q1 + 1 := ⟨q - 1, by omega⟩
      have d1 : decide ((q : Int) > 0) = true := decide_eq_true (by omega)
      have d2 : decide ((0 : Int) < (q : Int)) = true := decide_eq_true (by omega)
      have d3 : decide (0 < q) = true := decide_eq_true (by omega)
      have hw2 : IntKind.i64.wrap ((q : Int) - 1) = (q1 : Int) := by rw [wrapB _ (by omega)]; omega
      have hq1i : (q1 : Int) < 16 := by omega
      have hcq := HL7.out.cellN (d := q1) (by omega)
      obtain ⟨y, hy⟩ : ∃ y, (if q1 = q then r else f0 q1) = y := ⟨_, rfl⟩
      replace hcq := hcq.trans (show some (Value.int .i64 (if q1 = q then r else f0 q1)) = some (.int .i64 y) by rw [hy])
      have HY := Lib.hid (show T.decO b s t P.dropLast = y by rw [← HNA.out (by omega), ← hy, if_neg (by omega)]; congr 1; omega)
      clear hy hq0
      by_cases hy1 : y = -1
      · have b3 : (y == -1) = true := beq_iff_eq.2 hy1
        have HBF := Lib.hid (show T.badB b s t P = true by rw [HBT.out, HY.out, hy1, HQ.out, decide_eq_true (show 1 < q + 1 by omega)]; rfl)
        have HO2 := Lib.hid (show T.outTo b s t ((X.map Prod.snd).take (i + 1)) = T.outTo b s t ((X.map Prod.snd).take i) by rw [HON.out, HBF.out]; simp)
        have HC2 := Lib.hid (show conM b s t (X.take (i + 1)) = conM b s t (X.take i) ++ [⟨some ⟨pb, po, none⟩, n1, c1⟩] by rw [HCN.out, HBF.out]; rfl)
        clear hy1 hq1
        go_wp2_with (at_builtin; refine wpList_app3 eQ _ rfl (.tmp 80) (.tmp 82) rfl w2.heap.size (.slice Ac nc cc) (conM b s t (X.take i)) rfl HL7.out.con ⟨some ⟨pb, po, none⟩, n1, c1⟩ 1 _ rfl w7.heap.size (by simp) rfl HZC.out (by simpa using hb7) ?_; intro v1 x1 hG)
        have HLf := Lib.hid (HL7.out.cons hG HWW.out hgN2)
        obtain ⟨A4, c4, hv4, _⟩ := hG.own.seen
        subst hv4
        clear hG
        go_wp2
        go_roundg (n0 - (i + 1))
        case rel => exact ⟨i + 1, _, Ao, A4, co, c4, no, _, (by show _ = _; omega), by omega, by go_num, rfl, rfl, (by show LoopM _ _ _ _ _ _ _ _ _; rw [HO2.out, HC2.out]; exact HLf.out), HNX.out⟩
        case measure => omega
      · have b3 : (y == -1) = false := beq_eq_false_iff_ne.2 hy1
        have HBF := Lib.hid (show T.badB b s t P = false by rw [HBT.out, HY.out, decide_eq_false hy1, Bool.and_false])
        have HO2 := Lib.hid (show T.outTo b s t ((X.map Prod.snd).take (i + 1)) = T.outTo b s t ((X.map Prod.snd).take i) ++ [⟨(q : Int), wd, r⟩] by rw [HON.out, HTH.out, HBF.out, HD.out, HWD.out]; rfl)
        have HC2 := Lib.hid (show conM b s t (X.take (i + 1)) = conM b s t (X.take i) by rw [HCN.out, HBF.out]; simp)
        clear hy1 hq1
        go_wp2_with (at_builtin; refine wpList_app3 eL _ rfl (.tmp 55) (.tmp 63) rfl w2.heap.size (.slice Ao no co) (T.outTo b s t ((X.map Prod.snd).take i)) rfl HL7.out.out ⟨(q : Int), wd, r⟩ 1 _ rfl w7.heap.size (by simp) rfl HZO.out (by simpa using hb7) ?_; intro v1 x1 hG)
        have HLf := Lib.hid (HL7.out.outs hG HWW.out hgN2)
        obtain ⟨A4, c4, hv4, _⟩ := hG.own.seen
        subst hv4
        clear hG
        go_wp2
        go_roundg (n0 - (i + 1))
        case rel => exact ⟨i + 1, _, A4, Ac, c4, cc, _, nc, (by show _ = _; omega), by omega, by go_num, rfl, rfl, (by show LoopM _ _ _ _ _ _ _ _ _; rw [HO2.out, HC2.out]; exact HLf.out), HNX.out⟩
        case measure => omega
    · have blt : decide ((i : Int) < (n0 : Int)) = false := decide_eq_false (by omega)
      have blt2 : decide (i < n0) = false := decide_eq_false hlt
      obtain rfl : i = n0 := by omega
      obtain ⟨⟨ho1, ho2, ho3, ho4⟩, hc1, hc2, hc3⟩ := HL.out.last HX0.out HX.out HPO.out
      have HAGO := Lib.hid HL.out.ago
      have HO1 := Lib.hid ho1
      have HC1 := Lib.hid hc1
      have HO3 := Lib.hid ho3
      have HC3 := Lib.hid hc3
      have HO4 := Lib.hid ho4
      have HO2 := Lib.hid ho2
      have HC2 := Lib.hid hc2
      clear ho1 ho2 ho3 ho4 hc1 hc2 hc3 HL HNW HRN
      rcases HH.out with ⟨g1, hu, hl, he⟩ | ⟨g1, g2, hu, hl, he⟩ | ⟨g1, g2, hu, hl, he⟩
      · have hnc : 0 < nc := by rw [← HC1.out]; exact List.length_pos_iff.2 g1
        have e1 : decide ((nc : Int) > 0) = true := decide_eq_true (by omega)
        have e2 : decide ((0 : Int) < (nc : Int)) = true := decide_eq_true (by omega)
        have e3 : decide (0 < nc) = true := decide_eq_true hnc
        subst hu hl he
        clear g1 HH
        go_wp2
        go_ret3
        exact ⟨none, 0, Ac, cc, by rw [HC1.out]; rfl, Seen.nil, Nat.le_refl _, fun _ => rfl, HC3.out, by rw [HC1.out]; exact HC2.out, HAGO.out⟩
      · have hnc : nc = 0 := by rw [← HC1.out, g1]; rfl
        have e1 : decide ((nc : Int) > 0) = false := decide_eq_false (by omega)
        have e2 : decide ((0 : Int) < (nc : Int)) = false := decide_eq_false (by omega)
        have e3 : decide (0 < nc) = false := decide_eq_false (by omega)
        have hno : 200 < no := by rw [← HO1.out, T.outTo_all g1]; unfold T.ofP; rw [List.length_map]; exact g2
        have e4 : decide ((no : Int) > 200) = true := decide_eq_true (by omega)
        have e5 : decide ((200 : Int) < (no : Int)) = true := decide_eq_true (by omega)
        have e6 : decide (200 < no) = true := decide_eq_true hno
        subst hu hl he
        clear g1 g2 HH hnc hno
        go_wp2
        go_ret3
        exact ⟨none, 0, none, 0, rfl, Seen.nil, Nat.le_refl _, fun _ => rfl, fun hl => absurd hl (Nat.lt_irrefl 0), Nat.le_refl _, HAGO.out⟩
      · have hnc : nc = 0 := by rw [← HC1.out, g1]; rfl
        have e1 : decide ((nc : Int) > 0) = false := decide_eq_false (by omega)
        have e2 : decide ((0 : Int) < (nc : Int)) = false := decide_eq_false (by omega)
        have e3 : decide (0 < nc) = false := decide_eq_false (by omega)
        have hno : no ≤ 200 := by rw [← HO1.out, T.outTo_all g1]; unfold T.ofP; rw [List.length_map]; exact g2
        have e4 : decide ((no : Int) > 200) = false := decide_eq_false (by omega)
        have e5 : decide ((200 : Int) < (no : Int)) = false := decide_eq_false (by omega)
        have e6 : decide (200 < no) = false := decide_eq_false (by omega)
        have HU := Lib.hid (show T.outTo b s t (T.allP b s t) = u by rw [T.outTo_all g1]; exact hu.symm)
        subst hl he
        clear g1 g2 HH hnc hno hu
        go_wp2
        go_ret3
        exact ⟨Ao, co, none, 0, by rw [← HU.out, HO1.out]; rfl, by rw [← HU.out]; exact HO3.out, by rw [← HU.out, HO1.out]; exact HO2.out, HO4.out, fun hl => absurd hl (Nat.lt_irrefl 0), Nat.le_refl _, HAGO.out⟩

/-- What merge.Of does is what the document says. -/
theorem merge_ok : MergeOk := by
  intro A B C c d f n m k b s t u l er w hA hB hC hn hm hk h
  rcases h with ⟨h1, rfl, rfl, rfl⟩ | ⟨⟨h1, h2, h3⟩, h4⟩
  · exact of_bad A B C c d f n m k b s t w hA hB hC h1
  · exact of_good A B C c d f n m k b s t u l er w hA hB hC h1 h2 h3 h4
end Go.Proofs.Ytfajfjocpgbmeaa
