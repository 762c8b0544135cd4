/-
  slices.CompactFunc at a [][]string of the call's own: what stands twice in a row goes. Condition: at most 2^30 paths, each of at most 2^30 words.
-/
import Derived.Test.YtfajfjocpgbmeaaMergeR
import Derived.Test.YtfajfjocpgbmeaaPureV
import Derived.Test.YtfajfjocpgbmeaaParseC
import Derived.Test.YtfajfjocpgbmeaaSlices
namespace Go.Proofs.Ytfajfjocpgbmeaa
open Go.RowKit
set_option linter.unusedVariables false

theorem wrapB (x : Int) (h : -9223372036854775808 ≤ x ∧ x ≤ 9223372036854775807) : IntKind.i64.wrap x = x := by rw [IntKind.wrap_i64]; omega
/-- All but the block g as it was. -/
structure But (g : Nat) (w w' : World) : Prop where
  os : w'.os = w.os
  tape : w'.tape = w.tape
  output : w'.output = w.output
  size : w.heap.size ≤ w'.heap.size
  block : ∀ k, k < w.heap.size → k ≠ g → w'.heap[k]? = w.heap[k]?
theorem But.same (g : Nat) (w : World) : But g w w := ⟨rfl, rfl, rfl, Nat.le_refl _, fun _ _ _ => rfl⟩
theorem But.fore {g base : Nat} {w w1 : World} (h : But g w w1) (hg : base ≤ g) (hb : base ≤ w.heap.size) : Below base w w1 := ⟨h.os, h.tape, h.output, h.size, fun k hk => h.block k (by omega) (by omega)⟩
theorem But.and {g : Nat} {w w1 w2 : World} (h : But g w w1) (k : But g w1 w2) : But g w w2 :=
  ⟨k.os.trans h.os, k.tape.trans h.tape, k.output.trans h.output, Nat.le_trans h.size k.size, fun i hi hne => (k.block i (Nat.lt_of_lt_of_le hi h.size) hne).trans (h.block i hi hne)⟩
theorem But.made {g : Nat} {w w1 : World} (h : Below w.heap.size w w1) : But g w w1 := ⟨h.os, h.tape, h.output, h.size, fun k hk _ => h.block k hk⟩
theorem But.more {g : Nat} {w w1 w2 : World} (h : But g w w1) (k : Below w1.heap.size w1 w2) : But g w w2 := h.and (But.made k)
theorem But.store {g : Nat} (w : World) (o : Nat) (v : Value) : But g w (w.setCell ⟨g, o, none⟩ v) :=
  ⟨rfl, rfl, rfl, by simp [World.setCell], fun k _ hne => Below.heap_setCell _ _ _ _ hne⟩
theorem But.stores {g : Nat} : ∀ (vs : List Value) (o : Nat) (w : World), But g w (w.setCells g o vs)
  | [], _, w => But.same g w
  | v :: r, o, w => (But.store w o v).and (But.stores r (o + 1) _)

/-- The first cells of the block g are these paths' slices. -/
def RowAt (w : World) (g : Nat) (M : List PtM) : Prop := ∃ (cur : Array Value) (ty : TypeId), w.heap[g]? = some (.cells cur ty) ∧ M.length ≤ cur.size ∧ ∀ j (h : j < M.length), cur[j]? = some (.slice M[j].A M[j].n M[j].c)
theorem RowAt.lt {w : World} {g : Nat} {M : List PtM} (h : RowAt w g M) : g < w.heap.size := by
  obtain ⟨cur, ty, h1, _⟩ := h
  exact (Array.getElem?_eq_some_iff.1 h1).1
theorem RowAt.cell {w : World} {g : Nat} {M : List PtM} (h : RowAt w g M) {j : Nat} {m : PtM} (hj : j < M.length) (hm : M[j] = m) : w.cell? ⟨g, j, none⟩ = some (.slice m.A m.n m.c) := by
  obtain ⟨cur, ty, h1, h2, h3⟩ := h
  subst hm
  simp [World.cell?, h1, h3 j hj]
theorem RowAt.cell? {w : World} {g : Nat} {M : List PtM} (h : RowAt w g M) {j : Nat} {m : PtM} (hm : M[j]? = some m) : w.cell? ⟨g, j, none⟩ = some (.slice m.A m.n m.c) := by
  obtain ⟨h1, h2⟩ := List.getElem?_eq_some_iff.1 hm
  exact h.cell h1 h2
theorem RowAt.open {w : World} {g : Nat} {M : List PtM} (h : RowAt w g M) (j : Nat) : w.frozen? ⟨g, j, none⟩ = false := by
  obtain ⟨cur, ty, h1, h2, h3⟩ := h
  exact Lib.frozen_of_heap h1 j
theorem RowAt.keep {w w1 : World} {g : Nat} {M : List PtM} (h : RowAt w g M) (hb : w1.heap[g]? = w.heap[g]?) : RowAt w1 g M := by
  obtain ⟨cur, ty, h1, h2, h3⟩ := h
  exact ⟨cur, ty, hb.trans h1, h2, h3⟩
theorem RowAt.more {w w1 : World} {g : Nat} {M : List PtM} (h : RowAt w g M) (hb : Below w.heap.size w w1) : RowAt w1 g M := h.keep (hb.block g h.lt)
theorem RowAt.first {w : World} {g : Nat} {M M2 : List PtM} (h : RowAt w g (M ++ M2)) : RowAt w g M := by
  obtain ⟨cur, ty, h1, h2, h3⟩ := h
  rw [List.length_append] at h2
  refine ⟨cur, ty, h1, by omega, fun j hj => ?_⟩
  have := h3 j (by rw [List.length_append]; omega)
  rw [List.getElem_append_left hj] at this
  exact this
theorem RowAt.store {w : World} {g k : Nat} {M : List PtM} (h : RowAt w g M) (hk : k < M.length) (m : PtM) : RowAt (w.setCell ⟨g, k, none⟩ (.slice m.A m.n m.c)) g (M.set k m) := by
  obtain ⟨cur, ty, h1, h2, h3⟩ := h
  refine ⟨cur.setIfInBounds k (.slice m.A m.n m.c), ty, by simp [World.setCell, Array.getElem?_modify, h1], by rw [List.length_set, Array.size_setIfInBounds]; exact h2, fun j hj => ?_⟩
  rw [List.length_set] at hj
  rw [Array.getElem?_setIfInBounds, List.getElem_set]
  by_cases e : k = j
  · rw [if_pos e, if_pos e, if_pos (by omega)]
  · rw [if_neg e, if_neg e]; exact h3 j hj
theorem RowAt.behind {w : World} {g : Nat} {M : List PtM} (h : RowAt w g M) (o : Nat) (vs : List Value) (ho : M.length ≤ o) : RowAt (w.setCells g o vs) g M := by
  induction vs generalizing o w with
  | nil => exact h
  | cons v r ih =>
    refine ih (w := w.setCell ⟨g, o, none⟩ v) ?_ (o + 1) (by omega)
    obtain ⟨cur, ty, h1, h2, h3⟩ := h
    refine ⟨cur.setIfInBounds o v, ty, by simp [World.setCell, Array.getElem?_modify, h1], by rw [Array.size_setIfInBounds]; exact h2, fun j hj => ?_⟩
    rw [Array.getElem?_setIfInBounds, if_neg (by omega)]
    exact h3 j hj
theorem RowAt.sees {w : World} {g : Nat} {M : List PtM} (h : RowAt w g M) : Seen eQ w (some ⟨g, 0, none⟩) M := fun _ => by
  refine ⟨g, 0, rfl, h.lt, fun i hi j u hu => ?_⟩
  have hj : j = 0 := by
    have := (List.getElem?_eq_some_iff.1 hu).1
    rw [eQ.len] at this
    have e : (eQ.sz : Nat) = 1 := rfl
    omega
  subst hj
  have e2 : u = .slice M[i].A M[i].n M[i].c := by
    have h3 : (ptC M[i])[0]? = some u := hu
    simp [ptC] at h3; exact h3.symm
  have := h.cell hi rfl
  rw [e2, show 0 + i * eQ.sz + 0 = i by show 0 + i * 1 + 0 = i; omega]
  exact this

/-- A path's slice says it, in memory outside the block g. -/
structure PtO (w : World) (g : Nat) (x : PtM × T.Pth) : Prop where
  pt : PtS w x.1 x.2
  off : 0 < x.2.length → ∀ a, x.1.A = some a → a.block ≠ g
theorem PtO.but {w w1 : World} {g : Nat} {x : PtM × T.Pth} (h : PtO w g x) (hb : But g w w1) : PtO w1 g x := by
  refine ⟨⟨h.pt.len, h.pt.cap, fun hp => ?_⟩, h.off⟩
  obtain ⟨b, o, e, hlt, hH⟩ := h.pt.seen hp
  exact ⟨b, o, e, Nat.lt_of_lt_of_le hlt hb.size, holds_of_block hH (hb.block b hlt (h.off hp _ e))⟩

theorem sEq_is (A B : Option Addr) (c d n m : Nat) (p q : T.Pth) (r : Bool) (w : World) (hn : p.length = n) (hm : q.length = m) (hl : n ≤ 1073741824) (hA : Seen eS w A p) (hB : Seen eS w B q) (hr : decide (p = q) = r) :
    Calls Try.prog 42 #[.slice A n c, .slice B m d] w (BoolS w r) := by
  subst hn; subst hm; subst hr
  exact sEqual_any A B c d p q w hl hA hB

/-- clear, of paths of the call's own. -/
theorem run_clear_paths (w : World) (g o n c : Nat) (hn : 0 < n) (hc : ∀ j, j < n → (w.cell? ⟨g, o + j, none⟩).isSome = true) (hf : ∀ j, j < n → w.frozen? ⟨g, o + j, none⟩ = false) :
    ∃ vs : List Value, vs.length = n ∧ ∀ ty : TypeId, (Builtin.clear_ #[25] ty #[.slice (some ⟨g, o, none⟩) n c]).run Try.prog w = .ok (.tuple #[]) (w.setCells g o vs) := by
  obtain ⟨i0, hi0, hz0, hz1, hz2⟩ := info_parts eQ.hin
  have hv : ∀ w, (zeroValue 36).run Try.prog w = .ok (.slice none 0 0) w := fun w => by
    have e : Try.prog.info? 36 = some i0 := hi0
    have e2 : i0.zero = some (.slice none 0 0) := hz0
    simp [zeroValue, typeInfo, e, e2]
  have hu : Try.prog.underlying 25 = some (.slice 36) := Try.underlying25
  obtain ⟨vs, hvs⟩ : ∃ vs, (Builtin.zeroCells (Value.slice none 0 0).cells n).toList = vs := ⟨_, rfl⟩
  have hl : vs.length = n := by
    rw [← hvs, Array.length_toList, size_zeroCells]
    show n * 1 = n
    omega
  have h1 : ∀ v ∈ vs, v.oneCell' = true := by
    rw [← hvs]
    refine zeroCells_one _ ?_ n
    decide +kernel
  have hst := run_storeCells_cells (P := Try.prog) g o vs 0 w (by rw [hl]; simpa using hc) (by rw [hl]; simpa using hf) h1
  simp only [Nat.add_zero] at hst
  obtain ⟨m, rfl⟩ : ∃ m, n = m + 1 := ⟨n - 1, by omega⟩
  refine ⟨vs, hl, fun ty => ?_⟩
  simp [Builtin.clear_, run_underlying hu, hv, hvs, hst]

/-- What slices.CompactFunc leaves of X in the block g. -/
def CompS (w : World) (g cap : Nat) (X : List (PtM × T.Pth)) (e : Ending) (w' : World) : Prop :=
  ∃ Y : List (PtM × T.Pth), e = .returned (.slice (some ⟨g, 0, none⟩) Y.length cap) ∧ Y.map Prod.snd = T.sqT (X.map Prod.snd) ∧ Y.length ≤ X.length ∧ (∀ y ∈ Y, y ∈ X) ∧ RowAt w' g (Y.map Prod.fst) ∧ But g w w'

theorem set_drop {α : Type} (Y X : List α) (k i : Nat) (hY : Y.length = k) (hk : k < X.length) (x : α) : (Y ++ X.drop k).set k x = (Y ++ [x]) ++ X.drop (k + 1) := by
  subst hY
  obtain ⟨r, hr⟩ : ∃ r, X.drop (Y.length + 1) = r := ⟨_, rfl⟩
  obtain ⟨y, hy⟩ : ∃ y, X[Y.length] = y := ⟨_, rfl⟩
  rw [show X.drop Y.length = y :: r by rw [← hr, ← hy]; exact (List.getElem_cons_drop hk).symm, hr]
  simp
theorem sq_step (l : List T.Pth) (k j : Nat) (p q : T.Pth) (hk : k = j + 1) (hp : l[k]? = some p) (hq : l[j]? = some q) :
    (decide (p = q) = false → T.sqT (l.take (k + 1)) = T.sqT (l.take k) ++ [p]) ∧ l.take k ++ [p] = l.take (k + 1) ∧ (decide (p = q) = true → T.sqT (l.take (k + 1)) = T.sqT (l.take k)) := by
  subst hk
  obtain ⟨h1, rfl⟩ := List.getElem?_eq_some_iff.1 hp
  obtain ⟨h2, rfl⟩ := List.getElem?_eq_some_iff.1 hq
  have h := T.sqT_next l h1 (Nat.succ_pos j)
  simp only [Nat.add_sub_cancel] at h
  refine ⟨fun e => ?_, (List.take_succ_eq_append_getElem h1).symm, fun e => ?_⟩
  · rw [h, if_neg (fun e2 => by rw [e2] at e; simp at e)]
  · rw [h, if_pos (of_decide_eq_true e).symm]
/-- How far slices.CompactFunc is: of the first q paths of X those of Y are left, in the first kk cells. -/
structure InC (w : World) (g : Nat) (X Y : List (PtM × T.Pth)) (wr : World) (q kk : Nat) : Prop where
  len : Y.length = kk
  sq : Y.map Prod.snd = T.sqT ((X.map Prod.snd).take q)
  sub : ∀ y ∈ Y, y ∈ X
  row : RowAt wr g ((Y ++ X.drop kk).map Prod.fst)
  but : But g w wr
theorem InC.at_ {w wr : World} {g q kk : Nat} {X Y : List (PtM × T.Pth)} (h : InC w g X Y wr q kk) {a : Nat} (ha : kk ≤ a) : (Y ++ X.drop kk)[a]? = X[a]? := by
  rw [List.getElem?_append_right (by rw [h.len]; exact ha), List.getElem?_drop, h.len, Nat.add_sub_cancel' ha]
theorem InC.two {w wr : World} {g q kk : Nat} {X Y : List (PtM × T.Pth)} (h : InC w g X Y wr q kk) (hO : ∀ x ∈ X, PtO w g x) (hs : ∀ x ∈ X, x.1.n ≤ 1073741824) {a b : Nat} (ha : a < X.length) (hb : b < X.length) (h1 : kk ≤ a) (h2 : kk ≤ b) :
    ∃ (A1 A2 : Option Addr) (n1 n2 c1 c2 : Nat) (p q : T.Pth), X[a]? = some (⟨A1, n1, c1⟩, p) ∧ X[b]? = some (⟨A2, n2, c2⟩, q) ∧ p.length = n1 ∧ q.length = n2 ∧ n1 ≤ 1073741824 ∧
      ∀ w', Below wr.heap.size wr w' → (w'.cell? ⟨g, a, none⟩ = some (.slice A1 n1 c1) ∧ w'.cell? ⟨g, b, none⟩ = some (.slice A2 n2 c2)) ∧ Seen eS w' A1 p ∧ Seen eS w' A2 q := by
  have k1 := hO X[a] (List.getElem_mem ha)
  have k2 := hO X[b] (List.getElem_mem hb)
  refine ⟨_, _, _, _, _, _, _, _, List.getElem?_eq_getElem ha, List.getElem?_eq_getElem hb, k1.pt.len, k2.pt.len, hs _ (List.getElem_mem ha), fun w' hw => ⟨⟨?_, ?_⟩, (k1.but (h.but.more hw)).pt.seen, (k2.but (h.but.more hw)).pt.seen⟩⟩
  · exact (h.row.more hw).cell? (by rw [List.getElem?_map, h.at_ h1, List.getElem?_eq_getElem ha]; rfl)
  · exact (h.row.more hw).cell? (by rw [List.getElem?_map, h.at_ h2, List.getElem?_eq_getElem hb]; rfl)
theorem InC.full {w wr : World} {g q kk : Nat} {X Y : List (PtM × T.Pth)} (h : InC w g X Y wr q kk) (hk : kk ≤ X.length) : ((Y ++ X.drop kk).map Prod.fst).length = X.length := by
  rw [List.length_map, List.length_append, h.len, List.length_drop]; omega
theorem InC.skip {w wr w' : World} {g q kk : Nat} {X Y : List (PtM × T.Pth)} (h : InC w g X Y wr q kk) (hb : Below wr.heap.size wr w') {q' : Nat} (hq : T.sqT ((X.map Prod.snd).take q') = T.sqT ((X.map Prod.snd).take q)) : InC w g X Y w' q' kk :=
  ⟨h.len, h.sq.trans hq.symm, h.sub, h.row.more hb, h.but.more hb⟩
theorem InC.put {w wr w' : World} {g q kk : Nat} {X Y : List (PtM × T.Pth)} (h : InC w g X Y wr q kk) (hb : Below wr.heap.size wr w') {q' a : Nat} {A : Option Addr} {n c : Nat} {p : T.Pth} (ha : X[a]? = some (⟨A, n, c⟩, p)) (hk : kk < X.length) (hq : T.sqT ((X.map Prod.snd).take q') = T.sqT ((X.map Prod.snd).take q) ++ [p]) :
    InC w g X (Y ++ [(⟨A, n, c⟩, p)]) (w'.setCell ⟨g, kk, none⟩ (.slice A n c)) q' (kk + 1) := by
  refine ⟨by rw [List.length_append, h.len]; rfl, by rw [List.map_append, hq, h.sq]; rfl, fun y hy => ?_, ?_, (h.but.more hb).and (But.store _ _ _)⟩
  · rcases List.mem_append.1 hy with hy | hy
    · exact h.sub y hy
    · rw [List.mem_singleton.1 hy]; exact List.mem_of_getElem? ha
  · have h2 := (h.row.more hb).store (k := kk) (by rw [h.full (Nat.le_of_lt hk)]; exact hk) ⟨A, n, c⟩
    rw [show (⟨A, n, c⟩ : PtM) = Prod.fst ((⟨A, n, c⟩, p) : PtM × T.Pth) from rfl, ← List.map_set, set_drop _ _ _ 0 h.len hk] at h2
    exact h2
set_option maxRecDepth 100000 in
set_option maxHeartbeats 4000000 in
theorem compact_any (g cap n : Nat) (X : List (PtM × T.Pth)) (w : World) (hn : X.length = n) (hc : n ≤ cap) (hl : n ≤ 1073741824) (hR : RowAt w g (X.map Prod.fst)) (hO : ∀ x ∈ X, PtO w g x) (hs : ∀ x ∈ X, x.1.n ≤ 1073741824) :
    Calls Try.prog 41 #[.slice (some ⟨g, 0, none⟩) n cap, .func (.func 42) #[] #[]] w (CompS w g cap X) := by
  have HN := Lib.hid hn
  have HR := Lib.hid hR
  have HO := Lib.hid hO
  have HS := Lib.hid hs
  by_cases h2 : n < 2
  · have b2 : decide ((n : Int) < 2) = true := decide_eq_true (by omega)
    have HY := Lib.hid (show X.map Prod.snd = T.sqT (X.map Prod.snd) from (T.sqT_short _ (by rw [List.length_map]; omega)).symm)
    clear hn hR hO hs
    go_enter Try.func41, Try.ntmps41
    go_wp2
    go_ret
    exact ⟨X, by rw [HN.out]; rfl, HY.out, Nat.le_refl _, fun _ h => h, HR.out, But.same _ _⟩
  have b2 : decide ((n : Int) < 2) = false := decide_eq_false (by omega)
  have H1 := Lib.hid (show T.sqT ((X.map Prod.snd).take 1) = (X.map Prod.snd).take 1 from T.sqT_one _ (by rw [List.length_map]; omega))
  -- the cells of two neighbours, and whether they say the same
  have two : ∀ (a b : Nat), a < n → b < n → ∃ (A1 A2 : Option Addr) (n1 n2 c1 c2 : Nat) (p q : T.Pth), X[a]? = some (⟨A1, n1, c1⟩, p) ∧ X[b]? = some (⟨A2, n2, c2⟩, q) ∧ p.length = n1 ∧ q.length = n2 ∧ n1 ≤ 1073741824 ∧ Seen eS w A1 p ∧ Seen eS w A2 q := by
    intro a b ha hb
    have h1 := hO (X[a]'(by omega)) (List.getElem_mem _)
    have h2 := hO (X[b]'(by omega)) (List.getElem_mem _)
    exact ⟨_, _, _, _, _, _, _, _, List.getElem?_eq_getElem (by omega), List.getElem?_eq_getElem (by omega), h1.pt.len, h2.pt.len, hs _ (List.getElem_mem (by omega)), h1.pt.seen, h2.pt.seen⟩
  have HTWO := Lib.hid two
  clear hR hO hs two hn
  go_enter Try.func41, Try.ntmps41
  go_wp2
  go_loopg [5] (n - 1) (fun gk vi wr => ∃ k : Nat, Hid (k + gk = n) ∧ 1 ≤ k ∧ k ≤ n ∧ vi = .int .i64 (k : Int) ∧ Hid (T.sqT ((X.map Prod.snd).take k) = (X.map Prod.snd).take k) ∧ Below w.heap.size w wr)
  case atStart => exact ⟨1, (by show _ = _; omega), Nat.le_refl _, by omega, by go_num, H1.out, Below.refl _ _⟩
  case round =>
    obtain ⟨k, HG, hk1, hkn, rfl, HQ, hb⟩ := hrel
    by_cases hlt : k < n
    · have blt : decide ((k : Int) < (n : Int)) = true := decide_eq_true (by omega)
      have blt2 : decide (k < n) = true := decide_eq_true hlt
      obtain ⟨j, hj⟩ : ∃ j, k = j + 1 := ⟨k - 1, by omega⟩
      obtain ⟨A1, A2, n1, n2, c1, c2, p, q, ea, eb, hp, hq, hp30, hS1, hS2⟩ := HTWO.out k j hlt (by omega)
      have hkX : k < X.length := by have := HN.out; omega
      have hjX : j < X.length := by omega
      have ea1 : (X.map Prod.fst)[k]? = some ⟨A1, n1, c1⟩ := by rw [List.getElem?_map, ea]; rfl
      have eb1 : (X.map Prod.fst)[j]? = some ⟨A2, n2, c2⟩ := by rw [List.getElem?_map, eb]; rfl
      have HNX := Lib.hid (sq_step (X.map Prod.snd) k j p q hj (by rw [List.getElem?_map, ea]; rfl) (by rw [List.getElem?_map, eb]; rfl))
      have HKP := Lib.hid (fun w' (h : Below w.heap.size w w') => show w'.cell? ⟨g, k, none⟩ = some (.slice A1 n1 c1) ∧ w'.cell? ⟨g, j, none⟩ = some (.slice A2 n2 c2) from
        ⟨(HR.out.more h).cell? ea1, (HR.out.more h).cell? eb1⟩)
      obtain ⟨r, hr⟩ : ∃ r, decide (p = q) = r := ⟨_, rfl⟩
      have HEQ := Lib.hid (fun w' (h : Below w.heap.size w w') => sEq_is A1 A2 c1 c2 n1 n2 p q r w' hp hq hp30 (hS1.below h) (hS2.below h) hr)
      have HRR := Lib.hid hr
      have hw : IntKind.i64.wrap ((k : Int) - 1) = (j : Int) := by rw [wrapB _ (by omega)]; omega
      have hki : (k : Int) < (n : Int) := by omega
      have hji : (j : Int) < (n : Int) := by omega
      have HJ := Lib.hid hj
      have hbd : Below w.heap.size w wr.drew := hb.drew
      have hgk := HG.out
      clear ea eb ea1 eb1 hp hq hS1 hS2 hj hr hkX hjX
      cases r with
      | false =>
        go_wp2
        go_region_held3 (fun w' => Below w.heap.size w w' ∧ w'.cell? ⟨g, k, none⟩ = some (.slice A1 n1 c1) ∧ w'.cell? ⟨g, j, none⟩ = some (.slice A2 n2 c2)) (first | ((refine ⟨?_, HKP.out _ ?_⟩) <;> (first | assumption | (refine Below.drew ?_; assumption))) | go_keep) (first | (go_at_call 42; refine (HEQ.out _ (by assumption)).mono ?_; rintro e w' ⟨rfl, hx⟩; have hbx := bthen (show Below w.heap.size w _ by assumption) hx))
        all_goals go_wp2
        all_goals
          go_roundg (n - (k + 1))
          case rel => exact ⟨k + 1, (by show _ = _; omega), by omega, by omega, by go_num, (HNX.out.1 HRR.out).trans (by rw [HQ.out]; exact HNX.out.2.1), hbx⟩
          case measure => omega
      | true =>
        obtain ⟨nn, hnn⟩ : ∃ nn, n - k = nn := ⟨_, rfl⟩
        obtain ⟨cc, hcc⟩ : ∃ cc, cap - k = cc := ⟨_, rfl⟩
        have hkc : k ≤ cap := by omega
        have hkne : ¬ cap = k := by omega
        have hkn' : k ≤ n := by omega
        have HNN := Lib.hid hnn
        go_wp2
        go_region_held3 (fun w' => Below w.heap.size w w' ∧ w'.cell? ⟨g, k, none⟩ = some (.slice A1 n1 c1) ∧ w'.cell? ⟨g, j, none⟩ = some (.slice A2 n2 c2)) (first | ((refine ⟨?_, HKP.out _ ?_⟩) <;> (first | assumption | (refine Below.drew ?_; assumption))) | go_keep) (first | (go_at_call 42; refine (HEQ.out _ (by assumption)).mono ?_; rintro e w' ⟨rfl, hx⟩; have hbx := bthen (show Below w.heap.size w _ by assumption) hx))
        all_goals go_wp2
        have HI0 := Lib.hid (show InC w g X (X.take k) _ (k + 1) k from ⟨by rw [List.length_take, HN.out]; omega, by rw [← List.map_take] at HQ; rw [HNX.out.2.2 HRR.out, List.map_take]; have h := HQ.out; rw [List.map_take] at h; exact h.symm, fun y hy => List.mem_of_mem_take hy, by rw [List.take_append_drop]; exact HR.out.more hbx, But.made hbx⟩)
        clear HKP HEQ HNX HRR hb hbd hbx hw hji hki hp30
        go_loopg [5, 7] (nn - 1) (fun gk v5 v7 wr => ∃ (k2 kk : Nat) (Y : List (PtM × T.Pth)), Hid (k2 + gk = nn) ∧ 1 ≤ k2 ∧ k2 ≤ nn ∧ v5 = .int .i64 (kk : Int) ∧ v7 = .int .i64 (k2 : Int) ∧ Hid (kk < k + k2) ∧ Hid (InC w g X Y wr (k + k2) kk))
        case atStart => exact ⟨1, k, X.take k, (by show _ = _; omega), Nat.le_refl _, by omega, rfl, by go_num, (by show _ < _; omega), HI0.out⟩
        case round =>
          obtain ⟨k2, kk, Y, HG2, hk21, hk2n, rfl, rfl, HKK, HI⟩ := hrel
          by_cases hlt2 : k2 < nn
          · have blt3 : decide ((k2 : Int) < (nn : Int)) = true := decide_eq_true (by omega)
            have blt4 : decide (k2 < nn) = true := decide_eq_true hlt2
            obtain ⟨j2, hj2⟩ : ∃ j2, k2 = j2 + 1 := ⟨k2 - 1, by omega⟩
            have hkk := HKK.out
            have hxl : X.length = n := HN.out
            have hnn2 : n - k = nn := HNN.out
            obtain ⟨A1, A2, n1, n2, c1, c2, p, q, ea, eb, hp, hq, hp30, hcs⟩ := HI.out.two (a := k + k2) (b := k + j2) HO.out HS.out (by omega) (by omega) (by omega) (by omega)
            have HNX := Lib.hid (sq_step (X.map Prod.snd) (k + k2) (k + j2) p q (by omega) (by rw [List.getElem?_map, ea]; rfl) (by rw [List.getElem?_map, eb]; rfl))
            have HKP := Lib.hid (fun w' (h : Below wr.heap.size wr w') => (hcs w' h).1)
            obtain ⟨r, hr⟩ : ∃ r, decide (p = q) = r := ⟨_, rfl⟩
            have HEQ := Lib.hid (fun w' (h : Below wr.heap.size wr w') => sEq_is A1 A2 c1 c2 n1 n2 p q r w' hp hq hp30 (hcs w' h).2.1 (hcs w' h).2.2 hr)
            have HRR := Lib.hid hr
            have HEA := Lib.hid ea
            have hw : IntKind.i64.wrap ((k2 : Int) - 1) = (j2 : Int) := by rw [wrapB _ (by omega)]; omega
            have hki : (k2 : Int) < (nn : Int) := by omega
            have hji : (j2 : Int) < (nn : Int) := by omega
            have hkkn : kk < n := by omega
            have hkki : (kk : Int) < (n : Int) := by omega
            have hb0 : Below wr.heap.size wr wr := Below.refl _ _
            have hbd : Below wr.heap.size wr wr.drew := hb0.drew
            have hgk2 := HG2.out
            clear ea eb hp hq hp30 hcs hr hj2 hxl hnn2 hkk
            cases r with
            | true =>
              go_wp2
              go_region_held3 (fun w' => Below wr.heap.size wr w' ∧ w'.cell? ⟨g, k + k2, none⟩ = some (.slice A1 n1 c1) ∧ w'.cell? ⟨g, k + j2, none⟩ = some (.slice A2 n2 c2)) (first | ((refine ⟨?_, HKP.out _ ?_⟩) <;> (first | assumption | (refine Below.drew ?_; assumption))) | go_keep) (first | (go_at_call 42; refine (HEQ.out _ (by assumption)).mono ?_; rintro e w' ⟨rfl, hx⟩; have hbx := bthen (show Below wr.heap.size wr _ by assumption) hx))
              all_goals go_wp2
              all_goals
                go_roundg (nn - (k2 + 1))
                case rel => exact ⟨k2 + 1, kk, Y, (by show _ = _; omega), by omega, by omega, rfl, by go_num, (by have := HKK.out; show _ < _; omega), HI.out.skip hbx (HNX.out.2.2 HRR.out)⟩
                case measure => omega
            | false =>
              go_wp2
              go_region_held3 (fun w' => Below wr.heap.size wr w' ∧ w'.cell? ⟨g, k + k2, none⟩ = some (.slice A1 n1 c1) ∧ w'.cell? ⟨g, k + j2, none⟩ = some (.slice A2 n2 c2)) (first | ((refine ⟨?_, HKP.out _ ?_⟩) <;> (first | assumption | (refine Below.drew ?_; assumption))) | go_keep) (first | (go_at_call 42; refine (HEQ.out _ (by assumption)).mono ?_; rintro e wq ⟨rfl, hx⟩; have hbx := bthen (show Below wr.heap.size wr _ by assumption) hx))
              all_goals
                have hc1 := (HKP.out _ hbx).1
                have hfr := (HI.out.row.more hbx).open kk
                obtain ⟨mk, hmk⟩ : ∃ mk, ((Y ++ X.drop kk).map Prod.fst)[kk]? = some mk := ⟨_, List.getElem?_eq_getElem (by rw [HI.out.full (by have := HN.out; omega)]; have := HN.out; omega)⟩
                have hck := (HI.out.row.more hbx).cell? hmk
                clear hmk
              all_goals go_wp2
              all_goals
                go_roundg (nn - (k2 + 1))
                case rel => exact ⟨k2 + 1, kk + 1, Y ++ [((⟨A1, n1, c1⟩ : PtM), p)], (by show _ = _; omega), by omega, by omega, by go_num, by go_num, (by have := HKK.out; show _ < _; omega), HI.out.put (q' := k + (k2 + 1)) hbx HEA.out (by have := HN.out; omega) (HNX.out.1 HRR.out)⟩
                case measure => omega
          · have blt3 : decide ((k2 : Int) < (nn : Int)) = false := decide_eq_false (by omega)
            have blt4 : decide (k2 < nn) = false := decide_eq_false hlt2
            have hkk := HKK.out
            have hxl : X.length = n := HN.out
            have hnn2 : n - k = nn := HNN.out
            have hkkn : kk ≤ n := by omega
            have hkkc : kk ≤ cap := by omega
            have hkkne : ¬ cap = kk := by omega
            obtain ⟨n3, hn3⟩ : ∃ n3, n - kk = n3 := ⟨_, rfl⟩
            obtain ⟨c3, hc3⟩ : ∃ c3, cap - kk = c3 := ⟨_, rfl⟩
            obtain ⟨vs, hvs, hcl⟩ := run_clear_paths wr g kk n3 c3 (by omega) (fun x hx => by
              have h := HI.out.row.cell? (j := kk + x) (List.getElem?_eq_getElem (by rw [HI.out.full (by omega)]; omega))
              rw [h]; rfl) (fun x hx => HI.out.row.open _)
            have HSQ := Lib.hid (show Y.map Prod.snd = T.sqT (X.map Prod.snd) by
              rw [HI.out.sq, List.take_of_length_le (by rw [List.length_map]; omega)])
            have HRW := Lib.hid (show RowAt (wr.setCells g kk vs) g (Y.map Prod.fst) by
              have h := HI.out.row
              rw [List.map_append] at h
              exact h.first.behind kk vs (by rw [List.length_map, HI.out.len]; exact Nat.le_refl _))
            have HBT := Lib.hid (HI.out.but.and (But.stores vs kk wr))
            clear hkk hvs
            go_wp2
            go_ret
            exact ⟨Y, by rw [HI.out.len]; rfl, HSQ.out, by rw [HI.out.len]; have := HN.out; omega, HI.out.sub, HRW.out, HBT.out⟩
    · have blt : decide ((k : Int) < (n : Int)) = false := decide_eq_false (by omega)
      have blt2 : decide (k < n) = false := decide_eq_false hlt
      have HY := Lib.hid (show X.map Prod.snd = T.sqT (X.map Prod.snd) by
        have h := HQ.out
        rw [List.take_of_length_le (by rw [List.length_map, HN.out]; omega)] at h
        exact h.symm)
      go_wp2
      go_ret
      exact ⟨X, by rw [HN.out]; rfl, HY.out, Nat.le_refl _, fun _ h => h, HR.out.more hb, But.made hb⟩
end Go.Proofs.Ytfajfjocpgbmeaa
