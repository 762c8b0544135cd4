/-
  The walk of layer 13's statement SchemaParts, from what schema does: it returns true whatever comes in. No conditions.
-/
import Derived.Test.YtikjdjfpoohieaaDoorBase11
namespace Go.Proofs.YtikjdjfpoohieaaDoor
open Go.RowKit
set_option linter.unusedVariables false

open C in
theorem C.filt_next {L : List Fl} {k : Nat} {y : Fl} (h : L[k]? = some y) : (L.take (k + 1)).filter formB = (L.take k).filter formB ++ if y.2 = 7 then [] else [y] := by
  obtain ⟨h5, h6⟩ := List.getElem?_eq_some_iff.1 h
  rw [List.take_succ_eq_append_getElem h5, h6, List.filter_append]
  congr 1
  by_cases e : y.2 = 7
  · rw [if_pos e]
    have : formB y = false := decide_eq_false (fun h => h e)
    simp [List.filter, this]
  · rw [if_neg e]
    have : formB y = true := decide_eq_true e
    simp [List.filter, this]
theorem C.filt_few (L : List Fl) (k : Nat) : ((L.take k).filter C.formB).length ≤ L.length :=
  Nat.le_trans (List.length_filter_le _ _) (by rw [List.length_take]; exact Nat.min_le_right _ _)
/-- What is wrong with the first paths, but for what a statement means. -/
def C.formTo (t : List T.Ln) (i : Nat) : List Fl := ((C.pths t).take i).flatMap fun p => (C.atP (C.pths t) p).filter C.formB
theorem C.flat_few {α β : Type} (f : α → List β) (hf : ∀ x, (f x).length ≤ 3) : ∀ l : List α, (l.flatMap f).length ≤ 3 * l.length
  | [] => by simp
  | x :: l => by
    rw [List.flatMap_cons, List.length_append, List.length_cons]
    have := hf x
    have := C.flat_few f hf l
    omega
theorem C.formTo_few (t : List T.Ln) (i : Nat) : (C.formTo t i).length ≤ 3 * t.length := by
  unfold C.formTo
  refine Nat.le_trans (C.flat_few _ (fun p => Nat.le_trans (List.length_filter_le _ _) ?_) _) ?_
  · unfold C.atP
    split
    · exact C.faults_few _ _
    · simp
  · rw [List.length_take, C.pths_len]
    have := Nat.min_le_right i t.length
    omega
theorem C.formTo_part {t : List T.Ln} (h : T.RightT t) {m : Nat} (hm : m < t.length) (hr : T.underL t m = -1) : C.formTo t (T.endL t m) = C.formTo t m ++ (C.checkP (C.pths (T.subL t m))).filter C.formB := C.part_form h hm hr
theorem C.formTo_all (t : List T.Ln) : C.formTo t t.length = (C.checkP (C.pths t)).filter C.formB := (C.whole_form t).symm
theorem parts_root {t : List T.Ln} {K : List Nat} {j m : Nat} (hp : T.Parts t K j m) (hm : m < t.length) : T.underL t m = -1 := by
  rcases hp.2.2 with h | h
  · omega
  · exact h.2
theorem findB13 (A B : Option Addr) (c d n m : Nat) (t : List T.Ln) (p : T.Pth) (w : World) (hn : t.length = n) (hm : p.length = m) (hA : Seen eL w A t) (hB : Seen eS w B p) (hl : n ≤ 1073741824) (hp : m ≤ 1073741824) (hR : T.RightT t) :
    Calls Tryd.prog 25 #[.slice A n c, .slice B m d] w (fun e w' => ∃ (z : Int) (b : Bool), e = .returned (.tuple #[.int .i64 z, .bool b]) ∧ (b = true ↔ T.isIn t p) ∧ Below w.heap.size w w') := by
  subst hn; subst hm
  refine (find_any A B c d t p w hA hB hl hp hR).mono ?_
  rintro e w' ⟨⟨i, h1, h2, rfl⟩ | ⟨h1, rfl⟩, hb⟩
  · exact ⟨_, true, rfl, ⟨fun _ => ⟨i, h1, h2⟩, fun _ => rfl⟩, hb⟩
  · exact ⟨_, false, rfl, ⟨(fun h => by cases h), (fun ⟨i, h2, h3⟩ => absurd h3 (h1 i h2))⟩, hb⟩
theorem kidsP13 (A : Option Addr) (c n m : Nat) (t : List T.Ln) (K : List Nat) (w : World) (hn : t.length = n) (hA : Seen eL w A t) (hl : n ≤ 1073741824) (hR : T.RightT t) (hK : T.kidsL t (-1) = K) (hm : K.length = m) :
    Calls Tryd.prog 26 #[.slice A n c, .int .i64 (-1)] w (fun e w' => ∃ B d, e = .returned (.slice B m d) ∧ m ≤ d ∧ Seen eI w' B K ∧ Below w.heap.size w w') := by
  subst hn; subst hm
  exact kids_is A c t (-1) K w hA hl (by omega) (by omega) hR hK
theorem subC13 (A : Option Addr) (c n m : Nat) (t X : List T.Ln) (i : Nat) (w : World) (hn : t.length = n) (hA : Seen eL w A t) (hl : n ≤ 200) (hc : n ≤ c) (hi : i < n) (hR : T.RightT t) (hX : T.subL t i = X) (hm : X.length = m) :
    Calls Tryd.prog 27 #[.slice A n c, .int .i64 (i : Int)] w (fun e w' => ∃ B d, e = .returned (.slice B m d) ∧ LArgS w' B d m X ∧ Below w.heap.size w w') := by
  subst hn; subst hm
  have hsp := T.end_spec t i hi
  have hl2 := T.sub_len t i hi
  rw [hX] at hl2
  refine (sub_is A c t i X w hA (by omega) hc hi hR hX).mono ?_
  rintro e w' ⟨B, d, rfl, hd, hs, hb⟩
  refine ⟨B, d, rfl, ⟨rfl, by omega, hd, fun hB => ?_, hs⟩, hb⟩
  obtain ⟨b, o, e, _⟩ := hs.lines (by omega)
  rw [hB] at e; cases e
/-- append of one fault: what it leaves. -/
theorem wpList_appF3 (E : Elem FlM) {ops : Array Oper} {rest : List Oper} {o : Oper} {a : Act} {Q : Exit → Act → World → Prop} (w : World) (hgd : o.guard = none) (s x : Operand)
    (ho : o.op = .call { callee := .builtin .append, args := #[s, x], argTypes := #[E.st, E.st] })
    (base k : Nat) (v : Value) (L : List Fl) (hs : a.eval s = v) (hown : OwnF E w base k v L) (y : Fl) (m : FlM) (hy : FlK w k m y) (hf : FreeQ v m.1 y.1) (cap : Nat) (cs : Array Value) (hcs : cs.toList = E.C m)
    (g : Nat) (hg : w.heap.size = g) (hx : a.eval x = .slice (some ⟨g, 0, none⟩) 1 cap) (hlen : L.length + 1 ≤ 1099511627776) (hb : base ≤ w.heap.size)
    (h : ∀ v' w', OwnF E w' base k v' (L ++ [y]) → Below base w w' → (w.heap.size ≤ w'.heap.size ∧ (∀ b, b < w.heap.size → v.ownBlock ≠ some b → w'.heap[b]? = w.heap[b]?) ∧ ∀ b, v'.ownBlock = some b → v.ownBlock = some b ∨ w.heap.size ≤ b) → wpList Tryd.prog ops Q rest (a.put o.dst v') w') : wpList Tryd.prog ops Q (o :: rest) a (w.alloc (.cells cs E.T)) := by
  obtain ⟨M, h1, h2, h3⟩ := hown
  refine wpList_app3 E w hgd s x ho base v M hs h2 m cap cs hcs g hg hx (by omega) hb fun v' w' hG => h v' w' (OwnF.snoc h1 h3 hy hf hG) (hG.below h2 hb) ⟨hG.grown.size, fun b hb hne => hG.grown.block b hb (fun e => hne e.symm), fun b e => ?_⟩
  rcases hG.at_ with h | ⟨g, h, h4⟩
  · left; rw [← h]; exact e
  · right; rw [h] at e; injection e with e; omega
/-- What a call has made stays, and lies outside the row. -/
structure Aside (k : Nat) (w w1 : World) (v : Value) : Prop where
  size : w.heap.size ≤ w1.heap.size
  block : ∀ b, k ≤ b → b < w.heap.size → w1.heap[b]? = w.heap[b]?
  out : ∀ b, v.ownBlock = some b → b < k ∨ w.heap.size ≤ b
theorem Aside.grow {k : Nat} {w w1 w2 : World} {v : Value} (h : Aside k w w1 v) (hb : Below w1.heap.size w1 w2) : Aside k w w2 v :=
  ⟨Nat.le_trans h.size hb.size, fun b h1 h2 => (hb.block b (Nat.lt_of_lt_of_le h2 h.size)).trans (h.block b h1 h2), h.out⟩
theorem Aside.app {k : Nat} {w w1 w2 : World} {v v2 : Value} (h : Aside k w w1 v) (hg : w1.heap.size ≤ w2.heap.size ∧ (∀ b, b < w1.heap.size → v.ownBlock ≠ some b → w2.heap[b]? = w1.heap[b]?) ∧ ∀ b, v2.ownBlock = some b → v.ownBlock = some b ∨ w1.heap.size ≤ b) : Aside k w w2 v2 := by
  obtain ⟨g1, g2, g3⟩ := hg
  refine ⟨Nat.le_trans h.size g1, fun b h1 h2 => (g2 b (Nat.lt_of_lt_of_le h2 h.size) (fun e => ?_)).trans (h.block b h1 h2), fun b e => ?_⟩
  · rcases h.out b e with h3 | h3 <;> omega
  · rcases g3 b e with h3 | h3
    · exact h.out b h3
    · have := h.size; right; omega
theorem Aside.allF {k m d : Nat} {w w1 : World} {v : Value} {B : Option Addr} {L : List Fl} (h : Aside k w w1 v) (hm : ManyF eFc w k (.slice B m d) L) (hB : ∀ a, B = some a → k ≤ a.block) : ManyF eFc w1 k (.slice B m d) L := by
  obtain ⟨M, h1, h2, h3⟩ := hm
  refine ⟨M, h1, ?_, fun i h4 h5 => ?_⟩
  · rcases h2 with h2 | ⟨b, o, c, e, hc, hb, hH⟩
    · exact .inl h2
    · injection e with e1 e2 e3
      refine .inr ⟨b, o, c, by rw [e1, e2, e3], hc, Nat.lt_of_lt_of_le hb h.size, holds_of_block hH (h.block b (hB _ e1) hb)⟩
  · obtain ⟨p1, p2⟩ := h3 i h4 h5
    refine ⟨⟨⟨p1.pt.len, p1.pt.cap, fun hp => ?_⟩, p1.from_⟩, p2⟩
    obtain ⟨b, o, e, hb, hH⟩ := p1.pt.seen hp
    exact ⟨b, o, e, Nat.lt_of_lt_of_le hb h.size, holds_of_block hH (h.block b (p1.from_ _ e) hb)⟩
theorem Aside.apartQ {k : Nat} {w w1 : World} {v : Value} {m : PtM} {x : T.Pth} (h : Aside k w w1 v) (hp : PtK w k m x) : FreeQ v m x := by
  intro h0 a ha e
  obtain ⟨b, o, e2, hb, _⟩ := hp.pt.seen h0
  have h1 := hp.from_ a ha
  have e3 : a.block = b := by rw [e2] at ha; injection ha with ha; rw [← ha]
  rcases h.out _ e with h2 | h2 <;> omega
/-- One fault of many. -/
theorem ManyF.atM {w : World} {k m d : Nat} {B : Option Addr} {L : List Fl} (h : ManyF eFc w k (.slice B m d) L) {i : Nat} {y : Fl} (hy : L[i]? = some y) : ∃ b o B3 n c, B = some ⟨b, o, none⟩ ∧ b < w.heap.size ∧ w.cell? ⟨b, o + i * 2, none⟩ = some (.slice B3 n c) ∧ w.cell? ⟨b, o + i * 2 + 1, none⟩ = some (.int .i64 y.2) ∧ PtK w k ⟨B3, n, c⟩ y.1 := by
  obtain ⟨M, h1, h2, h3⟩ := h
  obtain ⟨h5, h6⟩ := List.getElem?_eq_some_iff.1 hy
  have hM : i < M.length := by omega
  rcases h2 with ⟨_, h2⟩ | ⟨b, o, c, e, hc, hb, hH⟩
  · rw [h2] at hM; cases hM
  · injection e with e1 e2 e3
    obtain ⟨c1, c2⟩ := hH.flQ rfl rfl hM
    obtain ⟨p1, p2⟩ := h3 i hM h5
    rw [h6] at p1 p2
    exact ⟨b, o, M[i].1.A, M[i].1.n, M[i].1.c, e1, hb, c1, by rw [← p2]; exact c2, p1⟩
/-- A path without its last word. -/
theorem cut_seen13 {w : World} {b o nq : Nat} {P : T.Pth} (h : Seen eS w (some ⟨b, o, none⟩) P) : Seen eS w (some ⟨b, o, none⟩) (P.take nq) := by
  intro h0
  have hP : 0 < P.length := by rw [List.length_take] at h0; omega
  obtain ⟨b2, o2, e, hb, hH⟩ := h hP
  refine ⟨b2, o2, e, hb, fun d hd j u hu => ?_⟩
  rw [List.getElem_take] at hu
  exact hH d (by rw [List.length_take] at hd; omega) j u hu
set_option maxRecDepth 100000 in
set_option maxHeartbeats 8000000 in
theorem schemaParts_walk (E : SchemaOk) (AW : ∀ w, RowsOk w → Calls Tryd.prog 11 #[] w (TrueS w)) (w : World) (HTAB : RowsOk w) (A : Option Addr) (c : Nat) (t : List T.Ln) (hc : t.length ≤ c) (hA : Seen eL w A t) (hlA : t.length ≤ maxLen) (hNA : NilOk A c) :
    Calls Tryd.prog 7 #[.slice A t.length c] w (TrueS w) := by
  have TAB := Lib.hid HTAB
  clear HTAB
  unfold maxLen at hlA
  obtain ⟨n, hnA⟩ : ∃ n, t.length = n := ⟨_, rfl⟩
  rw [hnA] at hc hlA ⊢
  have HNA := Lib.hid hnA
  have HA := Lib.hid hA
  have HOA := Lib.hid hNA
  clear hA hnA hNA
  have hb : Below w.heap.size w w := Below.refl _ _
  go_enter Tryd.func7, Tryd.ntmps7
  go_wp2_with fail
  refine (few13 A c n t _ HNA.out HA.out).mono ?_
  rintro e wx1 ⟨bs, rfl, hsm, hx⟩
  replace HA := Lib.hid (HA.out.below hx)
  replace hb := bthen hb hx
  clear hx
  cases bs with
  | false =>
    clear hsm
    go_wp2_with fail
    refine (AW _ (rowsAt TAB (by first | assumption | exact Below.refl _ _ | exact bthen (by assumption) (by assumption) | exact below_drawn13 (by first | assumption | exact Below.refl _ _) _))).mono ?_
    rintro e wz ⟨rfl, hx⟩
    go_wp2
    go_ret
    exact ⟨rfl, bthen hb hx⟩
  | true =>
  have hn60 : n ≤ 60 := hsm rfl
  clear hsm
  replace HA := Lib.hid (LArgS.mk HNA.out (by omega) hc HOA.out HA.out)
  by_cases hR : T.RightT t
  · have HR := Lib.hid hR
    clear hR
    go_wp2_with fail
    refine (right13 A c n t true _ HNA.out HA.out.seen (by omega) (yes_iff HR.out)).mono ?_
    rintro e wx2 ⟨rfl, hx⟩
    replace HA := Lib.hid (HA.out.below hx)
    replace hb := bthen hb hx
    clear hx
    obtain ⟨L, hL⟩ : ∃ L, C.checkP (C.pths t) = L := ⟨_, rfl⟩
    have HI := Lib.hid (show CheckIs t L 0 from .inl ⟨HR.out, hL.symm, rfl⟩)
    have HLC := Lib.hid hL
    obtain ⟨m, hm⟩ : ∃ m, L.length = m := ⟨_, rfl⟩
    have HM := Lib.hid hm
    have HML := Lib.hid (show m ≤ 600 by rw [← hm, ← hL]; exact C.check_long HR.out HNA.out (by omega))
    have HPL := Lib.hid (show ∀ x ∈ L, x.1.length ≤ 17 by intro x hx; rw [← hL] at hx; exact C.fault_long HR.out hx)
    have HFP := Lib.hid (show ∀ x ∈ L, T.isIn t x.1 ∨ (x.2 = 1 ∧ x.1 ≠ [] ∧ T.isIn t x.1.dropLast) by
      intro x hx
      rw [← hL] at hx
      rcases C.fault_path hx with k | ⟨k1, k2, k3⟩
      · exact .inl (C.mem_pths.1 k)
      · exact .inr ⟨k1, k2, C.mem_pths.1 k3⟩)
    clear hm hL
    go_wp2_with fail
    refine (E.checkOf A c n m t L 0 _ HA.out HI.out HM.out (rowsAt TAB (by first | assumption | exact Below.refl _ _ | exact bthen (by assumption) (by assumption) | exact below_drawn13 (by first | assumption | exact Below.refl _ _) _))).mono ?_
    rintro e wx3 ⟨B, d, rfl, hmf, hx⟩
    replace HA := Lib.hid (HA.out.below hx)
    replace hb := bthen hb hx
    have HS := Lib.hid hmf.1.seenV.2.2
    have hml := HML.out
    clear hx hmf
    go_wp2
    go_loopg [5, 36] m (fun gk vo vi wr => ∃ k : Nat, Hid (k + gk = m) ∧ k ≤ m ∧ vi = .int .i64 (k : Int) ∧ Hid (OwnF eFc wr wx3.heap.size 0 vo ((L.take k).filter C.formB)) ∧ Below wx3.heap.size wx3 wr)
    case atStart => exact ⟨0, Nat.zero_add _, Nat.zero_le _, rfl, OwnF.nil _ _ _ _, Below.refl _ _⟩
    case round =>
      obtain ⟨k, HG, hk, rfl, HO, hbr⟩ := hrel
      have hgk := HG.out
      by_cases hlt : k < m
      · have blt : decide ((k : Int) < (m : Int)) = true := decide_eq_true (by omega)
        have blt2 : decide (k < m) = true := decide_eq_true hlt
        have hki : (k : Int) < (m : Int) := by omega
        obtain ⟨y, hy⟩ : ∃ y, L[k]? = some y := ⟨_, List.getElem?_eq_getElem (by rw [HM.out]; exact hlt)⟩
        obtain ⟨b2, o2, B3, n3, c3, hAe, hw2, e1, e2, hp1⟩ := HS.out.atV rfl rfl hy
        subst hAe
        have HNX := Lib.hid (C.filt_next hy)
        have hmem := List.mem_of_getElem? hy
        obtain ⟨P, er⟩ := y
        have HFP1 := Lib.hid (HFP.out _ hmem)
        have hP17 : P.length ≤ 17 := HPL.out _ hmem
        simp only at e2 hp1 HNX
        have hPne : P ≠ [] := by
          rcases HFP1.out with h | ⟨_, h, _⟩
          · obtain ⟨i, _, e⟩ := h
            have e : T.pathL t i = P := e
            rw [← e]; exact T.path_ne
          · exact h
        obtain ⟨b5, o5, hBe, hw5, hH5⟩ := hp1.seen (List.length_pos_iff.2 hPne)
        have hBe : B3 = some ⟨b5, o5, none⟩ := hBe
        subst hBe
        have hn3 : P.length = n3 := hp1.len
        have hc3 : n3 ≤ c3 := hp1.cap
        have hn3p : 0 < n3 := by rw [← hn3]; exact List.length_pos_iff.2 hPne
        obtain ⟨nq, hnq⟩ : ∃ nq, n3 = nq + 1 := ⟨n3 - 1, by omega⟩
        have hdrop : P.dropLast = P.take nq := by rw [List.dropLast_eq_take, hn3, hnq, Nat.add_sub_cancel]
        have HTQ := Lib.hid (show (P.take nq).length = nq by rw [List.length_take]; omega)
        have wq : IntKind.i64.wrap ((n3 : Int) - 1) = (nq : Int) := by rw [IntKind.wrap_i64]; omega
        have hnqc : (nq : Int) ≤ (c3 : Int) := by omega
        have hnq17 : nq ≤ 17 := by omega
        have hnq0 : (0 : Int) ≤ (nq : Int) := by omega
        have d3 : decide ((n3 : Int) > 0) = true := decide_eq_true (by omega)
        have d3a : decide ((0 : Int) < (n3 : Int)) = true := decide_eq_true (by omega)
        have d3b : decide (0 < n3) = true := decide_eq_true hn3p
        have HN3 := Lib.hid hn3
        have HIT := Lib.hid (show er = 1 ∧ T.isIn t (P.take nq) ∨ T.isIn t P by
          rcases HFP1.out with h | ⟨h1, _, h2⟩
          · exact .inr h
          · left; rw [hdrop] at h2; exact ⟨h1, h2⟩)
        have q1 : wr.cell? ⟨b2, o2 + k * 2, none⟩ = some (.slice (some ⟨b5, o5, none⟩) n3 c3) := (hbr.cell (p := ⟨b2, o2 + k * 2, none⟩) hw2).trans e1
        have q2 : wr.cell? ⟨b2, o2 + k * 2 + 1, none⟩ = some (.int .i64 er) := (hbr.cell (p := ⟨b2, o2 + k * 2 + 1, none⟩) hw2).trans e2
        have hb2 := up wr (.cells #[.slice (some ⟨b5, o5, none⟩) n3 c3, .int .i64 er] 44)
        have HB2 := Lib.hid (bthen hbr hb2)
        have HO2 := Lib.hid (HO.out.keep hb2)
        have HPS := Lib.hid hp1
        have y0 : (wr.alloc (.cells #[.slice (some ⟨b5, o5, none⟩) n3 c3, .int .i64 er] 44)).cell? ⟨wr.heap.size, 0, none⟩ = some (.slice (some ⟨b5, o5, none⟩) n3 c3) := World.cell?_alloc_mark wr #[.slice (some ⟨b5, o5, none⟩) n3 c3, .int .i64 er] 44 (0, 0) 0
        have y1 : (wr.alloc (.cells #[.slice (some ⟨b5, o5, none⟩) n3 c3, .int .i64 er] 44)).cell? ⟨wr.heap.size, 1, none⟩ = some (.int .i64 er) := World.cell?_alloc_mark wr #[.slice (some ⟨b5, o5, none⟩) n3 c3, .int .i64 er] 44 (0, 0) 1
        have hwn : wr.heap.size < (wr.alloc (.cells #[.slice (some ⟨b5, o5, none⟩) n3 c3, .int .i64 er] 44)).heap.size := by show _ < (wr.heap.push _).size; rw [Array.size_push]; omega
        clear hy e1 e2 hp1 hH5 hmem hdrop hn3 hb2 hPne hnq hn3p
        go_wp2_with fail
        refine (findB13 A _ c c3 n n3 t P _ HNA.out HN3.out (HA.out.seen.below HB2.out) ((HPS.out.below HB2.out).seen) (by omega) (by rw [← HN3.out]; omega) HR.out).mono ?_
        rintro e w4 ⟨z1, k1, rfl, hk1, hx⟩
        have y0' : w4.cell? ⟨wr.heap.size, 0, none⟩ = some (.slice (some ⟨b5, o5, none⟩) n3 c3) := (hx.cell (p := ⟨wr.heap.size, 0, none⟩) hwn).trans y0
        have y1' : w4.cell? ⟨wr.heap.size, 1, none⟩ = some (.int .i64 er) := (hx.cell (p := ⟨wr.heap.size, 1, none⟩) hwn).trans y1
        have hwn4 : wr.heap.size < w4.heap.size := Nat.lt_of_lt_of_le hwn hx.size
        have HO4 := Lib.hid (HO2.out.keep hx)
        have HB4 := Lib.hid (bthen HB2.out hx)
        have HK1 := Lib.hid hk1
        clear hx y0 y1 hwn hk1
        go_wp2_with fail
        refine (findB13 A _ c c3 n nq t (P.take nq) _ HNA.out HTQ.out (HA.out.seen.below HB4.out) (cut_seen13 (HPS.out.below HB4.out).seen) (by omega) (by omega) HR.out).mono ?_
        rintro e w5 ⟨z2, k2, rfl, hk2, hx⟩
        have y0 : w5.cell? ⟨wr.heap.size, 0, none⟩ = some (.slice (some ⟨b5, o5, none⟩) n3 c3) := (hx.cell (p := ⟨wr.heap.size, 0, none⟩) hwn4).trans y0'
        have y1 : w5.cell? ⟨wr.heap.size, 1, none⟩ = some (.int .i64 er) := (hx.cell (p := ⟨wr.heap.size, 1, none⟩) hwn4).trans y1'
        have HO5 := Lib.hid (HO4.out.keep hx)
        have HB5 := Lib.hid (bthen HB4.out hx)
        have HK2 := Lib.hid hk2
        have HFR := Lib.hid (OwnF.flFreeB (m := ⟨some ⟨b5, o5, none⟩, n3, c3⟩) (x := P) HO5.out HPS.out (Nat.le_refl _))
        have HFX := Lib.hid (show FlK w5 0 ⟨⟨some ⟨b5, o5, none⟩, n3, c3⟩, er⟩ (P, er) from ⟨⟨HPS.out.below HB5.out, fun _ _ => Nat.zero_le _⟩, rfl⟩)
        have HLN := Lib.hid (show ((L.take k).filter C.formB).length + 1 ≤ 1099511627776 by have := C.filt_few L k; have := HM.out; omega)
        have hsz5 := HB5.out.size
        clear hx y0' y1' hk2 hwn4
        cases k1 with
        | true =>
          cases k2 with
          | true =>
            by_cases g7 : er = 7
            · have z7 : (er != 7) = false := by simp [g7]
              have HE := Lib.hid (show (L.take (k + 1)).filter C.formB = (L.take k).filter C.formB by rw [HNX.out, if_pos g7, List.append_nil])
              clear g7
              go_wp2
              go_roundg (m - (k + 1))
              case rel => exact ⟨k + 1, (by show _ = _; omega), by omega, by go_num, (by rw [HE.out]; exact HO5.out), HB5.out⟩
              case measure => omega
            · have z7 : (er != 7) = true := by simp [g7]
              have HE := Lib.hid (show (L.take (k + 1)).filter C.formB = (L.take k).filter C.formB ++ [(P, er)] by rw [HNX.out, if_neg g7])
              clear g7
              go_wp2_with (at_builtin; refine wpList_appF eFc w5 rfl (.tmp 77) (.tmp 79) rfl wx3.heap.size 0 u5 ((L.take k).filter C.formB) rfl HO5.out (P, er) ⟨⟨some ⟨b5, o5, none⟩, n3, c3⟩, er⟩ HFX.out HFR.out 1 _ rfl w5.heap.size rfl rfl HLN.out hsz5 ?_; intro v8 w8 hown8 hb8)
              go_roundg (m - (k + 1))
              case rel => exact ⟨k + 1, (by show _ = _; omega), by omega, by go_num, (by rw [HE.out]; exact hown8), HB5.out.trans hb8⟩
              case measure => omega
          | false =>
            by_cases g7 : er = 7
            · have z7 : (er != 7) = false := by simp [g7]
              have HE := Lib.hid (show (L.take (k + 1)).filter C.formB = (L.take k).filter C.formB by rw [HNX.out, if_pos g7, List.append_nil])
              clear g7
              go_wp2
              go_roundg (m - (k + 1))
              case rel => exact ⟨k + 1, (by show _ = _; omega), by omega, by go_num, (by rw [HE.out]; exact HO5.out), HB5.out⟩
              case measure => omega
            · have z7 : (er != 7) = true := by simp [g7]
              have HE := Lib.hid (show (L.take (k + 1)).filter C.formB = (L.take k).filter C.formB ++ [(P, er)] by rw [HNX.out, if_neg g7])
              clear g7
              go_wp2_with (at_builtin; refine wpList_appF eFc w5 rfl (.tmp 77) (.tmp 79) rfl wx3.heap.size 0 u5 ((L.take k).filter C.formB) rfl HO5.out (P, er) ⟨⟨some ⟨b5, o5, none⟩, n3, c3⟩, er⟩ HFX.out HFR.out 1 _ rfl w5.heap.size rfl rfl HLN.out hsz5 ?_; intro v8 w8 hown8 hb8)
              go_roundg (m - (k + 1))
              case rel => exact ⟨k + 1, (by show _ = _; omega), by omega, by go_num, (by rw [HE.out]; exact hown8), HB5.out.trans hb8⟩
              case measure => omega
        | false =>
          have her : er = 1 ∧ T.isIn t (P.take nq) := HIT.out.elim id (fun h => absurd (HK1.out.2 h) (by decide))
          have z1e : (er == 1) = true := beq_iff_eq.2 her.1
          obtain rfl : k2 = true := HK2.out.2 her.2
          clear her
          by_cases g7 : er = 7
          · have z7 : (er != 7) = false := by simp [g7]
            have HE := Lib.hid (show (L.take (k + 1)).filter C.formB = (L.take k).filter C.formB by rw [HNX.out, if_pos g7, List.append_nil])
            clear g7
            go_wp2
            go_roundg (m - (k + 1))
            case rel => exact ⟨k + 1, (by show _ = _; omega), by omega, by go_num, (by rw [HE.out]; exact HO5.out), HB5.out⟩
            case measure => omega
          · have z7 : (er != 7) = true := by simp [g7]
            have HE := Lib.hid (show (L.take (k + 1)).filter C.formB = (L.take k).filter C.formB ++ [(P, er)] by rw [HNX.out, if_neg g7])
            clear g7
            go_wp2_with (at_builtin; refine wpList_appF eFc w5 rfl (.tmp 77) (.tmp 79) rfl wx3.heap.size 0 u5 ((L.take k).filter C.formB) rfl HO5.out (P, er) ⟨⟨some ⟨b5, o5, none⟩, n3, c3⟩, er⟩ HFX.out HFR.out 1 _ rfl w5.heap.size rfl rfl HLN.out hsz5 ?_; intro v8 w8 hown8 hb8)
            go_roundg (m - (k + 1))
            case rel => exact ⟨k + 1, (by show _ = _; omega), by omega, by go_num, (by rw [HE.out]; exact hown8), HB5.out.trans hb8⟩
            case measure => omega
      · have blt : decide ((k : Int) < (m : Int)) = false := decide_eq_false (by omega)
        have blt2 : decide (k < m) = false := decide_eq_false hlt
        obtain ⟨LF, hLF⟩ : ∃ LF, L.filter C.formB = LF := ⟨_, rfl⟩
        have hE : (L.take k).filter C.formB = LF := by rw [List.take_of_length_le (by rw [HM.out]; omega)]; exact hLF
        have HLF := Lib.hid hLF
        obtain ⟨nw, hnw⟩ : ∃ nw, LF.length = nw := ⟨_, rfl⟩
        have HNW := Lib.hid hnw
        have HNWL := Lib.hid (show nw ≤ 600 by rw [← hnw, ← hLF]; exact Nat.le_trans (List.length_filter_le _ _) (by rw [HM.out]; exact HML.out))
        have HPLF := Lib.hid (show ∀ x ∈ LF, x.1.length ≤ 1073741824 by intro x hx; rw [← hLF] at hx; have := HPL.out x (List.mem_filter.1 hx).1; omega)
        obtain ⟨Bw, dw, rfl, hdw, hsw⟩ := HO.out.flMany.seenF
        rw [hE] at hdw hsw ⊢
        rw [hnw] at hdw ⊢
        have HSW := Lib.hid hsw
        replace HA := Lib.hid (HA.out.below hbr)
        replace hb := bthen hb hbr
        obtain ⟨K, hK⟩ : ∃ K, T.kidsL t (-1) = K := ⟨_, rfl⟩
        have HK := Lib.hid hK
        obtain ⟨nk, hnk⟩ : ∃ nk, K.length = nk := ⟨_, rfl⟩
        have HNK := Lib.hid hnk
        have hnk30 : nk ≤ 200 := by
          have : K.length ≤ t.length := by rw [← hK]; exact T.filter_len t.length _
          have := HNA.out; omega
        clear hsw hbr hLF hnw hE hK hnk hdw HO HS
        go_wp2_with fail
        refine (kidsP13 A c n nk t K _ HNA.out HA.out.seen (by omega) HR.out HK.out HNK.out).mono ?_
        rintro e w6 ⟨B6, d6, rfl, hd6, hs6, hx⟩
        replace HA := Lib.hid (HA.out.below hx)
        replace HSW := Lib.hid (HSW.out.below hx)
        replace hb := bthen hb hx
        have HS6 := Lib.hid hs6
        clear hx hs6 hd6
        go_wp2
        go_loopg [6, 85] nk (fun gk vo vi wr => ∃ j mm : Nat, Hid (j + gk = nk) ∧ j ≤ nk ∧ vi = .int .i64 (j : Int) ∧ Hid (T.Parts t K j mm) ∧ Hid (OwnF eFc wr w6.heap.size 0 vo (C.formTo t mm)) ∧ Below w6.heap.size w6 wr)
        case atStart => exact ⟨0, 0, Nat.zero_add _, Nat.zero_le _, rfl, T.Parts.start t K, OwnF.nil _ _ _ _, Below.refl _ _⟩
        case round =>
          obtain ⟨j, mm, HG2, hj, rfl, HPT, HO, hbr⟩ := hrel
          have hgk2 := HG2.out
          by_cases hlt2 : j < nk
          · have blt3 : decide ((j : Int) < (nk : Int)) = true := decide_eq_true (by omega)
            have blt4 : decide (j < nk) = true := decide_eq_true hlt2
            have hji : (j : Int) < (nk : Int) := by omega
            have hjK : j < K.length := by rw [HNK.out]; exact hlt2
            obtain ⟨x1, x2, x3, _⟩ := HPT.out.next HR.out HK.out hjK
            have hmmn : mm < n := by rw [← HNA.out]; exact x2
            have HX2 := Lib.hid x2
            have HNXT := Lib.hid x3
            have HROOT := Lib.hid (parts_root HPT.out x2)
            obtain ⟨b7, o7, hAe, hw7, hL7⟩ := HS6.out (by omega)
            have c7 := (hL7.below hbr hw7).num hjK
            rw [x1] at c7
            subst hAe
            obtain ⟨X, hX⟩ : ∃ X, T.subL t mm = X := ⟨_, rfl⟩
            have HXX := Lib.hid hX
            obtain ⟨nx, hnx⟩ : ∃ nx, X.length = nx := ⟨_, rfl⟩
            have HNX2 := Lib.hid hnx
            have HRX := Lib.hid (show T.RightT X by rw [← hX]; exact HR.out.sub mm x2)
            obtain ⟨L2, hL2⟩ : ∃ L2, C.checkP (C.pths X) = L2 := ⟨_, rfl⟩
            have HI2 := Lib.hid (show CheckIs X L2 0 from .inl ⟨HRX.out, hL2.symm, rfl⟩)
            obtain ⟨m2, hm2⟩ : ∃ m2, L2.length = m2 := ⟨_, rfl⟩
            have HM2 := Lib.hid hm2
            have hnx200 : nx ≤ 200 := by rw [← hnx]; exact HRX.out.len
            have hm2l : m2 ≤ 600 := by rw [← hm2, ← hL2]; exact C.check_long HRX.out hnx hnx200
            have HFT := Lib.hid (show C.formTo t (T.endL t mm) = C.formTo t mm ++ L2.filter C.formB by rw [C.formTo_part HR.out x2 HROOT.out, hX, hL2])
            clear x1 x2 x3 hX hnx hL2 hm2 hL7 hjK
            go_wp2_with fail
            refine (subC13 A c n nx t X mm _ HNA.out (HA.out.seen.below hbr) (by omega) hc hmmn HR.out HXX.out HNX2.out).mono ?_
            rintro e w8 ⟨B8, d8, rfl, ha8, hx⟩
            have HO8 := Lib.hid (HO.out.keep hx)
            have HB8 := Lib.hid (bthen hbr hx)
            have HA8 := Lib.hid ha8
            clear hx ha8
            go_wp2_with fail
            refine (E.checkOf B8 d8 nx m2 X L2 0 _ HA8.out HI2.out HM2.out (rowsAt TAB (by first | assumption | exact Below.refl _ _ | exact bthen (by assumption) (by assumption) | exact below_drawn13 (by first | assumption | exact Below.refl _ _) _))).mono ?_
            rintro e w9 ⟨B9, d9, rfl, hmf, hx⟩
            have HO9 := Lib.hid (HO8.out.keep hx)
            have HB9 := Lib.hid (bthen HB8.out hx)
            have HMF := Lib.hid hmf.1
            have HNEW := Lib.hid hmf.2
            have HAS := Lib.hid (show Aside w8.heap.size w9 w9 u6 from ⟨Nat.le_refl _, fun _ _ _ => rfl, fun b e => .inl (HO8.out.flBlock b e).2⟩)
            clear hx hmf
            go_wp2
            go_loopg [6, 100] m2 (fun g2 vo vi wi => ∃ k2 : Nat, Hid (k2 + g2 = m2) ∧ k2 ≤ m2 ∧ vi = .int .i64 (k2 : Int) ∧ Hid (OwnF eFc wi w6.heap.size 0 vo (C.formTo t mm ++ (L2.take k2).filter C.formB)) ∧ Hid (Aside w8.heap.size w9 wi vo) ∧ Below w6.heap.size w6 wi)
            case atStart => exact ⟨0, Nat.zero_add _, Nat.zero_le _, rfl, (by show OwnF _ _ _ _ _ (C.formTo t mm ++ []); rw [List.append_nil]; exact HO9.out), HAS.out, HB9.out⟩
            case round =>
              obtain ⟨k2, HG3, hk2, rfl, HOI, HASI, hbi⟩ := hrel
              have hgk3 := HG3.out
              by_cases hlt3 : k2 < m2
              · have blt5 : decide ((k2 : Int) < (m2 : Int)) = true := decide_eq_true (by omega)
                have blt6 : decide (k2 < m2) = true := decide_eq_true hlt3
                have hki2 : (k2 : Int) < (m2 : Int) := by omega
                obtain ⟨y, hy⟩ : ∃ y, L2[k2]? = some y := ⟨_, List.getElem?_eq_getElem (by rw [HM2.out]; exact hlt3)⟩
                have hmany := HASI.out.allF HMF.out HNEW.out
                obtain ⟨b2, o2, B3, n3, c3, hAe, hw2, q1, q2, hp1⟩ := hmany.atM hy
                obtain ⟨b2', o2', B3', n3', c3', hAe', hw2', q1', q2', hp9⟩ := HMF.out.atM hy
                have hBeq : B3' = B3 ∧ n3' = n3 ∧ c3' = c3 := by
                  rw [hAe] at hAe'
                  injection hAe' with hAe'
                  injection hAe' with ha1 ha2 _
                  subst ha1; subst ha2
                  have h9 : wr.cell? ⟨b2, o2 + k2 * 2, none⟩ = w9.cell? ⟨b2, o2 + k2 * 2, none⟩ := World.cell?_of_block (HASI.out.block b2 (HNEW.out _ hAe) hw2')
                  rw [h9, q1'] at q1
                  injection q1 with q1
                  injection q1 with r1 r2 r3
                  exact ⟨r1, r2, r3⟩
                obtain ⟨rfl, rfl, rfl⟩ := hBeq
                have HNX := Lib.hid (C.filt_next hy)
                obtain ⟨P, er⟩ := y
                simp only at q2 hp1 hp9 HNX
                have HFREE := Lib.hid (HASI.out.apartQ hp9)
                subst hAe
                have hb2 := up wr (.cells #[.slice B3' n3' c3', .int .i64 er] 44)
                have HB2 := Lib.hid (bthen hbi hb2)
                have HO2 := Lib.hid (HOI.out.keep hb2)
                have HAS2 := Lib.hid (HASI.out.grow hb2)
                have HFX := Lib.hid (show FlK (wr.alloc (.cells #[.slice B3' n3' c3', .int .i64 er] 44)) 0 ⟨⟨B3', n3', c3'⟩, er⟩ (P, er) from ⟨⟨hp1.pt.below hb2, fun _ _ => Nat.zero_le _⟩, rfl⟩)
                have y0 : (wr.alloc (.cells #[.slice B3' n3' c3', .int .i64 er] 44)).cell? ⟨wr.heap.size, 0, none⟩ = some (.slice B3' n3' c3') := World.cell?_alloc_mark wr #[.slice B3' n3' c3', .int .i64 er] 44 (0, 0) 0
                have y1 : (wr.alloc (.cells #[.slice B3' n3' c3', .int .i64 er] 44)).cell? ⟨wr.heap.size, 1, none⟩ = some (.int .i64 er) := World.cell?_alloc_mark wr #[.slice B3' n3' c3', .int .i64 er] 44 (0, 0) 1
                have HLN := Lib.hid (show (C.formTo t mm ++ (L2.take k2).filter C.formB).length + 1 ≤ 1099511627776 by rw [List.length_append]; have := C.filt_few L2 k2; have := C.formTo_few t mm; have := HNA.out; have := HM2.out; omega)
                have hszx := HB2.out.size
                clear hy hmany hp1 hp9 hb2 hAe' hw2' q1' q2'
                by_cases g7 : er = 7
                · have z7 : (er != 7) = false := by simp [g7]
                  have HE := Lib.hid (show (L2.take (k2 + 1)).filter C.formB = (L2.take k2).filter C.formB by rw [HNX.out, if_pos g7, List.append_nil])
                  clear g7
                  go_wp2
                  go_roundg (m2 - (k2 + 1))
                  case rel => exact ⟨k2 + 1, (by show _ = _; omega), by omega, by go_num, (by rw [HE.out]; exact HO2.out), HAS2.out, HB2.out⟩
                  case measure => omega
                · have z7 : (er != 7) = true := by simp [g7]
                  have HE := Lib.hid (show (L2.take (k2 + 1)).filter C.formB = (L2.take k2).filter C.formB ++ [(P, er)] by rw [HNX.out, if_neg g7])
                  clear g7
                  go_wp2_with (at_builtin; refine wpList_appF3 eFc _ rfl (.tmp 107) (.tmp 109) rfl w6.heap.size 0 u6 (C.formTo t mm ++ (L2.take k2).filter C.formB) rfl HO2.out (P, er) ⟨⟨B3', n3', c3'⟩, er⟩ HFX.out HFREE.out 1 _ rfl (wr.heap.size + 1) (by simp) rfl HLN.out hszx ?_; intro v10 w10 hown10 hb10 hkeep10)
                  go_roundg (m2 - (k2 + 1))
                  case rel => exact ⟨k2 + 1, (by show _ = _; omega), by omega, by go_num, (by rw [HE.out, ← List.append_assoc]; exact hown10), HAS2.out.app hkeep10, HB2.out.trans hb10⟩
                  case measure => omega
              · have blt5 : decide ((k2 : Int) < (m2 : Int)) = false := decide_eq_false (by omega)
                have blt6 : decide (k2 < m2) = false := decide_eq_false hlt3
                have HE := Lib.hid (show C.formTo t mm ++ (L2.take k2).filter C.formB = C.formTo t (T.endL t mm) by rw [HFT.out, List.take_of_length_le (by rw [HM2.out]; omega)])
                go_wp2
                go_roundg (nk - (j + 1))
                case rel => exact ⟨j + 1, T.endL t mm, (by show _ = _; omega), by omega, by go_num, HNXT.out, (by rw [← HE.out]; exact HOI.out), hbi⟩
                case measure => omega
          · have blt3 : decide ((j : Int) < (nk : Int)) = false := decide_eq_false (by omega)
            have blt4 : decide (j < nk) = false := decide_eq_false hlt2
            have hjn : j = K.length := by rw [HNK.out]; omega
            have hmm : mm = t.length := T.Parts.done HK.out (by rw [← hjn]; exact HPT.out)
            have hE : C.formTo t mm = LF := by rw [hmm, C.formTo_all, HLC.out]; exact HLF.out
            obtain ⟨Bp, dp, rfl, hdp, hsp⟩ := HO.out.flMany.seenF
            rw [hE] at hdp hsp ⊢
            rw [HNW.out] at hdp ⊢
            have HSP := Lib.hid hsp
            replace HSW := Lib.hid (HSW.out.below hbr)
            replace hb := bthen hb hbr
            clear hjn hmm hE hsp hbr hdp HO
            go_wp2_with fail
            refine (refsF13 Bw dw nw LF _ HNW.out (by have := HNWL.out; omega) HSW.out).mono ?_
            rintro e w11 ⟨B11, d11, rfl, hd11, hs11, hx⟩
            replace HSP := Lib.hid (HSP.out.below hx)
            replace hb := bthen hb hx
            have HS11 := Lib.hid hs11
            clear hx hs11
            go_wp2_with fail
            refine (refsF13 Bp dp nw LF _ HNW.out (by have := HNWL.out; omega) HSP.out).mono ?_
            rintro e w12 ⟨B12, d12, rfl, hd12, hs12, hx⟩
            replace HS11 := Lib.hid (HS11.out.below hx)
            replace hb := bthen hb hx
            have HS12 := Lib.hid hs12
            clear hx hs12
            go_wp2_with fail
            refine (sameF13 B11 B12 d11 d12 nw LF _ HNW.out (by have := HNWL.out; omega) HPLF.out HS11.out HS12.out).mono ?_
            rintro e w13 ⟨rfl, hx⟩
            replace hb := bthen hb hx
            clear hx
            go_wp2_with fail
            refine (AW _ (rowsAt TAB (by first | assumption | exact Below.refl _ _ | exact bthen (by assumption) (by assumption) | exact below_drawn13 (by first | assumption | exact Below.refl _ _) _))).mono ?_
            rintro e wz ⟨rfl, hx⟩
            go_wp2
            go_ret
            exact ⟨rfl, bthen hb hx⟩
  · have HR := Lib.hid hR
    clear hR
    go_wp2_with fail
    refine (right13 A c n t false _ HNA.out HA.out.seen (by omega) (no_iff HR.out)).mono ?_
    rintro e wx2 ⟨rfl, hx⟩
    replace hb := bthen hb hx
    clear hx
    go_wp2_with fail
    refine (AW _ (rowsAt TAB (by first | assumption | exact Below.refl _ _ | exact bthen (by assumption) (by assumption) | exact below_drawn13 (by first | assumption | exact Below.refl _ _) _))).mono ?_
    rintro e wz ⟨rfl, hx⟩
    go_wp2
    go_ret
    exact ⟨rfl, bthen hb hx⟩
end Go.Proofs.YtikjdjfpoohieaaDoor
