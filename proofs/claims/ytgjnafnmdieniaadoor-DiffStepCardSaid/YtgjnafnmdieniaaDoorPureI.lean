/-
  Plain laws of layer 8 (diff): the difference of two trees; that it makes the second one of the first; that no path stands twice in it. Condition: trees.
-/
import Derived.Test.YtgjnafnmdieniaaDoorPureG

namespace Go.Proofs.YtgjnafnmdieniaaDoor.T

/-- A change. -/
structure Chg where
  kind : Int
  path : Pth
  mark : Int
/-- Is there a line of that path? -/
def isIn (t : List Ln) (p : Pth) : Prop := ∃ i, i < t.length ∧ pathL t i = p
def inB (t : List Ln) (p : Pth) : Bool := decide (0 ≤ findI t p)
theorem inB_yes {t : List Ln} {p : Pth} : inB t p = true ↔ isIn t p := by
  unfold inB
  rcases findI_cases t p with ⟨e, h⟩ | ⟨i, hi, e, h⟩
  · rw [e]; exact ⟨fun h2 => by simp at h2, fun ⟨i, hi, e2⟩ => absurd e2 (h i hi)⟩
  · rw [e]; exact ⟨fun _ => ⟨i, hi, h⟩, fun _ => by simp⟩
theorem inB_no {t : List Ln} {p : Pth} : inB t p = false ↔ ¬ isIn t p := by rw [← inB_yes]; cases inB t p <;> simp
theorem isIn_entries {t : List Ln} {p : Pth} : isIn t p ↔ ∃ m, (p, m) ∈ entries t := by
  constructor
  · rintro ⟨i, hi, e⟩; exact ⟨_, (mem_entries t p _).2 ⟨i, hi, e, rfl⟩⟩
  · rintro ⟨m, hm⟩; obtain ⟨i, hi, e, _⟩ := (mem_entries t p m).1 hm; exact ⟨i, hi, e⟩
theorem isIn_of {t : List Ln} {x : Pth × Int} (h : x ∈ entries t) : isIn t x.1 := isIn_entries.2 ⟨x.2, h⟩
/-- The mark of the line of a path. -/
def markOf (t : List Ln) (p : Pth) : Int := (at_ t (findI t p).toNat).mark
theorem RightN.mark_of {N : Nat} {t : List Ln} (h : RightN N t) {x : Pth × Int} (hx : x ∈ entries t) : markOf t x.1 = x.2 := by
  obtain ⟨i, hi, e, em⟩ := (mem_entries t x.1 x.2).1 hx
  unfold markOf
  rw [findI_some h hi e, Int.toNat_natCast, em]
theorem RightN.one_mark {N : Nat} {t : List Ln} (h : RightN N t) {p : Pth} {m n : Int} (hm : (p, m) ∈ entries t) (hn : (p, n) ∈ entries t) : m = n := (h.mark_of hm).symm.trans (h.mark_of hn)
theorem RightN.in_pre {N : Nat} {t : List Ln} (h : RightN N t) {p q : Pth} (hp : p ≠ []) (hq : isIn t q) (hpq : pre p q) : isIn t p := by
  obtain ⟨i, hi, e⟩ := hq
  obtain ⟨k, hk, ek⟩ := h.path_take i i p.length (Nat.le_refl _) hi (List.length_pos_iff.2 hp) (by rw [e]; exact pre_len hpq)
  exact ⟨k, hk, by rw [ek, e]; exact hpq⟩
theorem RightN.in_ne {t : List Ln} {p : Pth} (h : isIn t p) : p ≠ [] := by
  obtain ⟨i, _, e⟩ := h
  rw [← e]; exact path_ne

/-- The three parts of a difference. -/
def goneB (b : List Ln) (p : Pth) : Bool := !(inB b p) && (decide (p.dropLast = []) || inB b p.dropLast)
def goneL (b : List Ln) (l : List (Pth × Int)) : List Chg := (l.filter fun x => goneB b x.1).map fun x => ⟨1, x.1, 0⟩
def addsL (a : List Ln) (l : List (Pth × Int)) : List Chg := (l.filter fun x => !(inB a x.1)).map fun x => ⟨2, x.1, x.2⟩
def markB (a : List Ln) (x : Pth × Int) : Bool := inB a x.1 && (markOf a x.1 != x.2)
def marksL (a : List Ln) (l : List (Pth × Int)) : List Chg := (l.filter fun x => markB a x).map fun x => ⟨3, x.1, x.2⟩
def diffL (a b : List Ln) : List Chg := goneL b (entries a) ++ addsL a (entries b) ++ marksL a (entries b)
theorem goneL_next (b : List Ln) (l : List (Pth × Int)) (x : Pth × Int) : goneL b (l ++ [x]) = goneL b l ++ if goneB b x.1 = true then [⟨1, x.1, 0⟩] else [] := by
  unfold goneL
  rw [List.filter_append, List.map_append, List.filter_cons, List.filter_nil]
  cases goneB b x.1 <;> simp
theorem addsL_next (a : List Ln) (l : List (Pth × Int)) (x : Pth × Int) : addsL a (l ++ [x]) = addsL a l ++ if inB a x.1 = false then [⟨2, x.1, x.2⟩] else [] := by
  unfold addsL
  rw [List.filter_append, List.map_append, List.filter_cons, List.filter_nil]
  cases inB a x.1 <;> simp
theorem marksL_next (a : List Ln) (l : List (Pth × Int)) (x : Pth × Int) : marksL a (l ++ [x]) = marksL a l ++ if markB a x = true then [⟨3, x.1, x.2⟩] else [] := by
  unfold marksL
  rw [List.filter_append, List.map_append, List.filter_cons, List.filter_nil]
  cases markB a x <;> simp

/-- A change that can be made. -/
def OneOk (t : List Ln) (c : Chg) (u : List Ln) : Prop :=
  (0 ≤ c.mark ∧ c.mark ≤ 3) ∧ ((c.kind = 1 ∧ ∃ i, i < t.length ∧ pathL t i = c.path ∧ u = cutL t i) ∨
  (c.kind = 2 ∧ t.length < 200 ∧ ∃ up w, c.path = up ++ [w] ∧ Open t up ∧ (∀ i, i < t.length → pathL t i ≠ up ++ [w]) ∧ (∀ x ∈ up ++ [w], x.length ≤ 40) ∧ (up ++ [w]).length ≤ 16 ∧ u = putL t up w c.mark) ∨
  (c.kind = 3 ∧ ∃ i, i < t.length ∧ pathL t i = c.path ∧ u = S.setM t i c.mark))
/-- Changes that can be made, one behind the other. -/
def RunOk : List Ln → List Chg → List Ln → Prop
  | t, [], u => t = u
  | t, c :: l, u => ∃ v, OneOk t c v ∧ RunOk v l u
theorem run_app {t u v : List Ln} {l m : List Chg} (h1 : RunOk t l u) (h2 : RunOk u m v) : RunOk t (l ++ m) v := by
  induction l generalizing t with
  | nil => cases h1; exact h2
  | cons c l ih =>
    obtain ⟨x, hx, hr⟩ := h1
    exact ⟨x, hx, ih hr⟩
theorem run_snoc {t u v : List Ln} {l : List Chg} {c : Chg} (h1 : RunOk t l u) (h2 : OneOk u c v) : RunOk t (l ++ [c]) v := run_app h1 ⟨v, h2, rfl⟩
theorem OneOk.right {t u : List Ln} {c : Chg} (h : OneOk t c u) (hR : RightT t) : RightT u := by
  obtain ⟨hm, ⟨_, i, hi, _, rfl⟩ | ⟨_, hl, up, w, _, ho, hn, hw, hd, rfl⟩ | ⟨_, i, hi, _, rfl⟩⟩ := h
  · exact (hR.cut_entries hi).1
  · exact (hR.putL ho hn hl (by rw [List.length_append, List.length_singleton] at hd; omega) (hw w (by simp)) hm).1
  · exact S.RightT.setM hR hi hm
theorem RunOk.right {t u : List Ln} {l : List Chg} (h : RunOk t l u) (hR : RightT t) : RightT u := by
  induction l generalizing t with
  | nil => cases h; exact hR
  | cons c l ih =>
    obtain ⟨x, hx, hr⟩ := h
    exact ih hr (hx.right hR)

/-- What is gone goes first, from above. -/
theorem run_gone {a b : List Ln} (ha : RightT a) (hb : RightT b) : ∀ k, k ≤ (entries a).length → ∃ t, RunOk a (goneL b ((entries a).take k)) t ∧ RightT t ∧ ∀ x, x ∈ entries t ↔ x ∈ entries a ∧ ∀ y ∈ (entries a).take k, goneB b y.1 = true → ¬ pre y.1 x.1
  | 0, _ => ⟨a, rfl, ha, fun x => ⟨fun h => ⟨h, fun y hy => by simp at hy⟩, fun h => h.1⟩⟩
  | k + 1, hk => by
    obtain ⟨t, h1, h2, h3⟩ := run_gone ha hb k (by omega)
    have hkl : k < (entries a).length := by omega
    obtain ⟨z, hz⟩ : ∃ z, (entries a)[k] = z := ⟨_, rfl⟩
    have hza : z ∈ entries a := hz ▸ List.getElem_mem hkl
    rw [List.take_succ_eq_append_getElem hkl, hz, goneL_next]
    cases hg : goneB b z.1 with
    | false =>
      refine ⟨t, by rw [if_neg (by simp), List.append_nil]; exact h1, h2, fun x => ?_⟩
      rw [h3 x]
      constructor
      · rintro ⟨e1, e2⟩
        refine ⟨e1, fun y hy hgy => ?_⟩
        rcases List.mem_append.1 hy with hy | hy
        · exact e2 y hy hgy
        · rw [List.mem_singleton.1 hy, hg] at hgy; cases hgy
      · rintro ⟨e1, e2⟩
        exact ⟨e1, fun y hy => e2 y (List.mem_append_left _ hy)⟩
    | true =>
      have hgz := hg
      unfold goneB at hgz
      rw [Bool.and_eq_true, Bool.or_eq_true, Bool.not_eq_true', decide_eq_true_eq, inB_no, inB_yes] at hgz
      have hzt : z ∈ entries t := (h3 z).2 ⟨hza, fun y hy hgy hp => by
        obtain ⟨j, hj, ej⟩ := List.getElem_of_mem hy
        rw [List.length_take] at hj
        rw [List.getElem_take] at ej
        have hya : y ∈ entries a := List.mem_of_mem_take hy
        have hyne : y.1 ≠ [] := RightN.in_ne (isIn_of hya)
        unfold goneB at hgy
        rw [Bool.and_eq_true, Bool.not_eq_true', inB_no] at hgy
        by_cases he : y.1 = z.1
        · have hs := (sorted_iff _).1 ha.sorted
          have := ha.sorted j k hkl (by omega)
          rw [ej, hz, he, pless_irr] at this
          cases this
        · -- it is a beginning of the line above
          have hl : y.1.length < z.1.length := by
            rcases Nat.lt_or_ge y.1.length z.1.length with h | h
            · exact h
            · have := hp
              unfold pre at this
              rw [List.take_of_length_le h] at this
              exact absurd this.symm he
          have hpd : pre y.1 z.1.dropLast := by
            rw [List.dropLast_eq_take]
            exact pre_take hp (by omega)
          rcases hgz.2 with h0 | h0
          · have := pre_len hpd
            rw [h0] at this
            exact hyne (List.eq_nil_of_length_eq_zero (by simpa using this))
          · exact hgy.1 (hb.in_pre hyne h0 hpd)⟩
      obtain ⟨i, hi, ei, _⟩ := (mem_entries t z.1 z.2).1 hzt
      obtain ⟨c1, c2⟩ := h2.cut_entries hi
      refine ⟨cutL t i, ?_, c1, fun x => ?_⟩
      · rw [if_pos rfl]
        exact run_snoc h1 ⟨⟨Int.le_refl _, (by omega : (0 : Int) ≤ 3)⟩, .inl ⟨rfl, i, hi, ei, rfl⟩⟩
      · rw [c2 x, ei, h3 x]
        constructor
        · rintro ⟨⟨e1, e2⟩, e3⟩
          refine ⟨e1, fun y hy hgy => ?_⟩
          rcases List.mem_append.1 hy with hy | hy
          · exact e2 y hy hgy
          · rw [List.mem_singleton.1 hy]; exact e3
        · rintro ⟨e1, e2⟩
          exact ⟨⟨e1, fun y hy => e2 y (List.mem_append_left _ hy)⟩, e2 z (List.mem_append_right _ (by simp)) hg⟩
/-- What is left is what both have. -/
theorem gone_left {a b : List Ln} (ha : RightT a) (hb : RightT b) (x : Pth × Int) : (x ∈ entries a ∧ ∀ y ∈ entries a, goneB b y.1 = true → ¬ pre y.1 x.1) ↔ x ∈ entries a ∧ isIn b x.1 := by
  constructor
  · rintro ⟨h1, h2⟩
    refine ⟨h1, Classical.byContradiction fun hno => ?_⟩
    -- the shortest beginning that isn't there
    have key : ∀ n, n ≤ x.1.length → (n = 0 ∨ isIn b (x.1.take n)) := by
      intro n
      induction n with
      | zero => intro _; exact .inl rfl
      | succ n ih =>
        intro hn
        refine .inr (Classical.byContradiction fun hno2 => ?_)
        obtain ⟨i, hi, ei⟩ := isIn_of h1
        obtain ⟨k, hk, ek⟩ := ha.path_take i i (n + 1) (Nat.le_refl _) hi (by omega) (by rw [ei]; exact hn)
        rw [ei] at ek
        refine h2 (x.1.take (n + 1), (at_ a k).mark) ((mem_entries a _ _).2 ⟨k, hk, ek, rfl⟩) ?_ ?_
        · unfold goneB
          rw [Bool.and_eq_true, Bool.or_eq_true, Bool.not_eq_true', decide_eq_true_eq, inB_no, inB_yes]
          refine ⟨hno2, ?_⟩
          have hd : (x.1.take (n + 1)).dropLast = x.1.take n := by
            rw [List.dropLast_eq_take, List.length_take, List.take_take]
            congr 1; omega
          rw [hd]
          rcases ih (by omega) with h0 | h0
          · left; rw [h0]; rfl
          · exact .inr h0
        · show (x.1.take (x.1.take (n + 1)).length) = x.1.take (n + 1)
          rw [List.length_take]
          congr 1; omega
    rcases key x.1.length (Nat.le_refl _) with h0 | h0
    · exact RightN.in_ne (isIn_of h1) (List.eq_nil_of_length_eq_zero h0)
    · rw [List.take_length] at h0; exact hno h0
  · rintro ⟨h1, h2⟩
    refine ⟨h1, fun y hy hg hp => ?_⟩
    unfold goneB at hg
    rw [Bool.and_eq_true, Bool.not_eq_true', inB_no] at hg
    exact hg.1 (hb.in_pre (RightN.in_ne (isIn_of hy)) h2 hp)
/-- Fewer paths, fewer lines. -/
theorem fewer {N M : Nat} {t b : List Ln} (ht : RightN N t) (hb : RightN M b) (h : ∀ p, isIn t p → isIn b p) : t.length ≤ b.length := by
  have h1 := S.sorted_sub (entries (bareT b)) (entries (bareT t)) (bare_right ht).sorted (bare_right hb).sorted (fun x hx => by
    obtain ⟨i, hi, e, em⟩ := (mem_entries _ x.1 x.2).1 hx
    rw [bare_len] at hi
    rw [bare_path] at e
    rw [bare_at] at em
    obtain ⟨k, hk, ek⟩ := h x.1 ⟨i, hi, e⟩
    exact (mem_entries _ x.1 x.2).2 ⟨k, by rw [bare_len]; exact hk, by rw [bare_path]; exact ek, by rw [bare_at]; exact em⟩)
  rw [entries_len, entries_len, bare_len, bare_len] at h1
  exact h1
/-- Then what is new, each below what is there. -/
theorem run_adds {a b t : List Ln} (hb : RightT b) (ht : RightT t) (hm : ∀ x, x ∈ entries t ↔ x ∈ entries a ∧ isIn b x.1) : ∀ k, k ≤ (entries b).length → ∃ u, RunOk t (addsL a ((entries b).take k)) u ∧ RightT u ∧ ∀ x, x ∈ entries u ↔ x ∈ entries t ∨ (x ∈ (entries b).take k ∧ ¬ isIn a x.1)
  | 0, _ => ⟨t, rfl, ht, fun x => ⟨.inl, fun h => by
      rcases h with h | ⟨h, _⟩
      · exact h
      · simp at h⟩⟩
  | k + 1, hk => by
    obtain ⟨u, h1, h2, h3⟩ := run_adds hb ht hm k (by omega)
    have hkl : k < (entries b).length := by omega
    obtain ⟨z, hz⟩ : ∃ z, (entries b)[k] = z := ⟨_, rfl⟩
    have hzb : z ∈ entries b := hz ▸ List.getElem_mem hkl
    rw [List.take_succ_eq_append_getElem hkl, hz, addsL_next]
    cases hg : inB a z.1 with
    | true =>
      refine ⟨u, by rw [if_neg (by simp), List.append_nil]; exact h1, h2, fun x => ?_⟩
      rw [h3 x, List.mem_append, List.mem_singleton]
      constructor
      · rintro (e | ⟨e1, e2⟩)
        · exact .inl e
        · exact .inr ⟨.inl e1, e2⟩
      · rintro (e | ⟨e1 | e1, e2⟩)
        · exact .inl e
        · exact .inr ⟨e1, e2⟩
        · rw [e1] at e2; exact absurd (inB_yes.1 hg) e2
    | false =>
      have hza := inB_no.1 hg
      have hkb : k < b.length := by rw [entries_len] at hkl; exact hkl
      have ez : z = (pathL b k, (at_ b k).mark) := by rw [← hz, entries_at b k hkb]
      obtain ⟨up, w, ep⟩ := snoc_of (RightN.in_ne (isIn_of hzb))
      have hno : ∀ i, i < u.length → pathL u i ≠ up ++ [w] := by
        intro i hi e
        rcases (h3 (pathL u i, (at_ u i).mark)).1 ((mem_entries u _ _).2 ⟨i, hi, rfl, rfl⟩) with h | ⟨h, _⟩
        · exact hza (by rw [ep, ← e]; exact isIn_of ((hm _).1 h).1)
        · obtain ⟨j, hj, ej⟩ := List.getElem_of_mem h
          rw [List.length_take] at hj
          rw [List.getElem_take] at ej
          have := hb.sorted j k hkl (by omega)
          rw [ej, hz, ep] at this
          have e2 : (pathL u i, (at_ u i).mark).1 = up ++ [w] := e
          rw [e2, pless_irr] at this
          cases this
      have hop : Open u up := by
        by_cases h0 : up = []
        · exact .inl h0
        · have hup : isIn b up := hb.in_pre h0 (isIn_of hzb) (by rw [ep]; exact pre_app _ _)
          obtain ⟨j, hj, ej⟩ := hup
          by_cases hia : isIn a up
          · obtain ⟨m, hm2⟩ := isIn_entries.1 hia
            obtain ⟨i, hi, e, _⟩ := (mem_entries u up m).1 ((h3 (up, m)).2 (.inl ((hm (up, m)).2 ⟨hm2, ⟨j, hj, ej⟩⟩)))
            exact .inr ⟨i, hi, e⟩
          · have hjk : j < k := by
              rcases Nat.lt_trichotomy j k with h | h | h
              · exact h
              · rw [h] at ej
                have e3 : z.1 = up := by rw [ez]; exact ej
                rw [ep] at e3
                have := congrArg List.length e3
                simp at this
              · have h5 := hb.path_less (i := k) j h hj
                have e3 : pathL b k = up ++ [w] := by rw [← ep, ez]
                rw [e3, ej] at h5
                have h6 := pless_more up [w] (by simp)
                rw [pless_asymm h6] at h5
                cases h5
            have hmem : (up, (at_ b j).mark) ∈ (entries b).take k := by
              rw [List.mem_take_iff_getElem]
              refine ⟨j, by rw [entries_len]; omega, ?_⟩
              rw [entries_at b j hj, ej]
            obtain ⟨i, hi, e, _⟩ := (mem_entries u up _).1 ((h3 (up, (at_ b j).mark)).2 (.inr ⟨hmem, hia⟩))
            exact .inr ⟨i, hi, e⟩
      have hdeep := S.RightN.path_deep hb hkb
      have hlong := S.RightN.path_long hb k k (Nat.le_refl _) hkb
      have e3 : pathL b k = up ++ [w] := by rw [← ep, ez]
      rw [e3] at hdeep hlong
      have hmk := hb.mark k hkb
      have ezm : z.2 = (at_ b k).mark := by rw [ez]
      have hdl : up.length < 16 := by rw [List.length_append, List.length_singleton] at hdeep; omega
      have hu201 : RightN 201 u := h2.mono (by have := h2.len; omega)
      obtain ⟨p1, p2⟩ := hu201.putL (m := z.2) hop hno (by have := h2.len; omega) hdl (hlong w (by simp)) (by rw [ezm]; exact hmk)
      have hlen : (putL u up w z.2).length ≤ b.length := fewer p1 hb (fun p hp => by
        obtain ⟨m, hm2⟩ := isIn_entries.1 hp
        rcases (p2 (p, m)).1 hm2 with e | e
        · have e4 : p = up ++ [w] := congrArg Prod.fst e
          rw [e4, ← ep]; exact isIn_of hzb
        · rcases (h3 (p, m)).1 e with h | ⟨h, _⟩
          · exact ((hm _).1 h).2
          · exact isIn_of (x := (p, m)) (List.mem_of_mem_take h))
      rw [putL_len] at hlen
      have hb200 := hb.len
      refine ⟨putL u up w z.2, ?_, p1.mono (by rw [putL_len]; omega), fun x => ?_⟩
      · rw [if_pos rfl]
        exact run_snoc h1 ⟨by show 0 ≤ z.2 ∧ z.2 ≤ 3; rw [ezm]; exact hmk, .inr (.inl ⟨rfl, by omega, up, w, ep, hop, hno, hlong, hdeep.2, rfl⟩)⟩
      · rw [p2 x, h3 x, List.mem_append, List.mem_singleton, ← ep]
        constructor
        · rintro (e | e | ⟨e1, e2⟩)
          · have e4 : x = z := e
            exact .inr ⟨.inr e4, by rw [e4]; exact hza⟩
          · exact .inl e
          · exact .inr ⟨.inl e1, e2⟩
        · rintro (e | ⟨e1 | e1, e2⟩)
          · exact .inr (.inl e)
          · exact .inr (.inr ⟨e1, e2⟩)
          · exact .inl e1
/-- Then the marks. -/
theorem run_marks {a b t : List Ln} (ha : RightT a) (hb : RightT b) (ht : RightT t) (hm : ∀ x, x ∈ entries t ↔ (x ∈ entries a ∧ isIn b x.1) ∨ (x ∈ entries b ∧ ¬ isIn a x.1)) : ∀ k, k ≤ (entries b).length → ∃ u, RunOk t (marksL a ((entries b).take k)) u ∧ RightT u ∧ ∀ x, x ∈ entries u ↔ x ∈ (entries b).take k ∨ (x ∈ entries t ∧ ∀ y ∈ (entries b).take k, y.1 ≠ x.1)
  | 0, _ => ⟨t, rfl, ht, fun x => ⟨fun h => .inr ⟨h, fun y hy => by simp at hy⟩, fun h => by
      rcases h with h | h
      · simp at h
      · exact h.1⟩⟩
  | k + 1, hk => by
    obtain ⟨u, h1, h2, h3⟩ := run_marks ha hb ht hm k (by omega)
    have hkl : k < (entries b).length := by omega
    have hkb : k < b.length := by rw [entries_len] at hkl; exact hkl
    obtain ⟨z, hz⟩ : ∃ z, (entries b)[k] = z := ⟨_, rfl⟩
    have hzb : z ∈ entries b := hz ▸ List.getElem_mem hkl
    have hnew : ∀ y ∈ (entries b).take k, y.1 ≠ z.1 := by
      intro y hy e
      obtain ⟨j, hj, ej⟩ := List.getElem_of_mem hy
      rw [List.length_take] at hj
      rw [List.getElem_take] at ej
      have := hb.sorted j k hkl (by omega)
      rw [ej, hz, e, pless_irr] at this
      cases this
    rw [List.take_succ_eq_append_getElem hkl, hz, marksL_next]
    cases hg : markB a z with
    | false =>
      -- it has its mark
      have hzt : z ∈ entries t := by
        refine (hm z).2 ?_
        by_cases hia : isIn a z.1
        · refine .inl ⟨?_, isIn_of hzb⟩
          unfold markB at hg
          rw [inB_yes.2 hia, Bool.true_and, bne_eq_false_iff_eq] at hg
          obtain ⟨m, hm2⟩ := isIn_entries.1 hia
          have := ha.mark_of hm2
          rw [hg] at this
          have e : m = z.2 := this.symm
          rw [e] at hm2
          exact hm2
        · exact .inr ⟨hzb, hia⟩
      refine ⟨u, by rw [if_neg (by simp), List.append_nil]; exact h1, h2, fun x => ?_⟩
      rw [h3 x, List.mem_append, List.mem_singleton]
      constructor
      · rintro (e | ⟨e1, e2⟩)
        · exact .inl (.inl e)
        · by_cases he : x.1 = z.1
          · have e4 : x = z := Prod.ext he (by
              have : (z.1, x.2) ∈ entries t := by rw [← he]; exact e1
              exact ht.one_mark this hzt)
            exact .inl (.inr e4)
          · refine .inr ⟨e1, fun y hy => ?_⟩
            rcases List.mem_append.1 hy with hy | hy
            · exact e2 y hy
            · rw [List.mem_singleton.1 hy]; exact fun e => he e.symm
      · rintro ((e | e) | ⟨e1, e2⟩)
        · exact .inl e
        · rw [e]; exact .inr ⟨hzt, hnew⟩
        · exact .inr ⟨e1, fun y hy => e2 y (List.mem_append_left _ hy)⟩
    | true =>
      unfold markB at hg
      rw [Bool.and_eq_true, inB_yes] at hg
      obtain ⟨m, hm2⟩ := isIn_entries.1 hg.1
      have hzu : (z.1, m) ∈ entries u := (h3 _).2 (.inr ⟨(hm (z.1, m)).2 (.inl ⟨hm2, (isIn_of hzb : isIn b z.1)⟩), hnew⟩)
      obtain ⟨i, hi, ei, _⟩ := (mem_entries u z.1 m).1 hzu
      have hmk := hb.mark k hkb
      have ezm : z.2 = (at_ b k).mark := by rw [← hz, entries_at b k hkb]
      refine ⟨S.setM u i z.2, ?_, S.RightT.setM h2 hi (by rw [ezm]; exact hmk), fun x => ?_⟩
      · rw [if_pos rfl]
        exact run_snoc h1 ⟨by show 0 ≤ z.2 ∧ z.2 ≤ 3; rw [ezm]; exact hmk, .inr (.inr ⟨rfl, i, hi, ei, rfl⟩)⟩
      · rw [mark_entries h2 hi, ei, h3 x, List.mem_append, List.mem_singleton]
        constructor
        · rintro (⟨e | ⟨e1, e2⟩, e3⟩ | e)
          · exact .inl (.inl e)
          · refine .inr ⟨e1, fun y hy => ?_⟩
            rcases List.mem_append.1 hy with hy | hy
            · exact e2 y hy
            · rw [List.mem_singleton.1 hy]; exact fun e => e3 e.symm
          · exact .inl (.inr e)
        · rintro ((e | e) | ⟨e1, e2⟩)
          · exact .inl ⟨.inl e, hnew x e⟩
          · exact .inr e
          · exact .inl ⟨.inr ⟨e1, fun y hy => e2 y (List.mem_append_left _ hy)⟩, fun e => e2 z (List.mem_append_right _ (by simp)) e.symm⟩
/-- The first tree, with the difference applied, is the second one. -/
theorem diff_runs {a b : List Ln} (ha : RightT a) (hb : RightT b) : RunOk a (diffL a b) b := by
  obtain ⟨t, g1, g2, g3⟩ := run_gone ha hb (entries a).length (Nat.le_refl _)
  rw [List.take_length] at g1 g3
  have g4 : ∀ x, x ∈ entries t ↔ x ∈ entries a ∧ isIn b x.1 := fun x => by rw [g3 x, gone_left ha hb x]
  obtain ⟨u, a1, a2, a3⟩ := run_adds hb g2 g4 (entries b).length (Nat.le_refl _)
  rw [List.take_length] at a1 a3
  have a4 : ∀ x, x ∈ entries u ↔ (x ∈ entries a ∧ isIn b x.1) ∨ (x ∈ entries b ∧ ¬ isIn a x.1) := fun x => by rw [a3 x, g4 x]
  obtain ⟨v, m1, m2, m3⟩ := run_marks ha hb a2 a4 (entries b).length (Nat.le_refl _)
  rw [List.take_length] at m1 m3
  have e : v = b := RightN.ext m2 hb fun x => by
    rw [m3 x]
    constructor
    · rintro (h | ⟨h1, h2⟩)
      · exact h
      · rcases (a4 x).1 h1 with ⟨_, h⟩ | ⟨h, _⟩
        · obtain ⟨m, hm⟩ := isIn_entries.1 h
          exact absurd rfl (h2 (x.1, m) hm)
        · exact h
    · exact .inl
  rw [e] at m1
  exact run_app (run_app g1 a1) m1
/-- There is none just between equal trees. -/
theorem diff_none {a b : List Ln} (ha : RightT a) (hb : RightT b) : diffL a b = [] ↔ a = b := by
  constructor
  · intro h
    have := diff_runs ha hb
    rw [h] at this
    exact this
  · rintro rfl
    have h1 : goneL a (entries a) = [] := by
      unfold goneL
      rw [List.filter_eq_nil_iff.2 fun x hx => by unfold goneB; rw [inB_yes.2 (isIn_of hx)]; simp]
      rfl
    have h2 : addsL a (entries a) = [] := by
      unfold addsL
      rw [List.filter_eq_nil_iff.2 fun x hx => by rw [inB_yes.2 (isIn_of hx)]; simp]
      rfl
    have h3 : marksL a (entries a) = [] := by
      unfold marksL
      rw [List.filter_eq_nil_iff.2 fun x hx => by unfold markB; rw [ha.mark_of hx]; simp]
      rfl
    unfold diffL
    rw [h1, h2, h3]; rfl
end Go.Proofs.YtgjnafnmdieniaaDoor.T
