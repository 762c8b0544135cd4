/-
  Plain laws of layer 8 (diff), second part: no path stands twice in a difference, nor one under one that is gone; what a path that is added is told by; the text of changes. Condition: trees.
-/
import Derived.Test.YtgjnafnmdieniaaDoorPureI

namespace Go.Proofs.YtgjnafnmdieniaaDoor.T

theorem mem_gone {b : List Ln} {l : List (Pth × Int)} {c : Chg} : c ∈ goneL b l ↔ ∃ x ∈ l, goneB b x.1 = true ∧ c = ⟨1, x.1, 0⟩ := by
  unfold goneL
  rw [List.mem_map]
  constructor
  · rintro ⟨x, hx, rfl⟩
    obtain ⟨h1, h2⟩ := List.mem_filter.1 hx
    exact ⟨x, h1, h2, rfl⟩
  · rintro ⟨x, h1, h2, rfl⟩
    exact ⟨x, List.mem_filter.2 ⟨h1, h2⟩, rfl⟩
theorem mem_adds {a : List Ln} {l : List (Pth × Int)} {c : Chg} : c ∈ addsL a l ↔ ∃ x ∈ l, ¬ isIn a x.1 ∧ c = ⟨2, x.1, x.2⟩ := by
  unfold addsL
  rw [List.mem_map]
  constructor
  · rintro ⟨x, hx, rfl⟩
    obtain ⟨h1, h2⟩ := List.mem_filter.1 hx
    exact ⟨x, h1, inB_no.1 (by simpa using h2), rfl⟩
  · rintro ⟨x, h1, h2, rfl⟩
    exact ⟨x, List.mem_filter.2 ⟨h1, by rw [inB_no.2 h2]; rfl⟩, rfl⟩
theorem mem_marks {a : List Ln} {l : List (Pth × Int)} {c : Chg} : c ∈ marksL a l ↔ ∃ x ∈ l, markB a x = true ∧ c = ⟨3, x.1, x.2⟩ := by
  unfold marksL
  rw [List.mem_map]
  constructor
  · rintro ⟨x, hx, rfl⟩
    obtain ⟨h1, h2⟩ := List.mem_filter.1 hx
    exact ⟨x, h1, h2, rfl⟩
  · rintro ⟨x, h1, h2, rfl⟩
    exact ⟨x, List.mem_filter.2 ⟨h1, h2⟩, rfl⟩
theorem gone_no {b : List Ln} {p : Pth} (h : goneB b p = true) : ¬ isIn b p := by
  unfold goneB at h
  rw [Bool.and_eq_true, Bool.not_eq_true', inB_no] at h
  exact h.1
theorem mark_in {a : List Ln} {x : Pth × Int} (h : markB a x = true) : isIn a x.1 := by
  unfold markB at h
  rw [Bool.and_eq_true, inB_yes] at h
  exact h.1
/-- Paths of a part of a tree's lines are unlike. -/
theorem paths_apart {N : Nat} {t : List Ln} (h : RightN N t) (f : Pth × Int → Bool) (g : Pth × Int → Chg) (hg : ∀ x, (g x).path = x.1) : (((entries t).filter f).map g).Pairwise fun x y => x.path ≠ y.path := by
  rw [List.pairwise_map]
  refine List.Pairwise.imp ?_ (((sorted_iff _).1 h.sorted).filter f)
  intro x y hxy e
  rw [hg, hg] at e
  rw [e, pless_irr] at hxy
  cases hxy
/-- No path stands twice. -/
theorem diff_apart {a b : List Ln} (ha : RightT a) (hb : RightT b) : (diffL a b).Pairwise fun x y => x.path ≠ y.path := by
  unfold diffL
  rw [List.pairwise_append, List.pairwise_append]
  refine ⟨⟨paths_apart ha _ _ fun _ => rfl, paths_apart hb _ _ fun _ => rfl, ?_⟩, paths_apart hb _ _ fun _ => rfl, ?_⟩
  · intro x hx y hy e
    obtain ⟨u, hu, hg, rfl⟩ := mem_gone.1 hx
    obtain ⟨v, hv, hg2, rfl⟩ := mem_adds.1 hy
    have e2 : u.1 = v.1 := e
    exact gone_no hg (by rw [e2]; exact isIn_of hv)
  · intro x hx y hy e
    obtain ⟨v, hv, hg2, rfl⟩ := mem_marks.1 hy
    rcases List.mem_append.1 hx with hx | hx
    · obtain ⟨u, hu, hg, rfl⟩ := mem_gone.1 hx
      have e2 : u.1 = v.1 := e
      exact gone_no hg (by rw [e2]; exact isIn_of hv)
    · obtain ⟨u, hu, hg, rfl⟩ := mem_adds.1 hx
      have e2 : u.1 = v.1 := e
      exact hg (by rw [e2]; exact mark_in hg2)
/-- None stands under one that is gone. -/
theorem diff_under {a b : List Ln} (_ha : RightT a) (hb : RightT b) {x y : Chg} (hx : x ∈ diffL a b) (hy : y ∈ diffL a b) (hk : x.kind = 1) (hp : pre x.path y.path) : x.path = y.path := by
  unfold diffL at hx hy
  rw [List.mem_append, List.mem_append] at hx hy
  rcases hx with (hx | hx) | hx
  · obtain ⟨u, hu, hg, rfl⟩ := mem_gone.1 hx
    have hp2 : pre u.1 y.path := hp
    show u.1 = y.path
    have hune : u.1 ≠ [] := RightN.in_ne (isIn_of hu)
    rcases hy with (hy | hy) | hy
    · obtain ⟨v, hv, hg2, rfl⟩ := mem_gone.1 hy
      have hp3 : pre u.1 v.1 := hp2
      show u.1 = v.1
      refine Classical.byContradiction fun hne => ?_
      have hl : u.1.length < v.1.length := by
        rcases Nat.lt_or_ge u.1.length v.1.length with h | h
        · exact h
        · have := hp3
          unfold pre at this
          rw [List.take_of_length_le h] at this
          exact absurd this.symm hne
      have hpd : pre u.1 v.1.dropLast := by
        rw [List.dropLast_eq_take]
        exact pre_take hp3 (by omega)
      unfold goneB at hg2
      rw [Bool.and_eq_true, Bool.or_eq_true, Bool.not_eq_true', decide_eq_true_eq, inB_no, inB_yes] at hg2
      rcases hg2.2 with h0 | h0
      · have := pre_len hpd
        rw [h0] at this
        exact hune (List.eq_nil_of_length_eq_zero (by simpa using this))
      · exact gone_no hg (hb.in_pre hune h0 hpd)
    · obtain ⟨v, hv, _, rfl⟩ := mem_adds.1 hy
      exact absurd (hb.in_pre hune (isIn_of hv) hp2) (gone_no hg)
    · obtain ⟨v, hv, _, rfl⟩ := mem_marks.1 hy
      exact absurd (hb.in_pre hune (isIn_of hv) hp2) (gone_no hg)
  · obtain ⟨u, hu, hg, rfl⟩ := mem_adds.1 hx
    exact absurd (show (2 : Int) = 1 from hk) (by decide)
  · obtain ⟨u, hu, hg, rfl⟩ := mem_marks.1 hx
    exact absurd (show (3 : Int) = 1 from hk) (by decide)
theorem filter_two {α : Type} (f g : α → Bool) (h : ∀ x, f x = true → g x = false) : ∀ l : List α, (l.filter f).length + (l.filter g).length ≤ l.length
  | [] => Nat.le_refl _
  | x :: l => by
    have ih := filter_two f g h l
    rw [List.filter_cons, List.filter_cons, List.length_cons]
    have hx := h x
    cases hf : f x <;> cases hg : g x
    · simp; omega
    · simp; omega
    · simp; omega
    · rw [hx hf] at hg; cases hg
theorem diff_len (a b : List Ln) : (diffL a b).length ≤ a.length + b.length := by
  unfold diffL goneL addsL marksL
  rw [List.length_append, List.length_append, List.length_map, List.length_map, List.length_map]
  have h1 := List.length_filter_le (fun x => goneB b x.1) (entries a)
  have h2 := filter_two (fun x : Pth × Int => !(inB a x.1)) (fun x => markB a x) (fun x hx => by
    unfold markB
    simp at hx
    rw [hx]; rfl) (entries b)
  rw [entries_len] at h1 h2
  omega
/-- A change's path and mark are good ones. -/
theorem diff_good {a b : List Ln} (ha : RightT a) (hb : RightT b) {c : Chg} (hc : c ∈ diffL a b) : (1 ≤ c.kind ∧ c.kind ≤ 3) ∧ (0 ≤ c.mark ∧ c.mark ≤ 3) ∧ (0 < c.path.length ∧ c.path.length ≤ 16) ∧ ∀ w ∈ c.path, w.length ≤ 40 := by
  have good : ∀ {t : List Ln}, RightT t → ∀ {x : Pth × Int}, x ∈ entries t → (0 ≤ x.2 ∧ x.2 ≤ 3) ∧ (0 < x.1.length ∧ x.1.length ≤ 16) ∧ ∀ w ∈ x.1, w.length ≤ 40 := by
    intro t ht x hx
    obtain ⟨i, hi, e, em⟩ := (mem_entries t x.1 x.2).1 hx
    rw [← e, ← em]
    exact ⟨ht.mark i hi, S.RightN.path_deep ht hi, S.RightN.path_long ht i i (Nat.le_refl _) hi⟩
  unfold diffL at hc
  rw [List.mem_append, List.mem_append] at hc
  rcases hc with (hc | hc) | hc
  · obtain ⟨u, hu, _, rfl⟩ := mem_gone.1 hc
    have := good ha hu
    exact ⟨(by decide : (1 : Int) ≤ 1 ∧ (1 : Int) ≤ 3), (by decide : (0 : Int) ≤ 0 ∧ (0 : Int) ≤ 3), this.2⟩
  · obtain ⟨u, hu, _, rfl⟩ := mem_adds.1 hc
    exact ⟨(by decide : (1 : Int) ≤ 2 ∧ (2 : Int) ≤ 3), good hb hu⟩
  · obtain ⟨u, hu, _, rfl⟩ := mem_marks.1 hc
    exact ⟨(by decide : (1 : Int) ≤ 3 ∧ (3 : Int) ≤ 3), good hb hu⟩
/-- A path that is added is told by as many Adds as lines are new. -/
theorem diff_step {t : List Ln} (h : RightT t) {p : Pth} (hp : p.length ≤ 16) (hw : ∀ w ∈ p, w.length ≤ 40) (h200 : (addL t p).length ≤ 200) :
    ∃ n, n ≤ p.length ∧ (addL t p).length = t.length + (p.length - n) ∧ diffL t (addL t p) = (List.range (p.length - n)).map fun i => ⟨2, p.take (n + i + 1), 0⟩ := by
  have hR := add_right h hp hw h200
  have hm := (add_is h hp hw).mem
  have hin : ∀ q, isIn t q → isIn (addL t p) q := fun q hq => by
    obtain ⟨m, hm2⟩ := isIn_entries.1 hq
    exact isIn_of ((hm (q, m)).2 (.inl hm2))
  have hgone : goneL (addL t p) (entries t) = [] := by
    unfold goneL
    rw [List.filter_eq_nil_iff.2 fun x hx => by unfold goneB; rw [inB_yes.2 (hin _ (isIn_of hx))]; simp]
    rfl
  have hmarks : marksL t (entries (addL t p)) = [] := by
    unfold marksL
    rw [List.filter_eq_nil_iff.2 fun x hx => by
      unfold markB
      rcases (hm x).1 hx with h1 | ⟨j, _, rfl, h2⟩
      · rw [h.mark_of h1]; simp
      · rw [inB_no.2 fun ⟨i, hi, e⟩ => h2 i hi e]; simp]
    rfl
  have hle := known_le t p p.length
  refine ⟨knownN t p p.length, hle, add_len h hp hw, ?_⟩
  unfold diffL
  rw [hgone, hmarks, List.nil_append, List.append_nil]
  rcases Nat.eq_or_lt_of_le hle with e | hlt
  · rw [e, Nat.sub_self, add_known h hp hw e]
    unfold addsL
    rw [List.filter_eq_nil_iff.2 fun x hx => by rw [inB_yes.2 (isIn_of hx)]; simp]
    rfl
  · obtain ⟨q1, q2⟩ := add_placed h hp hw rfl hlt rfl
    obtain ⟨n, hn⟩ : ∃ n, knownN t p p.length = n := ⟨_, rfl⟩
    rw [hn] at q1 q2 hlt ⊢
    have ho := known_open t p p.length
    have hno := known_no t p p.length
    rw [hn] at ho hno
    obtain ⟨hu, hpi⟩ := ho.up h
    have hq := take_next p n hlt
    obtain ⟨_, r2, r3⟩ := h.place hu (w := p.getD n []) (fun c hc hcu e => by
      refine hno (n + 1) (by omega) (by omega) c hc ?_
      rw [path_under t c, hcu, hpi, e, hq])
    rw [hpi, hq] at r2 r3
    have hg := fresh_good h hp hw q1 ho r2 r3 (p.length - n) (by omega)
    obtain ⟨P, hP⟩ : ∃ P, placeTo t (p.getD n []) (findI t (p.take n) + 1).toNat (kidsL t (findI t (p.take n))) = P := ⟨_, rfl⟩
    rw [hP] at q1 q2 hg
    have e : addL t p = ofP ((entries t).take P ++ freshP p n (p.length - n) ++ (entries t).drop P) := by
      rw [← q2, ← ofP_fresh p n (p.length - n) (by omega)]
      have e1 := h.ofP_entries
      unfold ofP at e1 ⊢
      rw [List.map_append, List.map_append, List.map_take, List.map_drop, e1]
    rw [e, hg.entries]
    have f1 : ∀ l : List (Pth × Int), (∀ x ∈ l, x ∈ entries t) → addsL t l = [] := by
      intro l hl
      unfold addsL
      rw [List.filter_eq_nil_iff.2 fun x hx => by rw [inB_yes.2 (isIn_of (hl x hx))]; simp]
      rfl
    have f2 : addsL t (freshP p n (p.length - n)) = (List.range (p.length - n)).map fun i => ⟨2, p.take (n + i + 1), 0⟩ := by
      unfold addsL
      rw [List.filter_eq_self.2 fun x hx => by
        obtain ⟨j, hj, rfl⟩ := (mem_fresh ..).1 hx
        rw [inB_no.2 fun ⟨i, hi, e⟩ => hno (n + j + 1) (by omega) (by omega) i hi e]; rfl]
      unfold freshP
      rw [List.map_map]
      rfl
    have f3 : ∀ l m : List (Pth × Int), addsL t (l ++ m) = addsL t l ++ addsL t m := by
      intro l m
      unfold addsL
      rw [List.filter_append, List.map_append]
    rw [f3, f3, f1 _ fun x hx => List.mem_of_mem_take hx, f1 _ fun x hx => List.mem_of_mem_drop hx, f2, List.nil_append, List.append_nil]

/-- The digits of a number. -/
def decL (n : Nat) : List UInt8 := if n < 10 then [UInt8.ofNat (48 + n)] else decL (n / 10) ++ [UInt8.ofNat (48 + n % 10)]
termination_by n
decreasing_by omega
theorem decL_small {n : Nat} (h : n < 10) : decL n = [UInt8.ofNat (48 + n)] := by rw [decL, if_pos h]
theorem decL_big {n : Nat} (h : 10 ≤ n) : decL n = decL (n / 10) ++ [UInt8.ofNat (48 + n % 10)] := by rw [decL, if_neg (by omega)]
theorem decL_len : ∀ (k n : Nat), n < 10 ^ (k + 1) → (decL n).length ≤ k + 1
  | 0, n, h => by rw [decL_small (by simpa using h)]; simp
  | k + 1, n, h => by
    rcases Nat.lt_or_ge n 10 with h1 | h1
    · rw [decL_small h1]; simp
    · rw [decL_big h1, List.length_append, List.length_singleton]
      have := decL_len k (n / 10) (by rw [Nat.pow_succ] at h; omega)
      omega
/-- The text of a change, of changes. -/
def signD (k : Int) : UInt8 := if k = 1 then 45 else if k = 2 then 43 else if k = 3 then 33 else 63
def wordD (w : List UInt8) : List UInt8 := if w.length ≤ 40 then W.quoteL w else []
def wordsD (p : Pth) : List UInt8 := p.flatMap fun w => 32 :: wordD w
def toldD (c : Chg) : Bool := decide (c.kind < 1) || decide (2 < c.kind) || (c.kind == 2 && c.mark != 0)
def rowD (c : Chg) : List UInt8 := signD c.kind :: wordsD c.path ++ (if toldD c = true then [32, 40] ++ decL c.mark.toNat ++ [41] else []) ++ [10]
def textD (l : List Chg) : List UInt8 := l.flatMap rowD
theorem wordsD_snoc (p : Pth) (w : List UInt8) : wordsD (p ++ [w]) = wordsD p ++ 32 :: wordD w := by simp [wordsD]
theorem textD_snoc (l : List Chg) (c : Chg) : textD (l ++ [c]) = textD l ++ rowD c := by simp [textD]
theorem wordD_len (w : List UInt8) : (wordD w).length ≤ 162 := by
  unfold wordD
  by_cases h : w.length ≤ 40
  · rw [if_pos h]
    have := (W.quote_len w).2
    omega
  · rw [if_neg h]; simp
theorem wordsD_len (p : Pth) : (wordsD p).length ≤ 163 * p.length := by
  induction p with
  | nil => simp [wordsD]
  | cons w p ih =>
    have e : wordsD (w :: p) = 32 :: wordD w ++ wordsD p := by simp [wordsD]
    have := wordD_len w
    rw [e, List.length_append, List.length_cons, List.length_cons]
    omega
end Go.Proofs.YtgjnafnmdieniaaDoor.T
