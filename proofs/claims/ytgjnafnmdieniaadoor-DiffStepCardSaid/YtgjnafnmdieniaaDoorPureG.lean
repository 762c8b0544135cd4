/-
  Plain laws of layer 7 (edit), second part: what the document's answer to each act is; what follows. Condition: a tree.
-/
import Derived.Test.YtgjnafnmdieniaaDoorPureE

namespace Go.Proofs.YtgjnafnmdieniaaDoor.T

theorem pre_trans {p q r : Pth} (h1 : pre p q) (h2 : pre q r) : pre p r := by
  obtain ⟨s, rfl⟩ := pre_iff.1 h1
  obtain ⟨x, rfl⟩ := pre_iff.1 h2
  exact pre_iff.2 ⟨s ++ x, by rw [List.append_assoc]⟩
theorem pre_len {p q : Pth} (h : pre p q) : p.length ≤ q.length := by
  obtain ⟨s, rfl⟩ := pre_iff.1 h
  rw [List.length_append]; omega
theorem pre_take {p q : Pth} {k : Nat} (h : pre p q) (hk : p.length ≤ k) : pre p (q.take k) := by
  unfold pre at h ⊢
  rw [List.take_take, Nat.min_eq_left hk, h]
theorem pre_two {p q r : Pth} (h1 : pre p r) (h2 : pre q r) (hl : p.length ≤ q.length) : pre p q := by
  unfold pre at h1 h2 ⊢
  rw [← h2, List.take_take, Nat.min_eq_left hl, h1]
/-- The same entries: the same tree. -/
theorem Moved.same {t u v : List Ln} {p : Pth} {w : List UInt8} (a : Moved t p w u) (b : Moved t p w v) : u = v := RightN.ext a.right b.right fun x => by rw [a.mem x, b.mem x]
theorem Copied.same {t u v : List Ln} {p : Pth} {w : List UInt8} (a : Copied t p w u) (b : Copied t p w v) : u = v := RightN.ext a.right b.right fun x => by rw [a.mem x, b.mem x]
theorem newP_self {p : Pth} (_hp : p ≠ []) (w : List UInt8) (q : Pth) : pre (p.dropLast ++ [w]) (newP p w q) := by
  unfold newP; exact pre_app _ _
theorem newP_back {p : Pth} (hp : p ≠ []) (w : List UInt8) {q : Pth} (h : pre p q) : newP (p.dropLast ++ [w]) (p.getLastD []) (newP p w q) = q := by
  unfold newP
  rw [List.dropLast_concat]
  have e : (p.dropLast ++ [w] ++ q.drop p.length).drop (p.dropLast ++ [w]).length = q.drop p.length := List.drop_left
  rw [e]
  obtain ⟨r, v, er⟩ := snoc_of hp
  have e2 : p.dropLast ++ [p.getLastD []] = p := by rw [er, List.dropLast_concat, last_snoc]
  rw [e2, pre_split h]
theorem newP_inj {p : Pth} {w : List UInt8} {q r : Pth} (hq : pre p q) (hr : pre p r) (e : newP p w q = newP p w r) : q = r := by
  unfold newP at e
  rw [← pre_split hq, ← pre_split hr, List.append_cancel_left e]
/-- No path of the tree begins with a path that isn't there. -/
theorem RightN.none_pre {N : Nat} {t : List Ln} (h : RightN N t) {p : Pth} (hp : p ≠ []) (hno : ∀ i, i < t.length → pathL t i ≠ p) {x : Pth × Int} (hx : x ∈ entries t) : ¬ pre p x.1 := by
  intro hpre
  obtain ⟨i, hi, e, _⟩ := (mem_entries t x.1 x.2).1 hx
  obtain ⟨k, hk, ek⟩ := h.path_take i i p.length (Nat.le_refl _) hi (List.length_pos_iff.2 hp) (by rw [e]; exact pre_len hpre)
  exact hno k hk (by rw [ek, e]; exact hpre)
/-- A part that is moved, and moved back. -/
theorem Moved.back {t u : List Ln} (h : RightT t) {p : Pth} (hp : p ≠ []) {w : List UInt8} (hno : ∀ i, i < t.length → pathL t i ≠ p.dropLast ++ [w]) (m : Moved t p w u) : Moved u (p.dropLast ++ [w]) (p.getLastD []) t := by
  have hq : p.dropLast ++ [w] ≠ [] := by simp
  refine ⟨h, m.len.symm, fun x => ?_⟩
  constructor
  · intro hx
    by_cases hpx : pre p x.1
    · refine .inr ⟨(newP p w x.1, x.2), (m.mem _).2 (.inr ⟨x, hx, hpx, rfl⟩), newP_self hp w _, ?_⟩
      rw [newP_back hp w hpx]
    · exact .inl ⟨(m.mem x).2 (.inl ⟨hx, hpx⟩), h.none_pre hq hno hx⟩
  · rintro (⟨hx, hn⟩ | ⟨y, hy, hpy, rfl⟩)
    · rcases (m.mem x).1 hx with ⟨h1, _⟩ | ⟨y, hy, hpy, rfl⟩
      · exact h1
      · exact absurd (newP_self hp w y.1) hn
    · rcases (m.mem y).1 hy with ⟨h1, _⟩ | ⟨z, hz, hpz, rfl⟩
      · exact absurd hpy (h.none_pre hq hno h1)
      · show (newP _ _ (newP p w z.1), z.2) ∈ entries t
        rw [newP_back hp w hpz]
        exact hz
/-- A part that is copied, and its copy cut off. -/
theorem Copied.back {t u : List Ln} (h : RightT t) {p : Pth} (hp : p ≠ []) {w : List UInt8} (hno : ∀ i, i < t.length → pathL t i ≠ p.dropLast ++ [w]) (m : Copied t p w u) {b : Nat} (hb : b < u.length) (eb : pathL u b = p.dropLast ++ [w]) : cutL u b = t := by
  have hq : p.dropLast ++ [w] ≠ [] := by simp
  obtain ⟨c1, c2⟩ := m.right.cut_entries hb
  refine RightN.ext c1 h fun x => ?_
  rw [c2 x, eb, m.mem x]
  constructor
  · rintro ⟨h1 | ⟨y, hy, hpy, rfl⟩, hn⟩
    · exact h1
    · exact absurd (newP_self hp w y.1) hn
  · intro hx
    exact ⟨.inl hx, h.none_pre hq hno hx⟩
/-- Is the path of one of its lines, or of one above, Protect? -/
def Kept (t : List Ln) (p : Pth) (n : Nat) : Prop := ∃ k m, 1 ≤ k ∧ k ≤ n ∧ (p.take k, m) ∈ entries t ∧ 1 < m
/-- Is any line of the part Protect, or the path locked? -/
def Shut (t : List Ln) (p : Pth) : Prop := Kept t p p.length ∨ ∃ x ∈ entries t, pre p x.1 ∧ 1 < x.2
theorem Kept.mono {t : List Ln} {p : Pth} {n m : Nat} (h : Kept t p n) (hnm : n ≤ m) : Kept t p m := by
  obtain ⟨k, b, h1, h2, h3⟩ := h
  exact ⟨k, b, h1, by omega, h3⟩
theorem Kept.pre {t : List Ln} {p q : Pth} (hp : pre p q) {n : Nat} (hn : n ≤ p.length) : Kept t p n ↔ Kept t q n := by
  have e : ∀ k, k ≤ n → p.take k = q.take k := by
    intro k hk
    obtain ⟨s, rfl⟩ := pre_iff.1 hp
    rw [List.take_append, show k - p.length = 0 by omega, List.take_zero, List.append_nil]
  constructor
  · rintro ⟨k, b, h1, h2, h3, h4⟩; exact ⟨k, b, h1, h2, by rw [← e k h2]; exact h3, h4⟩
  · rintro ⟨k, b, h1, h2, h3, h4⟩; exact ⟨k, b, h1, h2, by rw [e k h2]; exact h3, h4⟩
/-- What is locked isn't in a part that is not shut. -/
theorem kept_free {t : List Ln} {p q : Pth} (hs : ¬ Shut t p) (hpq : pre p q) : ¬ Kept t q q.length := by
  rintro ⟨k, b, h1, h2, h3, h4⟩
  rcases Nat.lt_or_ge k p.length with hk | hk
  · exact hs (.inl ((Kept.pre hpq (Nat.le_refl _)).2 ⟨k, b, h1, by omega, h3, h4⟩))
  · exact hs (.inr ⟨_, h3, pre_take hpq hk, h4⟩)
end Go.Proofs.YtgjnafnmdieniaaDoor.T

namespace Go.Proofs.YtgjnafnmdieniaaDoor.T
/-- Where the next line of a part goes there is a line above it. -/
theorem put_open {N : Nat} {u : List Ln} (h : RightN N u) {up : Pth} {w : List UInt8} (hw : w.length ≤ 40) (hop : Open u up) (hno : ∀ i, i < u.length → pathL u i ≠ up ++ [w]) {s : List (Pth × Int)} (hs : PartOk (up ++ [w]) s) (hN : u.length + s.length ≤ N) {k : Nat} (hks : k < s.length) :
    Open (putAll (up ++ [w]) u (s.take k)) (up ++ [w] ++ s[k].1).dropLast := by
  obtain ⟨r1, r2, r3⟩ := put_part h hw hop hno hs hN k (by omega)
  rcases hs.up k hks with e | ⟨j, hjk, e⟩
  · rw [e, List.append_nil, List.dropLast_concat]
    rcases hop with h0 | ⟨i, hi, ei⟩
    · exact .inl h0
    · obtain ⟨i2, h2, e2, _⟩ := (mem_entries _ _ _).1 ((r3 (up, (at_ u i).mark)).2 (.inl ((mem_entries u _ _).2 ⟨i, hi, ei, rfl⟩)))
      exact .inr ⟨i2, h2, e2⟩
  · by_cases hz : s[k].1 = []
    · exact absurd (by rw [hz] at e; exact e.trans (by rw [hz]; rfl)) (hs.inj j k hjk hks)
    · rw [List.dropLast_append_of_ne_nil hz, ← e]
      obtain ⟨i2, h2, e2, _⟩ := (mem_entries _ _ _).1 ((r3 (up ++ [w] ++ (s[j]'(by omega)).1, (s[j]'(by omega)).2)).2 (.inr ⟨j, hjk, by omega, rfl⟩))
      exact .inr ⟨i2, h2, e2⟩
/-- A part's own paths, as the document's answer takes them. -/
theorem RightN.part_sub {N : Nat} {t : List Ln} (h : RightN N t) {a : Nat} (ha : a < t.length) {k : Nat} (hk : k < (partE t a).length) : (partE t a)[k] = ((pathL (subL t a) k).drop 1, (at_ (subL t a) k).mark) := by
  have hl := part_len ha
  obtain ⟨g1, g2, _⟩ := end_spec t a ha
  have h1 := h.path_len a a (Nat.le_refl _) ha
  have h2 := h.deep a ha
  rw [part_at ha hk, h.sub_path a ha k k (Nat.le_refl _) (by omega), List.drop_drop, sub_at t a k ha (by omega)]
  rw [show (dp t a).toNat + 1 = (pathL t a).length by omega]
end Go.Proofs.YtgjnafnmdieniaaDoor.T
