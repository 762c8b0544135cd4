/-
  Plain laws on lines for layer 3 (tree): the order of words; where a part ends; a part is a tree, and its paths; the first lines of a tree are one, and so is a tree without a part. Condition: a tree.
-/
import Derived.Test.YtokhflpeeibeeaaTreePure
namespace Go.Proofs.Ytokhflpeeibeeaa.T

theorem less_trans : ∀ a b c : List UInt8, Op.bytesLess a b = true → Op.bytesLess b c = true → Op.bytesLess a c = true
  | _, [], _, h, _ => by simp [Op.bytesLess] at h
  | _, _ :: _, [], _, h => by simp [Op.bytesLess] at h
  | [], _ :: _, _ :: _, _, _ => by simp [Op.bytesLess]
  | x :: a, y :: b, z :: c, h1, h2 => by
    simp only [Op.bytesLess, Bool.or_eq_true, decide_eq_true_eq, Bool.and_eq_true, beq_iff_eq, UInt8.lt_iff_toNat_lt] at h1 h2 ⊢
    rcases h1 with h1 | ⟨rfl, h1⟩
    · rcases h2 with h2 | ⟨rfl, h2⟩
      · exact .inl (by omega)
      · exact .inl h1
    · rcases h2 with h2 | ⟨rfl, h2⟩
      · exact .inl h2
      · exact .inr ⟨rfl, less_trans a b c h1 h2⟩
theorem less_tri : ∀ a b : List UInt8, Op.bytesLess a b = true ∨ a = b ∨ Op.bytesLess b a = true
  | [], [] => .inr (.inl rfl)
  | [], _ :: _ => .inl (by simp [Op.bytesLess])
  | _ :: _, [] => .inr (.inr (by simp [Op.bytesLess]))
  | x :: a, y :: b => by
    simp only [Op.bytesLess, Bool.or_eq_true, decide_eq_true_eq, Bool.and_eq_true, beq_iff_eq, UInt8.lt_iff_toNat_lt, List.cons.injEq]
    rcases Nat.lt_trichotomy x.toNat y.toNat with h | h | h
    · exact .inl (.inl h)
    · obtain rfl := UInt8.toNat_inj.1 h
      rcases less_tri a b with h | rfl | h
      · exact .inl (.inr ⟨rfl, h⟩)
      · exact .inr (.inl ⟨rfl, rfl⟩)
      · exact .inr (.inr (.inr ⟨rfl, h⟩))
    · exact .inr (.inr (.inl h))
theorem less_asymm {a b : List UInt8} (h : Op.bytesLess a b = true) : Op.bytesLess b a = false := by
  cases h2 : Op.bytesLess b a with
  | false => rfl
  | true => have := less_trans a b a h h2; rw [less_irr] at this; cases this

theorem at_drop (t : List Ln) (i j : Nat) : at_ (t.drop i) j = at_ t (i + j) := by
  unfold at_; simp [List.getD, List.getElem?_drop]
theorem at_take (t : List Ln) (k j : Nat) (h : j < k) : at_ (t.take k) j = at_ t j := by
  unfold at_; simp [List.getD, h]
theorem at_app_left (a b : List Ln) (j : Nat) (h : j < a.length) : at_ (a ++ b) j = at_ a j := by
  unfold at_ List.getD; rw [List.getElem?_append_left h]
theorem at_app_right (a b : List Ln) (j : Nat) : at_ (a ++ b) (a.length + j) = at_ b j := by
  unfold at_ List.getD; rw [List.getElem?_append_right (by omega), Nat.add_sub_cancel_left]
theorem takeWhile_len {p : Ln → Bool} : ∀ l : List Ln, (l.takeWhile p).length ≤ l.length ∧ (∀ j, j < (l.takeWhile p).length → p (at_ l j) = true) ∧ ((l.takeWhile p).length < l.length → p (at_ l (l.takeWhile p).length) = false)
  | [] => ⟨by simp, fun j h => by simp at h, fun h => by simp at h⟩
  | x :: l => by
    obtain ⟨h1, h2, h3⟩ := takeWhile_len (p := p) l
    rw [List.takeWhile_cons]
    cases hp : p x with
    | false => exact ⟨by simp, fun j h => by simp at h, fun _ => by simpa [at_] using hp⟩
    | true =>
      simp only [if_true, List.length_cons]
      refine ⟨by omega, fun j h => ?_, fun h => ?_⟩
      · match j with
        | 0 => simpa [at_] using hp
        | j + 1 => have := h2 j (by omega); simpa [at_] using this
      · have := h3 (by omega); simpa [at_] using this
/-- Where a part ends. -/
theorem end_spec (t : List Ln) (i : Nat) (hi : i < t.length) : i < endL t i ∧ endL t i ≤ t.length ∧ (∀ j, i < j → j < endL t i → dp t i < dp t j) ∧ (endL t i < t.length → dp t (endL t i) ≤ dp t i) := by
  obtain ⟨h1, h2, h3⟩ := takeWhile_len (p := fun x => decide (dp t i < x.depth)) (t.drop (i + 1))
  rw [List.length_drop] at h1 h3
  unfold endL
  refine ⟨by omega, by omega, fun j hj1 hj2 => ?_, fun h => ?_⟩
  · have := h2 (j - (i + 1)) (by omega)
    rw [at_drop] at this
    have e : i + 1 + (j - (i + 1)) = j := by omega
    rw [e] at this
    exact of_decide_eq_true this
  · have := h3 (by omega)
    rw [at_drop] at this
    have := of_decide_eq_false this
    unfold dp at this ⊢
    omega
theorem end_unique (t : List Ln) (i e : Nat) (h1 : i < e) (h2 : e ≤ t.length) (h3 : ∀ j, i < j → j < e → dp t i < dp t j) (h4 : e < t.length → dp t e ≤ dp t i) : endL t i = e := by
  obtain ⟨g1, g2, g3, g4⟩ := end_spec t i (by omega)
  rcases Nat.lt_trichotomy (endL t i) e with h | h | h
  · have := h3 _ g1 h; have := g4 (by omega); omega
  · exact h
  · have := g3 _ h1 h; have := h4 (by omega); omega

/-- A part, as lines of its own. -/
def subL (t : List Ln) (i : Nat) : List Ln := ((t.drop i).take (endL t i - i)).map fun x => ⟨x.depth - dp t i, x.word, x.mark⟩
theorem sub_len (t : List Ln) (i : Nat) (hi : i < t.length) : (subL t i).length = endL t i - i := by
  have := (end_spec t i hi).2.1
  unfold subL; simp; omega
theorem sub_at (t : List Ln) (i k : Nat) (hi : i < t.length) (hk : k < endL t i - i) : at_ (subL t i) k = ⟨dp t (i + k) - dp t i, wd t (i + k), (at_ t (i + k)).mark⟩ := by
  have h2 := (end_spec t i hi).2.1
  have hl : k < ((t.drop i).take (endL t i - i)).length := by simp; omega
  have e : at_ ((t.drop i).take (endL t i - i)) k = at_ t (i + k) := by rw [at_take _ _ _ hk, at_drop]
  unfold dp wd
  rw [← e]
  have em : ∀ (l : List Ln) (f : Ln → Ln) (h : k < l.length), at_ (l.map f) k = f (at_ l k) := by
    intro l f h
    unfold at_ List.getD
    rw [List.getElem?_map, List.getElem?_eq_getElem h]
    rfl
  unfold subL
  rw [em _ _ hl]
  rfl
theorem RightT.sub {t : List Ln} (h : RightT t) (i : Nat) (hi : i < t.length) : RightT (subL t i) := by
  obtain ⟨g1, g2, g3, g4⟩ := end_spec t i hi
  have hl := sub_len t i hi
  have d : ∀ k, k < endL t i - i → dp (subL t i) k = dp t (i + k) - dp t i := fun k hk => by unfold dp; rw [sub_at t i k hi hk]; rfl
  have w : ∀ k, k < endL t i - i → wd (subL t i) k = wd t (i + k) := fun k hk => by unfold wd; rw [sub_at t i k hi hk]; rfl
  have gt : ∀ k, k < endL t i - i → dp t i ≤ dp t (i + k) := fun k hk => by
    rcases Nat.eq_zero_or_pos k with rfl | hp
    · exact Int.le_refl _
    · have := g3 (i + k) (by omega) (by omega); omega
  have hdi := (h.deep i hi).1
  refine ⟨by have := h.len; omega, fun k hk => ?_, fun k hk => ?_, fun k hk => ?_, fun hp => ?_, fun k hk => ?_, fun a b hab hb hd hj => ?_⟩
  · rw [hl] at hk
    rw [d k hk]
    have := gt k hk
    have := h.deep (i + k) (by omega)
    omega
  · rw [hl] at hk; rw [w k hk]; exact h.long (i + k) (by omega)
  · rw [hl] at hk; rw [sub_at t i k hi hk]; exact h.mark (i + k) (by omega)
  · rw [hl] at hp; rw [d 0 hp]; simp
  · rw [hl] at hk
    rw [d k (by omega), d (k + 1) hk]
    have := h.step (i + k) (by omega)
    have e : i + k + 1 = i + (k + 1) := by omega
    rw [e] at this
    omega
  · rw [hl] at hb
    rw [w a (by omega), w b hb]
    rw [d a (by omega), d b hb] at hd
    refine h.rise (i + a) (i + b) (by omega) (by omega) (by omega) (fun j h1 h2 => ?_)
    have := hj (j - i) (by omega) (by omega)
    rw [d a (by omega), d (j - i) (by omega)] at this
    have e : i + (j - i) = j := by omega
    rw [e] at this
    omega
/-- The first lines of a tree are a tree. -/
theorem RightT.take {t : List Ln} (h : RightT t) (k : Nat) : RightT (t.take k) := by
  have hl : (t.take k).length ≤ k ∧ (t.take k).length ≤ t.length := by rw [List.length_take]; omega
  have e : ∀ j, j < (t.take k).length → at_ (t.take k) j = at_ t j := fun j hj => at_take t k j (by omega)
  have d : ∀ j, j < (t.take k).length → dp (t.take k) j = dp t j := fun j hj => by unfold dp; rw [e j hj]
  have w : ∀ j, j < (t.take k).length → wd (t.take k) j = wd t j := fun j hj => by unfold wd; rw [e j hj]
  refine ⟨by have := h.len; omega, fun j hj => ?_, fun j hj => ?_, fun j hj => ?_, fun hp => ?_, fun j hj => ?_, fun a b hab hb hd hj => ?_⟩
  · rw [d j hj]; exact h.deep j (by omega)
  · rw [w j hj]; exact h.long j (by omega)
  · rw [e j hj]; exact h.mark j (by omega)
  · rw [d 0 hp]; exact h.first (by omega)
  · rw [d j (by omega), d (j + 1) hj]; exact h.step j (by omega)
  · rw [w a (by omega), w b hb]
    rw [d a (by omega), d b hb] at hd
    refine h.rise a b hab (by omega) hd (fun j h1 h2 => ?_)
    have := hj j h1 h2
    rw [d a (by omega), d j (by omega)] at this
    exact this
/-- Under which line one of a part stands. -/
theorem sub_under (t : List Ln) (i k : Nat) (hi : i < t.length) (hk : k < endL t i - i) : underL (subL t i) k = if k = 0 then -1 else underL t (i + k) - i := by
  obtain ⟨g1, g2, g3, g4⟩ := end_spec t i hi
  have d : ∀ j, j < endL t i - i → dp (subL t i) j = dp t (i + j) - dp t i := fun j hj => by unfold dp; rw [sub_at t i j hi hj]; rfl
  by_cases h0 : k = 0
  · subst h0; rw [if_pos rfl]; rfl
  · rw [if_neg h0]
    have hdk : dp t i < dp t (i + k) := g3 (i + k) (by omega) (by omega)
    unfold underL
    rcases under_spec t (dp t (i + k)) (i + k) with ⟨_, h2⟩ | ⟨a, a1, a2, a3, a4⟩
    · have := h2 i (by omega); omega
    · have hia : i ≤ a := by
        rcases Nat.lt_or_ge a i with h | h
        · have := a4 i h (by omega); omega
        · exact h
      rw [a2]
      rcases under_spec (subL t i) (dp (subL t i) k) k with ⟨_, h2⟩ | ⟨b, b1, b2, b3, b4⟩
      · have := h2 (a - i) (by omega)
        rw [d k hk, d (a - i) (by omega)] at this
        have e : i + (a - i) = a := by omega
        rw [e] at this
        omega
      · rw [b2]
        rw [d k hk, d b (by omega)] at b3
        rcases Nat.lt_trichotomy (i + b) a with h | h | h
        · have := b4 (a - i) (by omega) (by omega)
          rw [d k hk, d (a - i) (by omega)] at this
          have e : i + (a - i) = a := by omega
          rw [e] at this
          omega
        · omega
        · have := a4 (i + b) h (by omega); omega
end Go.Proofs.Ytokhflpeeibeeaa.T
