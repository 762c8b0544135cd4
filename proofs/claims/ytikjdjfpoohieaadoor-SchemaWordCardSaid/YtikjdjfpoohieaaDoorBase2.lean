/-
  Plain definitions and laws on lines and paths (layer 3, and what layers 5 and 6 want of it), without the program. No conditions but a tree where a law says so.
  Plain definitions and laws for layers 4 and 5 (the text of a tree, and how a text is read), without the program. Condition: a tree where a law says so.
  Plain laws of layer 5 (parse): a reader's steps that keep whole paths make the document's tree; what follows of a text that is a tree, of two texts one behind the other, of one that is cut off. No conditions but where a law says so.
  Plain laws of layer 6 (lines): a path that is added to a tree. Condition: a path of at most 16 words of at most 40 bytes. Plain laws of layer 6 (lines): where a new path's lines go; a tree's commands, as text and as tokens; commands read one by one. Condition: a tree, paths of at most 16 words of at most 40 bytes. Plain laws of layer 6 (lines), third part: a tree's commands as text and as tokens; commands that are read one by one; what stands twice. Condition: a tree. Plain laws of layer 6 (lines), fourth part: the commands of a tree are read as that tree. Condition: a tree.
-/
import Derived.Test.YtikjdjfpoohieaaDoorBase1
import Derived.Laws.Strings

namespace Go.Proofs.YtikjdjfpoohieaaDoor.T

structure Ln where
  depth : Int
  word : List UInt8
  mark : Int

def L0 : Ln := ⟨0, [], 0⟩
def at_ (t : List Ln) (i : Nat) : Ln := t.getD i L0
def dp (t : List Ln) (i : Nat) : Int := (at_ t i).depth
def wd (t : List Ln) (i : Nat) : List UInt8 := (at_ t i).word

/-- The last of the first n lines that has a lower depth than d; -1: there is none. -/
def underF (t : List Ln) (d : Int) : Nat → Int
  | 0 => -1
  | k + 1 => if dp t k < d then (k : Int) else underF t d k
def underL (t : List Ln) (i : Nat) : Int := underF t (dp t i) i
/-- Behind a part. -/
def endL (t : List Ln) (i : Nat) : Nat := i + 1 + ((t.drop (i + 1)).takeWhile fun x => decide (dp t i < x.depth)).length
def pathF (t : List Ln) : Nat → Int → List (List UInt8)
  | 0, _ => []
  | f + 1, i => if i < 0 then [] else pathF t f (underL t i.toNat) ++ [wd t i.toNat]
def pathL (t : List Ln) (i : Nat) : List (List UInt8) := pathF t (i + 1) i

/-- A tree. -/
structure RightN (N : Nat) (t : List Ln) : Prop where
  len : t.length ≤ N
  deep : ∀ i, i < t.length → 0 ≤ dp t i ∧ dp t i ≤ 15
  long : ∀ i, i < t.length → (wd t i).length ≤ 40
  mark : ∀ i, i < t.length → 0 ≤ (at_ t i).mark ∧ (at_ t i).mark ≤ 3
  first : 0 < t.length → dp t 0 = 0
  step : ∀ i, i + 1 < t.length → dp t (i + 1) ≤ dp t i + 1
  rise : ∀ i k, i < k → k < t.length → dp t k = dp t i → (∀ j, i < j → j < k → dp t i ≤ dp t j) → Op.bytesLess (wd t i) (wd t k) = true
/-- A tree of at most 200 lines. -/
abbrev RightT (t : List Ln) : Prop := RightN 200 t

theorem less_irr : ∀ l : List UInt8, Op.bytesLess l l = false
  | [] => by simp [Op.bytesLess]
  | c :: l => by simp [Op.bytesLess, less_irr l]

theorem under_spec (t : List Ln) (d : Int) : ∀ n : Nat, (underF t d n = -1 ∧ ∀ k, k < n → d ≤ dp t k) ∨ ∃ k, k < n ∧ underF t d n = (k : Int) ∧ dp t k < d ∧ ∀ j, k < j → j < n → d ≤ dp t j
  | 0 => .inl ⟨rfl, fun k hk => by omega⟩
  | n + 1 => by
    simp only [underF]
    by_cases h : dp t n < d
    · rw [if_pos h]
      exact .inr ⟨n, by omega, rfl, h, fun j h1 h2 => by omega⟩
    · rw [if_neg h]
      rcases under_spec t d n with ⟨h1, h2⟩ | ⟨k, h1, h2, h3, h4⟩
      · refine .inl ⟨h1, fun k hk => ?_⟩
        rcases Nat.lt_or_ge k n with hlt | hge
        · exact h2 k hlt
        · obtain rfl : k = n := by omega
          omega
      · refine .inr ⟨k, by omega, h2, h3, fun j hj1 hj2 => ?_⟩
        rcases Nat.lt_or_ge j n with hlt | hge
        · exact h4 j hj1 hlt
        · obtain rfl : j = n := by omega
          omega
theorem under_lt (t : List Ln) (i : Nat) : -1 ≤ underL t i ∧ underL t i < i := by
  unfold underL
  rcases under_spec t (dp t i) i with ⟨h1, _⟩ | ⟨k, h1, h2, _⟩
  · rw [h1]; omega
  · rw [h2]; omega
/-- In a tree a line of depth 0 stands under none, each other one under one of one depth less. -/
theorem RightN.under {N : Nat} {t : List Ln} (h : RightN N t) (i : Nat) (hi : i < t.length) :
    (dp t i = 0 ∧ underL t i = -1) ∨ ∃ k, k < i ∧ underL t i = (k : Int) ∧ dp t k + 1 = dp t i ∧ ∀ j, k < j → j < i → dp t i ≤ dp t j := by
  unfold underL
  rcases under_spec t (dp t i) i with ⟨h1, h2⟩ | ⟨k, h1, h2, h3, h4⟩
  · refine .inl ⟨?_, h1⟩
    have h0 := h.first (by omega)
    have hd := (h.deep i hi).1
    rcases Nat.eq_zero_or_pos i with rfl | hp
    · exact h0
    · have := h2 0 hp; omega
  · refine .inr ⟨k, h1, h2, ?_, h4⟩
    have hs := h.step k (by omega)
    rcases Nat.lt_or_ge (k + 1) i with hlt | hge
    · have := h4 (k + 1) (by omega) hlt; omega
    · obtain rfl : k + 1 = i := by omega
      omega
theorem pathF_fuel (t : List Ln) : ∀ (f g : Nat) (i : Int), i < f → i < g → pathF t f i = pathF t g i
  | 0, 0, i, _, _ => rfl
  | 0, g + 1, i, hf, _ => by
    simp only [pathF]; rw [if_pos (by omega)]
  | f + 1, 0, i, _, hg => by
    simp only [pathF]; rw [if_pos (by omega)]
  | f + 1, g + 1, i, hf, hg => by
    simp only [pathF]
    by_cases h : i < 0
    · rw [if_pos h, if_pos h]
    · rw [if_neg h, if_neg h]
      have := under_lt t i.toNat
      rw [pathF_fuel t f g _ (by omega) (by omega)]
theorem path_root {t : List Ln} {i : Nat} (h : underL t i = -1) : pathL t i = [wd t i] := by
  unfold pathL
  simp only [pathF]
  rw [if_neg (by omega), Int.toNat_natCast, h]
  cases i with
  | zero => rfl
  | succ i => simp [pathF]
theorem path_step {t : List Ln} {i k : Nat} (h : underL t i = (k : Int)) : pathL t i = pathL t k ++ [wd t i] := by
  have hl := under_lt t i
  unfold pathL
  rw [pathF, if_neg (by omega), Int.toNat_natCast, h]
  rw [pathF_fuel t i (k + 1) k (by omega) (by omega)]
theorem path_ne {t : List Ln} {i : Nat} : pathL t i ≠ [] := by
  unfold pathL; rw [pathF, if_neg (by omega)]; simp
theorem RightN.path_len {N : Nat} {t : List Ln} (h : RightN N t) : ∀ (n i : Nat), i ≤ n → i < t.length → ((pathL t i).length : Int) = dp t i + 1
  | n, i, hn, hi => by
    rcases h.under i hi with ⟨h1, h2⟩ | ⟨k, h1, h2, h3, _⟩
    · rw [path_root h2, h1]; rfl
    · match n, hn with
      | 0, hn => omega
      | n + 1, hn =>
        have ih := RightN.path_len h n k (by omega) (by omega)
        rw [path_step h2, List.length_append, List.length_singleton]
        omega
/-- No two lines of a tree have one path. -/
theorem RightN.path_inj {N : Nat} {t : List Ln} (h : RightN N t) : ∀ (n i k : Nat), i ≤ n → k ≤ n → i < t.length → k < t.length → pathL t i = pathL t k → i = k
  | n, i, k, hin, hkn, hi, hk, e => by
    have same : ∀ a b : Nat, a < b → b < t.length → dp t b = dp t a → wd t a = wd t b → (∀ j, a < j → j < b → dp t a ≤ dp t j) → False := by
      intro a b hab hb hd hw hj
      have := h.rise a b hab hb hd hj
      rw [hw, less_irr] at this
      cases this
    have li := h.path_len i i (Nat.le_refl _) hi
    have lk := h.path_len k k (Nat.le_refl _) hk
    rw [e] at li
    have hd : dp t i = dp t k := by omega
    rcases h.under i hi with ⟨a1, a2⟩ | ⟨u, a1, a2, a3, a4⟩
    · rcases h.under k hk with ⟨b1, b2⟩ | ⟨v, b1, b2, b3, b4⟩
      · rw [path_root a2, path_root b2] at e
        injection e with e _
        rcases Nat.lt_trichotomy i k with hlt | heq | hgt
        · exact absurd (same i k hlt hk (by omega) e (fun j _ hj => by have := (h.deep j (by omega)).1; omega)) id
        · exact heq
        · exact absurd (same k i hgt hi (by omega) e.symm (fun j _ hj => by have := (h.deep j (by omega)).1; omega)) id
      · have := (h.deep v (by omega)).1; omega
    · rcases h.under k hk with ⟨b1, b2⟩ | ⟨v, b1, b2, b3, b4⟩
      · have := (h.deep u (by omega)).1; omega
      · match n, hin, hkn with
        | 0, hin, _ => omega
        | n + 1, hin, hkn =>
          rw [path_step a2, path_step b2] at e
          obtain ⟨e1, e2⟩ := List.append_inj' e rfl
          injection e2 with e2 _
          obtain rfl := RightN.path_inj h n u v (by omega) (by omega) (by omega) (by omega) e1
          rcases Nat.lt_trichotomy i k with hlt | heq | hgt
          · exact absurd (same i k hlt hk (by omega) e2 (fun j h1 h2 => by have := b4 j (by omega) h2; omega)) id
          · exact heq
          · exact absurd (same k i hgt hi (by omega) e2.symm (fun j h1 h2 => by have := a4 j (by omega) h2; omega)) id
end Go.Proofs.YtikjdjfpoohieaaDoor.T

namespace Go.Proofs.YtikjdjfpoohieaaDoor.T

theorem less_trans : ∀ a b c : List UInt8, Op.bytesLess a b = true → Op.bytesLess b c = true → Op.bytesLess a c = true
  | _, [], _, h, _ => by simp [Op.bytesLess] at h
  | _, _ :: _, [], _, h => by simp [Op.bytesLess] at h
  | [], _ :: _, _ :: _, _, _ => by simp [Op.bytesLess]
  | x :: a, y :: b, z :: c, h1, h2 => by
    simp only [Op.bytesLess, Bool.or_eq_true, decide_eq_true_eq, Bool.and_eq_true, beq_iff_eq, UInt8.lt_iff_toNat_lt] at h1 h2 ⊢
    rcases h1 with h1 | ⟨rfl, h1⟩
    · rcases h2 with h2 | ⟨rfl, h2⟩
      · exact .inl (by omega)
      · exact .inl h1
    · rcases h2 with h2 | ⟨rfl, h2⟩
      · exact .inl h2
      · exact .inr ⟨rfl, less_trans a b c h1 h2⟩
theorem less_tri : ∀ a b : List UInt8, Op.bytesLess a b = true ∨ a = b ∨ Op.bytesLess b a = true
  | [], [] => .inr (.inl rfl)
  | [], _ :: _ => .inl (by simp [Op.bytesLess])
  | _ :: _, [] => .inr (.inr (by simp [Op.bytesLess]))
  | x :: a, y :: b => by
    simp only [Op.bytesLess, Bool.or_eq_true, decide_eq_true_eq, Bool.and_eq_true, beq_iff_eq, UInt8.lt_iff_toNat_lt, List.cons.injEq]
    rcases Nat.lt_trichotomy x.toNat y.toNat with h | h | h
    · exact .inl (.inl h)
    · obtain rfl := UInt8.toNat_inj.1 h
      rcases less_tri a b with h | rfl | h
      · exact .inl (.inr ⟨rfl, h⟩)
      · exact .inr (.inl ⟨rfl, rfl⟩)
      · exact .inr (.inr (.inr ⟨rfl, h⟩))
    · exact .inr (.inr (.inl h))
theorem less_asymm {a b : List UInt8} (h : Op.bytesLess a b = true) : Op.bytesLess b a = false := by
  cases h2 : Op.bytesLess b a with
  | false => rfl
  | true => have := less_trans a b a h h2; rw [less_irr] at this; cases this

theorem at_drop (t : List Ln) (i j : Nat) : at_ (t.drop i) j = at_ t (i + j) := by
  unfold at_; simp [List.getD, List.getElem?_drop]
theorem at_take (t : List Ln) (k j : Nat) (h : j < k) : at_ (t.take k) j = at_ t j := by
  unfold at_; simp [List.getD, h]
theorem at_app_left (a b : List Ln) (j : Nat) (h : j < a.length) : at_ (a ++ b) j = at_ a j := by
  unfold at_ List.getD; rw [List.getElem?_append_left h]
theorem at_app_right (a b : List Ln) (j : Nat) : at_ (a ++ b) (a.length + j) = at_ b j := by
  unfold at_ List.getD; rw [List.getElem?_append_right (by omega), Nat.add_sub_cancel_left]
theorem takeWhile_len {p : Ln → Bool} : ∀ l : List Ln, (l.takeWhile p).length ≤ l.length ∧ (∀ j, j < (l.takeWhile p).length → p (at_ l j) = true) ∧ ((l.takeWhile p).length < l.length → p (at_ l (l.takeWhile p).length) = false)
  | [] => ⟨by simp, fun j h => by simp at h, fun h => by simp at h⟩
  | x :: l => by
    obtain ⟨h1, h2, h3⟩ := takeWhile_len (p := p) l
    rw [List.takeWhile_cons]
    cases hp : p x with
    | false => exact ⟨by simp, fun j h => by simp at h, fun _ => by simpa [at_] using hp⟩
    | true =>
      simp only [if_true, List.length_cons]
      refine ⟨by omega, fun j h => ?_, fun h => ?_⟩
      · match j with
        | 0 => simpa [at_] using hp
        | j + 1 => have := h2 j (by omega); simpa [at_] using this
      · have := h3 (by omega); simpa [at_] using this
/-- Where a part ends. -/
theorem end_spec (t : List Ln) (i : Nat) (hi : i < t.length) : i < endL t i ∧ endL t i ≤ t.length ∧ (∀ j, i < j → j < endL t i → dp t i < dp t j) ∧ (endL t i < t.length → dp t (endL t i) ≤ dp t i) := by
  obtain ⟨h1, h2, h3⟩ := takeWhile_len (p := fun x => decide (dp t i < x.depth)) (t.drop (i + 1))
  rw [List.length_drop] at h1 h3
  unfold endL
  refine ⟨by omega, by omega, fun j hj1 hj2 => ?_, fun h => ?_⟩
  · have := h2 (j - (i + 1)) (by omega)
    rw [at_drop] at this
    have e : i + 1 + (j - (i + 1)) = j := by omega
    rw [e] at this
    exact of_decide_eq_true this
  · have := h3 (by omega)
    rw [at_drop] at this
    have := of_decide_eq_false this
    unfold dp at this ⊢
    omega
theorem end_unique (t : List Ln) (i e : Nat) (h1 : i < e) (h2 : e ≤ t.length) (h3 : ∀ j, i < j → j < e → dp t i < dp t j) (h4 : e < t.length → dp t e ≤ dp t i) : endL t i = e := by
  obtain ⟨g1, g2, g3, g4⟩ := end_spec t i (by omega)
  rcases Nat.lt_trichotomy (endL t i) e with h | h | h
  · have := h3 _ g1 h; have := g4 (by omega); omega
  · exact h
  · have := g3 _ h1 h; have := h4 (by omega); omega

/-- A part, as lines of its own. -/
def subL (t : List Ln) (i : Nat) : List Ln := ((t.drop i).take (endL t i - i)).map fun x => ⟨x.depth - dp t i, x.word, x.mark⟩
theorem sub_len (t : List Ln) (i : Nat) (hi : i < t.length) : (subL t i).length = endL t i - i := by
  have := (end_spec t i hi).2.1
  unfold subL; simp; omega
theorem sub_at (t : List Ln) (i k : Nat) (hi : i < t.length) (hk : k < endL t i - i) : at_ (subL t i) k = ⟨dp t (i + k) - dp t i, wd t (i + k), (at_ t (i + k)).mark⟩ := by
  have h2 := (end_spec t i hi).2.1
  have hl : k < ((t.drop i).take (endL t i - i)).length := by simp; omega
  have e : at_ ((t.drop i).take (endL t i - i)) k = at_ t (i + k) := by rw [at_take _ _ _ hk, at_drop]
  unfold dp wd
  rw [← e]
  have em : ∀ (l : List Ln) (f : Ln → Ln) (h : k < l.length), at_ (l.map f) k = f (at_ l k) := by
    intro l f h
    unfold at_ List.getD
    rw [List.getElem?_map, List.getElem?_eq_getElem h]
    rfl
  unfold subL
  rw [em _ _ hl]
  rfl
theorem RightN.sub {N : Nat} {t : List Ln} (h : RightN N t) (i : Nat) (hi : i < t.length) : RightN N (subL t i) := by
  obtain ⟨g1, g2, g3, g4⟩ := end_spec t i hi
  have hl := sub_len t i hi
  have d : ∀ k, k < endL t i - i → dp (subL t i) k = dp t (i + k) - dp t i := fun k hk => by unfold dp; rw [sub_at t i k hi hk]; rfl
  have w : ∀ k, k < endL t i - i → wd (subL t i) k = wd t (i + k) := fun k hk => by unfold wd; rw [sub_at t i k hi hk]; rfl
  have gt : ∀ k, k < endL t i - i → dp t i ≤ dp t (i + k) := fun k hk => by
    rcases Nat.eq_zero_or_pos k with rfl | hp
    · exact Int.le_refl _
    · have := g3 (i + k) (by omega) (by omega); omega
  have hdi := (h.deep i hi).1
  refine ⟨by have := h.len; omega, fun k hk => ?_, fun k hk => ?_, fun k hk => ?_, fun hp => ?_, fun k hk => ?_, fun a b hab hb hd hj => ?_⟩
  · rw [hl] at hk
    rw [d k hk]
    have := gt k hk
    have := h.deep (i + k) (by omega)
    omega
  · rw [hl] at hk; rw [w k hk]; exact h.long (i + k) (by omega)
  · rw [hl] at hk; rw [sub_at t i k hi hk]; exact h.mark (i + k) (by omega)
  · rw [hl] at hp; rw [d 0 hp]; simp
  · rw [hl] at hk
    rw [d k (by omega), d (k + 1) hk]
    have := h.step (i + k) (by omega)
    have e : i + k + 1 = i + (k + 1) := by omega
    rw [e] at this
    omega
  · rw [hl] at hb
    rw [w a (by omega), w b hb]
    rw [d a (by omega), d b hb] at hd
    refine h.rise (i + a) (i + b) (by omega) (by omega) (by omega) (fun j h1 h2 => ?_)
    have := hj (j - i) (by omega) (by omega)
    rw [d a (by omega), d (j - i) (by omega)] at this
    have e : i + (j - i) = j := by omega
    rw [e] at this
    omega
/-- The first lines of a tree are a tree. -/
theorem RightN.take {N : Nat} {t : List Ln} (h : RightN N t) (k : Nat) : RightN N (t.take k) := by
  have hl : (t.take k).length ≤ k ∧ (t.take k).length ≤ t.length := by rw [List.length_take]; omega
  have e : ∀ j, j < (t.take k).length → at_ (t.take k) j = at_ t j := fun j hj => at_take t k j (by omega)
  have d : ∀ j, j < (t.take k).length → dp (t.take k) j = dp t j := fun j hj => by unfold dp; rw [e j hj]
  have w : ∀ j, j < (t.take k).length → wd (t.take k) j = wd t j := fun j hj => by unfold wd; rw [e j hj]
  refine ⟨by have := h.len; omega, fun j hj => ?_, fun j hj => ?_, fun j hj => ?_, fun hp => ?_, fun j hj => ?_, fun a b hab hb hd hj => ?_⟩
  · rw [d j hj]; exact h.deep j (by omega)
  · rw [w j hj]; exact h.long j (by omega)
  · rw [e j hj]; exact h.mark j (by omega)
  · rw [d 0 hp]; exact h.first (by omega)
  · rw [d j (by omega), d (j + 1) hj]; exact h.step j (by omega)
  · rw [w a (by omega), w b hb]
    rw [d a (by omega), d b hb] at hd
    refine h.rise a b hab (by omega) hd (fun j h1 h2 => ?_)
    have := hj j h1 h2
    rw [d a (by omega), d j (by omega)] at this
    exact this
/-- Under which line one of a part stands. -/
theorem sub_under (t : List Ln) (i k : Nat) (hi : i < t.length) (hk : k < endL t i - i) : underL (subL t i) k = if k = 0 then -1 else underL t (i + k) - i := by
  obtain ⟨g1, g2, g3, g4⟩ := end_spec t i hi
  have d : ∀ j, j < endL t i - i → dp (subL t i) j = dp t (i + j) - dp t i := fun j hj => by unfold dp; rw [sub_at t i j hi hj]; rfl
  by_cases h0 : k = 0
  · subst h0; rw [if_pos rfl]; rfl
  · rw [if_neg h0]
    have hdk : dp t i < dp t (i + k) := g3 (i + k) (by omega) (by omega)
    unfold underL
    rcases under_spec t (dp t (i + k)) (i + k) with ⟨_, h2⟩ | ⟨a, a1, a2, a3, a4⟩
    · have := h2 i (by omega); omega
    · have hia : i ≤ a := by
        rcases Nat.lt_or_ge a i with h | h
        · have := a4 i h (by omega); omega
        · exact h
      rw [a2]
      rcases under_spec (subL t i) (dp (subL t i) k) k with ⟨_, h2⟩ | ⟨b, b1, b2, b3, b4⟩
      · have := h2 (a - i) (by omega)
        rw [d k hk, d (a - i) (by omega)] at this
        have e : i + (a - i) = a := by omega
        rw [e] at this
        omega
      · rw [b2]
        rw [d k hk, d b (by omega)] at b3
        rcases Nat.lt_trichotomy (i + b) a with h | h | h
        · have := b4 (a - i) (by omega) (by omega)
          rw [d k hk, d (a - i) (by omega)] at this
          have e : i + (a - i) = a := by omega
          rw [e] at this
          omega
        · omega
        · have := a4 (i + b) h (by omega); omega
end Go.Proofs.YtikjdjfpoohieaaDoor.T

namespace Go.Proofs.YtikjdjfpoohieaaDoor.T

theorem RightN.sub_path {N : Nat} {t : List Ln} (h : RightN N t) (i : Nat) (hi : i < t.length) : ∀ (n k : Nat), k ≤ n → k < endL t i - i → pathL (subL t i) k = (pathL t (i + k)).drop (dp t i).toNat
  | n, k, hn, hk => by
    obtain ⟨g1, g2, g3, g4⟩ := end_spec t i hi
    have hw : ∀ j, j < endL t i - i → wd (subL t i) j = wd t (i + j) := fun j hj => by unfold wd; rw [sub_at t i j hi hj]; rfl
    have hu := sub_under t i k hi hk
    have hdi := (h.deep i hi).1
    by_cases h0 : k = 0
    · subst h0
      rw [if_pos rfl] at hu
      rw [path_root hu, hw 0 hk, Nat.add_zero]
      rcases h.under i hi with ⟨a1, a2⟩ | ⟨u, a1, a2, a3, _⟩
      · rw [path_root a2, a1]; rfl
      · have hl := h.path_len u u (Nat.le_refl _) (by omega)
        rw [path_step a2, List.drop_append_of_le_length (by omega), List.drop_of_length_le (by omega)]; rfl
    · rw [if_neg h0] at hu
      have hdk : dp t i < dp t (i + k) := g3 (i + k) (by omega) (by omega)
      rcases h.under (i + k) (by omega) with ⟨a1, _⟩ | ⟨a, a1, a2, a3, a4⟩
      · omega
      · have hia : i ≤ a := by
          rcases Nat.lt_or_ge a i with hlt | hge
          · have := a4 i hlt (by omega); omega
          · exact hge
        rw [a2] at hu
        have hu2 : underL (subL t i) k = ((a - i : Nat) : Int) := by rw [hu]; omega
        match n, hn with
        | 0, hn => omega
        | n + 1, hn =>
          have ih := RightN.sub_path h i hi n (a - i) (by omega) (by omega)
          have e : i + (a - i) = a := by omega
          rw [e] at ih
          have hl := h.path_len a a (Nat.le_refl _) (by omega)
          rw [path_step hu2, path_step a2, ih, hw k hk, List.drop_append_of_le_length (by omega)]

/-- The lines without a part. -/
def cutL (t : List Ln) (k : Nat) : List Ln := t.take k ++ t.drop (endL t k)
def skipI (k e j : Nat) : Nat := if j < k then j else j + (e - k)
theorem cut_len (t : List Ln) (k : Nat) (hk : k < t.length) : (cutL t k).length = t.length - (endL t k - k) := by
  obtain ⟨g1, g2, _, _⟩ := end_spec t k hk
  unfold cutL; rw [List.length_append, List.length_take, List.length_drop]; omega
theorem cut_at (t : List Ln) (k j : Nat) (hk : k < t.length) : at_ (cutL t k) j = at_ t (skipI k (endL t k) j) := by
  obtain ⟨g1, g2, _, _⟩ := end_spec t k hk
  unfold cutL skipI
  have hl : (t.take k).length = k := by rw [List.length_take]; omega
  by_cases h : j < k
  · rw [if_pos h, at_app_left _ _ _ (by omega), at_take _ _ _ h]
  · rw [if_neg h]
    have e : j = (t.take k).length + (j - k) := by omega
    rw [e, at_app_right, at_drop]
    congr 1; omega
theorem RightN.cut {N : Nat} {t : List Ln} (h : RightN N t) (k : Nat) (hk : k < t.length) : RightN N (cutL t k) := by
  obtain ⟨g1, g2, g3, g4⟩ := end_spec t k hk
  have hl := cut_len t k hk
  have d : ∀ j, dp (cutL t k) j = dp t (skipI k (endL t k) j) := fun j => by unfold dp; rw [cut_at t k j hk]
  have w : ∀ j, wd (cutL t k) j = wd t (skipI k (endL t k) j) := fun j => by unfold wd; rw [cut_at t k j hk]
  have lt : ∀ j, j < (cutL t k).length → skipI k (endL t k) j < t.length := fun j hj => by unfold skipI; split <;> omega
  have gek : ∀ j, k ≤ j → j < endL t k → dp t k ≤ dp t j := fun j h1 h2 => by
    rcases Nat.eq_or_lt_of_le h1 with rfl | h1
    · exact Int.le_refl _
    · have := g3 j h1 h2; omega
  refine ⟨by have := h.len; omega, fun j hj => ?_, fun j hj => ?_, fun j hj => ?_, fun hp => ?_, fun j hj => ?_, fun a b hab hb hd hj => ?_⟩
  · rw [d]; exact h.deep _ (lt j hj)
  · rw [w]; exact h.long _ (lt j hj)
  · rw [cut_at t k j hk]; exact h.mark _ (lt j hj)
  · rw [d]
    have h0 := h.first (by omega)
    have hlt := lt 0 hp
    unfold skipI at hlt ⊢
    by_cases hz : 0 < k
    · rw [if_pos hz]; exact h0
    · obtain rfl : k = 0 := by omega
      rw [if_neg hz] at hlt ⊢
      have e : 0 + (endL t 0 - 0) = endL t 0 := by omega
      rw [e] at hlt ⊢
      have := g4 hlt
      have := (h.deep _ hlt).1
      omega
  · rw [d, d]
    have hlt := lt (j + 1) hj
    unfold skipI at hlt ⊢
    by_cases h1 : j + 1 < k
    · rw [if_pos h1, if_pos (by omega)]; exact h.step j (by omega)
    · rw [if_neg h1] at hlt ⊢
      by_cases h2 : j < k
      · rw [if_pos h2]
        have e : j + 1 + (endL t k - k) = endL t k := by omega
        rw [e] at hlt ⊢
        have := g4 hlt
        have hs := h.step j (by omega)
        have e2 : j + 1 = k := by omega
        rw [e2] at hs
        omega
      · rw [if_neg h2]
        have := h.step (j + (endL t k - k)) (by omega)
        have e : j + (endL t k - k) + 1 = j + 1 + (endL t k - k) := by omega
        rw [e] at this
        exact this
  · rw [w, w]
    rw [d, d] at hd
    have hlt := lt b hb
    have hkey : ∀ c, a < c → c ≤ b → dp t (skipI k (endL t k) a) ≤ dp t (skipI k (endL t k) c) := fun c h1 h2 => by
      rcases Nat.eq_or_lt_of_le h2 with rfl | h2
      · omega
      · have := hj c h1 h2; rw [d, d] at this; exact this
    refine h.rise _ _ ?_ hlt hd (fun j h1 h2 => ?_)
    · unfold skipI; split <;> split <;> omega
    · by_cases hj1 : j < k
      · have ha : a < k := by
          rcases Nat.lt_or_ge a k with h | h
          · exact h
          · unfold skipI at h1; rw [if_neg (by omega)] at h1; omega
        have haj : a < j := by unfold skipI at h1; rw [if_pos ha] at h1; exact h1
        have hjb : j ≤ b := by
          rcases Nat.lt_or_ge b k with h | h
          · unfold skipI at h2; rw [if_pos h] at h2; omega
          · omega
        have := hkey j haj hjb
        have e : skipI k (endL t k) j = j := by unfold skipI; rw [if_pos hj1]
        rw [e] at this
        exact this
      · have hbk : ¬ b < k := fun hbk => by unfold skipI at h2; rw [if_pos hbk] at h2; omega
        by_cases hj2 : j < endL t k
        · have ha : a < k := by
            rcases Nat.lt_or_ge a k with h | h
            · exact h
            · unfold skipI at h1; rw [if_neg (by omega)] at h1; omega
          have h3 := hkey k ha (by omega)
          have e : skipI k (endL t k) k = endL t k := by unfold skipI; rw [if_neg (by omega)]; omega
          rw [e] at h3
          have hle : endL t k < t.length := by unfold skipI at hlt; rw [if_neg hbk] at hlt; omega
          have := g4 hle
          have := gek j (by omega) hj2
          omega
        · have hc : skipI k (endL t k) (j - (endL t k - k)) = j := by unfold skipI; rw [if_neg (by omega)]; omega
          have hca : a < j - (endL t k - k) := by
            unfold skipI at h1
            by_cases ha : a < k
            · omega
            · rw [if_neg ha] at h1; omega
          have hcb : j - (endL t k - k) ≤ b := by unfold skipI at h2; rw [if_neg hbk] at h2; omega
          have := hkey _ hca hcb
          rw [hc] at this
          exact this
end Go.Proofs.YtikjdjfpoohieaaDoor.T

namespace Go.Proofs.YtikjdjfpoohieaaDoor.T

def kidsL (t : List Ln) (i : Int) : List Nat := (List.range t.length).filter fun k => underL t k == i
def leafB (t : List Ln) (i : Nat) : Bool := endL t i == i + 1
def leavesL (t : List Ln) : List Nat := (List.range t.length).filter (leafB t)
theorem mem_kids (t : List Ln) (i : Int) (k : Nat) : k ∈ kidsL t i ↔ k < t.length ∧ underL t k = i := by
  unfold kidsL; rw [List.mem_filter, List.mem_range, beq_iff_eq]
/-- A line right behind one of a lower depth stands under it. -/
theorem under_next (t : List Ln) (i : Nat) (h : dp t i < dp t (i + 1)) : underL t (i + 1) = (i : Int) := by
  unfold underL; simp only [underF]; rw [if_pos h]
/-- How many of the first n lines have nothing under them. -/
def leafN (t : List Ln) (n : Nat) : Nat := ((List.range n).filter (leafB t)).length
end Go.Proofs.YtikjdjfpoohieaaDoor.T

namespace Go.Proofs.YtikjdjfpoohieaaDoor.T

def aheadL (t : List Ln) (k : Nat) : Int := if k = 0 then -1 else dp t (k - 1)
def Fits (t : List Ln) (k : Nat) : Prop := ((0 ≤ dp t k ∧ dp t k ≤ 15) ∧ (wd t k).length ≤ 40 ∧ 0 ≤ (at_ t k).mark ∧ (at_ t k).mark ≤ 3) ∧ dp t k ≤ aheadL t k + 1
def Rise (t : List Ln) (i k : Nat) : Prop := dp t k = dp t i → (∀ j, i < j → j < k → dp t i ≤ dp t j) → Op.bytesLess (wd t i) (wd t k) = true
theorem right_of {t : List Ln} (h200 : t.length ≤ 200) (hf : ∀ k, k < t.length → Fits t k) (hr : ∀ i k, i < k → k < t.length → Rise t i k) : RightT t := by
  refine ⟨h200, fun i hi => (hf i hi).1.1, fun i hi => (hf i hi).1.2.1, fun i hi => (hf i hi).1.2.2, fun h0 => ?_, fun i hi => ?_, fun i k h1 h2 => hr i k h1 h2⟩
  · obtain ⟨⟨⟨h1, _⟩, _⟩, h2⟩ := hf 0 h0
    unfold aheadL at h2
    rw [if_pos rfl] at h2
    omega
  · have h2 := (hf (i + 1) hi).2
    unfold aheadL at h2
    rw [if_neg (by omega), Nat.add_sub_cancel] at h2
    exact h2
theorem RightN.fits {N : Nat} {t : List Ln} (h : RightN N t) {k : Nat} (hk : k < t.length) : Fits t k := by
  refine ⟨⟨h.deep k hk, h.long k hk, h.mark k hk⟩, ?_⟩
  unfold aheadL
  by_cases h0 : k = 0
  · rw [if_pos h0]; subst h0; have := h.first hk; omega
  · rw [if_neg h0]
    have := h.step (k - 1) (by omega)
    have e : k - 1 + 1 = k := by omega
    rw [e] at this
    exact this
theorem ahead_next (t : List Ln) (k : Nat) : aheadL t (k + 1) = dp t k := by unfold aheadL; rw [if_neg (by omega), Nat.add_sub_cancel]

/-- The newest word of each depth up to that of the line ahead. -/
def LastOk (t : List Ln) (k : Nat) (f : Nat → List UInt8) : Prop := ∀ d : Nat, (d : Int) ≤ aheadL t k → ∃ j, j < k ∧ dp t j = d ∧ f d = wd t j ∧ ∀ m, j < m → m < k → (d : Int) < dp t m
theorem LastOk.start (t : List Ln) (f : Nat → List UInt8) : LastOk t 0 f := fun d h => by unfold aheadL at h; rw [if_pos rfl] at h; omega
theorem LastOk.next {t : List Ln} {k e : Nat} {f : Nat → List UInt8} (h : LastOk t k f) (hd : dp t k = e) (hs : (e : Int) ≤ aheadL t k + 1) : LastOk t (k + 1) (fun d => if d = e then wd t k else f d) := by
  intro d hle
  rw [ahead_next, hd] at hle
  by_cases he : d = e
  · subst he
    exact ⟨k, by omega, hd, if_pos rfl, fun m h1 h2 => by omega⟩
  · obtain ⟨j, h1, h2, h3, h4⟩ := h d (by omega)
    refine ⟨j, by omega, h2, by show (if d = e then _ else _) = _; rw [if_neg he]; exact h3, fun m hm1 hm2 => ?_⟩
    rcases Nat.lt_or_ge m k with hlt | hge
    · exact h4 m hm1 hlt
    · obtain rfl : m = k := by omega
      omega
/-- The pairs of the first k lines. -/
def RiseTo (t : List Ln) (k : Nat) : Prop := ∀ i c, i < c → c < k → Rise t i c
theorem RiseTo.next {t : List Ln} {k : Nat} {f : Nat → List UInt8} {e : Nat} (h : RiseTo t k) (hl : LastOk t k f) (hd : dp t k = e) (hs : (e : Int) ≤ aheadL t k + 1)
    (hw : (e : Int) ≤ aheadL t k → Op.bytesLess (f e) (wd t k) = true) : RiseTo t (k + 1) := by
  intro i c hic hc
  rcases Nat.lt_or_ge c k with hlt | hge
  · exact h i c hic hlt
  · obtain rfl : c = k := by omega
    intro hdi hb
    have hne : c ≠ 0 := by omega
    by_cases ha : (e : Int) ≤ aheadL t c
    · obtain ⟨j, j1, j2, j3, j4⟩ := hl e ha
      have hw := hw ha
      rw [j3] at hw
      rcases Nat.lt_trichotomy i j with hij | hij | hij
      · exact less_trans _ _ _ (h i j hij j1 (by omega) (fun m h1 h2 => hb m h1 (by omega))) hw
      · subst hij; exact hw
      · have := j4 i hij hic; omega
    · have hae : aheadL t c = dp t (c - 1) := by unfold aheadL; rw [if_neg hne]
      rcases Nat.lt_or_ge i (c - 1) with h1 | h1
      · have := hb (c - 1) h1 (by omega); omega
      · obtain rfl : i = c - 1 := by omega
        omega
theorem RightN.last {N : Nat} {t : List Ln} (h : RightN N t) {k e : Nat} (hk : k < t.length) {f : Nat → List UInt8} (hl : LastOk t k f) (hd : dp t k = e) (ha : (e : Int) ≤ aheadL t k) : Op.bytesLess (f e) (wd t k) = true := by
  obtain ⟨j, j1, j2, j3, j4⟩ := hl e ha
  rw [j3]
  exact h.rise j k j1 hk (by omega) (fun m h1 h2 => by have := j4 m h1 h2; omega)
/-- The second half of the document's way: pair by pair. -/
def PairTo (t : List Ln) (i k : Nat) : Prop := (∀ m, i < m → m < k → dp t i ≤ dp t m) ∧ ∀ m, i < m → m < k → dp t m = dp t i → Op.bytesLess (wd t i) (wd t m) = true
theorem PairTo.start (t : List Ln) (i : Nat) : PairTo t i (i + 1) := ⟨fun m h1 h2 => by omega, fun m h1 h2 => by omega⟩
theorem PairTo.next {t : List Ln} {i k : Nat} (h : PairTo t i k) (h1 : dp t i ≤ dp t k) (h2 : dp t k = dp t i → Op.bytesLess (wd t i) (wd t k) = true) : PairTo t i (k + 1) := by
  refine ⟨fun m a b => ?_, fun m a b => ?_⟩
  · rcases Nat.lt_or_ge m k with hlt | hge
    · exact h.1 m a hlt
    · obtain rfl : m = k := by omega
      exact h1
  · rcases Nat.lt_or_ge m k with hlt | hge
    · exact h.2 m a hlt
    · obtain rfl : m = k := by omega
      exact h2
theorem PairTo.done {t : List Ln} {i k : Nat} (h : PairTo t i k) (hik : i < k) (hs : k < t.length → dp t k < dp t i) : ∀ c, i < c → c < t.length → Rise t i c := by
  intro c h1 h2 hd hb
  rcases Nat.lt_trichotomy c k with hlt | heq | hgt
  · exact h.2 c h1 hlt hd
  · subst heq; have := hs h2; omega
  · have := hb k hik hgt; have := hs (by omega); omega
theorem PairTo.bad {t : List Ln} {i k : Nat} (h : PairTo t i k) (hik : i < k) (hk : k < t.length) (hd : dp t k = dp t i) (hn : Op.bytesLess (wd t i) (wd t k) = false) : ¬ RightT t := by
  intro hr
  have := hr.rise i k hik hk hd h.1
  rw [hn] at this; cases this
end Go.Proofs.YtikjdjfpoohieaaDoor.T

namespace Go.Proofs.YtikjdjfpoohieaaDoor.T

/-- The depth of those that stand under i. -/
def kidD (t : List Ln) (i : Int) : Int := if i < 0 then 0 else dp t i.toNat + 1
def kidsTo (t : List Ln) (i : Int) (k : Nat) : List Nat := (List.range k).filter fun m => underL t m == i
/-- From the line behind i on, up to k, all are at least as deep as those that stand under i. -/
def DeepTo (t : List Ln) (i : Int) (k : Nat) : Prop := ∀ m : Nat, i < m → m < k → kidD t i ≤ dp t m
theorem RightN.kid_iff {N : Nat} {t : List Ln} (h : RightN N t) {i : Int} {k : Nat} (hi : -1 ≤ i) (hik : i < k) (hk : k < t.length) (hd : DeepTo t i k) : underL t k = i ↔ dp t k = kidD t i := by
  unfold kidD
  by_cases h0 : i < 0
  · rw [if_pos h0]
    rcases h.under k hk with ⟨a1, a2⟩ | ⟨u, u1, u2, u3, u4⟩
    · rw [a2]; omega
    · rw [u2]; have := (h.deep u (by omega)).1; omega
  · rw [if_neg h0]
    obtain ⟨n, rfl⟩ := Int.eq_ofNat_of_zero_le (show 0 ≤ i by omega)
    rw [Int.toNat_natCast]
    have hd2 : ∀ m, n < m → m < k → dp t n + 1 ≤ dp t m := fun m h1 h2 => by
      have := hd m (by omega) h2
      unfold kidD at this
      rw [if_neg h0, Int.toNat_natCast] at this
      exact this
    rcases h.under k hk with ⟨a1, a2⟩ | ⟨u, u1, u2, u3, u4⟩
    · rw [a2]; have := (h.deep n (by omega)).1; omega
    · rw [u2]
      constructor
      · intro e
        obtain rfl : u = n := by omega
        omega
      · intro e
        rcases Nat.lt_trichotomy u n with hlt | heq | hgt
        · have := u4 n hlt (by omega); omega
        · omega
        · have := hd2 u hgt u1; omega
theorem kids_next (t : List Ln) (i : Int) (k : Nat) : kidsTo t i (k + 1) = kidsTo t i k ++ if underL t k = i then [k] else [] := by
  unfold kidsTo
  rw [List.range_succ, List.filter_append]
  congr 1
  by_cases h : underL t k = i <;> simp [h]
theorem kids_start (t : List Ln) (i : Int) (k : Nat) (h : (k : Int) ≤ i + 1) : kidsTo t i k = [] := by
  unfold kidsTo
  rw [List.filter_eq_nil_iff]
  intro m hm
  have := (under_lt t m).2
  have := List.mem_range.1 hm
  simp; omega
theorem DeepTo.next {t : List Ln} {i : Int} {k : Nat} (h : DeepTo t i k) (hk : kidD t i ≤ dp t k) : DeepTo t i (k + 1) := by
  intro m h1 h2
  rcases Nat.lt_or_ge m k with hlt | hge
  · exact h m h1 hlt
  · obtain rfl : m = k := by omega
    exact hk
theorem filter_rest (l : List Nat) (p : Nat → Bool) (h : ∀ m ∈ l, p m = false) : l.filter p = [] := by
  rw [List.filter_eq_nil_iff]; intro m hm; rw [h m hm]; simp
theorem RightN.kids_done {N : Nat} {t : List Ln} (h : RightN N t) {i : Int} {k : Nat} (_hi : -1 ≤ i) (hik : i < k) (hkl : k ≤ t.length) (hs : k < t.length → dp t k < kidD t i) : kidsTo t i k = kidsL t i := by
  unfold kidsTo kidsL
  have e : List.range t.length = List.range k ++ (List.range (t.length - k)).map (k + ·) := by
    have := @List.range_add k (t.length - k)
    rwa [show k + (t.length - k) = t.length by omega] at this
  rw [e, List.filter_append, filter_rest ((List.range (t.length - k)).map (k + ·)), List.append_nil]
  intro m hm
  obtain ⟨j, hj, rfl⟩ := List.mem_map.1 hm
  have hj := List.mem_range.1 hj
  have hs := hs (by omega)
  rw [beq_eq_false_iff_ne]
  intro e
  rcases h.under (k + j) (by omega) with ⟨a1, a2⟩ | ⟨u, u1, u2, u3, u4⟩
  · unfold kidD at hs
    rw [if_pos (by omega)] at hs
    have := (h.deep k (by omega)).1; omega
  · unfold kidD at hs
    rw [if_neg (by omega)] at hs
    have hu : i.toNat = u := by omega
    rw [hu] at hs
    rcases Nat.eq_zero_or_pos j with rfl | hp
    · rw [Nat.add_zero] at u3; omega
    · have := u4 k (by omega) (by omega); omega
theorem kids_full (t : List Ln) (i : Int) : kidsTo t i t.length = kidsL t i := rfl
theorem filter_len (k : Nat) (p : Nat → Bool) : ((List.range k).filter p).length ≤ k := by
  have := List.length_filter_le p (List.range k); rwa [List.length_range] at this

theorem sub_take_next (t : List Ln) (i k : Nat) (hi : i < t.length) (hk : k < endL t i - i) : (subL t i).take (k + 1) = (subL t i).take k ++ [⟨dp t (i + k) - dp t i, wd t (i + k), (at_ t (i + k)).mark⟩] := by
  have hl := sub_len t i hi
  rw [List.take_succ_eq_append_getElem (by omega)]
  congr 2
  rw [← sub_at t i k hi hk]
  unfold at_ List.getD
  rw [List.getElem?_eq_getElem (by omega)]; rfl

/-- The path of a line, or of none. -/
def pathI (t : List Ln) (j : Int) : List (List UInt8) := if j < 0 then [] else pathL t j.toNat
theorem pathI_nat (t : List Ln) (k : Nat) : pathI t (k : Int) = pathL t k := by unfold pathI; rw [if_neg (by omega), Int.toNat_natCast]
theorem pathI_none (t : List Ln) : pathI t (-1) = [] := by unfold pathI; rw [if_pos (by omega)]
theorem path_under (t : List Ln) (k : Nat) : pathL t k = pathI t (underL t k) ++ [wd t k] := by
  have hl := under_lt t k
  by_cases h : underL t k = -1
  · rw [path_root h, h, pathI_none]; rfl
  · obtain ⟨u, hu⟩ := Int.eq_ofNat_of_zero_le (show 0 ≤ underL t k by omega)
    rw [path_step hu, hu, pathI_nat]
/-- So much of a path is laid, from its end on. -/
def Laid (t : List Ln) (p : List (List UInt8)) (j : Int) (F : Nat → List UInt8) : Prop := -1 ≤ j ∧ j < t.length ∧ ∃ rest, p = pathI t j ++ rest ∧ ∀ d, (pathI t j).length ≤ d → d < p.length → F d = p.getD d []
theorem Laid.start (t : List Ln) (i : Nat) (hi : i < t.length) (F : Nat → List UInt8) : Laid t (pathL t i) i F :=
  ⟨by omega, by omega, [], by rw [pathI_nat, List.append_nil], fun d h1 h2 => by rw [pathI_nat] at h1; omega⟩
theorem RightN.laid {N : Nat} {t : List Ln} (h : RightN N t) {p : List (List UInt8)} {k d : Nat} {F : Nat → List UInt8} (hL : Laid t p k F) (hd : dp t k = d) : d < p.length ∧ Laid t p (underL t k) (fun x => if x = d then wd t k else F x) := by
  obtain ⟨_, hk, rest, hp, hF⟩ := hL
  have hkl : k < t.length := by omega
  have hl := h.path_len k k (Nat.le_refl _) hkl
  rw [pathI_nat] at hp hF
  have hdl : (pathL t k).length = d + 1 := by omega
  have hu := path_under t k
  have hul : (pathI t (underL t k)).length = d := by have := congrArg List.length hu; rw [List.length_append, List.length_singleton, hdl] at this; omega
  have hplen : d < p.length := by rw [hp, List.length_append]; omega
  have hlt := under_lt t k
  refine ⟨hplen, hlt.1, by omega, [wd t k] ++ rest, by rw [hp, hu, List.append_assoc], fun x h1 h2 => ?_⟩
  rw [hul] at h1
  by_cases hx : x = d
  · subst hx
    show (if x = x then wd t k else F x) = _
    rw [if_pos rfl, hp, hu, List.append_assoc]
    unfold List.getD
    rw [List.getElem?_append_right (by omega), hul, Nat.sub_self]
    rfl
  · show (if x = d then wd t k else F x) = _
    rw [if_neg hx]
    exact hF x (by omega) h2
theorem Laid.done {t : List Ln} {p : List (List UInt8)} {F : Nat → List UInt8} (h : Laid t p (-1) F) : ∀ d, d < p.length → F d = p.getD d [] := by
  obtain ⟨_, _, rest, _, hF⟩ := h
  intro d hd
  exact hF d (by rw [pathI_none]; simp) hd

/-- The line of a path's beginning. -/
theorem RightN.path_take {N : Nat} {t : List Ln} (h : RightN N t) : ∀ (n i m : Nat), i ≤ n → i < t.length → 0 < m → m ≤ (pathL t i).length → ∃ k, k < t.length ∧ pathL t k = (pathL t i).take m
  | n, i, m, hn, hi, hm, hle => by
    have hu := path_under t i
    rcases Nat.lt_or_ge m (pathL t i).length with hlt | hge
    · rcases h.under i hi with ⟨a1, a2⟩ | ⟨u, u1, u2, u3, _⟩
      · rw [path_root a2] at hlt; simp at hlt; omega
      · have e := path_step u2
        rw [e, List.length_append, List.length_singleton] at hlt
        match n, hn with
        | 0, hn => omega
        | n + 1, hn =>
          obtain ⟨k, k1, k2⟩ := RightN.path_take h n u m (by omega) (by omega) hm (by omega)
          exact ⟨k, k1, by rw [k2, e, List.take_append_of_le_length (by omega)]⟩
    · exact ⟨i, hi, by rw [List.take_of_length_le hge]⟩
/-- The lines under i that have that word: at most one has the path. -/
theorem RightN.find_none {N : Nat} {t : List Ln} (h : RightN N t) {p : List (List UInt8)} {d : Nat} {at' : Int} (hd : d < p.length) (ha : pathI t at' = p.take d) (hat : -1 ≤ at' ∧ at' < t.length)
    (hn : ∀ k, k < t.length → underL t k = at' → wd t k ≠ p[d]) : ∀ i, i < t.length → pathL t i ≠ p := by
  intro i hi e
  obtain ⟨k, k1, k2⟩ := h.path_take i i (d + 1) (Nat.le_refl _) hi (by omega) (by rw [e]; omega)
  rw [e, List.take_succ_eq_append_getElem hd, path_under t k] at k2
  obtain ⟨e1, e2⟩ := List.append_inj' k2 rfl
  injection e2 with e2 _
  refine hn k k1 ?_ e2
  rw [← ha] at e1
  have hlt := under_lt t k
  by_cases h1 : underL t k = -1
  · rw [h1, pathI_none] at e1
    by_cases h2 : at' = -1
    · omega
    · obtain ⟨a, ha2⟩ := Int.eq_ofNat_of_zero_le (show 0 ≤ at' by omega)
      rw [ha2, pathI_nat] at e1
      exact absurd e1.symm path_ne
  · obtain ⟨u, hu⟩ := Int.eq_ofNat_of_zero_le (show 0 ≤ underL t k by omega)
    rw [hu, pathI_nat] at e1
    by_cases h2 : at' = -1
    · rw [h2, pathI_none] at e1; exact absurd e1 path_ne
    · obtain ⟨a, ha2⟩ := Int.eq_ofNat_of_zero_le (show 0 ≤ at' by omega)
      rw [ha2, pathI_nat] at e1
      rw [hu, ha2, h.path_inj (max u a) u a (Nat.le_max_left ..) (Nat.le_max_right ..) (by omega) (by omega) e1]
theorem find_next {t : List Ln} {p : List (List UInt8)} {d k : Nat} {at' : Int} (hd : d < p.length) (ha : pathI t at' = p.take d) (hu : underL t k = at') (hw : wd t k = p[d]) : pathI t k = p.take (d + 1) := by
  rw [pathI_nat, path_under, hu, ha, hw, List.take_succ_eq_append_getElem hd]
theorem RightN.kidD_path {N : Nat} {t : List Ln} (h : RightN N t) {at' : Int} {d : Nat} (hat : -1 ≤ at' ∧ at' < t.length) (hp : (pathI t at').length = d) : kidD t at' = d := by
  unfold kidD
  by_cases h0 : at' < 0
  · rw [if_pos h0]; unfold pathI at hp; rw [if_pos h0] at hp; simp at hp; omega
  · rw [if_neg h0]
    obtain ⟨a, rfl⟩ := Int.eq_ofNat_of_zero_le (show 0 ≤ at' by omega)
    rw [pathI_nat] at hp
    have := h.path_len a a (Nat.le_refl _) (by omega)
    rw [Int.toNat_natCast]; omega
end Go.Proofs.YtikjdjfpoohieaaDoor.T

namespace Go.Proofs.YtikjdjfpoohieaaDoor.T

theorem kidsTo_add (t : List Ln) (i : Int) (a n : Nat) : kidsTo t i (a + n) = kidsTo t i a ++ ((List.range n).map (a + ·)).filter fun m => underL t m == i := by
  unfold kidsTo; rw [List.range_add, List.filter_append]
theorem RightN.root_iff {N : Nat} {t : List Ln} (h : RightN N t) {k : Nat} (hk : k < t.length) : underL t k = -1 ↔ dp t k = 0 := by
  rcases h.under k hk with ⟨a1, a2⟩ | ⟨u, u1, u2, u3, _⟩
  · rw [a1, a2]; simp
  · have := (h.deep u (by omega)).1
    rw [u2]; omega
/-- j parts of Depth 0 are the first m lines. -/
def Parts (t : List Ln) (K : List Nat) (j m : Nat) : Prop := m ≤ t.length ∧ kidsTo t (-1) m = K.take j ∧ (m = t.length ∨ (m < t.length ∧ underL t m = -1))
theorem Parts.start (t : List Ln) (K : List Nat) : Parts t K 0 0 := by
  refine ⟨Nat.zero_le _, by simp [kidsTo], ?_⟩
  rcases Nat.eq_zero_or_pos t.length with h | h
  · exact .inl h.symm
  · exact .inr ⟨h, rfl⟩
theorem sub_root (t : List Ln) (m : Nat) (h : dp t m = 0) : subL t m = (t.drop m).take (endL t m - m) := by
  unfold subL
  rw [h]
  have : (fun x : Ln => (⟨x.depth - 0, x.word, x.mark⟩ : Ln)) = id := by funext x; simp
  rw [this, List.map_id]
theorem Parts.next {t : List Ln} (h : RightT t) {K : List Nat} (hK : kidsL t (-1) = K) {j m : Nat} (hp : Parts t K j m) (hj : j < K.length) :
    K[j] = m ∧ m < t.length ∧ Parts t K (j + 1) (endL t m) ∧ t.take m ++ subL t m = t.take (endL t m) := by
  obtain ⟨h1, h2, h3⟩ := hp
  have hm : m < t.length ∧ underL t m = -1 := by
    rcases h3 with h3 | h3
    · subst h3
      rw [kids_full, hK] at h2
      have := congrArg List.length h2
      rw [List.length_take] at this
      omega
    · exact h3
  obtain ⟨hml, hmu⟩ := hm
  have hd := (h.root_iff hml).1 hmu
  obtain ⟨g1, g2, g3, g4⟩ := end_spec t m hml
  have e1 : kidsTo t (-1) (m + 1) = K.take j ++ [m] := by rw [kids_next, if_pos hmu, h2]
  have e2 : K = K.take j ++ ([m] ++ ((List.range (t.length - (m + 1))).map ((m + 1) + ·)).filter fun x => underL t x == -1) := by
    have := kidsTo_add t (-1) (m + 1) (t.length - (m + 1))
    rw [show m + 1 + (t.length - (m + 1)) = t.length by omega, kids_full, hK, e1, List.append_assoc] at this
    exact this
  have e3 : K[j]? = some m := by
    rw [e2, List.getElem?_append_right (by rw [List.length_take]; omega)]
    simp [List.length_take, Nat.min_eq_left (Nat.le_of_lt hj)]
  have e4 : K[j] = m := by rw [List.getElem?_eq_getElem hj] at e3; injection e3
  refine ⟨e4, hml, ⟨g2, ?_, ?_⟩, ?_⟩
  · have := kidsTo_add t (-1) (m + 1) (endL t m - (m + 1))
    rw [show m + 1 + (endL t m - (m + 1)) = endL t m by omega, e1, filter_rest] at this
    · rw [this, List.append_nil, List.take_succ_eq_append_getElem hj, e4]
    · intro x hx
      obtain ⟨y, hy, rfl⟩ := List.mem_map.1 hx
      have hy := List.mem_range.1 hy
      have hgt := g3 (m + 1 + y) (by omega) (by omega)
      rw [beq_eq_false_iff_ne]
      intro e
      have := (h.root_iff (show m + 1 + y < t.length by omega)).1 e
      omega
  · rcases Nat.lt_or_ge (endL t m) t.length with hlt | hge
    · have := g4 hlt
      have := (h.deep _ hlt).1
      exact .inr ⟨hlt, (h.root_iff hlt).2 (by omega)⟩
    · exact .inl (by omega)
  · rw [sub_root t m hd, ← List.take_add, show m + (endL t m - m) = endL t m by omega]
theorem Parts.done {t : List Ln} {K : List Nat} (hK : kidsL t (-1) = K) {m : Nat} (hp : Parts t K K.length m) : m = t.length := by
  obtain ⟨h1, h2, h3⟩ := hp
  rcases h3 with h3 | ⟨h3, h4⟩
  · exact h3
  · rw [List.take_length] at h2
    have e1 : kidsTo t (-1) (m + 1) = K ++ [m] := by rw [kids_next, if_pos h4, h2]
    have := kidsTo_add t (-1) (m + 1) (t.length - (m + 1))
    rw [show m + 1 + (t.length - (m + 1)) = t.length by omega, kids_full, hK, e1, List.append_assoc] at this
    have := congrArg List.length this
    simp at this
end Go.Proofs.YtikjdjfpoohieaaDoor.T

namespace Go.Proofs.YtikjdjfpoohieaaDoor.T

abbrev Pth := List (List UInt8)
/-- The order of paths: word by word, a beginning ahead of what goes on. -/
def pless : Pth → Pth → Bool
  | [], [] => false
  | [], _ :: _ => true
  | _ :: _, [] => false
  | a :: p, b :: q => Op.bytesLess a b || (a == b && pless p q)
theorem pless_irr : ∀ p : Pth, pless p p = false
  | [] => rfl
  | a :: p => by simp [pless, less_irr a, pless_irr p]
theorem pless_cons (a b : List UInt8) (p q : Pth) : pless (a :: p) (b :: q) = true ↔ Op.bytesLess a b = true ∨ (a = b ∧ pless p q = true) := by
  simp [pless]
theorem pless_trans : ∀ p q r : Pth, pless p q = true → pless q r = true → pless p r = true
  | [], [], _, h, _ => by simp [pless] at h
  | _ :: _, [], _, h, _ => by simp [pless] at h
  | [], _ :: _, [], _, h => by simp [pless] at h
  | [], _ :: _, _ :: _, _, _ => rfl
  | _ :: _, _ :: _, [], _, h => by simp [pless] at h
  | a :: p, b :: q, c :: r, h1, h2 => by
    rw [pless_cons] at h1 h2 ⊢
    rcases h1 with h1 | ⟨rfl, h1⟩
    · rcases h2 with h2 | ⟨rfl, h2⟩
      · exact .inl (less_trans a b c h1 h2)
      · exact .inl h1
    · rcases h2 with h2 | ⟨rfl, h2⟩
      · exact .inl h2
      · exact .inr ⟨rfl, pless_trans p q r h1 h2⟩
theorem pless_tri : ∀ p q : Pth, pless p q = true ∨ p = q ∨ pless q p = true
  | [], [] => .inr (.inl rfl)
  | [], _ :: _ => .inl rfl
  | _ :: _, [] => .inr (.inr rfl)
  | a :: p, b :: q => by
    rw [pless_cons, pless_cons]
    rcases less_tri a b with h | rfl | h
    · exact .inl (.inl h)
    · rcases pless_tri p q with h | rfl | h
      · exact .inl (.inr ⟨rfl, h⟩)
      · exact .inr (.inl rfl)
      · exact .inr (.inr (.inr ⟨rfl, h⟩))
    · exact .inr (.inr (.inl h))
theorem pless_asymm {p q : Pth} (h : pless p q = true) : pless q p = false := by
  cases h2 : pless q p with
  | false => rfl
  | true => have := pless_trans p q p h h2; rw [pless_irr] at this; cases this
theorem pless_app (p q r : Pth) : pless (p ++ q) (p ++ r) = pless q r := by
  induction p with
  | nil => rfl
  | cons a p ih => simp [pless, less_irr a, ih]
theorem pless_more (p q : Pth) (h : q ≠ []) : pless p (p ++ q) = true := by
  have := pless_app p [] q
  rw [List.append_nil] at this
  rw [this]
  cases q with
  | nil => exact absurd rfl h
  | cons a q => rfl
/-- What stands between a path and one that goes on from it by a word goes on from it, too. -/
theorem pless_between : ∀ (q r : Pth) (w : List UInt8), pless q r = true → pless r (q ++ [w]) = true → ∃ s, s ≠ [] ∧ r = q ++ s
  | [], [], _, h, _ => by simp [pless] at h
  | [], b :: r, w, _, _ => ⟨b :: r, List.cons_ne_nil _ _, rfl⟩
  | a :: q, [], _, h, _ => by simp [pless] at h
  | a :: q, b :: r, w, h1, h2 => by
    rw [List.cons_append, pless_cons] at h2
    rw [pless_cons] at h1
    rcases h1 with h1 | ⟨rfl, h1⟩
    · rcases h2 with h2 | ⟨rfl, _⟩
      · rw [less_asymm h1] at h2; cases h2
      · rw [less_irr] at h1; cases h1
    · rcases h2 with h2 | ⟨_, h2⟩
      · rw [less_irr] at h2; cases h2
      · obtain ⟨s, hs, rfl⟩ := pless_between q r w h1 h2
        exact ⟨s, hs, rfl⟩

/-- The path of a line of a part begins with the part's. -/
theorem part_prefix {t : List Ln} {a : Nat} (ha : a < t.length) : ∀ (n i : Nat), i ≤ n → a ≤ i → i < endL t a → ∃ rest, pathL t i = pathL t a ++ rest
  | n, i, hn, hai, hi => by
    obtain ⟨g1, g2, g3, g4⟩ := end_spec t a ha
    rcases Nat.eq_or_lt_of_le hai with rfl | hlt
    · exact ⟨[], by simp⟩
    · have hd := g3 i hlt hi
      unfold endL at hi
      rcases under_spec t (dp t i) i with ⟨h1, h2⟩ | ⟨u, u1, u2, u3, u4⟩
      · have := h2 a hlt; omega
      · have hau : a ≤ u := by
          rcases Nat.lt_or_ge u a with h | h
          · have := u4 a h hlt; omega
          · exact h
        have hue : u < endL t a := by unfold endL; omega
        match n, hn with
        | 0, hn => omega
        | n + 1, hn =>
          obtain ⟨rest, hr⟩ := part_prefix ha n u (by omega) hau hue
          exact ⟨rest ++ [wd t i], by rw [path_step (show underL t i = (u : Int) from u2), hr, List.append_assoc]⟩
theorem underF_same (t : List Ln) (d : Int) (a : Nat) : ∀ n, a ≤ n → (∀ j, a ≤ j → j < n → d ≤ dp t j) → underF t d n = underF t d a
  | n, hn, h => by
    rcases Nat.eq_or_lt_of_le hn with rfl | hlt
    · rfl
    · match n, hlt with
      | n + 1, hlt =>
        simp only [underF]
        rw [if_neg (by have := h n (by omega) (by omega); omega)]
        exact underF_same t d a n (by omega) (fun j h1 h2 => h j h1 (by omega))
/-- The next line's path stands behind. -/
theorem RightN.path_next {N : Nat} {t : List Ln} (h : RightN N t) {i : Nat} (hi : i + 1 < t.length) : pless (pathL t i) (pathL t (i + 1)) = true := by
  have hs := h.step i hi
  have hd1 := h.deep (i + 1) hi
  by_cases hup : dp t i < dp t (i + 1)
  · rw [path_step (under_next t i hup)]
    exact pless_more _ _ (by simp)
  · -- the line of that depth that stands ahead, in whose part the line ahead is
    obtain ⟨e, he⟩ := Int.eq_ofNat_of_zero_le hd1.1
    obtain ⟨a, a1, a2, a3⟩ : ∃ a, a ≤ i ∧ dp t a ≤ e ∧ ∀ m, a < m → m ≤ i → (e : Int) < dp t m := by
      rcases under_spec t ((e : Int) + 1) (i + 1) with ⟨_, h2⟩ | ⟨u, u1, u2, u3, u4⟩
      · have := h2 0 (by omega); have := h.first (by omega); omega
      · exact ⟨u, by omega, by omega, fun m h1 h2 => by have := u4 m h1 (by omega); omega⟩
    have hae : dp t a = e := by
      rcases Nat.eq_or_lt_of_le a1 with rfl | hlt
      · omega
      · have h1 := a3 (a + 1) (by omega) (by omega)
        have h2 := h.step a (by omega)
        omega
    have hal : a < t.length := by omega
    obtain ⟨g1, g2, g3, g4⟩ := end_spec t a hal
    have hie : i < endL t a := by
      rcases Nat.lt_or_ge i (endL t a) with hlt | hge
      · exact hlt
      · have := g4 (by omega)
        have := a3 (endL t a) g1 hge
        omega
    obtain ⟨rest, hr⟩ := part_prefix hal i i (Nat.le_refl _) a1 hie
    have hu : underL t (i + 1) = underL t a := by
      unfold underL
      rw [he, hae]
      refine underF_same t e a (i + 1) (by omega) (fun j h1 h2 => ?_)
      rcases Nat.eq_or_lt_of_le h1 with rfl | h1
      · omega
      · have := a3 j h1 (by omega); omega
    have hlt := h.rise a (i + 1) (by omega) hi (by omega) (fun j h1 h2 => by have := a3 j h1 (by omega); omega)
    rw [hr, path_under t a, path_under t (i + 1), hu, List.append_assoc, pless_app, List.singleton_append, pless_cons]
    exact .inl hlt
/-- The lines of a tree stand in the order of their paths. -/
theorem RightN.path_less {N : Nat} {t : List Ln} (h : RightN N t) {i : Nat} : ∀ k : Nat, i < k → k < t.length → pless (pathL t i) (pathL t k) = true
  | 0, hik, _ => by omega
  | k + 1, hik, hk => by
    rcases Nat.eq_or_lt_of_le (Nat.lt_succ_iff.1 hik) with rfl | hlt
    · exact h.path_next hk
    · exact pless_trans _ _ _ (RightN.path_less h k hlt (by omega)) (h.path_next hk)
/-- A tree, as its paths and marks, in order. -/
def entries (t : List Ln) : List (Pth × Int) := (List.range t.length).map fun i => (pathL t i, (at_ t i).mark)
theorem entries_len (t : List Ln) : (entries t).length = t.length := by unfold entries; rw [List.length_map, List.length_range]
theorem entries_at (t : List Ln) (i : Nat) (hi : i < t.length) : (entries t)[i]'(by rw [entries_len]; exact hi) = (pathL t i, (at_ t i).mark) := by
  unfold entries; simp
/-- Entries in order, each path once. -/
def Sorted (l : List (Pth × Int)) : Prop := ∀ i k (hk : k < l.length) (hik : i < k), pless (l[i]'(by omega)).1 l[k].1 = true
theorem RightN.sorted {N : Nat} {t : List Ln} (h : RightN N t) : Sorted (entries t) := by
  intro i k hk hik
  have hkl : k < t.length := by rwa [entries_len] at hk
  rw [entries_at t i (by omega), entries_at t k hkl]
  exact h.path_less k hik hkl
theorem Sorted.tail {x : Pth × Int} {l : List (Pth × Int)} (h : Sorted (x :: l)) : Sorted l := fun i k hk hik => h (i + 1) (k + 1) (by simpa using hk) (by omega)
theorem Sorted.head {x : Pth × Int} {l : List (Pth × Int)} (h : Sorted (x :: l)) : ∀ y ∈ l, pless x.1 y.1 = true := by
  intro y hy
  obtain ⟨k, hk, rfl⟩ := List.getElem_of_mem hy
  exact h 0 (k + 1) (by simpa using hk) (by omega)
/-- Two lists in order with the same entries are one. -/
theorem Sorted.ext : ∀ {a b : List (Pth × Int)}, Sorted a → Sorted b → (∀ x, x ∈ a ↔ x ∈ b) → a = b
  | [], [], _, _, _ => rfl
  | [], y :: b, _, _, h => by have := (h y).2 (by simp); cases this
  | x :: a, [], _, _, h => by have := (h x).1 (by simp); cases this
  | x :: a, y :: b, ha, hb, h => by
    have hxy : x = y := by
      have h1 := (h x).1 (by simp)
      have h2 := (h y).2 (by simp)
      rcases List.mem_cons.1 h1 with h1 | h1
      · exact h1
      · rcases List.mem_cons.1 h2 with h2 | h2
        · exact h2.symm
        · have e1 := hb.head x h1
          have e2 := ha.head y h2
          rw [pless_asymm e1] at e2; cases e2
    subst hxy
    congr 1
    refine Sorted.ext ha.tail hb.tail fun z => ?_
    have hz := h z
    rw [List.mem_cons, List.mem_cons] at hz
    constructor
    · intro hm
      rcases hz.1 (.inr hm) with e | e
      · subst e; have := ha.head z hm; rw [pless_irr] at this; cases this
      · exact e
    · intro hm
      rcases hz.2 (.inr hm) with e | e
      · subst e; have := hb.head z hm; rw [pless_irr] at this; cases this
      · exact e
theorem ln_ext (a b : Ln) (h1 : a.depth = b.depth) (h2 : a.word = b.word) (h3 : a.mark = b.mark) : a = b := by
  cases a; cases b; simp_all
theorem RightN.of_entries {N : Nat} {a b : List Ln} (ha : RightN N a) (hb : RightN N b) (h : entries a = entries b) : a = b := by
  have hl : a.length = b.length := by rw [← entries_len a, h, entries_len]
  refine List.ext_getElem hl fun i h1 h2 => ?_
  have e : (pathL a i, (at_ a i).mark) = (pathL b i, (at_ b i).mark) := by
    rw [← entries_at a i h1, ← entries_at b i h2]; congr 1
  injection e with e1 e2
  have p1 := ha.path_len i i (Nat.le_refl _) h1
  have p2 := hb.path_len i i (Nat.le_refl _) h2
  have w : wd a i = wd b i := by
    have := e1
    rw [path_under a i, path_under b i] at this
    obtain ⟨_, this⟩ := List.append_inj' this rfl
    injection this
  rw [e1] at p1
  have ga : a[i] = at_ a i := by unfold at_ List.getD; rw [List.getElem?_eq_getElem h1]; rfl
  have gb : b[i] = at_ b i := by unfold at_ List.getD; rw [List.getElem?_eq_getElem h2]; rfl
  rw [ga, gb]
  exact ln_ext _ _ (show dp a i = dp b i by omega) w e2
/-- Trees with the same paths and marks are one. -/
theorem RightN.ext {N : Nat} {a b : List Ln} (ha : RightN N a) (hb : RightN N b) (h : ∀ x, x ∈ entries a ↔ x ∈ entries b) : a = b :=
  ha.of_entries hb (ha.sorted.ext hb.sorted h)
end Go.Proofs.YtikjdjfpoohieaaDoor.T

namespace Go.Proofs.YtikjdjfpoohieaaDoor.T

/-- The lines of paths and marks. -/
def lnOf (x : Pth × Int) : Ln := ⟨(x.1.length : Int) - 1, x.1.getLastD [], x.2⟩
def ofP (l : List (Pth × Int)) : List Ln := l.map lnOf
/-- Paths in order, each with its beginnings, and within bounds. -/
structure GoodP (N : Nat) (l : List (Pth × Int)) : Prop where
  len : l.length ≤ N
  sorted : Sorted l
  ne : ∀ x ∈ l, x.1 ≠ []
  deep : ∀ x ∈ l, x.1.length ≤ 16
  long : ∀ x ∈ l, (x.1.getLastD []).length ≤ 40
  mark : ∀ x ∈ l, 0 ≤ x.2 ∧ x.2 ≤ 3
  closed : ∀ x ∈ l, ∀ q w, x.1 = q ++ [w] → q ≠ [] → ∃ m, (q, m) ∈ l

theorem ofP_len (l : List (Pth × Int)) : (ofP l).length = l.length := by unfold ofP; rw [List.length_map]
theorem ofP_at (l : List (Pth × Int)) (i : Nat) (hi : i < l.length) : at_ (ofP l) i = lnOf l[i] := by
  unfold ofP at_ List.getD; rw [List.getElem?_map, List.getElem?_eq_getElem hi]; rfl
theorem ofP_dp (l : List (Pth × Int)) (i : Nat) (hi : i < l.length) : dp (ofP l) i = (l[i].1.length : Int) - 1 := by unfold dp; rw [ofP_at l i hi]; rfl
theorem ofP_wd (l : List (Pth × Int)) (i : Nat) (hi : i < l.length) : wd (ofP l) i = l[i].1.getLastD [] := by unfold wd; rw [ofP_at l i hi]; rfl
theorem last_snoc (q : Pth) (w : List UInt8) : (q ++ [w]).getLastD [] = w := by simp
theorem snoc_of {p : Pth} (h : p ≠ []) : ∃ q w, p = q ++ [w] := ⟨p.dropLast, p.getLast h, (List.dropLast_concat_getLast h).symm⟩
theorem Sorted.inj {l : List (Pth × Int)} (h : Sorted l) {i k : Nat} (hi : i < l.length) (hk : k < l.length) (e : l[i].1 = l[k].1) : i = k := by
  rcases Nat.lt_trichotomy i k with hlt | heq | hgt
  · have := h i k hk hlt; rw [e, pless_irr] at this; cases this
  · exact heq
  · have := h k i hi hgt; rw [e, pless_irr] at this; cases this
theorem Sorted.lt_of {l : List (Pth × Int)} (h : Sorted l) {i k : Nat} (hi : i < l.length) (hk : k < l.length) (hp : pless l[i].1 l[k].1 = true) : i < k := by
  rcases Nat.lt_trichotomy i k with hlt | heq | hgt
  · exact hlt
  · subst heq; rw [pless_irr] at hp; cases hp
  · have := h k i hi hgt; rw [pless_asymm this] at hp; cases hp
/-- Where a path's beginning is, and what stands between. -/
theorem GoodP.parent {N : Nat} {l : List (Pth × Int)} (h : GoodP N l) {i : Nat} (hi : i < l.length) {q : Pth} {w : List UInt8} (e : l[i].1 = q ++ [w]) (hq : q ≠ []) :
    ∃ j, ∃ hj : j < i, (l[j]'(by omega)).1 = q ∧ ∀ k (hk : k < i), j < k → ∃ s, s ≠ [] ∧ (l[k]'(by omega)).1 = q ++ s := by
  obtain ⟨m, hm⟩ := h.closed _ (List.getElem_mem hi) q w e hq
  obtain ⟨j, hj, hjm⟩ := List.getElem_of_mem hm
  have hjq : l[j].1 = q := by rw [hjm]
  have hji : j < i := h.sorted.lt_of hj hi (by rw [hjq, e]; exact pless_more q [w] (by simp))
  refine ⟨j, hji, hjq, fun k hk hjk => ?_⟩
  have h1 := h.sorted j k (by omega) hjk
  have h2 := h.sorted k i hi hk
  rw [hjq] at h1
  rw [e] at h2
  exact pless_between q _ w h1 h2
theorem GoodP.pos {N : Nat} {l : List (Pth × Int)} (h : GoodP N l) {i : Nat} (hi : i < l.length) : 1 ≤ l[i].1.length := by
  have := h.ne _ (List.getElem_mem hi)
  cases hh : l[i].1 with
  | nil => exact absurd hh this
  | cons a p => simp
theorem GoodP.right {N : Nat} {l : List (Pth × Int)} (h : GoodP N l) : RightN N (ofP l) := by
  have hl := ofP_len l
  have snoc : ∀ i (hi : i < l.length), 1 < l[i].1.length → ∃ q w, l[i].1 = q ++ [w] ∧ q ≠ [] := fun i hi h1 => by
    obtain ⟨q, w, e⟩ := snoc_of (h.ne _ (List.getElem_mem hi))
    refine ⟨q, w, e, fun hq => ?_⟩
    rw [e, hq] at h1; simp at h1
  refine ⟨by rw [hl]; exact h.len, fun i hi => ?_, fun i hi => ?_, fun i hi => ?_, fun hp => ?_, fun i hi => ?_, fun i k hik hk hd hb => ?_⟩
  · rw [hl] at hi
    rw [ofP_dp l i hi]
    have := h.pos hi
    have := h.deep _ (List.getElem_mem hi)
    omega
  · rw [hl] at hi; rw [ofP_wd l i hi]; exact h.long _ (List.getElem_mem hi)
  · rw [hl] at hi; rw [ofP_at l i hi]; exact h.mark _ (List.getElem_mem hi)
  · rw [hl] at hp
    rw [ofP_dp l 0 hp]
    have := h.pos hp
    rcases Nat.eq_or_lt_of_le this with e | hlt
    · omega
    · obtain ⟨q, w, e, hq⟩ := snoc 0 hp hlt
      obtain ⟨j, hj, _⟩ := h.parent hp e hq
      omega
  · rw [hl] at hi
    rw [ofP_dp l i (by omega), ofP_dp l (i + 1) hi]
    have := h.pos (show i < l.length by omega)
    rcases Nat.eq_or_lt_of_le (h.pos hi) with e | hlt
    · omega
    · obtain ⟨q, w, e, hq⟩ := snoc (i + 1) hi hlt
      obtain ⟨j, hj, hjq, hbt⟩ := h.parent hi e hq
      have e2 : l[i + 1].1.length = q.length + 1 := by rw [e]; simp
      rcases Nat.eq_or_lt_of_le (Nat.lt_succ_iff.1 hj) with rfl | hlt2
      · rw [hjq, e2]; omega
      · obtain ⟨s, hs, es⟩ := hbt i (by omega) hlt2
        have : 0 < s.length := List.length_pos_iff.2 hs
        rw [es, e2, List.length_append]; omega
  · rw [hl] at hk
    have hi : i < l.length := by omega
    rw [ofP_dp l i hi, ofP_dp l k hk] at hd
    have hlen : l[k].1.length = l[i].1.length := by omega
    obtain ⟨q, w, e⟩ := snoc_of (h.ne _ (List.getElem_mem hk))
    obtain ⟨q2, w2, e2⟩ := snoc_of (h.ne _ (List.getElem_mem hi))
    have hs := h.sorted i k hk hik
    have hql : q.length = q2.length := by rw [e, e2] at hlen; simpa using hlen
    have hqq : q2 = q := by
      by_cases hq : q = []
      · subst hq; exact List.eq_nil_of_length_eq_zero hql.symm
      · obtain ⟨j, hj, hjq, hbt⟩ := h.parent hk e hq
        have hji : j < i := by
          rcases Nat.lt_trichotomy j i with hlt | heq | hgt
          · exact hlt
          · subst heq; rw [hjq, e] at hlen; simp at hlen
          · have := hb j hgt hj
            rw [ofP_dp l i hi, ofP_dp l j (by omega), hjq, ← hlen, e] at this
            simp at this; omega
        obtain ⟨s, hsn, es⟩ := hbt i (by omega) hji
        rw [e2] at es
        have hsl : s.length = 1 := by have := congrArg List.length es; simp at this; omega
        obtain ⟨x, rfl⟩ := List.length_eq_one_iff.1 hsl
        exact (List.append_inj' es rfl).1
    rw [ofP_wd l i hi, ofP_wd l k hk, e, e2, last_snoc, last_snoc]
    rw [e, e2, hqq, pless_app, pless_cons] at hs
    rcases hs with hs | ⟨_, hs⟩
    · exact hs
    · simp [pless] at hs
/-- They have these paths. -/
theorem GoodP.path {N : Nat} {l : List (Pth × Int)} (h : GoodP N l) : ∀ (n i : Nat), i ≤ n → ∀ hi : i < l.length, pathL (ofP l) i = l[i].1
  | n, i, hn, hi => by
    have hl := ofP_len l
    obtain ⟨q, w, e⟩ := snoc_of (h.ne _ (List.getElem_mem hi))
    have hdi := ofP_dp l i hi
    have hwi : wd (ofP l) i = w := by rw [ofP_wd l i hi, e, last_snoc]
    have hil : l[i].1.length = q.length + 1 := by rw [e]; simp
    by_cases hq : q = []
    · subst hq
      have hu : underL (ofP l) i = -1 := by
        rcases h.right.under i (by omega) with ⟨_, a2⟩ | ⟨u, u1, _, u3, _⟩
        · exact a2
        · have := (h.right.deep u (by omega)).1
          simp at hil; omega
      rw [path_root hu, hwi, e]; rfl
    · obtain ⟨j, hj, hjq, hbt⟩ := h.parent hi e hq
      have hdj := ofP_dp l j (by omega)
      rw [hjq] at hdj
      have hu : underL (ofP l) i = (j : Int) := by
        unfold underL
        rcases under_spec (ofP l) (dp (ofP l) i) i with ⟨_, h2⟩ | ⟨u, u1, u2, u3, u4⟩
        · have := h2 j hj; omega
        · rw [u2]
          rcases Nat.lt_trichotomy u j with hlt | heq | hgt
          · have := u4 j hlt hj; omega
          · omega
          · obtain ⟨s, hs, es⟩ := hbt u u1 hgt
            have hdu := ofP_dp l u (by omega)
            have : 0 < s.length := List.length_pos_iff.2 hs
            rw [es, List.length_append] at hdu
            omega
      match n, hn with
      | 0, hn => omega
      | n + 1, hn =>
        rw [path_step hu, GoodP.path h n j (by omega) (by omega), hjq, hwi, e]
theorem GoodP.entries {N : Nat} {l : List (Pth × Int)} (h : GoodP N l) : T.entries (ofP l) = l := by
  refine List.ext_getElem (by rw [entries_len, ofP_len]) fun i h1 h2 => ?_
  rw [entries_at (ofP l) i (by rw [ofP_len]; exact h2), h.path i i (Nat.le_refl _) h2, ofP_at l i h2]
  rfl
theorem RightN.good {N : Nat} {t : List Ln} (h : RightN N t) : GoodP N (T.entries t) := by
  have hl := entries_len t
  have get : ∀ x ∈ T.entries t, ∃ i, i < t.length ∧ x = (pathL t i, (at_ t i).mark) := fun x hx => by
    unfold T.entries at hx
    obtain ⟨i, hi, rfl⟩ := List.mem_map.1 hx
    exact ⟨i, List.mem_range.1 hi, rfl⟩
  have put : ∀ i, i < t.length → (pathL t i, (at_ t i).mark) ∈ T.entries t := fun i hi => List.mem_map.2 ⟨i, List.mem_range.2 hi, rfl⟩
  refine ⟨by rw [hl]; exact h.len, h.sorted, fun x hx => ?_, fun x hx => ?_, fun x hx => ?_, fun x hx => ?_, fun x hx q w e hq => ?_⟩
  · obtain ⟨i, _, rfl⟩ := get x hx; exact path_ne
  · obtain ⟨i, hi, rfl⟩ := get x hx
    have h1 := h.path_len i i (Nat.le_refl _) hi
    have h2 := h.deep i hi
    show (pathL t i).length ≤ 16
    omega
  · obtain ⟨i, hi, rfl⟩ := get x hx
    show ((pathL t i).getLastD []).length ≤ 40
    rw [path_under t i, last_snoc]; exact h.long i hi
  · obtain ⟨i, hi, rfl⟩ := get x hx; exact h.mark i hi
  · obtain ⟨i, hi, rfl⟩ := get x hx
    have e : pathL t i = q ++ [w] := e
    have hq0 : 0 < q.length := List.length_pos_iff.2 hq
    obtain ⟨k, k1, k2⟩ := h.path_take i i q.length (Nat.le_refl _) hi hq0 (by rw [e]; simp)
    rw [e, List.take_left] at k2
    exact ⟨_, by rw [← k2]; exact put k k1⟩
theorem RightN.ofP_entries {N : Nat} {t : List Ln} (h : RightN N t) : ofP (T.entries t) = t := h.good.right.of_entries h h.good.entries
theorem mem_entries (t : List Ln) (p : Pth) (m : Int) : (p, m) ∈ T.entries t ↔ ∃ i, i < t.length ∧ pathL t i = p ∧ (at_ t i).mark = m := by
  unfold T.entries
  rw [List.mem_map]
  constructor
  · rintro ⟨i, hi, e⟩; injection e with e1 e2; exact ⟨i, List.mem_range.1 hi, e1, e2⟩
  · rintro ⟨i, hi, e1, e2⟩; exact ⟨i, List.mem_range.2 hi, by rw [e1, e2]⟩
end Go.Proofs.YtikjdjfpoohieaaDoor.T

namespace Go.Proofs.YtikjdjfpoohieaaDoor.T

theorem sorted_iff (l : List (Pth × Int)) : Sorted l ↔ l.Pairwise fun a b => pless a.1 b.1 = true := by
  rw [List.pairwise_iff_getElem]
  constructor
  · intro h i k hi hk hik; exact h i k hk hik
  · intro h i k hk hik; exact h i k (by omega) hk hik
def insP (l : List (Pth × Int)) (at' : Nat) (x : Pth × Int) : List (Pth × Int) := l.take at' ++ x :: l.drop at'
theorem mem_ins (l : List (Pth × Int)) (at' : Nat) (x y : Pth × Int) : y ∈ insP l at' x ↔ y = x ∨ y ∈ l := by
  unfold insP
  rw [List.mem_append, List.mem_cons]
  constructor
  · rintro (h | h | h)
    · exact .inr (List.mem_of_mem_take h)
    · exact .inl h
    · exact .inr (List.mem_of_mem_drop h)
  · rintro (h | h)
    · exact .inr (.inl h)
    · rw [← List.take_append_drop at' l, List.mem_append] at h
      rcases h with h | h
      · exact .inl h
      · exact .inr (.inr h)
theorem GoodP.ins {N : Nat} {l : List (Pth × Int)} (h : GoodP N l) {at' : Nat} {x : Pth × Int} (h200 : l.length < N) (hlt : ∀ y ∈ l.take at', pless y.1 x.1 = true) (hgt : ∀ y ∈ l.drop at', pless x.1 y.1 = true)
    (hne : x.1 ≠ []) (hdeep : x.1.length ≤ 16) (hlong : (x.1.getLastD []).length ≤ 40) (hmark : 0 ≤ x.2 ∧ x.2 ≤ 3) (hpar : ∀ q w, x.1 = q ++ [w] → q ≠ [] → ∃ m, (q, m) ∈ l) : GoodP N (insP l at' x) := by
  have hs := (sorted_iff l).1 h.sorted
  refine ⟨?_, ?_, fun y hy => ?_, fun y hy => ?_, fun y hy => ?_, fun y hy => ?_, fun y hy q w e hq => ?_⟩
  · unfold insP; rw [List.length_append, List.length_cons, List.length_take, List.length_drop]; omega
  · rw [sorted_iff]
    unfold insP
    rw [List.pairwise_append, List.pairwise_cons]
    refine ⟨hs.sublist (List.take_sublist _ _), ⟨fun y hy => hgt y hy, hs.sublist (List.drop_sublist _ _)⟩, fun a ha b hb => ?_⟩
    rcases List.mem_cons.1 hb with rfl | hb
    · exact hlt a ha
    · exact pless_trans _ _ _ (hlt a ha) (hgt b hb)
  · rcases (mem_ins l at' x y).1 hy with rfl | hy
    · exact hne
    · exact h.ne y hy
  · rcases (mem_ins l at' x y).1 hy with rfl | hy
    · exact hdeep
    · exact h.deep y hy
  · rcases (mem_ins l at' x y).1 hy with rfl | hy
    · exact hlong
    · exact h.long y hy
  · rcases (mem_ins l at' x y).1 hy with rfl | hy
    · exact hmark
    · exact h.mark y hy
  · rcases (mem_ins l at' x y).1 hy with rfl | hy
    · obtain ⟨m, hm⟩ := hpar q w e hq
      exact ⟨m, (mem_ins ..).2 (.inr hm)⟩
    · obtain ⟨m, hm⟩ := h.closed y hy q w e hq
      exact ⟨m, (mem_ins ..).2 (.inr hm)⟩
theorem ofP_ins (l : List (Pth × Int)) (at' : Nat) (x : Pth × Int) : ofP (insP l at' x) = (ofP l).take at' ++ lnOf x :: (ofP l).drop at' := by
  unfold ofP insP; rw [List.map_append, List.map_cons, List.map_take, List.map_drop]
/-- A line put among those of a tree. -/
def putT (t : List Ln) (at' : Nat) (x : Pth × Int) : List Ln := t.take at' ++ lnOf x :: t.drop at'
theorem RightN.put {N : Nat} {t : List Ln} (h : RightN N t) {at' : Nat} {x : Pth × Int} (h200 : t.length < N) (hlt : ∀ i, i < at' → i < t.length → pless (pathL t i) x.1 = true) (hgt : ∀ i, at' ≤ i → i < t.length → pless x.1 (pathL t i) = true)
    (hne : x.1 ≠ []) (hdeep : x.1.length ≤ 16) (hlong : (x.1.getLastD []).length ≤ 40) (hmark : 0 ≤ x.2 ∧ x.2 ≤ 3) (hpar : ∀ q w, x.1 = q ++ [w] → q ≠ [] → ∃ i, i < t.length ∧ pathL t i = q) :
    RightN N (putT t at' x) ∧ entries (putT t at' x) = insP (entries t) at' x := by
  have hg : GoodP N (insP (entries t) at' x) := by
    refine h.good.ins (by rw [entries_len]; exact h200) (fun y hy => ?_) (fun y hy => ?_) hne hdeep hlong hmark (fun q w e hq => ?_)
    · obtain ⟨i, hi, rfl⟩ := List.getElem_of_mem hy
      rw [List.length_take, entries_len] at hi
      rw [List.getElem_take, entries_at t i (by omega)]
      exact hlt i (by omega) (by omega)
    · obtain ⟨i, hi, rfl⟩ := List.getElem_of_mem hy
      rw [List.length_drop, entries_len] at hi
      rw [List.getElem_drop, entries_at t (at' + i) (by omega)]
      exact hgt (at' + i) (by omega) (by omega)
    · obtain ⟨i, hi, e2⟩ := hpar q w e hq
      exact ⟨(at_ t i).mark, (mem_entries t q _).2 ⟨i, hi, e2, rfl⟩⟩
  have e : ofP (insP (entries t) at' x) = putT t at' x := by rw [ofP_ins, h.ofP_entries]; rfl
  rw [← e]
  exact ⟨hg.right, hg.entries⟩

/-- What does not begin with a path, and stands behind it, stands behind all that go on from it. -/
theorem pless_off : ∀ (p r s : Pth), pless p r = true → (¬ ∃ x, r = p ++ x) → pless (p ++ s) r = true
  | [], r, s, _, hn => absurd ⟨r, rfl⟩ hn
  | a :: p, [], s, h, _ => by simp [pless] at h
  | a :: p, b :: r, s, h, hn => by
    rw [pless_cons] at h
    rw [List.cons_append, pless_cons]
    rcases h with h | ⟨rfl, h⟩
    · exact .inl h
    · exact .inr ⟨rfl, pless_off p r s h (fun ⟨x, hx⟩ => hn ⟨x, by rw [hx]; rfl⟩)⟩
theorem RightN.pathI_inj {N : Nat} {t : List Ln} (h : RightN N t) {a b : Int} (ha : -1 ≤ a ∧ a < t.length) (hb : -1 ≤ b ∧ b < t.length) (e : pathI t a = pathI t b) : a = b := by
  by_cases h1 : a = -1
  · by_cases h2 : b = -1
    · omega
    · obtain ⟨k, hk⟩ := Int.eq_ofNat_of_zero_le (show 0 ≤ b by omega)
      rw [h1, hk, pathI_none, pathI_nat] at e
      exact absurd e.symm path_ne
  · obtain ⟨j, hj⟩ := Int.eq_ofNat_of_zero_le (show 0 ≤ a by omega)
    by_cases h2 : b = -1
    · rw [h2, hj, pathI_none, pathI_nat] at e
      exact absurd e path_ne
    · obtain ⟨k, hk⟩ := Int.eq_ofNat_of_zero_le (show 0 ≤ b by omega)
      rw [hj, hk, pathI_nat, pathI_nat] at e
      rw [hj, hk, h.path_inj (max j k) j k (Nat.le_max_left ..) (Nat.le_max_right ..) (by omega) (by omega) e]
/-- A line whose path goes on from another's by a word stands under it. -/
theorem RightN.kid_of {N : Nat} {t : List Ln} (h : RightN N t) {up : Int} (hu : -1 ≤ up ∧ up < t.length) {c : Nat} (hc : c < t.length) {a : List UInt8} (e : pathL t c = pathI t up ++ [a]) : underL t c = up ∧ wd t c = a := by
  rw [path_under t c] at e
  obtain ⟨e1, e2⟩ := List.append_inj' e rfl
  injection e2 with e2
  have hl := under_lt t c
  exact ⟨h.pathI_inj ⟨hl.1, by omega⟩ hu e1, e2⟩
/-- A line whose path goes on from another's is in the part of a kid. -/
theorem RightN.kid_above {N : Nat} {t : List Ln} (h : RightN N t) {up : Int} (hu : -1 ≤ up ∧ up < t.length) {j : Nat} (hj : j < t.length) {a : List UInt8} {s : Pth} (e : pathL t j = pathI t up ++ a :: s) :
    ∃ c, c ≤ j ∧ underL t c = up ∧ wd t c = a := by
  obtain ⟨c, hc, e2⟩ := h.path_take j j ((pathI t up).length + 1) (Nat.le_refl _) hj (by omega) (by rw [e]; simp)
  have e3 : pathL t c = pathI t up ++ [a] := by rw [e2, e, List.take_append, List.take_of_length_le (by omega)]; simp
  obtain ⟨k1, k2⟩ := h.kid_of hu hc e3
  refine ⟨c, ?_, k1, k2⟩
  rcases Nat.lt_or_ge j c with hlt | hge
  · have := h.path_less c hlt hc
    rw [e, e3, pless_app] at this
    rw [pless_cons, less_irr] at this
    rcases this with this | ⟨_, this⟩
    · cases this
    · cases s <;> simp [pless] at this
  · exact hge
/-- The line ahead of which a new one goes: the first kid with a greater word. -/
theorem RightN.put_ahead {N : Nat} {t : List Ln} (h : RightN N t) {up : Int} (hu : -1 ≤ up ∧ up < t.length) {w : List UInt8} {k : Nat} (hk : k < t.length) (hku : underL t k = up) (hkw : Op.bytesLess w (wd t k) = true)
    (hb : ∀ c, c < k → underL t c = up → Op.bytesLess (wd t c) w = true) :
    (∀ i, i < k → i < t.length → pless (pathL t i) (pathI t up ++ [w]) = true) ∧ (∀ i, k ≤ i → i < t.length → pless (pathI t up ++ [w]) (pathL t i) = true) := by
  have hpk : pathL t k = pathI t up ++ [wd t k] := by rw [path_under t k, hku]
  have hx : pless (pathI t up ++ [w]) (pathL t k) = true := by rw [hpk, pless_app, pless_cons]; exact .inl hkw
  refine ⟨fun i hik hi => ?_, fun i hki hi => ?_⟩
  · have hlt := h.path_less k hik hk
    rcases pless_tri (pathL t i) (pathI t up) with h1 | h1 | h1
    · exact pless_trans _ _ _ h1 (pless_more _ _ (by simp))
    · rw [h1]; exact pless_more _ _ (by simp)
    · rw [hpk] at hlt
      obtain ⟨s, hs, es⟩ := pless_between _ _ _ h1 hlt
      cases s with
      | nil => exact absurd rfl hs
      | cons a s =>
        obtain ⟨c, c1, c2, c3⟩ := h.kid_above hu hi es
        rw [es, pless_app, pless_cons]
        exact .inl (by rw [← c3]; exact hb c (by omega) c2)
  · rcases Nat.eq_or_lt_of_le hki with rfl | hlt
    · exact hx
    · exact pless_trans _ _ _ hx (h.path_less i hlt hi)
/-- Where a part ends, also that of none. -/
def endI (t : List Ln) (up : Int) : Nat := if up < 0 then t.length else endL t up.toNat
/-- A new line goes behind a part, if all kids have lower words. -/
theorem RightN.put_end {N : Nat} {t : List Ln} (h : RightN N t) {up : Int} (hu : -1 ≤ up ∧ up < t.length) {w : List UInt8} (hb : ∀ c, c < t.length → underL t c = up → Op.bytesLess (wd t c) w = true) :
    (∀ i, i < endI t up → i < t.length → pless (pathL t i) (pathI t up ++ [w]) = true) ∧ (∀ i, endI t up ≤ i → i < t.length → pless (pathI t up ++ [w]) (pathL t i) = true) := by
  have inside : ∀ i, i < t.length → (∃ s, pathL t i = pathI t up ++ s) → pless (pathL t i) (pathI t up ++ [w]) = true := by
    rintro i hi ⟨s, es⟩
    cases s with
    | nil => rw [es, List.append_nil]; exact pless_more _ _ (by simp)
    | cons a s =>
      obtain ⟨c, c1, c2, c3⟩ := h.kid_above hu hi es
      rw [es, pless_app, pless_cons]
      exact .inl (by rw [← c3]; exact hb c (by omega) c2)
  by_cases h0 : up < 0
  · have e : pathI t up = [] := by unfold pathI; rw [if_pos h0]
    unfold endI
    rw [if_pos h0]
    exact ⟨fun i _ hi => inside i hi ⟨_, by rw [e]; rfl⟩, fun i h1 h2 => by omega⟩
  · obtain ⟨n, rfl⟩ := Int.eq_ofNat_of_zero_le (show 0 ≤ up by omega)
    have hn : n < t.length := by omega
    obtain ⟨g1, g2, g3, g4⟩ := end_spec t n hn
    unfold endI
    rw [if_neg h0, Int.toNat_natCast]
    rw [pathI_nat] at inside ⊢
    refine ⟨fun i hie hi => ?_, fun i hei hi => ?_⟩
    · rcases Nat.lt_or_ge i n with hlt | hge
      · exact pless_trans _ _ _ (h.path_less n hlt hn) (pless_more _ _ (by simp))
      · exact inside i hi (part_prefix hn i i (Nat.le_refl _) hge hie)
    · have he : endL t n < t.length := by omega
      have hx : pless (pathL t n ++ [w]) (pathL t (endL t n)) = true := by
        refine pless_off _ _ _ (h.path_less _ g1 he) ?_
        rintro ⟨x, hx⟩
        have l1 := h.path_len (endL t n) (endL t n) (Nat.le_refl _) he
        have l2 := h.path_len n n (Nat.le_refl _) hn
        have := g4 he
        rw [hx, List.length_append] at l1
        have hx0 : x = [] := List.eq_nil_of_length_eq_zero (by omega)
        rw [hx0, List.append_nil] at hx
        have := h.path_inj (max (endL t n) n) _ _ (Nat.le_max_left ..) (Nat.le_max_right ..) he hn hx
        omega
      rcases Nat.eq_or_lt_of_le hei with rfl | hlt
      · exact hx
      · exact pless_trans _ _ _ hx (h.path_less i hlt hi)
end Go.Proofs.YtikjdjfpoohieaaDoor.T

namespace Go.Proofs.YtikjdjfpoohieaaDoor.S
open T (Ln at_ dp wd RightT)
open W (Tok Res Step lexL stepD quoteL inactiveL protectL stops signK)

/-- A token without its place. -/
abbrev Trip := Int × List UInt8 × Int
def markK (m : Int) : List Trip := (if m % 2 = 1 then [(5, [], 1)] else []) ++ (if 1 < m then [(5, [], 2)] else [])
theorem map_cons (o : Option (List Trip)) (x : Trip) : o.map (x :: ·) = o.map ([x] ++ ·) := rfl
theorem map_nil (o : Option (List Trip)) : o.map ([] ++ ·) = o := by cases o <;> rfl
end Go.Proofs.YtikjdjfpoohieaaDoor.S

namespace Go.Proofs.YtikjdjfpoohieaaDoor.S
open T (Ln at_ dp wd RightT endL subL leafB leafN)
open W (quoteL inactiveL protectL)

/-- Bytes that a text may have. -/
def okB (b : UInt8) : Prop := b.toNat = 10 ∨ (32 ≤ b.toNat ∧ b.toNat ≤ 126)
/-- A piece of a row ahead of its end. -/
def Quiet (l : List UInt8) : Prop := ∀ b ∈ l, 32 ≤ b.toNat ∧ b.toNat ≤ 126
theorem Quiet.app {a b : List UInt8} (ha : Quiet a) (hb : Quiet b) : Quiet (a ++ b) := fun x hx => (List.mem_append.1 hx).elim (ha x) (hb x)
/-- A row: quiet bytes, then one of three signs, then a byte 10. -/
inductive Rows : List UInt8 → Nat → Prop
  | nil : Rows [] 0
  | row {l : List UInt8} {n : Nat} (q : List UInt8) (c : UInt8) (hq : Quiet q) (hc : c.toNat = 59 ∨ c.toNat = 123 ∨ c.toNat = 125) (h : Rows l n) : Rows (q ++ [c, 10] ++ l) (n + 1)
theorem Rows.app {a b : List UInt8} {m n : Nat} (ha : Rows a m) (hb : Rows b n) : Rows (a ++ b) (m + n) := by
  induction ha with
  | nil => simpa using hb
  | row q c hq hc h ih =>
    have := Rows.row q c hq hc ih
    rw [List.append_assoc, show ∀ k : Nat, k + 1 + n = k + n + 1 from fun k => by omega]
    exact this
theorem Rows.one (q : List UInt8) (c : UInt8) (hq : Quiet q) (hc : c.toNat = 59 ∨ c.toNat = 123 ∨ c.toNat = 125) : Rows (q ++ [c, 10]) 1 := by
  have := Rows.row q c hq hc Rows.nil
  simpa using this
end Go.Proofs.YtikjdjfpoohieaaDoor.S

namespace Go.Proofs.YtikjdjfpoohieaaDoor.S
open T (Ln at_ dp wd RightT endL subL)
open W (quoteL inactiveL protectL)

theorem Rows.bytes {l : List UInt8} {n : Nat} (h : Rows l n) : ∀ b ∈ l, okB b := by
  induction h with
  | nil => intro b hb; cases hb
  | row q c hq hc _ ih =>
    intro b hb
    rcases List.mem_append.1 hb with hb | hb
    · rcases List.mem_append.1 hb with hb | hb
      · exact .inr (hq b hb)
      · simp at hb
        rcases hb with rfl | rfl
        · exact .inr (by omega)
        · exact .inl rfl
    · exact ih b hb
theorem Rows.last {l : List UInt8} {n : Nat} (h : Rows l n) : l ≠ [] → l.getLast? = some 10 := by
  induction h with
  | nil => intro h; exact absurd rfl h
  | @row l n q c hq hc _ ih =>
    intro _
    by_cases hl : l = []
    · subst hl; simp
    · rw [List.getLast?_append, ih hl]; rfl

/-- A tree with another mark of one line. -/
def setM (t : List Ln) (k : Nat) (m : Int) : List Ln := t.set k ⟨dp t k, wd t k, m⟩
theorem setM_len (t : List Ln) (k : Nat) (m : Int) : (setM t k m).length = t.length := by unfold setM; rw [List.length_set]
theorem setM_at (t : List Ln) (k : Nat) (m : Int) (i : Nat) (hk : k < t.length) : at_ (setM t k m) i = if i = k then ⟨dp t k, wd t k, m⟩ else at_ t i := by
  unfold setM at_ List.getD
  rw [List.getElem?_set]
  by_cases h : i = k
  · subst h; simp [hk]
  · rw [if_neg (fun e => h e.symm), if_neg h]
theorem setM_dp (t : List Ln) (k : Nat) (m : Int) (i : Nat) (hk : k < t.length) : dp (setM t k m) i = dp t i := by
  unfold dp; rw [setM_at t k m i hk]
  by_cases h : i = k
  · rw [if_pos h, h]; rfl
  · rw [if_neg h]
theorem setM_wd (t : List Ln) (k : Nat) (m : Int) (i : Nat) (hk : k < t.length) : wd (setM t k m) i = wd t i := by
  unfold wd; rw [setM_at t k m i hk]
  by_cases h : i = k
  · rw [if_pos h, h]; rfl
  · rw [if_neg h]
theorem RightT.setM {t : List Ln} (h : RightT t) {k : Nat} (hk : k < t.length) {m : Int} (hm : 0 ≤ m ∧ m ≤ 3) : RightT (setM t k m) := by
  have hl := setM_len t k m
  have d := fun i => setM_dp t k m i hk
  have w := fun i => setM_wd t k m i hk
  refine ⟨by rw [hl]; exact h.len, fun i hi => by rw [d]; exact h.deep i (by omega), fun i hi => by rw [w]; exact h.long i (by omega), fun i hi => ?_, fun hp => by rw [d]; exact h.first (by omega), fun i hi => by rw [d, d]; exact h.step i (by omega), fun i j h1 h2 h3 h4 => ?_⟩
  · rw [setM_at t k m i hk]
    by_cases he : i = k
    · rw [if_pos he]; exact hm
    · rw [if_neg he]; exact h.mark i (by omega)
  · rw [w, w]
    rw [d, d] at h3
    exact h.rise i j h1 (by omega) h3 (fun x a b => by have := h4 x a b; rw [d, d] at this; exact this)
end Go.Proofs.YtikjdjfpoohieaaDoor.S

namespace Go.Proofs.YtikjdjfpoohieaaDoor.T

/-- The line of a path, or -1. -/
def findI (t : List Ln) (p : Pth) : Int := match (List.range t.length).find? fun i => pathL t i == p with | some i => (i : Int) | none => -1
theorem findI_some {N : Nat} {t : List Ln} (h : RightN N t) {p : Pth} {i : Nat} (hi : i < t.length) (e : pathL t i = p) : findI t p = i := by
  unfold findI
  cases hf : (List.range t.length).find? fun i => pathL t i == p with
  | none =>
    have := List.find?_eq_none.1 hf i (List.mem_range.2 hi)
    simp [e] at this
  | some k =>
    have h1 := List.find?_some hf
    have h2 := List.mem_range.1 (List.mem_of_find?_eq_some hf)
    have e1 : pathL t k = p := by simpa using h1
    show (k : Int) = i
    rw [h.path_inj (max k i) k i (Nat.le_max_left ..) (Nat.le_max_right ..) h2 hi (by rw [e1, e])]
theorem findI_none {t : List Ln} {p : Pth} (h : ∀ i, i < t.length → pathL t i ≠ p) : findI t p = -1 := by
  unfold findI
  rw [List.find?_eq_none.2 fun i hi => by simpa using h i (List.mem_range.1 hi)]
theorem findI_cases (t : List Ln) (p : Pth) : (findI t p = -1 ∧ ∀ i, i < t.length → pathL t i ≠ p) ∨ ∃ i, i < t.length ∧ findI t p = (i : Int) ∧ pathL t i = p := by
  unfold findI
  cases hf : (List.range t.length).find? fun i => pathL t i == p with
  | none => exact .inl ⟨rfl, fun i hi => by have := List.find?_eq_none.1 hf i (List.mem_range.2 hi); simpa using this⟩
  | some k => exact .inr ⟨k, List.mem_range.1 (List.mem_of_find?_eq_some hf), rfl, by simpa using List.find?_some hf⟩
theorem findI_nil (t : List Ln) : findI t [] = -1 := findI_none fun _ _ => path_ne
/-- Is there a line of the path, or is it none's? -/
def Open (t : List Ln) (p : Pth) : Prop := p = [] ∨ ∃ i, i < t.length ∧ pathL t i = p
theorem Open.up {N : Nat} {t : List Ln} (h : RightN N t) {p : Pth} (ho : Open t p) : (-1 ≤ findI t p ∧ findI t p < t.length) ∧ pathI t (findI t p) = p := by
  rcases ho with rfl | ⟨i, hi, e⟩
  · rw [findI_nil]; exact ⟨by omega, pathI_none t⟩
  · rw [findI_some h hi e]; exact ⟨by omega, by rw [pathI_nat]; exact e⟩
/-- Where a line of that word belongs under another. -/
def posL (t : List Ln) (up : Int) (w : List UInt8) : Nat := ((kidsL t up).find? fun k => Op.bytesLess w (wd t k)).getD (endI t up)
/-- The lines with one more. -/
def putL (t : List Ln) (p : Pth) (w : List UInt8) (m : Int) : List Ln := putT t (posL t (findI t p) w) (p ++ [w], m)
theorem find_first {l : List Nat} {f : Nat → Bool} {k : Nat} (h : l.find? f = some k) : ∃ a b, l = a ++ k :: b ∧ ∀ x ∈ a, f x = false := by
  induction l with
  | nil => simp at h
  | cons y l ih =>
    rw [List.find?_cons] at h
    cases hy : f y with
    | true => rw [hy] at h; injection h with h; subst h; exact ⟨[], l, rfl, fun x hx => by cases hx⟩
    | false =>
      rw [hy] at h
      obtain ⟨a, b, e, hx⟩ := ih h
      refine ⟨y :: a, b, by rw [e]; rfl, fun x hm => ?_⟩
      rcases List.mem_cons.1 hm with rfl | hm
      · exact hy
      · exact hx x hm
theorem kids_sorted (t : List Ln) (i : Int) : (kidsL t i).Pairwise (· < ·) := List.Pairwise.filter _ List.pairwise_lt_range
theorem RightN.put_pos {N : Nat} {t : List Ln} (h : RightN N t) {p : Pth} (ho : Open t p) {w : List UInt8} (hn : ∀ i, i < t.length → pathL t i ≠ p ++ [w]) :
    (∀ i, i < posL t (findI t p) w → i < t.length → pless (pathL t i) (p ++ [w]) = true) ∧ (∀ i, posL t (findI t p) w ≤ i → i < t.length → pless (p ++ [w]) (pathL t i) = true) := by
  obtain ⟨hu, hp⟩ := ho.up h
  have hnew : ∀ c, c < t.length → underL t c = findI t p → wd t c ≠ w := fun c hc hcu e => hn c hc (by rw [path_under t c, hcu, hp, e])
  unfold posL
  cases hf : (kidsL t (findI t p)).find? fun k => Op.bytesLess w (wd t k) with
  | some k =>
    obtain ⟨a, b, e, hx⟩ := find_first hf
    have hkm : k ∈ kidsL t (findI t p) := List.mem_of_find?_eq_some hf
    obtain ⟨hk1, hk2⟩ := (mem_kids t _ k).1 hkm
    have hkw : Op.bytesLess w (wd t k) = true := by simpa using List.find?_some hf
    have := h.put_ahead hu hk1 hk2 hkw (fun c hck hcu => by
      have hcm : c ∈ kidsL t (findI t p) := (mem_kids t _ c).2 ⟨by omega, hcu⟩
      have hs := kids_sorted t (findI t p)
      rw [e] at hcm hs
      have hca : c ∈ a := by
        rcases List.mem_append.1 hcm with h1 | h1
        · exact h1
        · rcases List.mem_cons.1 h1 with h1 | h1
          · omega
          · have := (List.pairwise_cons.1 (List.pairwise_append.1 hs).2.1).1 c h1; omega
      have h1 := hx c hca
      rcases less_tri (wd t c) w with h2 | h2 | h2
      · exact h2
      · exact absurd h2 (hnew c (by omega) hcu)
      · rw [h1] at h2; cases h2)
    rw [hp] at this
    exact this
  | none =>
    have := h.put_end hu (w := w) (fun c hc hcu => by
      have h1 := List.find?_eq_none.1 hf c ((mem_kids t _ c).2 ⟨hc, hcu⟩)
      rcases less_tri (wd t c) w with h2 | h2 | h2
      · exact h2
      · exact absurd h2 (hnew c hc hcu)
      · exact absurd h2 h1)
    rw [hp] at this
    exact this
/-- A tree with one line more is a tree, and has one path more. -/
theorem RightN.putL {N : Nat} {t : List Ln} (h : RightN N t) {p : Pth} (ho : Open t p) {w : List UInt8} {m : Int} (hn : ∀ i, i < t.length → pathL t i ≠ p ++ [w]) (h200 : t.length < N) (hdeep : p.length < 16) (hw : w.length ≤ 40) (hm : 0 ≤ m ∧ m ≤ 3) :
    RightN N (putL t p w m) ∧ ∀ x, x ∈ entries (T.putL t p w m) ↔ x = (p ++ [w], m) ∨ x ∈ entries t := by
  obtain ⟨h1, h2⟩ := h.put_pos ho hn
  obtain ⟨r1, r2⟩ := h.put (at' := posL t (findI t p) w) (x := (p ++ [w], m)) h200 h1 h2 (by simp) (by simp; omega) (by rw [last_snoc]; exact hw) hm (fun q v e hq => by
    obtain ⟨e1, _⟩ := List.append_inj' e rfl
    rcases ho with rfl | ho
    · exact absurd e1.symm hq
    · rw [← e1]; exact ho)
  refine ⟨r1, fun x => ?_⟩
  unfold T.putL
  rw [r2, mem_ins]
theorem putL_len (t : List Ln) (p : Pth) (w : List UInt8) (m : Int) : (putL t p w m).length = t.length + 1 := by
  unfold putL putT; rw [List.length_append, List.length_cons, List.length_take, List.length_drop]; omega
end Go.Proofs.YtikjdjfpoohieaaDoor.T

namespace Go.Proofs.YtikjdjfpoohieaaDoor.S
open T (Ln Pth at_ dp wd RightT pathL pathI underL findI putL entries)
open W (Tok)

inductive Mode where
  | start
  | marks (m : Int)
  | named (p : Pth)
structure PSt where
  mode : Mode
  t : List Ln
  path : Pth
end Go.Proofs.YtikjdjfpoohieaaDoor.S

namespace Go.Proofs.YtikjdjfpoohieaaDoor.S
open T (Ln Pth at_ dp wd RightT pathL pathI underL findI putL entries)
open W (Tok)

/-- No word of Depth 0 is in both. -/
def Apart (a b : List Ln) : Prop := ∀ i j, i < a.length → j < b.length → dp a i = 0 → dp b j = 0 → wd a i ≠ wd b j
end Go.Proofs.YtikjdjfpoohieaaDoor.S

namespace Go.Proofs.YtikjdjfpoohieaaDoor.S
open T (Ln Pth at_ dp wd RightT pathL pathI underL findI putL entries)
open W (Tok)

/-- What a reader holds that keeps whole paths. -/
structure CSt where
  found : List (Pth × Int)
  path : Pth
  named : Bool
  mark : Int
def hasP (l : List (Pth × Int)) (p : Pth) : Bool := l.any fun f => decide (f.1 = p)
structure RelP (p : PSt) (c : CSt) : Prop where
  mem : ∀ x, x ∈ entries p.t ↔ x ∈ c.found
  len : c.found.length = p.t.length
  once : c.found.Pairwise fun a b => a.1 ≠ b.1
  mode : match p.mode with
    | .start => c.named = false ∧ c.mark = 0 ∧ c.path = p.path
    | .marks m => c.named = false ∧ c.mark = m ∧ 0 < m ∧ c.path = p.path
    | .named q => c.named = true ∧ c.mark = 0 ∧ c.path = q ∧ ∃ w, q = p.path ++ [w]
end Go.Proofs.YtikjdjfpoohieaaDoor.S

namespace Go.Proofs.YtikjdjfpoohieaaDoor.S
open T (Ln Pth at_ dp wd RightT pathL pathI underL findI putL entries)
open W (Tok)

/-! places -/
/-! counts -/
def one (a b : Int) : Nat := if a = b then 1 else 0
end Go.Proofs.YtikjdjfpoohieaaDoor.S

namespace Go.Proofs.YtikjdjfpoohieaaDoor.T

theorem RightN.mono {N M : Nat} {t : List Ln} (h : RightN N t) (hM : t.length ≤ M) : RightN M t := ⟨hM, h.deep, h.long, h.mark, h.first, h.step, h.rise⟩
/-- A path's first lines, each where it lacks. -/
def addTo (t : List Ln) (p : Pth) : Nat → List Ln
  | 0 => t
  | n + 1 => if findI (addTo t p n) (p.take (n + 1)) < 0 then putL (addTo t p n) (p.take n) (p.getD n []) 0 else addTo t p n
def addL (t : List Ln) (p : Pth) : List Ln := addTo t p p.length
theorem take_next (p : Pth) (n : Nat) (h : n < p.length) : p.take n ++ [p.getD n []] = p.take (n + 1) := by
  rw [List.take_succ_eq_append_getElem h]
  unfold List.getD
  rw [List.getElem?_eq_getElem h]; rfl
/-- What is there behind n of its words. -/
structure Added (t : List Ln) (p : Pth) (n : Nat) (u : List Ln) : Prop where
  right : RightN 216 u
  len : u.length ≤ t.length + n
  grows : t.length ≤ u.length
  mem : ∀ x, x ∈ entries u ↔ x ∈ entries t ∨ ∃ j, j < n ∧ x = (p.take (j + 1), (0 : Int)) ∧ ∀ i, i < t.length → pathL t i ≠ p.take (j + 1)
theorem Added.has {t : List Ln} {p : Pth} {n : Nat} {u : List Ln} (h : Added t p n u) {j : Nat} (hj : j < n) : ∃ i, i < u.length ∧ pathL u i = p.take (j + 1) := by
  by_cases ht : ∃ i, i < t.length ∧ pathL t i = p.take (j + 1)
  · obtain ⟨i, hi, e⟩ := ht
    obtain ⟨k, hk, e1, _⟩ := (mem_entries u _ _).1 ((h.mem (p.take (j + 1), (at_ t i).mark)).2 (.inl ((mem_entries t _ _).2 ⟨i, hi, e, rfl⟩)))
    exact ⟨k, hk, e1⟩
  · obtain ⟨k, hk, e1, _⟩ := (mem_entries u _ _).1 ((h.mem (p.take (j + 1), 0)).2 (.inr ⟨j, hj, rfl, fun i hi e => ht ⟨i, hi, e⟩⟩))
    exact ⟨k, hk, e1⟩
theorem add_to {t : List Ln} (h : RightT t) {p : Pth} (hp : p.length ≤ 16) (hw : ∀ w ∈ p, w.length ≤ 40) : ∀ n, n ≤ p.length → Added t p n (addTo t p n)
  | 0, _ => ⟨h.mono (by have := h.len; omega), by simp [addTo], Nat.le_refl _, fun x => ⟨.inl, fun hx => by
      rcases hx with hx | ⟨j, hj, _⟩
      · exact hx
      · omega⟩⟩
  | n + 1, hn => by
    have ih := add_to h hp hw n (by omega)
    have hlen := h.len
    unfold addTo
    by_cases hf : findI (addTo t p n) (p.take (n + 1)) < 0
    · rw [if_pos hf]
      have hno : ∀ i, i < (addTo t p n).length → pathL (addTo t p n) i ≠ p.take n ++ [p.getD n []] := by
        rw [take_next p n (by omega)]
        rcases findI_cases (addTo t p n) (p.take (n + 1)) with ⟨_, hno⟩ | ⟨i, _, hi, _⟩
        · exact hno
        · omega
      have hopen : Open (addTo t p n) (p.take n) := by
        cases n with
        | zero => exact .inl (by simp)
        | succ m => exact .inr (ih.has (Nat.lt_succ_self m))
      have hl := ih.len
      have hg := ih.grows
      have hwn : (p.getD n []).length ≤ 40 := by
        unfold List.getD
        rw [List.getElem?_eq_getElem (show n < p.length by omega)]
        exact hw _ (List.getElem_mem _)
      obtain ⟨r1, r2⟩ := ih.right.putL hopen (m := 0) hno (by omega) (by rw [List.length_take]; omega) hwn (by omega)
      rw [take_next p n (by omega)] at r2 hno
      refine ⟨r1, by rw [putL_len]; omega, by rw [putL_len]; omega, fun x => ?_⟩
      rw [r2 x, ih.mem x]
      constructor
      · rintro (e | e | ⟨j, hj, e1, e2⟩)
        · refine .inr ⟨n, by omega, e, fun i hi e2 => ?_⟩
          obtain ⟨k, hk, e3, _⟩ := (mem_entries _ _ _).1 ((ih.mem (p.take (n + 1), (at_ t i).mark)).2 (.inl ((mem_entries t _ _).2 ⟨i, hi, e2, rfl⟩)))
          exact hno k hk e3
        · exact .inl e
        · exact .inr ⟨j, by omega, e1, e2⟩
      · rintro (e | ⟨j, hj, e1, e2⟩)
        · exact .inr (.inl e)
        · by_cases hjn : j = n
          · subst hjn; exact .inl e1
          · exact .inr (.inr ⟨j, by omega, e1, e2⟩)
    · rw [if_neg hf]
      obtain ⟨i0, hi0, e0⟩ : ∃ i, i < (addTo t p n).length ∧ pathL (addTo t p n) i = p.take (n + 1) := by
        rcases findI_cases (addTo t p n) (p.take (n + 1)) with ⟨h1, _⟩ | ⟨i, hi, _, e⟩
        · omega
        · exact ⟨i, hi, e⟩
      have hit : ∃ i, i < t.length ∧ pathL t i = p.take (n + 1) := by
        rcases (ih.mem _).1 ((mem_entries _ _ _).2 ⟨i0, hi0, e0, rfl⟩) with hm | ⟨j, hj, e1, _⟩
        · obtain ⟨i, hi, e, _⟩ := (mem_entries t _ _).1 hm
          exact ⟨i, hi, e⟩
        · injection e1 with e1 _
          have := congrArg List.length e1
          rw [List.length_take, List.length_take] at this
          omega
      have hl := ih.len
      refine ⟨ih.right, by omega, ih.grows, fun x => ?_⟩
      rw [ih.mem x]
      constructor
      · rintro (e | ⟨j, hj, e1, e2⟩)
        · exact .inl e
        · exact .inr ⟨j, by omega, e1, e2⟩
      · rintro (e | ⟨j, hj, e1, e2⟩)
        · exact .inl e
        · by_cases hjn : j = n
          · subst hjn
            obtain ⟨i, hi, e⟩ := hit
            exact absurd e (e2 i hi)
          · exact .inr ⟨j, by omega, e1, e2⟩
/-- A path that is added. -/
theorem add_is {t : List Ln} (h : RightT t) {p : Pth} (hp : p.length ≤ 16) (hw : ∀ w ∈ p, w.length ≤ 40) : Added t p p.length (addL t p) := add_to h hp hw _ (Nat.le_refl _)
theorem add_right {t : List Ln} (h : RightT t) {p : Pth} (hp : p.length ≤ 16) (hw : ∀ w ∈ p, w.length ≤ 40) (h200 : (addL t p).length ≤ 200) : RightT (addL t p) := (add_is h hp hw).right.mono h200
/-- To a tree without marks. -/
theorem add_zero {t : List Ln} (h : RightT t) (z : ∀ x ∈ entries t, x.2 = 0) {p : Pth} (hp : p.length ≤ 16) (hw : ∀ w ∈ p, w.length ≤ 40) : ∀ x, x ∈ entries (addL t p) ↔ x ∈ entries t ∨ ∃ j, j < p.length ∧ x = (p.take (j + 1), (0 : Int)) := by
  intro x
  rw [(add_is h hp hw).mem x]
  constructor
  · rintro (e | ⟨j, hj, e, _⟩)
    · exact .inl e
    · exact .inr ⟨j, hj, e⟩
  · rintro (e | ⟨j, hj, rfl⟩)
    · exact .inl e
    · by_cases ht : ∃ i, i < t.length ∧ pathL t i = p.take (j + 1)
      · obtain ⟨i, hi, e⟩ := ht
        have hm := (mem_entries t (p.take (j + 1)) (at_ t i).mark).2 ⟨i, hi, e, rfl⟩
        have hz := z _ hm
        simp only at hz
        rw [hz] at hm
        exact .inl hm
      · exact .inr ⟨j, hj, rfl, fun i hi e => ht ⟨i, hi, e⟩⟩
/-- A tree of all beginnings of these paths, without marks. -/
structure Built (ps : List Pth) (t : List Ln) : Prop where
  right : RightT t
  mem : ∀ x, x ∈ entries t ↔ ∃ p ∈ ps, ∃ j, j < p.length ∧ x = (p.take (j + 1), (0 : Int))
theorem Built.zero {ps : List Pth} {t : List Ln} (h : Built ps t) : ∀ x ∈ entries t, x.2 = 0 := by
  intro x hx
  obtain ⟨p, _, j, _, rfl⟩ := (h.mem x).1 hx
  rfl
theorem Built.nil : Built [] [] := ⟨⟨by simp, fun i h => by simp at h, fun i h => by simp at h, fun i h => by simp at h, fun h => by simp at h, fun i h => by simp at h, fun i k _ h => by simp at h⟩, fun x => by simp [entries]⟩
theorem Built.add {ps : List Pth} {t : List Ln} (h : Built ps t) {p : Pth} (hp : p.length ≤ 16) (hw : ∀ w ∈ p, w.length ≤ 40) (h200 : (addL t p).length ≤ 200) : Built (ps ++ [p]) (addL t p) := by
  refine ⟨add_right h.right hp hw h200, fun x => ?_⟩
  rw [add_zero h.right h.zero hp hw x, h.mem x]
  constructor
  · rintro (⟨q, hq, e⟩ | e)
    · exact ⟨q, List.mem_append_left _ hq, e⟩
    · exact ⟨p, by simp, e⟩
  · rintro ⟨q, hq, e⟩
    rcases List.mem_append.1 hq with hq | hq
    · exact .inl ⟨q, hq, e⟩
    · rw [List.mem_singleton] at hq
      subst hq
      exact .inr e
/-- The order of the paths changes nothing. -/
theorem Built.same {ps qs : List Pth} {a b : List Ln} (ha : Built ps a) (hb : Built qs b) (h : ∀ p, p ∈ ps ↔ p ∈ qs) : a = b := by
  refine RightN.ext ha.right hb.right fun x => ?_
  rw [ha.mem x, hb.mem x]
  constructor
  · rintro ⟨p, hp, e⟩; exact ⟨p, (h p).1 hp, e⟩
  · rintro ⟨p, hp, e⟩; exact ⟨p, (h p).2 hp, e⟩
/-- The tree without its marks. -/
def bareT (t : List Ln) : List Ln := t.map fun x => ⟨x.depth, x.word, 0⟩
/-- The paths of the lines under which nothing stands. -/
def leafPaths (t : List Ln) : List Pth := (leavesL t).map (pathL t)
/-- Lines of the same depths and words have the same paths. -/
theorem underF_like {a b : List Ln} (hd : ∀ i, dp a i = dp b i) (d : Int) : ∀ n, underF a d n = underF b d n
  | 0 => rfl
  | n + 1 => by unfold underF; rw [hd n, underF_like hd d n]
theorem pathF_same {a b : List Ln} (hd : ∀ i, dp a i = dp b i) (hw : ∀ i, wd a i = wd b i) : ∀ (f : Nat) (i : Int), pathF a f i = pathF b f i
  | 0, _ => rfl
  | f + 1, i => by
    unfold pathF
    by_cases h : i < 0
    · rw [if_pos h, if_pos h]
    · rw [if_neg h, if_neg h]
      have hu : underL a i.toNat = underL b i.toNat := by unfold underL; rw [hd, underF_like hd]
      rw [hu, hw, pathF_same hd hw f]
theorem pathL_same {a b : List Ln} (hd : ∀ i, dp a i = dp b i) (hw : ∀ i, wd a i = wd b i) (i : Nat) : pathL a i = pathL b i := pathF_same hd hw _ _
theorem RightN.same {N : Nat} {a b : List Ln} (h : RightN N a) (hl : b.length = a.length) (hd : ∀ i, dp b i = dp a i) (hw : ∀ i, wd b i = wd a i) (hm : ∀ i, i < b.length → 0 ≤ (at_ b i).mark ∧ (at_ b i).mark ≤ 3) : RightN N b := by
  refine ⟨by rw [hl]; exact h.len, fun i hi => by rw [hd]; exact h.deep i (by omega), fun i hi => by rw [hw]; exact h.long i (by omega), hm, fun hp => by rw [hd]; exact h.first (by omega), fun i hi => by rw [hd, hd]; exact h.step i (by omega), fun i k hik hk he hj => ?_⟩
  rw [hw, hw]
  refine h.rise i k hik (by omega) (by rw [← hd k, ← hd i]; exact he) fun j h1 h2 => ?_
  have := hj j h1 h2
  rwa [hd, hd] at this
theorem bare_at (t : List Ln) (i : Nat) : at_ (bareT t) i = ⟨dp t i, wd t i, 0⟩ := by
  unfold bareT at_ dp wd at_ List.getD
  rw [List.getElem?_map]
  cases h : t[i]? with
  | none => rfl
  | some x => rfl
theorem bare_len (t : List Ln) : (bareT t).length = t.length := by unfold bareT; rw [List.length_map]
theorem bare_right {N : Nat} {t : List Ln} (h : RightN N t) : RightN N (bareT t) :=
  h.same (bare_len t) (fun i => by unfold dp; rw [bare_at]; rfl) (fun i => by unfold wd; rw [bare_at]; rfl) (fun i _ => by rw [bare_at]; exact ⟨Int.le_refl _, (by omega : (0 : Int) ≤ 3)⟩)
theorem bare_path (t : List Ln) (i : Nat) : pathL (bareT t) i = pathL t i := pathL_same (fun i => by unfold dp; rw [bare_at]; rfl) (fun i => by unfold wd; rw [bare_at]; rfl) i
end Go.Proofs.YtikjdjfpoohieaaDoor.T

namespace Go.Proofs.YtikjdjfpoohieaaDoor.T

/-- The place of a new line of a word: behind the parts of its lesser siblings. -/
def placeTo (t : List Ln) (w : List UInt8) (z : Nat) (K : List Nat) : Nat := K.foldl (fun a k => if Op.bytesLess (wd t k) w = true then endL t k else a) z
theorem place_cases (t : List Ln) (w : List UInt8) : ∀ (K : List Nat) (z : Nat), (placeTo t w z K = z ∧ ∀ k ∈ K, Op.bytesLess (wd t k) w = false) ∨ ∃ a k b, K = a ++ k :: b ∧ Op.bytesLess (wd t k) w = true ∧ (∀ x ∈ b, Op.bytesLess (wd t x) w = false) ∧ placeTo t w z K = endL t k
  | [], z => .inl ⟨rfl, fun k hk => by cases hk⟩
  | x :: K, z => by
    have e : placeTo t w z (x :: K) = placeTo t w (if Op.bytesLess (wd t x) w = true then endL t x else z) K := rfl
    rcases place_cases t w K (if Op.bytesLess (wd t x) w = true then endL t x else z) with ⟨h1, h2⟩ | ⟨a, k, b, h1, h2, h3, h4⟩
    · by_cases hx : Op.bytesLess (wd t x) w = true
      · refine .inr ⟨[], x, K, rfl, hx, h2, ?_⟩
        rw [e, h1, if_pos hx]
      · refine .inl ⟨by rw [e, h1, if_neg hx], fun k hk => ?_⟩
        rcases List.mem_cons.1 hk with rfl | hk
        · exact Bool.eq_false_iff.2 hx
        · exact h2 k hk
    · exact .inr ⟨x :: a, k, b, by rw [h1]; rfl, h2, h3, by rw [e, h4]⟩
theorem RightN.kid_in {N : Nat} {t : List Ln} (_h : RightN N t) {up : Int} (hu : -1 ≤ up ∧ up < t.length) {c : Nat} (hc : c < t.length) (e : underL t c = up) : up < c ∧ c < endI t up := by
  have h1 := under_lt t c
  refine ⟨by omega, ?_⟩
  unfold endI
  by_cases h0 : up < 0
  · rw [if_pos h0]; exact hc
  · rw [if_neg h0]
    obtain ⟨n, rfl⟩ := Int.eq_ofNat_of_zero_le (show 0 ≤ up by omega)
    rw [Int.toNat_natCast]
    obtain ⟨g1, g2, g3, g4⟩ := end_spec t n (by omega)
    have hs := under_spec t (dp t c) c
    have e2 : underF t (dp t c) c = (n : Int) := e
    rcases hs with ⟨hs, _⟩ | ⟨k, hk, hs, hd, hall⟩
    · omega
    · obtain rfl : k = n := by omega
      rcases Nat.lt_or_ge c (endL t k) with h2 | h2
      · exact h2
      · have h3 := g4 (by omega)
        rcases Nat.eq_or_lt_of_le h2 with h4 | h4
        · rw [h4] at h3; omega
        · have := hall (endL t k) g1 h4; omega
theorem RightN.kid_next {N : Nat} {t : List Ln} (h : RightN N t) {up : Int} (hu : -1 ≤ up ∧ up < t.length) {k : Nat} (hk : k < t.length) (e : underL t k = up) (hlt : endL t k < endI t up) : underL t (endL t k) = up := by
  obtain ⟨g1, g2, g3, g4⟩ := end_spec t k hk
  obtain ⟨k1, k2⟩ := h.kid_in hu hk e
  have hel : endL t k < t.length := by
    unfold endI at hlt
    by_cases h0 : up < 0
    · rw [if_pos h0] at hlt; exact hlt
    · rw [if_neg h0] at hlt
      have := (end_spec t up.toNat (by omega)).2.1
      omega
  have hdeep : ∀ m : Nat, up < m → m < endI t up → kidD t up ≤ dp t m := by
    intro m h1 h2
    unfold kidD
    unfold endI at h2
    by_cases h0 : up < 0
    · rw [if_pos h0] at h2 ⊢; exact (h.deep m h2).1
    · rw [if_neg h0] at h2 ⊢
      have := (end_spec t up.toNat (by omega)).2.2.1 m (by omega) h2
      omega
  have hD : ∀ n : Nat, n ≤ endI t up → DeepTo t up n := fun n hn m h1 h2 => hdeep m h1 (by omega)
  have hdk := (h.kid_iff hu.1 k1 hk (hD k (by omega))).1 e
  refine (h.kid_iff hu.1 (by omega) hel (hD _ (by omega))).2 ?_
  have h1 := hdeep (endL t k) (by omega) hlt
  have h2 := g4 hel
  omega
theorem RightN.kid_first {N : Nat} {t : List Ln} (_h : RightN N t) {up : Int} (hu : -1 ≤ up ∧ up < t.length) (hlt : (up + 1).toNat < endI t up) : (up + 1).toNat < t.length ∧ underL t (up + 1).toNat = up := by
  unfold endI at hlt
  by_cases h0 : up < 0
  · rw [if_pos h0] at hlt
    obtain rfl : up = -1 := by omega
    refine ⟨hlt, ?_⟩
    have := under_lt t (-1 + 1 : Int).toNat
    have e : (-1 + 1 : Int).toNat = 0 := rfl
    rw [e] at this ⊢
    omega
  · rw [if_neg h0] at hlt
    obtain ⟨n, rfl⟩ := Int.eq_ofNat_of_zero_le (show 0 ≤ up by omega)
    rw [Int.toNat_natCast] at hlt
    have e : ((n : Int) + 1).toNat = n + 1 := by omega
    rw [e] at hlt ⊢
    obtain ⟨g1, g2, g3, g4⟩ := end_spec t n (by omega)
    exact ⟨by omega, under_next t n (g3 (n + 1) (by omega) hlt)⟩
theorem RightN.place_ok {N : Nat} {t : List Ln} (h : RightN N t) {up : Int} (hu : -1 ≤ up ∧ up < t.length) {w : List UInt8} {e : Nat} (he : e ≤ endI t up) (h1 : e < endI t up → e < t.length ∧ underL t e = up ∧ Op.bytesLess w (wd t e) = true)
    (h2 : ∀ c, c < e → c < t.length → underL t c = up → Op.bytesLess (wd t c) w = true) :
    (∀ i, i < e → i < t.length → pless (pathL t i) (pathI t up ++ [w]) = true) ∧ (∀ i, e ≤ i → i < t.length → pless (pathI t up ++ [w]) (pathL t i) = true) := by
  rcases Nat.eq_or_lt_of_le he with rfl | hlt
  · exact h.put_end hu fun c hc hcu => h2 c (h.kid_in hu hc hcu).2 hc hcu
  · obtain ⟨a, b, c⟩ := h1 hlt
    exact h.put_ahead hu a b c fun k hk hku => h2 k hk (by omega) hku
/-- Siblings rise. -/
theorem RightN.kids_rise {N : Nat} {t : List Ln} (h : RightN N t) {up : Int} {a b : Nat} (hab : a < b) (hb : b < t.length) (ea : underL t a = up) (eb : underL t b = up) : Op.bytesLess (wd t a) (wd t b) = true := by
  have := h.path_less b hab hb
  rw [path_under t a, path_under t b, ea, eb, pless_app, pless_cons] at this
  rcases this with this | ⟨_, this⟩
  · exact this
  · simp [pless] at this
theorem endI_le {N : Nat} {t : List Ln} (_h : RightN N t) {up : Int} (hu : -1 ≤ up ∧ up < t.length) : (up + 1).toNat ≤ endI t up ∧ endI t up ≤ t.length := by
  unfold endI
  by_cases h0 : up < 0
  · rw [if_pos h0]; omega
  · rw [if_neg h0]
    obtain ⟨g1, g2, _⟩ := end_spec t up.toNat (by omega)
    omega
/-- The place that is found so is where the line belongs. -/
theorem RightN.place {N : Nat} {t : List Ln} (h : RightN N t) {up : Int} (hu : -1 ≤ up ∧ up < t.length) {w : List UInt8} (hnew : ∀ c, c < t.length → underL t c = up → wd t c ≠ w) :
    placeTo t w (up + 1).toNat (kidsL t up) ≤ t.length ∧ (∀ i, i < placeTo t w (up + 1).toNat (kidsL t up) → i < t.length → pless (pathL t i) (pathI t up ++ [w]) = true) ∧ (∀ i, placeTo t w (up + 1).toNat (kidsL t up) ≤ i → i < t.length → pless (pathI t up ++ [w]) (pathL t i) = true) := by
  obtain ⟨z1, z2⟩ := endI_le h hu
  have tri : ∀ c, c < t.length → underL t c = up → Op.bytesLess (wd t c) w = false → Op.bytesLess w (wd t c) = true := by
    intro c hc hcu hf
    rcases less_tri (wd t c) w with h1 | h1 | h1
    · rw [hf] at h1; cases h1
    · exact absurd h1 (hnew c hc hcu)
    · exact h1
  rcases place_cases t w (kidsL t up) (up + 1).toNat with ⟨e, hall⟩ | ⟨a, k, b, eK, hk, hb, e⟩
  · rw [e]
    refine ⟨by omega, h.place_ok hu z1 (fun hlt => ?_) (fun c hc hcl hcu => ?_)⟩
    · obtain ⟨f1, f2⟩ := h.kid_first hu hlt
      exact ⟨f1, f2, tri _ f1 f2 (hall _ ((mem_kids t _ _).2 ⟨f1, f2⟩))⟩
    · have := h.kid_in hu hcl hcu
      omega
  · have hkm : k ∈ kidsL t up := by rw [eK]; simp
    obtain ⟨k1, k2⟩ := (mem_kids t _ k).1 hkm
    obtain ⟨g1, g2, g3, g4⟩ := end_spec t k k1
    have hend : endL t k ≤ endI t up := by
      unfold endI
      by_cases h0 : up < 0
      · rw [if_pos h0]; exact g2
      · rw [if_neg h0]
        obtain ⟨n, rfl⟩ := Int.eq_ofNat_of_zero_le (show 0 ≤ up by omega)
        rw [Int.toNat_natCast]
        obtain ⟨q1, q2, q3, q4⟩ := end_spec t n (by omega)
        have hin := h.kid_in hu k1 k2
        unfold endI at hin
        rw [if_neg h0, Int.toNat_natCast] at hin
        have hin1 : n < k := by omega
        rcases Nat.lt_or_ge (endL t n) (endL t k) with h3 | h3
        · have a1 := g3 (endL t n) hin.2 h3
          have a2 := q4 (by omega)
          have a3 := q3 k hin1 hin.2
          omega
        · exact h3
    have hsort := kids_sorted t up
    rw [eK] at hsort
    have hbk : ∀ x ∈ b, k < x := (List.pairwise_cons.1 (List.pairwise_append.1 hsort).2.1).1
    have hak : ∀ x ∈ a, x < k := fun x hx => (List.pairwise_append.1 hsort).2.2 x hx k (by simp)
    rw [e]
    refine ⟨g2, h.place_ok hu hend (fun hlt => ?_) (fun c hc hcl hcu => ?_)⟩
    · have hu2 := h.kid_next hu k1 k2 hlt
      have hel : endL t k < t.length := by omega
      refine ⟨hel, hu2, tri _ hel hu2 ?_⟩
      have hm : endL t k ∈ kidsL t up := (mem_kids t _ _).2 ⟨hel, hu2⟩
      rw [eK] at hm
      rcases List.mem_append.1 hm with hm | hm
      · have := hak _ hm; omega
      · rcases List.mem_cons.1 hm with hm | hm
        · omega
        · exact hb _ hm
    · have hm : c ∈ kidsL t up := (mem_kids t _ _).2 ⟨hcl, hcu⟩
      rw [eK] at hm
      rcases List.mem_append.1 hm with hm | hm
      · exact less_trans _ _ _ (h.kids_rise (hak c hm) k1 hcu k2) hk
      · rcases List.mem_cons.1 hm with hm | hm
        · rw [hm]; exact hk
        · have hkc := hbk c hm
          have hdc := g3 c hkc hc
          have d1 := h.kid_in hu k1 k2
          have hs := under_spec t (dp t c) c
          have e2 : underF t (dp t c) c = up := hcu
          rcases hs with ⟨hs, hall⟩ | ⟨x, hx, hs, hd, hall⟩
          · have := hall k hkc; omega
          · have h5 : x < k := by omega
            have := hall k h5 hkc
            omega
end Go.Proofs.YtikjdjfpoohieaaDoor.T

namespace Go.Proofs.YtikjdjfpoohieaaDoor.S
open T (Ln Pth at_ dp wd RightT RightN pathL pathI underL findI entries addL leavesL leafPaths bareT)
open W (Tok Res lexL signK quoteL blankB stops)

/-! ### rows -/
/-! ### commands read -/
/-! ### what stands twice -/
end Go.Proofs.YtikjdjfpoohieaaDoor.S

namespace Go.Proofs.YtikjdjfpoohieaaDoor.S
open T (Ln Pth at_ dp wd RightT RightN pathL pathI underL findI entries addL leavesL leafPaths bareT Built)
open W (Tok Res lexL signK quoteL blankB stops)

end Go.Proofs.YtikjdjfpoohieaaDoor.S
