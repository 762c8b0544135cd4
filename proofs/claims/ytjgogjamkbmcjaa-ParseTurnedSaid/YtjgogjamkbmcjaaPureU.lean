/-
  Plain laws of layer 5: the texts of two trees, one behind the other, in either order. Condition: two trees, at most 200 lines in all.
-/
import Derived.Test.YtjgogjamkbmcjaaPureP

namespace Go.Proofs.Ytjgogjamkbmcjaa.S
open T (Ln Pth at_ dp wd RightT pathL pathI underL findI putL entries)
open W (Tok)

theorem RightT.lexS_on {t : List Ln} (h : RightT t) : ∀ (f k : Nat) (r : List UInt8), k + f ≤ t.length → lexS (textFrom t f k ++ r) = (lexS r).map (toksFrom t f k ++ ·)
  | 0, k, r, _ => (map_nil _).symm
  | f + 1, k, r, hk => by rw [textFrom, List.append_assoc, RightT.lexS_row h k (by omega), RightT.lexS_on h f (k + 1) r (by omega), map_app]; rfl
theorem text_two {a b : List Ln} (ha : RightT a) (hb : RightT b) : lexS (textL a ++ textL b) = some (toksFrom a a.length 0 ++ toksFrom b b.length 0) := by
  unfold textL
  rw [text_from, text_from, RightT.lexS_on ha _ _ _ (by omega), RightT.lexS_from hb _ _ (by omega)]; rfl

/-- A reader stops at the first token that cannot go on. -/
theorem parse_stops (n : Nat) : ∀ (l : List Tok) (s s' : PSt) (pre post : List Trip) (x : Trip) (e : Int), l.map strip = pre ++ x :: post → runS s pre = some s' → pstep s' x = .inr e → ∃ q, parseT n s l = .bad q e
  | [], s, s', pre, post, x, e, h, _, _ => by simp at h
  | y :: l, s, s', [], post, x, e, h, hr, hs => by
    injection hr with hr
    subst hr
    simp only [List.map_cons, List.nil_append] at h
    injection h with h1 h2
    unfold parseT
    rw [h1, hs]
    exact ⟨_, rfl⟩
  | y :: l, s, s', z :: pre, post, x, e, h, hr, hs => by
    simp only [List.map_cons, List.cons_append] at h
    injection h with h1 h2
    simp only [runS] at hr
    unfold parseT
    rw [h1]
    cases hp : pstep s z with
    | inl s2 => rw [hp] at hr; exact parse_stops n l s2 s' pre post x e h2 hr hs
    | inr er => rw [hp] at hr; cases hr
theorem marks_state {t : List Ln} {p : Pth} {m : Int} (h : 0 ≤ m ∧ m ≤ 3) : ∃ s', runS ⟨.start, t, p⟩ (markK m) = some s' ∧ ∀ x : Trip, x.1 = 1 → pstep s' x = nameStep m t p x := by
  have hm : m = 0 ∨ m = 1 ∨ m = 2 ∨ m = 3 := by omega
  rcases hm with rfl | rfl | rfl | rfl
  · exact ⟨⟨.start, t, p⟩, rfl, fun x hx => by simp only [pstep]; rw [if_neg (by omega)]⟩
  · exact ⟨⟨.marks 1, t, p⟩, by simp [markK, runS, pstep, nameStep], fun x hx => rfl⟩
  · exact ⟨⟨.marks 2, t, p⟩, by simp [markK, runS, pstep, nameStep], fun x hx => rfl⟩
  · exact ⟨⟨.marks 3, t, p⟩, by simp [markK, runS, pstep, nameStep], fun x hx => rfl⟩

/-- The line of Depth 0 of a line's part stands no later. -/
theorem root_le {t : List Ln} (h : RightT t) {k : Nat} (hk : k < t.length) : ∃ r s, r ≤ k ∧ dp t r = 0 ∧ pathL t k = wd t r :: s := by
  obtain ⟨r, s, hr, hd, e⟩ := root_of h hk
  refine ⟨r, s, ?_, hd, e⟩
  rcases Nat.lt_or_ge k r with hlt | hge
  · have h1 := h.path_less r hlt hr
    have hl := h.path_len r r (Nat.le_refl _) hr
    have e1 : pathL t r = [wd t r] := by
      rw [T.path_under t r]
      rw [T.path_under t r, List.length_append] at hl
      have : (pathI t (underL t r)).length = 0 := by simp at hl; omega
      rw [List.eq_nil_of_length_eq_zero this]; rfl
    rw [e, e1] at h1
    cases s with
    | nil => rw [T.pless_irr] at h1; cases h1
    | cons y s =>
      have := T.pless_more [wd t r] (y :: s) (by simp)
      have h2 := T.pless_asymm this
      simp only [List.singleton_append] at h2
      rw [h1] at h2; cases h2
  · exact hge
def ApartTo (a b : List Ln) (K : Nat) : Prop := ∀ i j, i < a.length → j < K → dp a i = 0 → dp b j = 0 → wd a i ≠ wd b j
theorem apartTo_paths {a b : List Ln} (ha : RightT a) (hb : RightT b) {K : Nat} (hK : K ≤ b.length) (h : ApartTo a b K) {i j : Nat} (hi : i < a.length) (hj : j < K) : pathL a i ≠ pathL b j := by
  intro e
  obtain ⟨r, s, hr, hd, e1⟩ := root_le ha hi
  obtain ⟨r2, s2, hr2, hd2, e2⟩ := root_le hb (show j < b.length by omega)
  rw [e, e2] at e1
  injection e1 with e1 _
  exact h r r2 (by omega) (by omega) hd hd2 e1.symm
theorem run_upto {a b : List Ln} (ha : RightT a) (hb : RightT b) {K : Nat} (hK : K ≤ b.length) (h : ApartTo a b K) (hl : a.length + b.length ≤ 200) : ∀ (f k : Nat) (U : List Ln), k + f = K → RightT U → U.length = a.length + k → (∀ x, x ∈ entries U ↔ x ∈ entries a ∨ x ∈ entries (b.take k)) →
    ∃ V, (∀ rest, runS ⟨.start, U, upTo b k⟩ (toksFrom b f k ++ rest) = runS ⟨.start, V, upTo b K⟩ rest) ∧ RightT V ∧ V.length = a.length + K ∧ ∀ x, x ∈ entries V ↔ x ∈ entries a ∨ x ∈ entries (b.take K)
  | 0, k, U, hk, hr, hlen, he => by
    obtain rfl : k = K := by omega
    exact ⟨U, fun rest => rfl, hr, hlen, he⟩
  | f + 1, k, U, hk, hr, hlen, he => by
    have hkb : k < b.length := by omega
    have hup : upTo b k ++ [wd b k] = pathL b k := by rw [T.path_under b k]; unfold upTo; rw [if_pos hkb]
    have hul := upTo_len hb hkb
    have hd := hb.deep k hkb
    have hnew : ∀ i, i < U.length → pathL U i ≠ pathL b k := fun i hi e => by
      have := (he (pathL U i, (at_ U i).mark)).1 ((T.mem_entries U _ _).2 ⟨i, hi, rfl, rfl⟩)
      rcases this with hm | hm
      · obtain ⟨j, hj, e2, _⟩ := (T.mem_entries a _ _).1 hm
        exact apartTo_paths ha hb hK h hj (show k < K by omega) (by rw [e2, e])
      · obtain ⟨j, hj, e2⟩ := (mem_take b (by omega) _).1 hm
        injection e2 with e2 _
        have := hb.path_inj (max j k) j k (Nat.le_max_left ..) (Nat.le_max_right ..) (by omega) hkb (by rw [← e2, e])
        omega
    have hopen : T.Open U (upTo b k) := by
      rcases upTo_open hkb with h0 | h0
      · exact .inl h0
      · obtain ⟨m, hm⟩ := (T.RightT.path_mem _).1 h0
        exact .inr ((T.RightT.path_mem _).2 ⟨m, (he _).2 (.inr hm)⟩)
    obtain ⟨r1, r2⟩ := hr.putL hopen (m := (at_ b k).mark) (by rw [hup]; exact hnew) (by omega) (by omega) (hb.long k hkb) (hb.mark k hkb)
    obtain ⟨V, v1, v2, v3, v4⟩ := run_upto ha hb hK h hl f (k + 1) _ (by omega) r1 (by rw [T.putL_len, hlen]; omega) (fun x => by
      rw [r2 x, he x, mem_take b (by omega) x, mem_take b (by omega) x, hup]
      constructor
      · rintro (e | e | ⟨i, hi, e⟩)
        · exact .inr ⟨k, by omega, e⟩
        · exact .inl e
        · exact .inr ⟨i, by omega, e⟩
      · rintro (e | ⟨i, hi, e⟩)
        · exact .inr (.inl e)
        · rcases Nat.lt_or_ge i k with hlt | hge
          · exact .inr (.inr ⟨i, hlt, e⟩)
          · obtain rfl : i = k := by omega
            exact .inl e)
    refine ⟨V, fun rest => ?_, v2, v3, v4⟩
    rw [toksFrom, List.append_assoc, run_rowU hb hkb (by rw [T.findI_none hnew]; omega) (by omega)]
    exact v1 rest
theorem first_of (P : Nat → Prop) : ∀ n, (∀ j, j < n → ¬ P j) ∨ ∃ K, K < n ∧ P K ∧ ∀ j, j < K → ¬ P j
  | 0 => .inl fun j h => absurd h (Nat.not_lt_zero j)
  | n + 1 => by
    rcases first_of P n with h | ⟨K, h1, h2, h3⟩
    · by_cases hp : P n
      · exact .inr ⟨n, by omega, hp, h⟩
      · refine .inl fun j hj => ?_
        rcases Nat.lt_or_ge j n with hlt | hge
        · exact h j hlt
        · obtain rfl : j = n := by omega
          exact hp
    · exact .inr ⟨K, by omega, h2, h3⟩
theorem toks_split (t : List Ln) : ∀ (f g k : Nat), toksFrom t (f + g) k = toksFrom t f k ++ toksFrom t g (k + f)
  | 0, g, k => by rw [Nat.zero_add]; rfl
  | f + 1, g, k => by rw [show f + 1 + g = (f + g) + 1 by omega, toksFrom, toksFrom, toks_split t f g (k + 1), List.append_assoc, show k + 1 + f = k + (f + 1) by omega]

/-- Two trees' texts, one behind the other. -/
theorem parse_two {a b : List Ln} (ha : RightT a) (hb : RightT b) (hl : a.length + b.length ≤ 200) :
    (Apart a b ∧ ∃ V, parseL (textL a ++ textL b) = .ok V ∧ RightT V ∧ V.length = a.length + b.length ∧ ∀ x, x ∈ entries V ↔ x ∈ entries a ∨ x ∈ entries b) ∨
    (¬ Apart a b ∧ ∃ q, parseL (textL a ++ textL b) = .bad q 4) := by
  have ht := text_two ha hb
  unfold lexS at ht
  unfold parseL
  cases hx : W.lexL 0 (textL a ++ textL b) with
  | bad p e => rw [hx] at ht; cases ht
  | ok c =>
    rw [hx] at ht
    injection ht with ht
    have hra := run_from ha a.length 0 (by omega)
    rw [List.take_zero, upTo_zero] at hra
    rcases first_of (fun j => dp b j = 0 ∧ ∃ i, i < a.length ∧ dp a i = 0 ∧ wd a i = wd b j) b.length with h | ⟨K, h1, ⟨h2, i, i1, i2, i3⟩, h3⟩
    · have hap : Apart a b := fun i j hi hj e1 e2 e3 => h j hj ⟨e2, i, hi, e1, e3⟩
      refine .inl ⟨hap, ?_⟩
      obtain ⟨V, v1, v2, v3, v4⟩ := run_upto ha hb (Nat.le_refl _) (fun i j hi hj => hap i j hi hj) hl b.length 0 a (by omega) ha rfl (fun x => by simp [T.entries])
      have v1 := v1 []
      rw [List.append_nil, upTo_zero] at v1
      have hup : upTo b b.length = [] := by unfold upTo; rw [if_neg (Nat.lt_irrefl _)]
      rw [hup] at v1
      refine ⟨V, ?_, v2, v3, fun x => by rw [v4 x, List.take_length]⟩
      show parseT _ init c = _
      rw [parse_run _ c init ⟨.start, V, []⟩ (by rw [ht, runS_app]; show (runS ⟨.start, [], []⟩ _).bind _ = _; rw [hra]; exact v1)]
      rfl
    · refine .inr ⟨fun hap => hap i K i1 h1 i2 h2 i3, ?_⟩
      obtain ⟨V, v1, v2, v3, v4⟩ := run_upto ha hb (Nat.le_of_lt h1) (fun i j hi hj e1 e2 e3 => h3 j hj ⟨e2, i, hi, e1, e3⟩) hl K 0 a (by omega) ha rfl (fun x => by simp [T.entries])
      have hup : upTo b K = [] := by
        have := upTo_len hb h1
        exact List.eq_nil_of_length_eq_zero (by omega)
      obtain ⟨s', s1, s2⟩ := marks_state (t := V) (p := []) (hb.mark K h1)
      have hsplit : toksFrom b b.length 0 = toksFrom b K 0 ++ toksFrom b (b.length - K) K := by
        have := toks_split b K (b.length - K) 0
        rwa [show K + (b.length - K) = b.length by omega, Nat.zero_add] at this
      obtain ⟨g, hg⟩ : ∃ g, b.length - K = g + 1 := ⟨b.length - K - 1, by omega⟩
      rw [hsplit, hg, toksFrom] at ht
      unfold toksRow at ht
      refine parse_stops _ c init s' (toksFrom a a.length 0 ++ (toksFrom b K 0 ++ markK (at_ b K).mark)) ((if openB b K = true then (2, [], 0) else (4, [], 0)) :: List.replicate ((dp b K).toNat - nextD b K) (3, [], 0) ++ toksFrom b g (K + 1)) (1, wd b K, 0) 4 (by rw [ht]; simp only [List.append_assoc, List.cons_append]) ?_ ?_
      · rw [runS_app]
        show (runS ⟨.start, [], []⟩ _).bind _ = _
        rw [hra]
        show runS ⟨.start, a, []⟩ _ = _
        have := v1 (markK (at_ b K).mark)
        rw [upTo_zero, hup] at this
        rw [this]; exact s1
      · rw [s2 _ rfl]
        unfold nameStep
        rw [if_neg (show ¬ ((1 : Int) = 5) by decide), if_neg (show ¬ ((1 : Int) ≠ 1) by decide), if_neg (show ¬ (([] : Pth).length = 16) by decide)]
        have hm : ([wd b K], (at_ a i).mark) ∈ entries V := (v4 _).2 (.inl ((T.mem_entries a _ _).2 ⟨i, i1, by
          have hl := ha.path_len i i (Nat.le_refl _) i1
          rw [T.path_under a i, List.length_append] at hl
          have : (pathI a (underL a i)).length = 0 := by simp at hl; omega
          rw [T.path_under a i, List.eq_nil_of_length_eq_zero this, i3]; rfl, rfl⟩))
        obtain ⟨k, k1, k2, _⟩ := (T.mem_entries V _ _).1 hm
        have hf : findI V ([] ++ [wd b K]) = k := T.findI_some v2 k1 k2
        rw [hf, if_pos (by omega)]
/-- Siblings may change places. -/
theorem parse_turned {a b : List Ln} (ha : RightT a) (hb : RightT b) (hl : a.length + b.length ≤ 200) :
    (∃ V, parseL (textL a ++ textL b) = .ok V ∧ parseL (textL b ++ textL a) = .ok V ∧ V.length = a.length + b.length) ∨ (∃ p q, parseL (textL a ++ textL b) = .bad p 4 ∧ parseL (textL b ++ textL a) = .bad q 4) := by
  rcases parse_two ha hb hl with ⟨h1, V, v1, v2, v3, v4⟩ | ⟨h1, q, e⟩
  · rcases parse_two hb ha (by omega) with ⟨_, U, u1, u2, u3, u4⟩ | ⟨h2, _⟩
    · refine .inl ⟨V, v1, ?_, v3⟩
      rw [u1, T.RightT.ext v2 u2 fun x => by rw [v4 x, u4 x]; exact Or.comm]
    · exact absurd (fun i j hi hj e1 e2 e3 => h1 j i hj hi e2 e1 e3.symm) h2
  · rcases parse_two hb ha (by omega) with ⟨h2, _⟩ | ⟨_, q2, e2⟩
    · exact absurd (fun i j hi hj e1 e2 e3 => h2 j i hj hi e2 e1 e3.symm) h1
    · exact .inr ⟨q, q2, e, e2⟩
end Go.Proofs.Ytjgogjamkbmcjaa.S
