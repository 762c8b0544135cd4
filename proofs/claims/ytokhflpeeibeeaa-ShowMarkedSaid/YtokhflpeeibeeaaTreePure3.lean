/-
  Plain laws on lines for layer 3 (tree): the paths of a part; a tree without a part is a tree. Condition: a tree.
-/
import Derived.Test.YtokhflpeeibeeaaTreePure2
namespace Go.Proofs.Ytokhflpeeibeeaa.T

theorem RightT.sub_path {t : List Ln} (h : RightT t) (i : Nat) (hi : i < t.length) : ∀ (n k : Nat), k ≤ n → k < endL t i - i → pathL (subL t i) k = (pathL t (i + k)).drop (dp t i).toNat
  | n, k, hn, hk => by
    obtain ⟨g1, g2, g3, g4⟩ := end_spec t i hi
    have hw : ∀ j, j < endL t i - i → wd (subL t i) j = wd t (i + j) := fun j hj => by unfold wd; rw [sub_at t i j hi hj]; rfl
    have hu := sub_under t i k hi hk
    have hdi := (h.deep i hi).1
    by_cases h0 : k = 0
    · subst h0
      rw [if_pos rfl] at hu
      rw [path_root hu, hw 0 hk, Nat.add_zero]
      rcases h.under i hi with ⟨a1, a2⟩ | ⟨u, a1, a2, a3, _⟩
      · rw [path_root a2, a1]; rfl
      · have hl := h.path_len u u (Nat.le_refl _) (by omega)
        rw [path_step a2, List.drop_append_of_le_length (by omega), List.drop_of_length_le (by omega)]; rfl
    · rw [if_neg h0] at hu
      have hdk : dp t i < dp t (i + k) := g3 (i + k) (by omega) (by omega)
      rcases h.under (i + k) (by omega) with ⟨a1, _⟩ | ⟨a, a1, a2, a3, a4⟩
      · omega
      · have hia : i ≤ a := by
          rcases Nat.lt_or_ge a i with hlt | hge
          · have := a4 i hlt (by omega); omega
          · exact hge
        rw [a2] at hu
        have hu2 : underL (subL t i) k = ((a - i : Nat) : Int) := by rw [hu]; omega
        match n, hn with
        | 0, hn => omega
        | n + 1, hn =>
          have ih := RightT.sub_path h i hi n (a - i) (by omega) (by omega)
          have e : i + (a - i) = a := by omega
          rw [e] at ih
          have hl := h.path_len a a (Nat.le_refl _) (by omega)
          rw [path_step hu2, path_step a2, ih, hw k hk, List.drop_append_of_le_length (by omega)]

/-- The lines without a part. -/
def cutL (t : List Ln) (k : Nat) : List Ln := t.take k ++ t.drop (endL t k)
def skipI (k e j : Nat) : Nat := if j < k then j else j + (e - k)
theorem cut_len (t : List Ln) (k : Nat) (hk : k < t.length) : (cutL t k).length = t.length - (endL t k - k) := by
  obtain ⟨g1, g2, _, _⟩ := end_spec t k hk
  unfold cutL; rw [List.length_append, List.length_take, List.length_drop]; omega
theorem cut_at (t : List Ln) (k j : Nat) (hk : k < t.length) : at_ (cutL t k) j = at_ t (skipI k (endL t k) j) := by
  obtain ⟨g1, g2, _, _⟩ := end_spec t k hk
  unfold cutL skipI
  have hl : (t.take k).length = k := by rw [List.length_take]; omega
  by_cases h : j < k
  · rw [if_pos h, at_app_left _ _ _ (by omega), at_take _ _ _ h]
  · rw [if_neg h]
    have e : j = (t.take k).length + (j - k) := by omega
    rw [e, at_app_right, at_drop]
    congr 1; omega
theorem RightT.cut {t : List Ln} (h : RightT t) (k : Nat) (hk : k < t.length) : RightT (cutL t k) := by
  obtain ⟨g1, g2, g3, g4⟩ := end_spec t k hk
  have hl := cut_len t k hk
  have d : ∀ j, dp (cutL t k) j = dp t (skipI k (endL t k) j) := fun j => by unfold dp; rw [cut_at t k j hk]
  have w : ∀ j, wd (cutL t k) j = wd t (skipI k (endL t k) j) := fun j => by unfold wd; rw [cut_at t k j hk]
  have lt : ∀ j, j < (cutL t k).length → skipI k (endL t k) j < t.length := fun j hj => by unfold skipI; split <;> omega
  have gek : ∀ j, k ≤ j → j < endL t k → dp t k ≤ dp t j := fun j h1 h2 => by
    rcases Nat.eq_or_lt_of_le h1 with rfl | h1
    · exact Int.le_refl _
    · have := g3 j h1 h2; omega
  refine ⟨by have := h.len; omega, fun j hj => ?_, fun j hj => ?_, fun j hj => ?_, fun hp => ?_, fun j hj => ?_, fun a b hab hb hd hj => ?_⟩
  · rw [d]; exact h.deep _ (lt j hj)
  · rw [w]; exact h.long _ (lt j hj)
  · rw [cut_at t k j hk]; exact h.mark _ (lt j hj)
  · rw [d]
    have h0 := h.first (by omega)
    have hlt := lt 0 hp
    unfold skipI at hlt ⊢
    by_cases hz : 0 < k
    · rw [if_pos hz]; exact h0
    · obtain rfl : k = 0 := by omega
      rw [if_neg hz] at hlt ⊢
      have e : 0 + (endL t 0 - 0) = endL t 0 := by omega
      rw [e] at hlt ⊢
      have := g4 hlt
      have := (h.deep _ hlt).1
      omega
  · rw [d, d]
    have hlt := lt (j + 1) hj
    unfold skipI at hlt ⊢
    by_cases h1 : j + 1 < k
    · rw [if_pos h1, if_pos (by omega)]; exact h.step j (by omega)
    · rw [if_neg h1] at hlt ⊢
      by_cases h2 : j < k
      · rw [if_pos h2]
        have e : j + 1 + (endL t k - k) = endL t k := by omega
        rw [e] at hlt ⊢
        have := g4 hlt
        have hs := h.step j (by omega)
        have e2 : j + 1 = k := by omega
        rw [e2] at hs
        omega
      · rw [if_neg h2]
        have := h.step (j + (endL t k - k)) (by omega)
        have e : j + (endL t k - k) + 1 = j + 1 + (endL t k - k) := by omega
        rw [e] at this
        exact this
  · rw [w, w]
    rw [d, d] at hd
    have hlt := lt b hb
    have hkey : ∀ c, a < c → c ≤ b → dp t (skipI k (endL t k) a) ≤ dp t (skipI k (endL t k) c) := fun c h1 h2 => by
      rcases Nat.eq_or_lt_of_le h2 with rfl | h2
      · omega
      · have := hj c h1 h2; rw [d, d] at this; exact this
    refine h.rise _ _ ?_ hlt hd (fun j h1 h2 => ?_)
    · unfold skipI; split <;> split <;> omega
    · by_cases hj1 : j < k
      · have ha : a < k := by
          rcases Nat.lt_or_ge a k with h | h
          · exact h
          · unfold skipI at h1; rw [if_neg (by omega)] at h1; omega
        have haj : a < j := by unfold skipI at h1; rw [if_pos ha] at h1; exact h1
        have hjb : j ≤ b := by
          rcases Nat.lt_or_ge b k with h | h
          · unfold skipI at h2; rw [if_pos h] at h2; omega
          · omega
        have := hkey j haj hjb
        have e : skipI k (endL t k) j = j := by unfold skipI; rw [if_pos hj1]
        rw [e] at this
        exact this
      · have hbk : ¬ b < k := fun hbk => by unfold skipI at h2; rw [if_pos hbk] at h2; omega
        by_cases hj2 : j < endL t k
        · have ha : a < k := by
            rcases Nat.lt_or_ge a k with h | h
            · exact h
            · unfold skipI at h1; rw [if_neg (by omega)] at h1; omega
          have h3 := hkey k ha (by omega)
          have e : skipI k (endL t k) k = endL t k := by unfold skipI; rw [if_neg (by omega)]; omega
          rw [e] at h3
          have hle : endL t k < t.length := by unfold skipI at hlt; rw [if_neg hbk] at hlt; omega
          have := g4 hle
          have := gek j (by omega) hj2
          omega
        · have hc : skipI k (endL t k) (j - (endL t k - k)) = j := by unfold skipI; rw [if_neg (by omega)]; omega
          have hca : a < j - (endL t k - k) := by
            unfold skipI at h1
            by_cases ha : a < k
            · omega
            · rw [if_neg ha] at h1; omega
          have hcb : j - (endL t k - k) ≤ b := by unfold skipI at h2; rw [if_neg hbk] at h2; omega
          have := hkey _ hca hcb
          rw [hc] at this
          exact this
end Go.Proofs.Ytokhflpeeibeeaa.T
