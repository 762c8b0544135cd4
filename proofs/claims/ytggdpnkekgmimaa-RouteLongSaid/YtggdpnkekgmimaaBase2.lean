/-
  Plain laws for slices.SortStableFunc: rotations and shifts of a row, what a binary search finds, and that a row whose two halves are in order is in order behind symMerge's steps; what is equal keeps its order throughout. No conditions.
  slices.SortStableFunc, as far as it can be walked over any program that has its bodies: swapRange, rotate, symMerge, stable. Condition: rows of at most 80 elements for the whole (2^61 for the parts).
-/
import Derived.Test.YtggdpnkekgmimaaBase1
import Derived.Sort.LotA
import Derived.Sort.WalkA
import Derived.Shelf.SlSortCmp.KitK
import Derived.Sort.WalkB2
import Derived.Sort.WalkB12
import Derived.Deep.LoopGhost
import Derived.Test.YtggdpnkekgmimaaChecked

namespace Go.Proofs.Ytggdpnkekgmimaa.Sb
open Go.Sort
set_option linter.unusedVariables false
variable {α : Type} [Inhabited α]

/-- Of what compares as equal the earlier one has the smaller place. -/
def Stb (lt : α → α → Bool) (pl : α → Nat) (d : Array α) : Prop := ∀ i j, i < j → j < d.size → lt d[i]! d[j]! = false → lt d[j]! d[i]! = false → pl d[i]! < pl d[j]!
variable {lt : α → α → Bool} {pl : α → Nat}
omit [Inhabited α] in
theorem lt_asym (hS : SWO lt) {x y : α} (h : lt x y = true) : lt y x = false := by
  cases k : lt y x with
  | false => rfl
  | true => have := hS.trans x y x h k; rw [hS.irrefl] at this; cases this
omit [Inhabited α] in
theorem le_lt (hS : SWO lt) {x y z : α} (h1 : lt y x = false) (h2 : lt y z = true) : lt x z = true := by
  cases k : lt x z with
  | true => rfl
  | false => rw [hS.ntrans y x z h1 k] at h2; cases h2
omit [Inhabited α] in
theorem lt_le (hS : SWO lt) {x y z : α} (h1 : lt x y = true) (h2 : lt z y = false) : lt x z = true := by
  cases k : lt x z with
  | true => rfl
  | false => rw [hS.ntrans x z y k h2] at h1; cases h1
/-- Two neighbours change places, of which the second one is less. -/
theorem Stb.adj (hS : SWO lt) {d : Array α} (h : Stb lt pl d) {k : Nat} (hk : k + 1 < d.size) (hl : lt d[k + 1]! d[k]! = true) : Stb lt pl (swp d k (k + 1)) := by
  intro i j hij hj h1 h2
  rw [swp_size] at hj
  have gi := swp_get d (show k < d.size by omega) hk i
  have gj := swp_get d (show k < d.size by omega) hk j
  by_cases a1 : i = k
  · subst a1
    rw [if_neg (by omega), if_pos rfl] at gi
    by_cases a2 : j = i + 1
    · subst a2
      rw [if_pos rfl] at gj
      rw [gi, gj] at h1
      rw [h1] at hl; cases hl
    · rw [if_neg a2, if_neg (by omega)] at gj
      rw [gi, gj] at h1 h2 ⊢
      exact h (i + 1) j (by omega) hj h1 h2
  · by_cases a3 : i = k + 1
    · subst a3
      rw [if_pos rfl] at gi
      rw [if_neg (by omega), if_neg (by omega)] at gj
      rw [gi, gj] at h1 h2 ⊢
      exact h k j (by omega) hj h1 h2
    · rw [if_neg a3, if_neg a1] at gi
      by_cases a4 : j = k + 1
      · subst a4
        rw [if_pos rfl] at gj
        rw [gi, gj] at h1 h2 ⊢
        exact h i k (by omega) (by omega) h1 h2
      · by_cases a5 : j = k
        · subst a5
          rw [if_neg (by omega), if_pos rfl] at gj
          rw [gi, gj] at h1 h2 ⊢
          exact h i (j + 1) (by omega) hk h1 h2
        · rw [if_neg a4, if_neg a5] at gj
          rw [gi, gj] at h1 h2 ⊢
          exact h i j hij hj h1 h2
theorem swp_comm {d : Array α} {i j : Nat} (hi : i < d.size) (hj : j < d.size) : swp d i j = swp d j i := by
  apply Array.ext
  · rw [swp_size, swp_size]
  intro x h1 h2
  have e1 := swp_get d hi hj x
  have e2 := swp_get d hj hi x
  rw [getElem!_pos (swp d i j) x h1] at e1
  rw [getElem!_pos (swp d j i) x h2] at e2
  rw [e1, e2]
  by_cases a : x = j
  · subst a
    by_cases b : x = i
    · subst b; rfl
    · rw [if_pos rfl, if_neg b, if_pos rfl]
  · rw [if_neg a]
    by_cases b : x = i
    · rw [if_pos b, if_pos b]
    · rw [if_neg b, if_neg b, if_neg a]
-- INSERTION
theorem insInner_stb (hS : SWO lt) (a : Nat) : ∀ (j : Nat) (d : Array α), Stb lt pl d → j < d.size → Stb lt pl (insInner lt a j d)
  | 0, d, h, hj => by rw [insInner_stop _ _ _ _ (.inl (Nat.zero_le _))]; exact h
  | j + 1, d, h, hj => by
    by_cases hc : a < j + 1 ∧ lt d[j + 1]! d[j]! = true
    · rw [insInner_go lt a (j + 1) d hc.1 hc.2, Nat.add_sub_cancel]
      refine insInner_stb hS a j _ ?_ (by rw [swp_size]; omega)
      rw [swp_comm hj (by omega)]
      exact h.adj hS hj hc.2
    · rw [insInner_stop]
      · exact h
      · by_cases h1 : a < j + 1
        · right
          cases k : lt d[j + 1]! d[j]! with
          | false => exact k
          | true => exact absurd ⟨h1, k⟩ hc
        · left; omega
theorem insInner_size (a : Nat) : ∀ (j : Nat) (d : Array α), (insInner lt a j d).size = d.size
  | 0, d => by rw [insInner_stop _ _ _ _ (.inl (Nat.zero_le _))]
  | j + 1, d => by
    by_cases hc : a < j + 1 ∧ lt d[j + 1]! d[j]! = true
    · rw [insInner_go lt a (j + 1) d hc.1 hc.2, Nat.add_sub_cancel, insInner_size a j, swp_size]
    · rw [insInner_stop]
      by_cases h1 : a < j + 1
      · right
        cases k : lt d[j + 1]! d[j]! with
        | false => exact k
        | true => exact absurd ⟨h1, k⟩ hc
      · left; omega
theorem insOuter_stb (hS : SWO lt) (a b : Nat) : ∀ (g i : Nat) (d : Array α), b - i = g → Stb lt pl d → b ≤ d.size → Stb lt pl (insOuter lt a b i d)
  | 0, i, d, hg, h, hb => by rw [insOuter, if_neg (by omega)]; exact h
  | g + 1, i, d, hg, h, hb => by
    rw [insOuter, if_pos (by omega)]
    exact insOuter_stb hS a b g (i + 1) _ (by omega) (insInner_stb hS a i d h (by omega)) (by rw [insInner_size]; exact hb)
theorem insertion_stb (hS : SWO lt) {a b : Nat} {d : Array α} (h : Stb lt pl d) (hb : b ≤ d.size) : Stb lt pl (insertionSort lt d a b) := insOuter_stb hS a b _ _ d rfl h hb
-- SHIFTS
/-- The element at a goes n places on, one by one. -/
def shR (d : Array α) (a : Nat) : Nat → Array α
  | 0 => d
  | n + 1 => swp (shR d a n) (a + n) (a + n + 1)
theorem shR_size (d : Array α) (a : Nat) : ∀ n, (shR d a n).size = d.size
  | 0 => rfl
  | n + 1 => by rw [shR, swp_size, shR_size d a n]
theorem shR_get (d : Array α) (a : Nat) : ∀ n, a + n < d.size → ∀ x, (shR d a n)[x]! = if a ≤ x ∧ x < a + n then d[x + 1]! else if x = a + n then d[a]! else d[x]!
  | 0, h, x => by
    rw [if_neg (by omega), shR]
    by_cases e : x = a + 0
    · rw [if_pos e, e]; rfl
    · rw [if_neg e]
  | n + 1, h, x => by
    have e := shR_get d a n (by omega)
    rw [shR, swp_get _ (by rw [shR_size]; omega) (by rw [shR_size]; omega), e, e, e]
    by_cases a1 : x = a + n + 1
    · rw [if_pos a1, if_neg (by omega), if_pos rfl, if_neg (by omega), if_pos (by omega)]
    · rw [if_neg a1]
      by_cases a2 : x = a + n
      · rw [if_pos a2, if_neg (by omega), if_neg (by omega), if_pos (by omega), a2]
      · rw [if_neg a2]
        by_cases a3 : a ≤ x ∧ x < a + n
        · rw [if_pos a3, if_pos (by omega)]
        · rw [if_neg a3, if_neg a2, if_neg (by omega), if_neg (by omega)]
theorem shR_perm (d : Array α) (a b : Nat) : ∀ n, a + n < b → b ≤ d.size → PermIn a b d (shR d a n)
  | 0, _, _ => permIn_refl _ _ _
  | n + 1, h, hb => permIn_trans _ _ _ _ _ (shR_perm d a b n (by omega) hb) (swp_permIn _ _ _ _ _ (by omega) (by omega) (by omega) (by omega) (by rw [shR_size]; exact hb))
theorem shR_stb (hS : SWO lt) {d : Array α} (h : Stb lt pl d) (a : Nat) : ∀ n, a + n < d.size → (∀ x, a < x → x ≤ a + n → lt d[x]! d[a]! = true) → Stb lt pl (shR d a n)
  | 0, _, _ => h
  | n + 1, hn, hl => by
    have g := shR_get d a n (by omega)
    refine (shR_stb hS h a n (by omega) fun x h1 h2 => hl x h1 (by omega)).adj hS (by rw [shR_size]; omega) ?_
    rw [g, g, if_neg (by omega), if_neg (by omega), if_neg (by omega), if_pos rfl]
    exact hl _ (by omega) (by omega)
/-- The element at m goes n places back, one by one. -/
def shL (d : Array α) (m : Nat) : Nat → Array α
  | 0 => d
  | n + 1 => swp (shL d m n) (m - n) (m - n - 1)
theorem shL_size (d : Array α) (m : Nat) : ∀ n, (shL d m n).size = d.size
  | 0 => rfl
  | n + 1 => by rw [shL, swp_size, shL_size d m n]
theorem shL_get (d : Array α) (m : Nat) (hm : m < d.size) : ∀ n, n ≤ m → ∀ x, (shL d m n)[x]! = if m - n < x ∧ x ≤ m then d[x - 1]! else if x = m - n then d[m]! else d[x]!
  | 0, h, x => by
    rw [if_neg (by omega), shL]
    by_cases e : x = m - 0
    · rw [if_pos e, e]; rfl
    · rw [if_neg e]
  | n + 1, h, x => by
    have e := shL_get d m hm n (by omega)
    rw [shL, swp_get _ (by rw [shL_size]; omega) (by rw [shL_size]; omega), e, e, e]
    by_cases a1 : x = m - n - 1
    · rw [if_pos a1, if_neg (by omega), if_pos rfl, if_neg (by omega), if_pos (by omega)]
    · rw [if_neg a1]
      by_cases a2 : x = m - n
      · rw [if_pos a2, if_neg (by omega), if_neg (by omega), if_pos (by omega), a2]
      · rw [if_neg a2]
        by_cases a3 : m - n < x ∧ x ≤ m
        · rw [if_pos a3, if_pos (by omega)]
        · rw [if_neg a3, if_neg a2, if_neg (by omega), if_neg (by omega)]
theorem shL_perm (d : Array α) (a b m : Nat) (hm : m < b) : ∀ n, a + n ≤ m → b ≤ d.size → PermIn a b d (shL d m n)
  | 0, _, _ => permIn_refl _ _ _
  | n + 1, h, hb => permIn_trans _ _ _ _ _ (shL_perm d a b m hm n (by omega) hb) (swp_permIn _ _ _ _ _ (by omega) (by omega) (by omega) (by omega) (by rw [shL_size]; exact hb))
theorem shL_stb (hS : SWO lt) {d : Array α} (h : Stb lt pl d) (m : Nat) (hm : m < d.size) : ∀ n, n ≤ m → (∀ x, m - n ≤ x → x < m → lt d[m]! d[x]! = true) → Stb lt pl (shL d m n)
  | 0, _, _ => h
  | n + 1, hn, hl => by
    have g := shL_get d m hm n (by omega)
    have hs := shL_size d m n
    rw [shL, swp_comm (by omega) (by omega)]
    have := (shL_stb hS h m hm n (by omega) fun x h1 h2 => hl x (by omega) h2).adj hS (k := m - n - 1) (by omega) (by
      rw [g, g, if_neg (by omega), if_pos (by omega), if_neg (by omega), if_neg (by omega)]
      exact hl _ (by omega) (by omega))
    rwa [show m - n - 1 + 1 = m - n by omega] at this
-- RANGES
/-- n elements from a on change places with those from b on. -/
def swR (d : Array α) (a b : Nat) : Nat → Array α
  | 0 => d
  | n + 1 => swp (swR d a b n) (a + n) (b + n)
theorem swR_size (d : Array α) (a b : Nat) : ∀ n, (swR d a b n).size = d.size
  | 0 => rfl
  | n + 1 => by rw [swR, swp_size, swR_size d a b n]
theorem swR_get (d : Array α) (a b : Nat) : ∀ n, a + n ≤ b → b + n ≤ d.size → ∀ x, (swR d a b n)[x]! = if a ≤ x ∧ x < a + n then d[x - a + b]! else if b ≤ x ∧ x < b + n then d[x - b + a]! else d[x]!
  | 0, h, h2, x => by rw [if_neg (by omega), if_neg (by omega), swR]
  | n + 1, h, h2, x => by
    have e := swR_get d a b n (by omega) (by omega)
    rw [swR, swp_get _ (by rw [swR_size]; omega) (by rw [swR_size]; omega), e, e, e]
    by_cases a1 : x = b + n
    · rw [if_pos a1, if_neg (by omega), if_neg (by omega), if_neg (by omega), if_pos (by omega)]
      congr 1; omega
    · rw [if_neg a1]
      by_cases a2 : x = a + n
      · rw [if_pos a2, if_neg (by omega), if_neg (by omega), if_pos (by omega)]
        congr 1; omega
      · rw [if_neg a2]
        by_cases a3 : a ≤ x ∧ x < a + n
        · rw [if_pos a3, if_pos (by omega)]
        · rw [if_neg a3]
          by_cases a4 : b ≤ x ∧ x < b + n
          · rw [if_pos a4, if_neg (by omega), if_pos (by omega)]
          · rw [if_neg a4, if_neg (by omega), if_neg (by omega)]
theorem swR_perm (d : Array α) (a b lo hi : Nat) : ∀ n, lo ≤ a → a + n ≤ b → b + n ≤ hi → hi ≤ d.size → PermIn lo hi d (swR d a b n)
  | 0, _, _, _, _ => permIn_refl _ _ _
  | n + 1, h1, h2, h3, h4 => permIn_trans _ _ _ _ _ (swR_perm d a b lo hi n h1 (by omega) (by omega) h4) (swp_permIn _ _ _ _ _ (by omega) (by omega) (by omega) (by omega) (by rw [swR_size]; exact h4))
/-- What stood from a to m stands behind what stood from m to b. -/
structure Rot (d : Array α) (a m b : Nat) (e : Array α) : Prop where
  perm : PermIn a b d e
  size : e.size = d.size
  out : ∀ x, x < a ∨ b ≤ x → e[x]! = d[x]!
  left : ∀ x, a ≤ x → x < a + (b - m) → e[x]! = d[x - a + m]!
  right : ∀ x, a + (b - m) ≤ x → x < b → e[x]! = d[x - (b - m)]!
theorem rot_even {d : Array α} {m i : Nat} (hi : i ≤ m) (hb : m + i ≤ d.size) : Rot d (m - i) m (m + i) (swR d (m - i) m i) := by
  have g := swR_get d (m - i) m i (by omega) hb
  refine ⟨swR_perm _ _ _ _ _ _ (Nat.le_refl _) (by omega) (Nat.le_refl _) hb, swR_size _ _ _ _, fun x h => ?_, fun x h1 h2 => ?_, fun x h1 h2 => ?_⟩
  · rw [g, if_neg (by omega), if_neg (by omega)]
  · rw [g, if_pos (by omega)]
  · rw [g, if_neg (by omega), if_pos (by omega)]
    congr 1; omega
theorem rot_more {d e : Array α} {m i j : Nat} (hi : i ≤ m) (hij : j < i) (hb : m + j ≤ d.size) (h : Rot (swR d (m - i) m j) (m - (i - j)) m (m + j) e) : Rot d (m - i) m (m + j) e := by
  have g := swR_get d (m - i) m j (by omega) hb
  have hs := swR_size d (m - i) m j
  refine ⟨permIn_trans _ _ _ _ _ (swR_perm _ _ _ (m - i) (m + j) _ (Nat.le_refl _) (by omega) (Nat.le_refl _) hb) (permIn_mono _ _ _ _ _ _ (by omega) (Nat.le_refl _) (by omega) h.perm), h.size.trans hs, fun x hx => ?_, fun x h1 h2 => ?_, fun x h1 h2 => ?_⟩
  · rw [h.out x (by omega), g, if_neg (by omega), if_neg (by omega)]
  · rw [h.out x (by omega), g, if_pos (by omega)]
  · by_cases k : x < m - (i - j) + j
    · rw [h.left x (by omega) (by omega), g, if_neg (by omega), if_pos (by omega)]
      congr 1; omega
    · rw [h.right x (by omega) h2, g, if_neg (by omega), if_neg (by omega)]
theorem rot_less {d e : Array α} {m i j : Nat} (hi : i ≤ m) (hij : i < j) (hb : m + j ≤ d.size) (h : Rot (swR d (m - i) (m + j - i) i) (m - i) m (m + (j - i)) e) : Rot d (m - i) m (m + j) e := by
  have g := swR_get d (m - i) (m + j - i) i (by omega) (by omega)
  have hs := swR_size d (m - i) (m + j - i) i
  refine ⟨permIn_trans _ _ _ _ _ (swR_perm _ _ _ (m - i) (m + j) _ (Nat.le_refl _) (by omega) (by omega) hb) (permIn_mono _ _ _ _ _ _ (Nat.le_refl _) (by omega) (by omega) h.perm), h.size.trans hs, fun x hx => ?_, fun x h1 h2 => ?_, fun x h1 h2 => ?_⟩
  · rw [h.out x (by omega), g, if_neg (by omega), if_neg (by omega)]
  · by_cases k : x < m - i + (j - i)
    · rw [h.left x (by omega) (by omega), g, if_neg (by omega), if_neg (by omega)]
    · rw [h.right x (by omega) (by omega), g, if_pos (by omega)]
      congr 1; omega
  · rw [h.out x (by omega), g, if_neg (by omega), if_pos (by omega)]
    congr 1; omega
theorem rot_none {d : Array α} {a m b : Nat} (h1 : a ≤ m) (h2 : m ≤ b) (h : a = m ∨ m = b) : Rot d a m b d := by
  refine ⟨permIn_refl _ _ _, rfl, fun _ _ => rfl, fun x k1 k2 => ?_, fun x k1 k2 => ?_⟩
  · rcases h with h | h
    · congr 1; omega
    · omega
  · rcases h with h | h
    · omega
    · congr 1; omega
/-- A rotation of what is greater behind what is less turns no order of equals. -/
theorem Rot.stb (hS : SWO lt) {d e : Array α} {a m b : Nat} (hR : Rot d a m b e) (ham : a ≤ m) (hmb : m ≤ b) (hb : b ≤ d.size) (h : Stb lt pl d) (hl : ∀ x y, a ≤ x → x < m → m ≤ y → y < b → lt d[y]! d[x]! = true) : Stb lt pl e := by
  have src : ∀ x, ∃ s, e[x]! = d[s]! ∧ ((x < a ∨ b ≤ x) ∧ s = x ∨ (a ≤ x ∧ x < a + (b - m)) ∧ s = x - a + m ∨ (a + (b - m) ≤ x ∧ x < b) ∧ s = x - (b - m)) := fun x => by
    by_cases h1 : x < a ∨ b ≤ x
    · exact ⟨_, hR.out x h1, .inl ⟨h1, rfl⟩⟩
    · by_cases h2 : x < a + (b - m)
      · exact ⟨_, hR.left x (by omega) h2, .inr (.inl ⟨by omega, rfl⟩)⟩
      · exact ⟨_, hR.right x (by omega) (by omega), .inr (.inr ⟨by omega, rfl⟩)⟩
  intro i j hij hj h1 h2
  rw [hR.size] at hj
  obtain ⟨s, es, ks⟩ := src i
  obtain ⟨t, et, kt⟩ := src j
  rw [es, et] at h1 h2 ⊢
  by_cases hst : s < t
  · exact h s t hst (by omega) h1 h2
  · have := hl t s (by omega) (by omega) (by omega) (by omega)
    rw [this] at h1; cases h1
-- ORDER
/-- One element, that all up to i are less than, goes in front of i. -/
theorem one_right (hS : SWO lt) {d : Array α} {a b i : Nat} (hb : b ≤ d.size) (hi : a + 1 ≤ i) (hib : i ≤ b) (hs : SortedIn lt (a + 1) b d) (h1 : ∀ x, a + 1 ≤ x → x < i → lt d[x]! d[a]! = true) (h2 : ∀ x, i ≤ x → x < b → lt d[x]! d[a]! = false) : SortedIn lt a b (shR d a (i - 1 - a)) := by
  have g := shR_get d a (i - 1 - a) (by omega)
  intro x y hx hxy hy
  rw [g, g]
  by_cases k1 : y < i - 1
  · rw [if_pos (by omega), if_pos (by omega)]
    exact hs _ _ (by omega) (by omega) (by omega)
  · by_cases k2 : y = i - 1
    · rw [if_neg (by omega), if_pos (by omega), if_pos (by omega)]
      exact lt_asym hS (h1 _ (by omega) (by omega))
    · rw [if_neg (by omega), if_neg (by omega)]
      by_cases k3 : x < i - 1
      · rw [if_pos (by omega)]
        exact hs _ _ (by omega) (by omega) (by omega)
      · by_cases k4 : x = i - 1
        · rw [if_neg (by omega), if_pos (by omega)]
          exact h2 _ (by omega) hy
        · rw [if_neg (by omega), if_neg (by omega)]
          exact hs _ _ (by omega) (by omega) (by omega)
theorem one_left (hS : SWO lt) {d : Array α} {a m i : Nat} (hm : m < d.size) (hi : a ≤ i) (him : i ≤ m) (hs : SortedIn lt a m d) (h1 : ∀ x, a ≤ x → x < i → lt d[m]! d[x]! = false) (h2 : ∀ x, i ≤ x → x < m → lt d[m]! d[x]! = true) : SortedIn lt a (m + 1) (shL d m (m - i)) := by
  have g := shL_get d m hm (m - i) (by omega)
  intro x y hx hxy hy
  rw [g, g]
  by_cases k1 : y < i
  · rw [if_neg (by omega), if_neg (by omega), if_neg (by omega), if_neg (by omega)]
    exact hs _ _ (by omega) (by omega) (by omega)
  · by_cases k2 : y = i
    · rw [if_neg (by omega), if_pos (by omega), if_neg (by omega), if_neg (by omega)]
      exact h1 _ (by omega) (by omega)
    · rw [if_pos (by omega)]
      by_cases k3 : x < i
      · rw [if_neg (by omega), if_neg (by omega)]
        exact hs _ _ (by omega) (by omega) (by omega)
      · by_cases k4 : x = i
        · rw [if_neg (by omega), if_pos (by omega)]
          exact lt_asym hS (h2 _ (by omega) (by omega))
        · rw [if_pos (by omega)]
          exact hs _ _ (by omega) (by omega) (by omega)
-- SEARCH
/-- What is known of a search between lo and hi: p holds ahead of i, and not from j on. -/
structure Srch (p : Nat → Bool) (lo hi i j : Nat) : Prop where
  il : lo ≤ i
  ij : i ≤ j
  jh : j ≤ hi
  yes : ∀ x, lo ≤ x → x < i → p x = true
  no : ∀ x, j ≤ x → x < hi → p x = false
def Mono (p : Nat → Bool) (lo hi : Nat) : Prop := ∀ x y, lo ≤ x → x ≤ y → y < hi → p y = true → p x = true
theorem Srch.up {p : Nat → Bool} {lo hi i j : Nat} (h : Srch p lo hi i j) (hM : Mono p lo hi) (hij : i < j) {c : Nat} (hc : c = (i + j) / 2) (hp : p c = true) : Srch p lo hi (c + 1) j := by
  obtain ⟨h1, h2, h3, h4, h5⟩ := h
  exact ⟨by omega, by omega, h3, fun x a b => hM x c a (by omega) (by omega) hp, h5⟩
theorem Srch.down {p : Nat → Bool} {lo hi i j : Nat} (h : Srch p lo hi i j) (hM : Mono p lo hi) (hij : i < j) {c : Nat} (hc : c = (i + j) / 2) (hp : p c = false) : Srch p lo hi i c := by
  obtain ⟨h1, h2, h3, h4, h5⟩ := h
  refine ⟨h1, by omega, by omega, h4, fun x a b => ?_⟩
  cases k : p x with
  | false => rfl
  | true => rw [hM c x (by omega) a b k] at hp; cases hp
theorem srch_start (p : Nat → Bool) {lo hi : Nat} (h : lo ≤ hi) : Srch p lo hi lo hi := ⟨Nat.le_refl _, h, Nat.le_refl _, fun x a b => by omega, fun x a b => by omega⟩
theorem mono_right (hS : SWO lt) {d : Array α} {a m b : Nat} (hs : SortedIn lt m b d) : Mono (fun h => lt d[h]! d[a]!) m b := by
  intro x y hx hxy hy hp
  rcases Nat.eq_or_lt_of_le hxy with e | e
  · subst e; exact hp
  · exact le_lt hS (hs x y hx e hy) hp
theorem mono_left (hS : SWO lt) {d : Array α} {a m : Nat} (hs : SortedIn lt a m d) : Mono (fun h => !lt d[m]! d[h]!) a m := by
  intro x y hx hxy hy hp
  rcases Nat.eq_or_lt_of_le hxy with e | e
  · subst e; exact hp
  · cases k : lt d[m]! d[x]! with
    | false => simp [k]
    | true => have := lt_le hS k (hs x y hx e hy); simp [this] at hp
/-- The places between which symMerge looks. -/
def lo3 (a m b mid : Nat) : Nat := if mid < m then mid + m - b else a
def hi3 (m mid : Nat) : Nat := if mid < m then mid else m
theorem mono_both (hS : SWO lt) {d : Array α} {a m b mid : Nat} (hmid : mid = (a + b) / 2) (ham : a < m) (hmb : m < b) (h1 : SortedIn lt a m d) (h2 : SortedIn lt m b d) : Mono (fun c => !lt d[mid + m - 1 - c]! d[c]!) (lo3 a m b mid) (hi3 m mid) := by
  intro x y hx hxy hy hp
  rcases Nat.eq_or_lt_of_le hxy with e | e
  · subst e; exact hp
  · have kx : a ≤ x ∧ y < m ∧ m ≤ mid + m - 1 - y ∧ mid + m - 1 - x < b ∧ mid + m - 1 - y < mid + m - 1 - x := by
      unfold lo3 at hx; unfold hi3 at hy
      by_cases k : mid < m
      · rw [if_pos k] at hx hy; omega
      · rw [if_neg k] at hx hy; omega
    cases k : lt d[mid + m - 1 - x]! d[x]! with
    | false => simp [k]
    | true =>
      have := lt_le hS k (h1 x y (by omega) e (by omega))
      have := le_lt hS (h2 (mid + m - 1 - y) (mid + m - 1 - x) (by omega) (by omega) (by omega)) this
      simp [this] at hp
/-- What symMerge's search says of the four parts. -/
theorem both_parts (hS : SWO lt) {d : Array α} {a m b mid s : Nat} (hmid : mid = (a + b) / 2) (ham : a < m) (hmb : m < b) (h1 : SortedIn lt a m d) (h2 : SortedIn lt m b d) (hs : Srch (fun c => !lt d[mid + m - 1 - c]! d[c]!) (lo3 a m b mid) (hi3 m mid) s s) :
    a ≤ s ∧ s ≤ m ∧ s ≤ mid ∧ m ≤ mid + m - s ∧ mid + m - s ≤ b ∧ (∀ x y, s ≤ x → x < m → m ≤ y → y < mid + m - s → lt d[y]! d[x]! = true) ∧ (∀ x y, a ≤ x → x < s → mid + m - s ≤ y → y < b → lt d[y]! d[x]! = false) := by
  obtain ⟨g1, _, g2, g3, g4⟩ := hs
  have kk : a ≤ lo3 a m b mid ∧ mid + m - lo3 a m b mid ≤ b ∧ hi3 m mid ≤ m ∧ hi3 m mid ≤ mid ∧ (hi3 m mid = m ∨ hi3 m mid = mid) ∧ (lo3 a m b mid = a ∨ mid + m - lo3 a m b mid = b) := by
    unfold lo3 hi3
    by_cases k : mid < m
    · rw [if_pos k, if_pos k]; omega
    · rw [if_neg k, if_neg k]; omega
  obtain ⟨k1, k2, k3, k4, k5, k6⟩ := kk
  generalize lo3 a m b mid = L at *
  generalize hi3 m mid = H at *
  refine ⟨by omega, by omega, by omega, by omega, by omega, fun x y hx hxm hy hye => ?_, fun x y hx hxs hy hyb => ?_⟩
  · have hsH : s < H := by omega
    have hp := g4 s (Nat.le_refl _) hsH
    have hp : lt d[mid + m - 1 - s]! d[s]! = true := by simpa using hp
    have q1 : lt d[y]! d[s]! = true := by
      rcases Nat.eq_or_lt_of_le (show y ≤ mid + m - 1 - s by omega) with e | e
      · rw [e]; exact hp
      · exact le_lt hS (h2 y _ hy e (by omega)) hp
    rcases Nat.eq_or_lt_of_le hx with e | e
    · rw [← e]; exact q1
    · exact lt_le hS q1 (h1 s x (by omega) e hxm)
  · have hsL : L < s := by omega
    have hp := g3 (s - 1) (by omega) (by omega)
    have hp : lt d[mid + m - 1 - (s - 1)]! d[s - 1]! = false := by simpa using hp
    rw [show mid + m - 1 - (s - 1) = mid + m - s by omega] at hp
    have q1 : lt d[y]! d[s - 1]! = false := by
      rcases Nat.eq_or_lt_of_le hy with e | e
      · rw [← e]; exact hp
      · exact hS.ntrans _ _ _ (h2 _ y (by omega) e hyb) hp
    rcases Nat.eq_or_lt_of_le (show x ≤ s - 1 by omega) with e | e
    · rw [e]; exact q1
    · exact hS.ntrans _ _ _ q1 (h1 x (s - 1) hx e (by omega))
/-- Behind the rotation: each half's two parts are in order, and no half's element is less than one of the half ahead. -/
theorem rot_parts (hS : SWO lt) {d e : Array α} {a m b mid s : Nat} (hmid : mid = (a + b) / 2) (ham : a < m) (hmb : m < b) (h1 : SortedIn lt a m d) (h2 : SortedIn lt m b d) (hs : Srch (fun c => !lt d[mid + m - 1 - c]! d[c]!) (lo3 a m b mid) (hi3 m mid) s s) (hR : Rot d s m (mid + m - s) e) :
    SortedIn lt a s e ∧ SortedIn lt s mid e ∧ SortedIn lt mid (mid + m - s) e ∧ SortedIn lt (mid + m - s) b e ∧ ∀ x y, a ≤ x → x < mid → mid ≤ y → y < b → lt e[y]! e[x]! = false := by
  obtain ⟨k1, k2, k3, k4, k5, k6, k7⟩ := both_parts hS hmid ham hmb h1 h2 hs
  refine ⟨fun x y hx hxy hy => ?_, fun x y hx hxy hy => ?_, fun x y hx hxy hy => ?_, fun x y hx hxy hy => ?_, fun x y hx hxm hy hyb => ?_⟩
  · rw [hR.out x (by omega), hR.out y (by omega)]; exact h1 _ _ (by omega) (by omega) (by omega)
  · rw [hR.left x (by omega) (by omega), hR.left y (by omega) (by omega)]; exact h2 _ _ (by omega) (by omega) (by omega)
  · rw [hR.right x (by omega) (by omega), hR.right y (by omega) (by omega)]; exact h1 _ _ (by omega) (by omega) (by omega)
  · rw [hR.out x (by omega), hR.out y (by omega)]; exact h2 _ _ (by omega) (by omega) (by omega)
  · by_cases q1 : x < s
    · rw [hR.out x (by omega)]
      by_cases q2 : y < mid + m - s
      · rw [hR.right y (by omega) (by omega)]; exact h1 _ _ (by omega) (by omega) (by omega)
      · rw [hR.out y (by omega)]; exact k7 _ _ hx q1 (by omega) hyb
    · rw [hR.left x (by omega) (by omega)]
      by_cases q2 : y < mid + m - s
      · rw [hR.right y (by omega) (by omega)]; exact lt_asym hS (k6 _ _ (by omega) (by omega) (by omega) (by omega))
      · rw [hR.out y (by omega)]; exact h2 _ _ (by omega) (by omega) hyb
/-- What a merge, or a sort, of the part from a to b leaves. -/
structure Done (lt : α → α → Bool) (pl : α → Nat) (a b : Nat) (d e : Array α) : Prop where
  perm : PermIn a b d e
  stb : Stb lt pl e
  sorted : SortedIn lt a b e
theorem Done.size {a b : Nat} {d e : Array α} (h : Done lt pl a b d e) : e.size = d.size := h.perm.1
theorem Done.out {a b : Nat} {d e : Array α} (h : Done lt pl a b d e) {x : Nat} (hx : x < a ∨ b ≤ x) : e[x]! = d[x]! := h.perm.2.1 x hx
/-- Both halves done: the whole is. -/
theorem both_done (hS : SWO lt) {d e f g : Array α} {a m b mid s : Nat} (hb : b ≤ d.size) (hmid : mid = (a + b) / 2) (ham : a < m) (hmb : m < b) (h1 : SortedIn lt a m d) (h2 : SortedIn lt m b d) (hs : Srch (fun c => !lt d[mid + m - 1 - c]! d[c]!) (lo3 a m b mid) (hi3 m mid) s s) (hR : Rot d s m (mid + m - s) e) (hf : Done lt pl a mid e f) (hg : Done lt pl mid b f g) : Done lt pl a b d g := by
  obtain ⟨k1, k2, k3, k4, k5, _, _⟩ := both_parts hS hmid ham hmb h1 h2 hs
  obtain ⟨_, _, _, _, hx⟩ := rot_parts hS hmid ham hmb h1 h2 hs hR
  have hse := hR.size
  have hsf := hf.size
  refine ⟨permIn_trans _ _ _ _ _ (permIn_mono _ _ _ _ _ _ k1 k5 hb hR.perm) (permIn_trans _ _ _ _ _ (permIn_mono _ _ _ _ _ _ (Nat.le_refl _) (by omega) (by omega) hf.perm) (permIn_mono _ _ _ _ _ _ (by omega) (Nat.le_refl _) (by omega) hg.perm)), hg.stb, ?_⟩
  intro x y hax hxy hyb
  by_cases q1 : mid ≤ x
  · exact hg.sorted x y q1 hxy hyb
  · rw [hg.out (x := x) (by omega)]
    by_cases q2 : y < mid
    · rw [hg.out (x := y) (by omega)]; exact hf.sorted x y hax hxy q2
    · have c1 : ∀ z, mid ≤ z → z < b → lt e[z]! f[x]! = false := fun z hz1 hz2 => permIn_all e f a mid (fun v => lt e[z]! v = false) (by omega) hf.perm (fun u hu1 hu2 => hx u z hu1 hu2 hz1 hz2) x hax (by omega)
      refine permIn_all f g mid b (fun v => lt v f[x]! = false) (by omega) hg.perm (fun z hz1 hz2 => ?_) y (by omega) hyb
      rw [hf.out (x := z) (by omega)]
      exact c1 z hz1 hz2
theorem done_none {d : Array α} {a b m : Nat} (hst : Stb lt pl d) (hm : m = a ∨ m = b) (h1 : SortedIn lt a m d) (h2 : SortedIn lt m b d) : Done lt pl a b d d := by
  refine ⟨permIn_refl _ _ _, hst, ?_⟩
  rcases hm with rfl | rfl
  · exact h2
  · exact h1
theorem srch_as {p : Nat → Bool} {lo hi lo' hi' i j : Nat} (h : Srch p lo hi i j) (h1 : lo' = lo) (h2 : hi' = hi) : Srch p lo' hi' i j := by subst h1; subst h2; exact h
theorem mono_as {p : Nat → Bool} {lo hi lo' hi' : Nat} (h : Mono p lo hi) (h1 : lo = lo') (h2 : hi = hi') : Mono p lo' hi' := by subst h1; subst h2; exact h
/-- All that the two merges behind a rotation ask. -/
theorem rot_all (hS : SWO lt) {d e : Array α} {a m b mid s en : Nat} (hst : Stb lt pl d) (hmid : mid = (a + b) / 2) (ham : a < m) (hmb : m < b) (hb : b ≤ d.size) (h1 : SortedIn lt a m d) (h2 : SortedIn lt m b d) (hs : Srch (fun c => !lt d[mid + m - 1 - c]! d[c]!) (lo3 a m b mid) (hi3 m mid) s s) (hen : en = mid + m - s) (hR : Rot d s m en e) :
    SortedIn lt a s e ∧ SortedIn lt s mid e ∧ SortedIn lt mid en e ∧ SortedIn lt en b e ∧ Stb lt pl e ∧ e.size = d.size := by
  subst hen
  obtain ⟨k1, k2, k3, k4, k5, k6, _⟩ := both_parts hS hmid ham hmb h1 h2 hs
  obtain ⟨p1, p2, p3, p4, _⟩ := rot_parts hS hmid ham hmb h1 h2 hs hR
  exact ⟨p1, p2, p3, p4, hR.stb hS k2 k4 (by omega) hst k6, hR.size⟩
theorem Done.keep {a mid en b n : Nat} {e f : Array α} (h : Done lt pl a mid e f) (hk : mid ≤ en) (hn : e.size = n) (h1 : SortedIn lt mid en e) (h2 : SortedIn lt en b e) : SortedIn lt mid en f ∧ SortedIn lt en b f ∧ f.size = n := by
  have key : ∀ x y, mid ≤ x → SortedIn lt x y e → SortedIn lt x y f := fun x y hx hs i j h1 h2 h3 => by rw [h.out (x := i) (by omega), h.out (x := j) (by omega)]; exact hs i j h1 h2 h3
  exact ⟨key _ _ (Nat.le_refl _) h1, key _ _ hk h2, h.size.trans hn⟩
theorem done_right (hS : SWO lt) {d : Array α} {a b i : Nat} (hb : b ≤ d.size) (hst : Stb lt pl d) (hs : SortedIn lt (a + 1) b d) (hi : Srch (fun h => lt d[h]! d[a]!) (a + 1) b i i) : Done lt pl a b d (shR d a (i - 1 - a)) := by
  obtain ⟨h1, _, h2, h3, h4⟩ := hi
  by_cases hab : a < b
  · exact ⟨shR_perm _ _ _ _ (by omega) hb, shR_stb hS hst a _ (by omega) fun x q1 q2 => h3 x (by omega) (by omega), one_right hS hb h1 h2 hs h3 h4⟩
  · omega
theorem done_left (hS : SWO lt) {d : Array α} {a m i : Nat} (hm : m < d.size) (hst : Stb lt pl d) (hs : SortedIn lt a m d) (hi : Srch (fun h => !lt d[m]! d[h]!) a m i i) : Done lt pl a (m + 1) d (shL d m (m - i)) := by
  obtain ⟨h1, _, h2, h3, h4⟩ := hi
  have h3' : ∀ x, a ≤ x → x < i → lt d[m]! d[x]! = false := fun x q1 q2 => by have := h3 x q1 q2; simpa using this
  have h4' : ∀ x, i ≤ x → x < m → lt d[m]! d[x]! = true := fun x q1 q2 => by have := h4 x q1 q2; simpa using this
  exact ⟨shL_perm _ _ _ _ (by omega) _ (by omega) (by omega), shL_stb hS hst m hm _ (by omega) fun x q1 q2 => h4' x (by omega) q2, one_left hS hm h1 h2 hs h3' h4'⟩
-- BLOCKS
/-- From a to c each block of B elements is in order. -/
def Runs (lt : α → α → Bool) (B a c : Nat) (d : Array α) : Prop := ∀ i j, a ≤ i → i < j → j < c → i / B = j / B → lt d[j]! d[i]! = false
theorem runs_none (d : Array α) : Runs lt 20 0 0 d := fun i j _ _ h => absurd h (Nat.not_lt_zero j)
theorem runs_ins {d e : Array α} {r c : Nat} (hc : c ≤ 20 * r + 20) (h : Runs lt 20 0 (20 * r) d) (hD : Done lt pl (20 * r) c d e) : Runs lt 20 0 c e := by
  intro i j h0 hij hj hb
  by_cases k : j < 20 * r
  · rw [hD.out (x := i) (by omega), hD.out (x := j) (by omega)]
    exact h i j h0 hij k hb
  · exact hD.sorted i j (by omega) hij hj
theorem runs_all {B n : Nat} {d : Array α} (hB : B = 20 ∨ B = 40 ∨ B = 80) (hn : n ≤ B) (h : Runs lt B 0 n d) : SortedIn lt 0 n d := fun i j h0 hij hj => h i j h0 hij hj (by rcases hB with rfl | rfl | rfl <;> omega)
theorem runs_left {B a n : Nat} {d : Array α} (hB : B = 20 ∨ B = 40) (ha : a % (2 * B) = 0) (hn : a + B ≤ n) (h : Runs lt B a n d) : SortedIn lt a (a + B) d := fun i j h0 hij hj => h i j h0 hij (by omega) (by rcases hB with rfl | rfl <;> omega)
theorem runs_right {B a c n : Nat} {d : Array α} (hB : B = 20 ∨ B = 40) (ha : a % (2 * B) = 0) (hc : c ≤ a + 2 * B) (hn : c ≤ n) (h : Runs lt B a n d) : SortedIn lt (a + B) c d := fun i j h0 hij hj => h i j (by omega) hij (by omega) (by rcases hB with rfl | rfl <;> omega)
theorem runs_merge {B a c n : Nat} {d e : Array α} (hB : B = 20 ∨ B = 40) (ha : a % (2 * B) = 0) (hac : a ≤ c) (hc : c ≤ a + 2 * B) (h1 : Runs lt (2 * B) 0 a d) (h2 : Runs lt B a n d) (hD : Done lt pl a c d e) : Runs lt (2 * B) 0 c e ∧ Runs lt B c n e := by
  constructor
  · intro i j h0 hij hj hb
    by_cases k : j < a
    · rw [hD.out (x := i) (by omega), hD.out (x := j) (by omega)]
      exact h1 i j h0 hij k hb
    · exact hD.sorted i j (by rcases hB with rfl | rfl <;> omega) hij hj
  · intro i j h0 hij hj hb
    by_cases k : a ≤ i
    · rw [hD.out (x := i) (by omega), hD.out (x := j) (by omega)]
      exact h2 i j k hij hj hb
    · rw [hD.out (x := i) (by omega), hD.out (x := j) (by omega)]
      exact absurd h0 (by omega)
theorem runs_skip {B a n : Nat} {d : Array α} (hB : B = 20 ∨ B = 40) (ha : a % (2 * B) = 0) (hn : n ≤ a + B) (h1 : Runs lt (2 * B) 0 a d) (h2 : Runs lt B a n d) : Runs lt (2 * B) 0 n d := by
  intro i j h0 hij hj hb
  by_cases k : j < a
  · exact h1 i j h0 hij k hb
  · exact h2 i j (by rcases hB with rfl | rfl <;> omega) hij hj (by rcases hB with rfl | rfl <;> omega)
theorem perm_more {a b n : Nat} {d e f : Array α} (h : PermIn 0 n d e) (hn : d.size = n) (hb : b ≤ n) (hD : Done lt pl a b e f) : PermIn 0 n d f := permIn_trans _ _ _ _ _ h (permIn_mono _ _ _ _ _ _ (Nat.zero_le _) hb (by rw [h.1, hn]; exact Nat.le_refl _) hD.perm)
end Go.Proofs.Ytggdpnkekgmimaa.Sb

namespace Go.Proofs.Ytggdpnkekgmimaa
open Go.Proofs Go.Shelf Go.RowKit Go.Lib Go.Sort
set_option linter.unusedVariables false
set_option linter.unusedSimpArgs false
variable {P : Program} {α : Type} [Inhabited α]

/-- What P says of the types. -/
structure TyS (P : Program) (k : Nat) : Prop where
  mixed : P.follows .mixedOrders = true
  t0 : P.underlying 0 = some (TypeDesc.tuple #[])
  a0 : ∀ w, (isAgg 0).run P w = .ok false w
  z0 : ∀ w, (Go.sizeOf 0).run P w = .ok 1 w
  v0 : ∀ w, (zeroValue 0).run P w = .ok (Value.tuple #[]) w
  t3 : P.underlying 3 = some (TypeDesc.int IntKind.i64)
  a3 : ∀ w, (isAgg 3).run P w = .ok false w
  z3 : ∀ w, (Go.sizeOf 3).run P w = .ok 1 w
  v3 : ∀ w, (zeroValue 3).run P w = .ok (Value.int IntKind.i64 0) w
  t4 : P.underlying 4 = some (TypeDesc.bool)
  a4 : ∀ w, (isAgg 4).run P w = .ok false w
  z4 : ∀ w, (Go.sizeOf 4).run P w = .ok 1 w
  v4 : ∀ w, (zeroValue 4).run P w = .ok (Value.bool false) w
  t22 : P.underlying 46 = some (TypeDesc.slice 51)
  a22 : ∀ w, (isAgg 46).run P w = .ok false w
  z22 : ∀ w, (Go.sizeOf 46).run P w = .ok 1 w
  v22 : ∀ w, (zeroValue 46).run P w = .ok (Value.slice none 0 0) w
  t25 : P.underlying 71 = some (TypeDesc.func #[51, 51] #[3] false)
  a25 : ∀ w, (isAgg 71).run P w = .ok false w
  z25 : ∀ w, (Go.sizeOf 71).run P w = .ok 1 w
  v25 : ∀ w, (zeroValue 71).run P w = .ok (Value.nilFunc) w
  t39 : P.underlying 73 = some (TypeDesc.int IntKind.u64)
  a39 : ∀ w, (isAgg 73).run P w = .ok false w
  z39 : ∀ w, (Go.sizeOf 73).run P w = .ok 1 w
  v39 : ∀ w, (zeroValue 73).run P w = .ok (Value.int IntKind.u64 0) w
  aE : ∀ w, (isAgg 51).run P w = .ok true w
  zE : ∀ w, (Go.sizeOf 51).run P w = .ok k w

set_option maxHeartbeats 8000000 in
set_option maxRecDepth 1000000 in
theorem swapR15 {k : Nat} (T : TyS P k) (Fsw : P.funcs[55]? = some Try.f55) (enc : α → List Value) (g : Nat) (cb : Array Value) (blk off cap a b n : Nat) (d0 d : Array α) (w0 w : World)
    (R : RowK enc k w0 blk off d0) (hs : d0.size = d.size) (S : SWK enc k w0 blk off d w) (hab : a + n ≤ b) (hb : b + n ≤ d.size) (hsz : d.size < 2305843009213693952) :
    Calls P 55 #[.slice (some ⟨blk, off, none⟩) d.size cap, .int .i64 a, .int .i64 b, .int .i64 n, .func (.func g) #[] cb] w fun e w' => e = .returned (.tuple #[]) ∧ SWK enc k w0 blk off (Sb.swR d a b n) w' := by
  have mixed := T.mixed; have aE := T.aE; have zE := T.zE; have t0 := T.t0; have a0 := T.a0; have z0 := T.z0; have v0 := T.v0; have t3 := T.t3; have a3 := T.a3; have z3 := T.z3; have v3 := T.v3; have t4 := T.t4; have a4 := T.a4; have z4 := T.z4; have v4 := T.v4; have t22 := T.t22; have a22 := T.a22; have z22 := T.z22; have v22 := T.v22; have t25 := T.t25; have a25 := T.a25; have z25 := T.z25; have v25 := T.v25; have t39 := T.t39; have a39 := T.a39; have z39 := T.z39; have v39 := T.v39
  have u3 := run_underlying T.t3; have u22 := run_underlying T.t22; have u39 := run_underlying T.t39
  have S0 : Aside (SWK enc k w0 blk off d w) := S
  clear S T
  go_enter Fsw, Try.ntmps55
  go_wp2
  go_loopg [10] n (fun kx s10 wr => ∃ (i : Nat) (dk : Array α), s10 = .int .i64 i ∧ i + kx = n ∧ dk.size = d.size ∧ Aside (SWK enc k w0 blk off dk wr) ∧ Hid (dk = Sb.swR d a b i))
  case atStart => exact ⟨0, d, rfl, by omega, rfl, S0, rfl⟩
  case round =>
    clear S0
    obtain ⟨i, dk, rfl, hkx, hds, S1, HE⟩ := hrel
    by_cases hlt : i < n
    · have hltz : (i : Int) < (n : Int) := by omega
      go_wp2_with fail
      have ea1 : ((a : Int) + (i : Int)).toNat = a + i := by omega
      have pa1 : (0 : Int) ≤ (a : Int) + (i : Int) := by omega
      have ba1 : (a : Int) + (i : Int) < (d.size : Int) := by omega
      have ra1 : IntKind.i64.wrap ((a : Int) + (i : Int)) = (a : Int) + (i : Int) := by rw [IntKind.wrap_i64]; omega
      have ec1 : ((b : Int) + (i : Int)).toNat = b + i := by omega
      have pc1 : (0 : Int) ≤ (b : Int) + (i : Int) := by omega
      have bc1 : (b : Int) + (i : Int) < (d.size : Int) := by omega
      have rc1 : IntKind.i64.wrap ((b : Int) + (i : Int)) = (b : Int) + (i : Int) := by rw [IntKind.wrap_i64]; omega
      have S2 : Aside (SWK enc k w0 blk off (swp dk (a + i) (b + i)) ((wr.drew.setCells blk (off + (a + i) * k) (enc dk[b + i]!)).setCells blk (off + (b + i) * k) (enc dk[a + i]!))) := S1.out.swapped R (a + i) (b + i) (by omega) (by omega)
      have l1a := S1.out.ld1 R (by omega) P (a + i) (by omega)
      have l1b := S1.out.ld1 R (by omega) P (b + i) (by omega)
      have s1a := S1.out.st1 R (by omega) P (a + i) (by omega) dk[b + i]!
      have s1b := S1.out.st2 R (by omega) P (a + i) (b + i) (by omega) (by omega) dk[b + i]! dk[a + i]!
      have n1a : (enc dk[a + i]!).length = k := R.hk _
      have n1b : (enc dk[b + i]!).length = k := R.hk _
      generalize enc dk[a + i]! = cI1 at S2 l1a s1b n1a
      generalize enc dk[b + i]! = cJ1 at S2 l1b s1a s1b n1b
      clear S1
      go_wp2_with fail
      go_big_region_o
      clear l1a l1b s1a s1b
      generalize (wr.drew.setCells blk (off + (a + i) * k) cJ1).setCells blk (off + (b + i) * k) cI1 = w2 at S2 ⊢
      go_wp2
      go_roundg (n - (i + 1))
      case measure => omega
      case rel => exact ⟨i + 1, swp dk (a + i) (b + i), by go_num, by omega, by rw [swp_size]; exact hds, S2, (show _ = _ by rw [HE.out]; rfl)⟩
    · have hltz : ¬ (i : Int) < (n : Int) := by omega
      go_wp2
      go_end0
      have e : i = n := by omega
      rw [e] at HE
      exact ⟨rfl, by rw [← HE.out]; exact S1.out⟩

set_option maxHeartbeats 8000000 in
set_option maxRecDepth 1000000 in
theorem rotate15 {k : Nat} (T : TyS P k) (Fsw : P.funcs[55]? = some Try.f55) (Fro : P.funcs[52]? = some Try.f52) (enc : α → List Value) (g : Nat) (cb : Array Value) (blk off cap a m b : Nat) (d0 d : Array α) (w0 w : World)
    (R : RowK enc k w0 blk off d0) (hs : d0.size = d.size) (S : SWK enc k w0 blk off d w) (ham : a < m) (hmb : m < b) (hb : b ≤ d.size) (hsz : d.size < 2305843009213693952) :
    Calls P 52 #[.slice (some ⟨blk, off, none⟩) d.size cap, .int .i64 a, .int .i64 m, .int .i64 b, .func (.func g) #[] cb] w fun e w' => e = .returned (.tuple #[]) ∧ ∃ d', SWK enc k w0 blk off d' w' ∧ Sb.Rot d a m b d' := by
  have mixed := T.mixed; have aE := T.aE; have zE := T.zE; have t0 := T.t0; have a0 := T.a0; have z0 := T.z0; have v0 := T.v0; have t3 := T.t3; have a3 := T.a3; have z3 := T.z3; have v3 := T.v3; have t4 := T.t4; have a4 := T.a4; have z4 := T.z4; have v4 := T.v4; have t22 := T.t22; have a22 := T.a22; have z22 := T.z22; have v22 := T.v22; have t25 := T.t25; have a25 := T.a25; have z25 := T.z25; have v25 := T.v25; have t39 := T.t39; have a39 := T.a39; have z39 := T.z39; have v39 := T.v39
  have u3 := run_underlying T.t3; have u22 := run_underlying T.t22; have u39 := run_underlying T.t39
  have esw : ∀ args w, (callFunc 55 args).run P w = .ok (.enter 55 args) w := fun args w => enters_of Fsw (by decide) rfl args w
  have S0 : Aside (SWK enc k w0 blk off d w) := S
  clear S
  go_enter Fro, Try.ntmps52
  go_wp2
  go_loopg [10, 11] (b - a) (fun kx s10 s11 wr => ∃ (i j : Nat) (dk : Array α), s10 = .int .i64 i ∧ s11 = .int .i64 j ∧ 1 ≤ i ∧ 1 ≤ j ∧ i ≤ m - a ∧ j ≤ b - m ∧ i + j ≤ kx ∧ dk.size = d.size ∧ Aside (SWK enc k w0 blk off dk wr) ∧ Hid (∀ e, Sb.Rot dk (m - i) m (m + j) e → Sb.Rot d a m b e))
  case atStart => exact ⟨m - a, b - m, d, by go_num, by go_num, by omega, by omega, Nat.le_refl _, Nat.le_refl _, by omega, rfl, S0, (show ∀ e, _ from fun e h => by rwa [show m - (m - a) = a by omega, show m + (b - m) = b by omega] at h)⟩
  case round =>
    clear S0
    obtain ⟨i, j, dk, rfl, rfl, hi1, hj1, hia, hjb, hkx, hds, S1, HE⟩ := hrel
    have emi : ((m - i : Nat) : Int) = (m : Int) - (i : Int) := by omega
    by_cases heq : i = j
    · obtain rfl := heq
      have hcall := swapR15 T Fsw enc g cb blk off cap (m - i) m i d0 dk w0 wr R (by omega) S1.out (by omega) (by omega) (by omega)
      rw [emi, hds] at hcall
      clear S1
      go_wp2_with (go_at_fn 55; refine hcall.mono ?_; rintro e w1 ⟨rfl, S3⟩)
      go_end0
      exact ⟨rfl, _, S3, HE.out _ (Sb.rot_even (by omega) (by omega))⟩
    · have hne : ¬ ((i : Int) = (j : Int)) := by omega
      by_cases hgt : j < i
      · have hgtz : (j : Int) < (i : Int) := by omega
        have hcall := swapR15 T Fsw enc g cb blk off cap (m - i) m j d0 dk w0 wr R (by omega) S1.out (by omega) (by omega) (by omega)
        rw [emi, hds] at hcall
        clear S1
        go_wp2_with (go_at_fn 55; refine hcall.mono ?_; rintro e w1 ⟨rfl, S3⟩)
        go_roundg (i - j + j)
        case measure => omega
        case rel => exact ⟨i - j, j, _, by go_num, rfl, by omega, hj1, by omega, hjb, Nat.le_refl _, by rw [Sb.swR_size]; exact hds, S3, (show ∀ e, _ from fun e h => HE.out e (Sb.rot_more (by omega) hgt (by omega) h))⟩
      · have hgtz : ¬ ((j : Int) < (i : Int)) := by omega
        have emj : ((m + j - i : Nat) : Int) = (m : Int) + (j : Int) - (i : Int) := by omega
        have hcall := swapR15 T Fsw enc g cb blk off cap (m - i) (m + j - i) i d0 dk w0 wr R (by omega) S1.out (by omega) (by omega) (by omega)
        rw [emi, emj, hds] at hcall
        clear S1
        go_wp2_with (go_at_fn 55; refine hcall.mono ?_; rintro e w1 ⟨rfl, S3⟩)
        go_roundg (i + (j - i))
        case measure => omega
        case rel => exact ⟨i, j - i, _, rfl, by go_num, hi1, by omega, hia, by omega, Nat.le_refl _, by rw [Sb.swR_size]; exact hds, S3, (show ∀ e, _ from fun e h => HE.out e (Sb.rot_less (by omega) (by omega) (by omega) h))⟩

set_option maxHeartbeats 8000000 in
set_option maxRecDepth 1000000 in
theorem symA15 {k : Nat} (T : TyS P k) (Fsw : P.funcs[55]? = some Try.f55) (Fro : P.funcs[52]? = some Try.f52) (Fsy : P.funcs[47]? = some Try.f47) (enc : α → List Value) (cf : α → α → Int) (pl : α → Nat) (g : Nat) (cb : Array Value) (blk off cap a b : Nat) (d0 d : Array α) (w0 w : World)
    (eg : ∀ args w, (callFunc g args).run P w = .ok (.enter g args) w) (hcmp : CmpLays P g cb enc k cf blk off d0.size w0) (R : RowK enc k w0 blk off d0) (hs : d0.size = d.size) (S : SWK enc k w0 blk off d w) (hO : SWO (ltOf cf)) (hst : Sb.Stb (ltOf cf) pl d) (hsr : SortedIn (ltOf cf) (a + 1) b d) (hab : a + 1 < b) (hb : b ≤ d.size) (hsz : d.size < 2305843009213693952) :
    Calls P 47 #[.slice (some ⟨blk, off, none⟩) d.size cap, .int .i64 a, .int .i64 ((a + 1 : Nat) : Int), .int .i64 b, .func (.func g) #[] cb] w fun e w' => e = .returned (.tuple #[]) ∧ ∃ d', SWK enc k w0 blk off d' w' ∧ Sb.Done (ltOf cf) pl a b d d' := by
  have mixed := T.mixed; have aE := T.aE; have zE := T.zE; have t0 := T.t0; have a0 := T.a0; have z0 := T.z0; have v0 := T.v0; have t3 := T.t3; have a3 := T.a3; have z3 := T.z3; have v3 := T.v3; have t4 := T.t4; have a4 := T.a4; have z4 := T.z4; have v4 := T.v4; have t22 := T.t22; have a22 := T.a22; have z22 := T.z22; have v22 := T.v22; have t25 := T.t25; have a25 := T.a25; have z25 := T.z25; have v25 := T.v25; have t39 := T.t39; have a39 := T.a39; have z39 := T.z39; have v39 := T.v39
  have u3 := run_underlying T.t3; have u22 := run_underlying T.t22; have u39 := run_underlying T.t39
  have HC : Aside _ := hcmp
  have S0 : Aside (SWK enc k w0 blk off d w) := S
  have HM : Hid _ := Sb.mono_right (a := a) hO hsr
  clear S hcmp
  obtain ⟨m, hm⟩ : ∃ m, m = a + 1 := ⟨_, rfl⟩
  have hm1 : (m : Int) - (a : Int) = 1 := by omega
  have hma : a < m := by omega
  have hmb : m ≤ a + 1 := by omega
  rw [← hm] at hsr hab HM
  rw [← hm]
  replace hm : Hid (m = a + 1) := hm
  go_enter Fsy, Try.ntmps47
  go_wp2
  go_loopg [10, 11] (b - m) (fun kx s10 s11 wr => ∃ (i j : Nat), s10 = .int .i64 i ∧ s11 = .int .i64 j ∧ j - i ≤ kx ∧ m ≤ i ∧ i ≤ j ∧ j ≤ b ∧ Aside (SWK enc k w0 blk off d wr) ∧ Hid (Sb.Srch (fun h => ltOf cf d[h]! d[a]!) (m) (b) i j))
  case atStart => exact ⟨m, b, by go_num, by go_num, Nat.le_refl _, Nat.le_refl _, by omega, Nat.le_refl _, S0, (Sb.srch_start _ (by omega) : Sb.Srch (fun h => ltOf cf d[h]! d[a]!) (m) (b) (m) (b))⟩
  case round =>
    clear S0
    obtain ⟨i, j, rfl, rfl, hkx, hli, hij, hjh, S1, HE⟩ := hrel
    by_cases hlt : i < j
    · have hltz : (i : Int) < (j : Int) := by omega
      obtain ⟨h, hh⟩ : ∃ h, h = (i + j) / 2 := ⟨_, rfl⟩
      have HHZ : Hid (((i : Int) + (j : Int)) / 2 = (h : Int)) := by show _ = _; omega
      have hh1 : i ≤ h := by omega
      have hh2 : h < j := by omega
      replace hh : Hid (h = (i + j) / 2) := hh
      cases hL : ltOf cf d[h]! d[a]! with
      | true =>
        have HE2 : Hid (Sb.Srch (fun h => ltOf cf d[h]! d[a]!) (m) (b) (h + 1) j) := HE.out.up HM.out hlt hh.out (by simp [hL])
        have ea1 : ((h : Int)).toNat = h := by omega
        have pa1 : (0 : Int) ≤ (h : Int) := by omega
        have ba1 : (h : Int) < (d.size : Int) := by omega
        have ra1 : IntKind.i64.wrap ((h : Int)) = (h : Int) := by rw [IntKind.wrap_i64]; omega
        have ec1 : ((a : Int)).toNat = a := by omega
        have pc1 : (0 : Int) ≤ (a : Int) := by omega
        have bc1 : (a : Int) < (d.size : Int) := by omega
        have rc1 : IntKind.i64.wrap ((a : Int)) = (a : Int) := by rw [IntKind.wrap_i64]; omega
        obtain ⟨x1, hx1⟩ : ∃ x, x = d[h]! := ⟨_, rfl⟩
        obtain ⟨y1, hy1⟩ : ∃ x, x = d[a]! := ⟨_, rfl⟩
        have l1a := S1.out.ld R (by omega) P (h) (by omega)
        have l1b := S1.out.ld R (by omega) P (a) (by omega)
        rw [← hx1] at l1a
        rw [← hy1] at l1b
        have hc1 := S1.out.cmp HC.out (by omega) x1 y1
        have hv1 : cf x1 y1 < 0 := by rw [hx1, hy1]; exact of_decide_eq_true hL
        have hd1 : decide (cf x1 y1 < 0) = true := by rw [hx1, hy1]; exact hL
        clear hx1 hy1
        go_wp2_with fail
        rw [HHZ.out]
        go_quiet_grown (first | (go_at_fn g; refine Calls.grown_of (hc1 _ _)))
        have S2 : Aside (SWK enc k w0 blk off d (grow (wr.drewN nq) osq)) := S1.out.grown nq osq
        clear l1a l1b hc1 S1
        generalize grow (wr.drewN nq) osq = w2 at S2 ⊢
        clear nq osq
        go_wp2
        go_roundg (j - (h + 1))
        case measure => omega
        case rel => exact ⟨h + 1, j, by go_num, rfl, Nat.le_refl _, by omega, by omega, hjh, S2, HE2⟩
      | false =>
        have HE2 : Hid (Sb.Srch (fun h => ltOf cf d[h]! d[a]!) (m) (b) i h) := HE.out.down HM.out hlt hh.out (by simp [hL])
        have ea2 : ((h : Int)).toNat = h := by omega
        have pa2 : (0 : Int) ≤ (h : Int) := by omega
        have ba2 : (h : Int) < (d.size : Int) := by omega
        have ra2 : IntKind.i64.wrap ((h : Int)) = (h : Int) := by rw [IntKind.wrap_i64]; omega
        have ec2 : ((a : Int)).toNat = a := by omega
        have pc2 : (0 : Int) ≤ (a : Int) := by omega
        have bc2 : (a : Int) < (d.size : Int) := by omega
        have rc2 : IntKind.i64.wrap ((a : Int)) = (a : Int) := by rw [IntKind.wrap_i64]; omega
        obtain ⟨x2, hx2⟩ : ∃ x, x = d[h]! := ⟨_, rfl⟩
        obtain ⟨y2, hy2⟩ : ∃ x, x = d[a]! := ⟨_, rfl⟩
        have l2a := S1.out.ld R (by omega) P (h) (by omega)
        have l2b := S1.out.ld R (by omega) P (a) (by omega)
        rw [← hx2] at l2a
        rw [← hy2] at l2b
        have hc2 := S1.out.cmp HC.out (by omega) x2 y2
        have hv2 : ¬ cf x2 y2 < 0 := by rw [hx2, hy2]; exact of_decide_eq_false hL
        have hd2 : decide (cf x2 y2 < 0) = false := by rw [hx2, hy2]; exact hL
        clear hx2 hy2
        go_wp2_with fail
        rw [HHZ.out]
        go_quiet_grown (first | (go_at_fn g; refine Calls.grown_of (hc2 _ _)))
        have S2 : Aside (SWK enc k w0 blk off d (grow (wr.drewN nq) osq)) := S1.out.grown nq osq
        clear l2a l2b hc2 S1
        generalize grow (wr.drewN nq) osq = w2 at S2 ⊢
        clear nq osq
        go_wp2
        go_roundg (h - i)
        case measure => omega
        case rel => exact ⟨i, h, rfl, by go_num, Nat.le_refl _, hli, by omega, by omega, S2, HE2⟩
    · have hltz : ¬ (i : Int) < (j : Int) := by omega
      obtain rfl : i = j := by omega
      clear hlt hij
      go_wp2
      go_loopg [13] (i - 1 - a) (fun kx s13 wr2 => ∃ (x n : Nat) (dk : Array α), s13 = .int .i64 x ∧ x ≤ a + n ∧ a + n ≤ x ∧ n + kx = i - 1 - a ∧ dk.size = d.size ∧ Aside (SWK enc k w0 blk off dk wr2) ∧ Hid (dk = Sb.shR d a n))
      case atStart => exact ⟨a, 0, d, rfl, Nat.le_refl _, Nat.le_refl _, by omega, rfl, S1, rfl⟩
      case round =>
        clear S1
        obtain ⟨x, n, dk, rfl, hxn1, hxn2, hkx2, hds, S1, HK⟩ := hrel
        by_cases hx : x < i - 1
        · have hxz : (x : Int) < (i : Int) - 1 := by omega
          go_wp2_with fail
          have ea3 : ((x : Int)).toNat = x := by omega
          have pa3 : (0 : Int) ≤ (x : Int) := by omega
          have ba3 : (x : Int) < (d.size : Int) := by omega
          have ra3 : IntKind.i64.wrap ((x : Int)) = (x : Int) := by rw [IntKind.wrap_i64]; omega
          have ec3 : ((x : Int) + 1).toNat = x + 1 := by omega
          have pc3 : (0 : Int) ≤ (x : Int) + 1 := by omega
          have bc3 : (x : Int) + 1 < (d.size : Int) := by omega
          have rc3 : IntKind.i64.wrap ((x : Int) + 1) = (x : Int) + 1 := by rw [IntKind.wrap_i64]; omega
          have S2 : Aside (SWK enc k w0 blk off (swp dk (x) (x + 1)) ((wr.drew.setCells blk (off + (x) * k) (enc dk[x + 1]!)).setCells blk (off + (x + 1) * k) (enc dk[x]!))) := S1.out.swapped R (x) (x + 1) (by omega) (by omega)
          have l3a := S1.out.ld1 R (by omega) P (x) (by omega)
          have l3b := S1.out.ld1 R (by omega) P (x + 1) (by omega)
          have s3a := S1.out.st1 R (by omega) P (x) (by omega) dk[x + 1]!
          have s3b := S1.out.st2 R (by omega) P (x) (x + 1) (by omega) (by omega) dk[x + 1]! dk[x]!
          have n3a : (enc dk[x]!).length = k := R.hk _
          have n3b : (enc dk[x + 1]!).length = k := R.hk _
          generalize enc dk[x]! = cI3 at S2 l3a s3b n3a
          generalize enc dk[x + 1]! = cJ3 at S2 l3b s3a s3b n3b
          clear S1
          go_wp2_with fail
          go_big_region_o
          clear l3a l3b s3a s3b
          generalize (wr.drew.setCells blk (off + (x) * k) cJ3).setCells blk (off + (x + 1) * k) cI3 = w2 at S2 ⊢
          go_wp2
          go_roundg (i - 1 - a - (n + 1))
          case measure => omega
          case rel => exact ⟨x + 1, n + 1, swp dk x (x + 1), by go_num, by omega, by omega, by omega, by rw [swp_size]; exact hds, S2, (show _ = _ by rw [HK.out, show x = a + n by omega]; rfl)⟩
        · have hxz : ¬ (x : Int) < (i : Int) - 1 := by omega
          go_wp2
          try simp only [Exit.inBlock, Exit.then]
          refine bodyPost_ret (results_none rfl _ _ _) rfl ?_
          have e : n = i - 1 - a := by omega
          rw [e] at HK
          exact ⟨rfl, dk, S1.out, by rw [HK.out]; exact Sb.done_right hO hb hst (by have := hm.out; rw [← this]; exact hsr) (Sb.srch_as HE.out hm.out.symm rfl)⟩

set_option maxHeartbeats 8000000 in
set_option maxRecDepth 1000000 in
theorem symB15 {k : Nat} (T : TyS P k) (Fsw : P.funcs[55]? = some Try.f55) (Fro : P.funcs[52]? = some Try.f52) (Fsy : P.funcs[47]? = some Try.f47) (enc : α → List Value) (cf : α → α → Int) (pl : α → Nat) (g : Nat) (cb : Array Value) (blk off cap a m : Nat) (d0 d : Array α) (w0 w : World)
    (eg : ∀ args w, (callFunc g args).run P w = .ok (.enter g args) w) (hcmp : CmpLays P g cb enc k cf blk off d0.size w0) (R : RowK enc k w0 blk off d0) (hs : d0.size = d.size) (S : SWK enc k w0 blk off d w) (hO : SWO (ltOf cf)) (hst : Sb.Stb (ltOf cf) pl d) (hsl : SortedIn (ltOf cf) a m d) (ham : a + 1 < m) (hb : m + 1 ≤ d.size) (hsz : d.size < 2305843009213693952) :
    Calls P 47 #[.slice (some ⟨blk, off, none⟩) d.size cap, .int .i64 a, .int .i64 m, .int .i64 ((m + 1 : Nat) : Int), .func (.func g) #[] cb] w fun e w' => e = .returned (.tuple #[]) ∧ ∃ d', SWK enc k w0 blk off d' w' ∧ Sb.Done (ltOf cf) pl a (m + 1) d d' := by
  have mixed := T.mixed; have aE := T.aE; have zE := T.zE; have t0 := T.t0; have a0 := T.a0; have z0 := T.z0; have v0 := T.v0; have t3 := T.t3; have a3 := T.a3; have z3 := T.z3; have v3 := T.v3; have t4 := T.t4; have a4 := T.a4; have z4 := T.z4; have v4 := T.v4; have t22 := T.t22; have a22 := T.a22; have z22 := T.z22; have v22 := T.v22; have t25 := T.t25; have a25 := T.a25; have z25 := T.z25; have v25 := T.v25; have t39 := T.t39; have a39 := T.a39; have z39 := T.z39; have v39 := T.v39
  have u3 := run_underlying T.t3; have u22 := run_underlying T.t22; have u39 := run_underlying T.t39
  have HC : Aside _ := hcmp
  have S0 : Aside (SWK enc k w0 blk off d w) := S
  have HM : Hid _ := Sb.mono_left hO hsl
  clear S hcmp
  obtain ⟨b, hbm⟩ : ∃ b, b = m + 1 := ⟨_, rfl⟩
  have hm1 : ¬ ((m : Int) - (a : Int) = 1) := by omega
  have hm2 : (b : Int) - (m : Int) = 1 := by omega
  have hb1 : m < b := by omega
  have hb2 : b ≤ m + 1 := by omega
  rw [← hbm] at hb
  rw [← hbm]
  replace hbm : Hid (b = m + 1) := hbm
  go_enter Fsy, Try.ntmps47
  go_wp2
  go_loopg [14, 15] (m - a) (fun kx s10 s11 wr => ∃ (i j : Nat), s10 = .int .i64 i ∧ s11 = .int .i64 j ∧ j - i ≤ kx ∧ a ≤ i ∧ i ≤ j ∧ j ≤ m ∧ Aside (SWK enc k w0 blk off d wr) ∧ Hid (Sb.Srch (fun h => !ltOf cf d[m]! d[h]!) (a) (m) i j))
  case atStart => exact ⟨a, m, rfl, rfl, Nat.le_refl _, Nat.le_refl _, by omega, Nat.le_refl _, S0, (Sb.srch_start _ (by omega) : Sb.Srch (fun h => !ltOf cf d[m]! d[h]!) (a) (m) (a) (m))⟩
  case round =>
    clear S0
    obtain ⟨i, j, rfl, rfl, hkx, hli, hij, hjh, S1, HE⟩ := hrel
    by_cases hlt : i < j
    · have hltz : (i : Int) < (j : Int) := by omega
      obtain ⟨h, hh⟩ : ∃ h, h = (i + j) / 2 := ⟨_, rfl⟩
      have HHZ : Hid (((i : Int) + (j : Int)) / 2 = (h : Int)) := by show _ = _; omega
      have hh1 : i ≤ h := by omega
      have hh2 : h < j := by omega
      replace hh : Hid (h = (i + j) / 2) := hh
      cases hL : ltOf cf d[m]! d[h]! with
      | false =>
        have HE2 : Hid (Sb.Srch (fun h => !ltOf cf d[m]! d[h]!) (a) (m) (h + 1) j) := HE.out.up HM.out hlt hh.out (by simp [hL])
        have ea1 : ((m : Int)).toNat = m := by omega
        have pa1 : (0 : Int) ≤ (m : Int) := by omega
        have ba1 : (m : Int) < (d.size : Int) := by omega
        have ra1 : IntKind.i64.wrap ((m : Int)) = (m : Int) := by rw [IntKind.wrap_i64]; omega
        have ec1 : ((h : Int)).toNat = h := by omega
        have pc1 : (0 : Int) ≤ (h : Int) := by omega
        have bc1 : (h : Int) < (d.size : Int) := by omega
        have rc1 : IntKind.i64.wrap ((h : Int)) = (h : Int) := by rw [IntKind.wrap_i64]; omega
        obtain ⟨x1, hx1⟩ : ∃ x, x = d[m]! := ⟨_, rfl⟩
        obtain ⟨y1, hy1⟩ : ∃ x, x = d[h]! := ⟨_, rfl⟩
        have l1a := S1.out.ld R (by omega) P (m) (by omega)
        have l1b := S1.out.ld R (by omega) P (h) (by omega)
        rw [← hx1] at l1a
        rw [← hy1] at l1b
        have hc1 := S1.out.cmp HC.out (by omega) x1 y1
        have hv1 : ¬ cf x1 y1 < 0 := by rw [hx1, hy1]; exact of_decide_eq_false hL
        have hd1 : decide (cf x1 y1 < 0) = false := by rw [hx1, hy1]; exact hL
        clear hx1 hy1
        go_wp2_with fail
        rw [HHZ.out]
        go_quiet_grown (first | (go_at_fn g; refine Calls.grown_of (hc1 _ _)))
        have S2 : Aside (SWK enc k w0 blk off d (grow (wr.drewN nq) osq)) := S1.out.grown nq osq
        clear l1a l1b hc1 S1
        generalize grow (wr.drewN nq) osq = w2 at S2 ⊢
        clear nq osq
        go_wp2
        go_roundg (j - (h + 1))
        case measure => omega
        case rel => exact ⟨h + 1, j, by go_num, rfl, Nat.le_refl _, by omega, by omega, hjh, S2, HE2⟩
      | true =>
        have HE2 : Hid (Sb.Srch (fun h => !ltOf cf d[m]! d[h]!) (a) (m) i h) := HE.out.down HM.out hlt hh.out (by simp [hL])
        have ea2 : ((m : Int)).toNat = m := by omega
        have pa2 : (0 : Int) ≤ (m : Int) := by omega
        have ba2 : (m : Int) < (d.size : Int) := by omega
        have ra2 : IntKind.i64.wrap ((m : Int)) = (m : Int) := by rw [IntKind.wrap_i64]; omega
        have ec2 : ((h : Int)).toNat = h := by omega
        have pc2 : (0 : Int) ≤ (h : Int) := by omega
        have bc2 : (h : Int) < (d.size : Int) := by omega
        have rc2 : IntKind.i64.wrap ((h : Int)) = (h : Int) := by rw [IntKind.wrap_i64]; omega
        obtain ⟨x2, hx2⟩ : ∃ x, x = d[m]! := ⟨_, rfl⟩
        obtain ⟨y2, hy2⟩ : ∃ x, x = d[h]! := ⟨_, rfl⟩
        have l2a := S1.out.ld R (by omega) P (m) (by omega)
        have l2b := S1.out.ld R (by omega) P (h) (by omega)
        rw [← hx2] at l2a
        rw [← hy2] at l2b
        have hc2 := S1.out.cmp HC.out (by omega) x2 y2
        have hv2 : cf x2 y2 < 0 := by rw [hx2, hy2]; exact of_decide_eq_true hL
        have hd2 : decide (cf x2 y2 < 0) = true := by rw [hx2, hy2]; exact hL
        clear hx2 hy2
        go_wp2_with fail
        rw [HHZ.out]
        go_quiet_grown (first | (go_at_fn g; refine Calls.grown_of (hc2 _ _)))
        have S2 : Aside (SWK enc k w0 blk off d (grow (wr.drewN nq) osq)) := S1.out.grown nq osq
        clear l2a l2b hc2 S1
        generalize grow (wr.drewN nq) osq = w2 at S2 ⊢
        clear nq osq
        go_wp2
        go_roundg (h - i)
        case measure => omega
        case rel => exact ⟨i, h, rfl, by go_num, Nat.le_refl _, hli, by omega, by omega, S2, HE2⟩
    · have hltz : ¬ (i : Int) < (j : Int) := by omega
      obtain rfl : i = j := by omega
      clear hlt hij
      go_wp2
      go_loopg [17] (m - i) (fun kx s17 wr2 => ∃ (x n : Nat) (dk : Array α), s17 = .int .i64 x ∧ x + n ≤ m ∧ m ≤ x + n ∧ n + kx = m - i ∧ dk.size = d.size ∧ Aside (SWK enc k w0 blk off dk wr2) ∧ Hid (dk = Sb.shL d m n))
      case atStart => exact ⟨m, 0, d, rfl, Nat.le_refl _, Nat.le_refl _, by omega, rfl, S1, rfl⟩
      case round =>
        clear S1
        obtain ⟨x, n, dk, rfl, hxn1, hxn2, hkx2, hds, S1, HK⟩ := hrel
        by_cases hx : i < x
        · have hxz : (i : Int) < (x : Int) := by omega
          go_wp2_with fail
          have ea3 : ((x : Int)).toNat = x := by omega
          have pa3 : (0 : Int) ≤ (x : Int) := by omega
          have ba3 : (x : Int) < (d.size : Int) := by omega
          have ra3 : IntKind.i64.wrap ((x : Int)) = (x : Int) := by rw [IntKind.wrap_i64]; omega
          have ec3 : ((x : Int) - 1).toNat = x - 1 := by omega
          have pc3 : (0 : Int) ≤ (x : Int) - 1 := by omega
          have bc3 : (x : Int) - 1 < (d.size : Int) := by omega
          have rc3 : IntKind.i64.wrap ((x : Int) - 1) = (x : Int) - 1 := by rw [IntKind.wrap_i64]; omega
          have S2 : Aside (SWK enc k w0 blk off (swp dk (x) (x - 1)) ((wr.drew.setCells blk (off + (x) * k) (enc dk[x - 1]!)).setCells blk (off + (x - 1) * k) (enc dk[x]!))) := S1.out.swapped R (x) (x - 1) (by omega) (by omega)
          have l3a := S1.out.ld1 R (by omega) P (x) (by omega)
          have l3b := S1.out.ld1 R (by omega) P (x - 1) (by omega)
          have s3a := S1.out.st1 R (by omega) P (x) (by omega) dk[x - 1]!
          have s3b := S1.out.st2 R (by omega) P (x) (x - 1) (by omega) (by omega) dk[x - 1]! dk[x]!
          have n3a : (enc dk[x]!).length = k := R.hk _
          have n3b : (enc dk[x - 1]!).length = k := R.hk _
          generalize enc dk[x]! = cI3 at S2 l3a s3b n3a
          generalize enc dk[x - 1]! = cJ3 at S2 l3b s3a s3b n3b
          clear S1
          go_wp2_with fail
          go_big_region_o
          clear l3a l3b s3a s3b
          generalize (wr.drew.setCells blk (off + (x) * k) cJ3).setCells blk (off + (x - 1) * k) cI3 = w2 at S2 ⊢
          go_wp2
          go_roundg (m - i - (n + 1))
          case measure => omega
          case rel => exact ⟨x - 1, n + 1, swp dk x (x - 1), by go_num, by omega, by omega, by omega, by rw [swp_size]; exact hds, S2, (show _ = _ by rw [HK.out, show x = m - n by omega]; rfl)⟩
        · have hxz : ¬ (i : Int) < (x : Int) := by omega
          go_wp2
          try simp only [Exit.inBlock, Exit.then]
          refine bodyPost_ret (results_none rfl _ _ _) rfl ?_
          have e : n = m - i := by omega
          rw [e] at HK
          exact ⟨rfl, dk, S1.out, by rw [HK.out]; rw [hbm.out]; exact Sb.done_left hO (by omega) hst hsl HE.out⟩

set_option maxHeartbeats 8000000 in
set_option maxRecDepth 1000000 in
theorem symC15 {k : Nat} (T : TyS P k) (Fsw : P.funcs[55]? = some Try.f55) (Fro : P.funcs[52]? = some Try.f52) (Fsy : P.funcs[47]? = some Try.f47) (enc : α → List Value) (cf : α → α → Int) (pl : α → Nat) (g : Nat) (cb : Array Value) (blk off cap a m b mid : Nat) (d0 d : Array α) (w0 w : World)
    (eg : ∀ args w, (callFunc g args).run P w = .ok (.enter g args) w) (hcmp : CmpLays P g cb enc k cf blk off d0.size w0) (R : RowK enc k w0 blk off d0) (hs : d0.size = d.size) (S : SWK enc k w0 blk off d w) (hO : SWO (ltOf cf)) (hst : Sb.Stb (ltOf cf) pl d) (hsl : SortedIn (ltOf cf) a m d) (hsr : SortedIn (ltOf cf) m b d) (ham : a + 1 < m) (hmb : m + 1 < b) (hb : b ≤ d.size) (hsz : d.size < 2305843009213693952) (hmid : mid = (a + b) / 2) (hmm : mid < m)
    (IH : ∀ (a' m' b' : Nat) (d' : Array α) (w' : World), b' - a' < b - a → d'.size = d.size → SWK enc k w0 blk off d' w' → Sb.Stb (ltOf cf) pl d' → SortedIn (ltOf cf) a' m' d' → SortedIn (ltOf cf) m' b' d' → a' < m' → m' < b' → b' ≤ d.size → Calls P 47 #[.slice (some ⟨blk, off, none⟩) d.size cap, .int .i64 a', .int .i64 m', .int .i64 b', .func (.func g) #[] cb] w' fun e w2 => e = .returned (.tuple #[]) ∧ ∃ d2, SWK enc k w0 blk off d2 w2 ∧ Sb.Done (ltOf cf) pl a' b' d' d2) :
    Calls P 47 #[.slice (some ⟨blk, off, none⟩) d.size cap, .int .i64 a, .int .i64 m, .int .i64 b, .func (.func g) #[] cb] w fun e w' => e = .returned (.tuple #[]) ∧ ∃ d', SWK enc k w0 blk off d' w' ∧ Sb.Done (ltOf cf) pl a b d d' := by
  have mixed := T.mixed; have aE := T.aE; have zE := T.zE; have t0 := T.t0; have a0 := T.a0; have z0 := T.z0; have v0 := T.v0; have t3 := T.t3; have a3 := T.a3; have z3 := T.z3; have v3 := T.v3; have t4 := T.t4; have a4 := T.a4; have z4 := T.z4; have v4 := T.v4; have t22 := T.t22; have a22 := T.a22; have z22 := T.z22; have v22 := T.v22; have t25 := T.t25; have a25 := T.a25; have z25 := T.z25; have v25 := T.v25; have t39 := T.t39; have a39 := T.a39; have z39 := T.z39; have v39 := T.v39
  have u3 := run_underlying T.t3; have u22 := run_underlying T.t22; have u39 := run_underlying T.t39
  have ero : ∀ args w, (callFunc 52 args).run P w = .ok (.enter 52 args) w := fun args w => enters_of Fro (by decide) rfl args w
  have esy : ∀ args w, (callFunc 47 args).run P w = .ok (.enter 47 args) w := fun args w => enters_of Fsy (by decide) rfl args w
  have HC : Aside _ := hcmp
  have S0 : Aside (SWK enc k w0 blk off d w) := S
  have HM : Hid (Sb.Mono (fun c => !ltOf cf d[mid + m - 1 - c]! d[c]!) (mid + m - b) mid) := Sb.mono_as (Sb.mono_both hO hmid (by omega) (by omega) hsl hsr) (if_pos hmm) (if_pos hmm)
  clear S hcmp
  have hmi1 : 2 * mid ≤ a + b := by omega
  have hmi2 : a + b ≤ 2 * mid + 1 := by omega
  have HMZ : Hid (((a : Int) + (b : Int)) / 2 = (mid : Int)) := by show _ = _; omega
  have hmg : ((a : Int) + (b : Int)) / 2 < (m : Int) := by omega
  obtain ⟨pp, hpp⟩ : ∃ pp, pp = mid + m - 1 := ⟨_, rfl⟩
  have HPZ : Hid ((mid : Int) + (m : Int) - 1 = (pp : Int)) := by show _ = _; omega
  have hpp1 : pp + 1 ≤ mid + m := by omega
  have hpp2 : mid + m ≤ pp + 1 := by omega
  clear hpp
  replace hmid : Hid (mid = (a + b) / 2) := hmid
  have hm1 : ¬ ((m : Int) - (a : Int) = 1) := by omega
  have hm2 : ¬ ((b : Int) - (m : Int) = 1) := by omega
  have hm3 : ((m : Int) - (a : Int) == 1) = false := beq_false_of_ne hm1
  have hm4 : ((b : Int) - (m : Int) == 1) = false := beq_false_of_ne hm2
  go_enter Fsy, Try.ntmps47
  go_wp2
  rw [HMZ.out, HPZ.out]
  go_loopg [20, 21] (mid - (mid + m - b)) (fun kx s10 s11 wr => ∃ (i j : Nat), s10 = .int .i64 i ∧ s11 = .int .i64 j ∧ j - i ≤ kx ∧ (mid + m - b) ≤ i ∧ i ≤ j ∧ j ≤ mid ∧ Aside (SWK enc k w0 blk off d wr) ∧ Hid (Sb.Srch (fun c => !ltOf cf d[mid + m - 1 - c]! d[c]!) ((mid + m - b)) (mid) i j))
  case atStart => exact ⟨(mid + m - b), mid, by go_num, rfl, Nat.le_refl _, Nat.le_refl _, by omega, Nat.le_refl _, S0, (Sb.srch_start _ (by omega) : Sb.Srch (fun c => !ltOf cf d[mid + m - 1 - c]! d[c]!) ((mid + m - b)) (mid) ((mid + m - b)) (mid))⟩
  case round =>
    clear S0
    obtain ⟨i, j, rfl, rfl, hkx, hli, hij, hjh, S1, HE⟩ := hrel
    by_cases hlt : i < j
    · have hltz : (i : Int) < (j : Int) := by omega
      obtain ⟨h, hh⟩ : ∃ h, h = (i + j) / 2 := ⟨_, rfl⟩
      have HHZ : Hid (((i : Int) + (j : Int)) / 2 = (h : Int)) := by show _ = _; omega
      have hh1 : i ≤ h := by omega
      have hh2 : h < j := by omega
      replace hh : Hid (h = (i + j) / 2) := hh
      obtain ⟨q, hq⟩ : ∃ q, q = mid + m - 1 - h := ⟨_, rfl⟩
      have hqr : IntKind.i64.wrap ((pp : Int) - (h : Int)) = (q : Int) := by rw [IntKind.wrap_i64]; omega
      have hqd : q < d.size := by omega
      replace hq : Hid (q = mid + m - 1 - h) := hq
      cases hL : ltOf cf d[q]! d[h]! with
      | false =>
        have HE2 : Hid (Sb.Srch (fun c => !ltOf cf d[mid + m - 1 - c]! d[c]!) ((mid + m - b)) (mid) (h + 1) j) := HE.out.up HM.out hlt hh.out (by show (!ltOf cf d[mid + m - 1 - h]! d[h]!) = _; rw [← hq.out, hL]; rfl)
        have ea1 : ((q : Int)).toNat = q := by omega
        have pa1 : (0 : Int) ≤ (q : Int) := by omega
        have ba1 : (q : Int) < (d.size : Int) := by omega
        have ra1 : IntKind.i64.wrap ((q : Int)) = (q : Int) := by rw [IntKind.wrap_i64]; omega
        have ec1 : ((h : Int)).toNat = h := by omega
        have pc1 : (0 : Int) ≤ (h : Int) := by omega
        have bc1 : (h : Int) < (d.size : Int) := by omega
        have rc1 : IntKind.i64.wrap ((h : Int)) = (h : Int) := by rw [IntKind.wrap_i64]; omega
        obtain ⟨x1, hx1⟩ : ∃ x, x = d[q]! := ⟨_, rfl⟩
        obtain ⟨y1, hy1⟩ : ∃ x, x = d[h]! := ⟨_, rfl⟩
        have l1a := S1.out.ld R (by omega) P (q) (by omega)
        have l1b := S1.out.ld R (by omega) P (h) (by omega)
        rw [← hx1] at l1a
        rw [← hy1] at l1b
        have hc1 := S1.out.cmp HC.out (by omega) x1 y1
        have hv1 : ¬ cf x1 y1 < 0 := by rw [hx1, hy1]; exact of_decide_eq_false hL
        have hd1 : decide (cf x1 y1 < 0) = false := by rw [hx1, hy1]; exact hL
        clear hx1 hy1
        go_wp2_with fail
        rw [HHZ.out]
        go_quiet_grown (first | (go_at_fn g; refine Calls.grown_of (hc1 _ _)))
        have S2 : Aside (SWK enc k w0 blk off d (grow (wr.drewN nq) osq)) := S1.out.grown nq osq
        clear l1a l1b hc1 S1
        generalize grow (wr.drewN nq) osq = w2 at S2 ⊢
        clear nq osq
        go_wp2
        go_roundg (j - (h + 1))
        case measure => omega
        case rel => exact ⟨h + 1, j, by go_num, rfl, Nat.le_refl _, by omega, by omega, hjh, S2, HE2⟩
      | true =>
        have HE2 : Hid (Sb.Srch (fun c => !ltOf cf d[mid + m - 1 - c]! d[c]!) ((mid + m - b)) (mid) i h) := HE.out.down HM.out hlt hh.out (by show (!ltOf cf d[mid + m - 1 - h]! d[h]!) = _; rw [← hq.out, hL]; rfl)
        have ea2 : ((q : Int)).toNat = q := by omega
        have pa2 : (0 : Int) ≤ (q : Int) := by omega
        have ba2 : (q : Int) < (d.size : Int) := by omega
        have ra2 : IntKind.i64.wrap ((q : Int)) = (q : Int) := by rw [IntKind.wrap_i64]; omega
        have ec2 : ((h : Int)).toNat = h := by omega
        have pc2 : (0 : Int) ≤ (h : Int) := by omega
        have bc2 : (h : Int) < (d.size : Int) := by omega
        have rc2 : IntKind.i64.wrap ((h : Int)) = (h : Int) := by rw [IntKind.wrap_i64]; omega
        obtain ⟨x2, hx2⟩ : ∃ x, x = d[q]! := ⟨_, rfl⟩
        obtain ⟨y2, hy2⟩ : ∃ x, x = d[h]! := ⟨_, rfl⟩
        have l2a := S1.out.ld R (by omega) P (q) (by omega)
        have l2b := S1.out.ld R (by omega) P (h) (by omega)
        rw [← hx2] at l2a
        rw [← hy2] at l2b
        have hc2 := S1.out.cmp HC.out (by omega) x2 y2
        have hv2 : cf x2 y2 < 0 := by rw [hx2, hy2]; exact of_decide_eq_true hL
        have hd2 : decide (cf x2 y2 < 0) = true := by rw [hx2, hy2]; exact hL
        clear hx2 hy2
        go_wp2_with fail
        rw [HHZ.out]
        go_quiet_grown (first | (go_at_fn g; refine Calls.grown_of (hc2 _ _)))
        have S2 : Aside (SWK enc k w0 blk off d (grow (wr.drewN nq) osq)) := S1.out.grown nq osq
        clear l2a l2b hc2 S1
        generalize grow (wr.drewN nq) osq = w2 at S2 ⊢
        clear nq osq
        go_wp2
        go_roundg (h - i)
        case measure => omega
        case rel => exact ⟨i, h, rfl, by go_num, Nat.le_refl _, hli, by omega, by omega, S2, HE2⟩
    · have hltz : ¬ (i : Int) < (j : Int) := by omega
      obtain rfl : i = j := by omega
      clear hlt hij
      obtain ⟨e, he⟩ : ∃ e, e = mid + m - i := ⟨_, rfl⟩
      have hez : (mid : Int) + (m : Int) - (i : Int) = (e : Int) := by omega
      have he1 : e + i ≤ mid + m := by omega
      have he2 : mid + m ≤ e + i := by omega
      replace he : Hid (e = mid + m - i) := he
      by_cases kB : i < mid
      · by_cases kC : a < i
        · by_cases kD : e < b
          ·
            have qA0 : (i : Int) < (m : Int) := by omega
            have qA1 : (mid : Int) < (e : Int) := by omega
            have qB0 : (i : Int) < (mid : Int) := by omega
            have qB1 : (m : Int) < (e : Int) := by omega
            have qC0 : (a : Int) < (i : Int) := by omega
            have qD0 : (e : Int) < (b : Int) := by omega
            have hcall := rotate15 T Fsw Fro enc g cb blk off cap i m e d0 d w0 wr R hs S1.out (by omega) (by omega) (by omega) hsz
            clear S1
            go_wp2_with fail
            refine hcall.mono ?_
            rintro e1 w1 ⟨rfl, d1, S1, HR⟩
            obtain ⟨HP1, HP2, HP3, HP4, HST, hz1⟩ := Sb.rot_all hO hst hmid.out (by omega) (by omega) hb hsl hsr (Sb.srch_as HE.out (if_pos hmm) (if_pos hmm)) he.out HR
            have hc2 := IH a i mid d1 _ (by omega) hz1 S1 HST HP1 HP2 (by omega) (by omega) (by omega)
            clear S1
            go_wp2_with fail
            refine hc2.mono ?_
            rintro e2 w2 ⟨rfl, d2, S2, HD⟩
            obtain ⟨HQ3, HQ4, hz2⟩ := HD.keep (by omega) hz1 HP3 HP4
            have hc3 := IH mid e b d2 _ (by omega) hz2 S2 HD.stb HQ3 HQ4 (by omega) (by omega) (by omega)
            clear S2
            go_wp2_with fail
            refine hc3.mono ?_
            rintro e3 w3 ⟨rfl, d3, S3, HG⟩
            go_wp2
            go_end0
            exact ⟨rfl, d3, S3, Sb.both_done hO hb hmid.out (by omega) (by omega) hsl hsr (Sb.srch_as HE.out (if_pos hmm) (if_pos hmm)) (by rw [← he.out]; exact HR) HD HG⟩
          ·
            have qA0 : (i : Int) < (m : Int) := by omega
            have qA1 : (mid : Int) < (e : Int) := by omega
            have qB0 : (i : Int) < (mid : Int) := by omega
            have qB1 : (m : Int) < (e : Int) := by omega
            have qC0 : (a : Int) < (i : Int) := by omega
            have qD0 : ¬ (e : Int) < (b : Int) := by omega
            have hcall := rotate15 T Fsw Fro enc g cb blk off cap i m e d0 d w0 wr R hs S1.out (by omega) (by omega) (by omega) hsz
            clear S1
            go_wp2_with fail
            refine hcall.mono ?_
            rintro e1 w1 ⟨rfl, d1, S1, HR⟩
            obtain ⟨HP1, HP2, HP3, HP4, HST, hz1⟩ := Sb.rot_all hO hst hmid.out (by omega) (by omega) hb hsl hsr (Sb.srch_as HE.out (if_pos hmm) (if_pos hmm)) he.out HR
            have hc2 := IH a i mid d1 _ (by omega) hz1 S1 HST HP1 HP2 (by omega) (by omega) (by omega)
            clear S1
            go_wp2_with fail
            refine hc2.mono ?_
            rintro e2 w2 ⟨rfl, d2, S2, HD⟩
            obtain ⟨HQ3, HQ4, hz2⟩ := HD.keep (by omega) hz1 HP3 HP4
            obtain ⟨d3, hd3⟩ : ∃ d3, d3 = d2 := ⟨_, rfl⟩
            have HG : Sb.Done (ltOf cf) pl mid b d2 d3 := by rw [hd3]; exact Sb.done_none HD.stb (by omega) HQ3 HQ4
            have S3 : Aside (SWK enc k w0 blk off d3 w2) := by rw [hd3]; exact S2
            clear hd3 S2
            go_wp2
            go_end0
            exact ⟨rfl, d3, S3, Sb.both_done hO hb hmid.out (by omega) (by omega) hsl hsr (Sb.srch_as HE.out (if_pos hmm) (if_pos hmm)) (by rw [← he.out]; exact HR) HD HG⟩
        · by_cases kD : e < b
          ·
            have qA0 : (i : Int) < (m : Int) := by omega
            have qA1 : (mid : Int) < (e : Int) := by omega
            have qB0 : (i : Int) < (mid : Int) := by omega
            have qB1 : (m : Int) < (e : Int) := by omega
            have qC0 : ¬ (a : Int) < (i : Int) := by omega
            have qD0 : (e : Int) < (b : Int) := by omega
            have hcall := rotate15 T Fsw Fro enc g cb blk off cap i m e d0 d w0 wr R hs S1.out (by omega) (by omega) (by omega) hsz
            clear S1
            go_wp2_with fail
            refine hcall.mono ?_
            rintro e1 w1 ⟨rfl, d1, S1, HR⟩
            obtain ⟨HP1, HP2, HP3, HP4, HST, hz1⟩ := Sb.rot_all hO hst hmid.out (by omega) (by omega) hb hsl hsr (Sb.srch_as HE.out (if_pos hmm) (if_pos hmm)) he.out HR
            obtain ⟨d2, hd2⟩ : ∃ d2, d2 = d1 := ⟨_, rfl⟩
            have HD : Sb.Done (ltOf cf) pl a mid d1 d2 := by rw [hd2]; exact Sb.done_none HST (by omega) HP1 HP2
            have S2 : Aside (SWK enc k w0 blk off d2 w1) := by rw [hd2]; exact S1
            clear hd2 S1
            obtain ⟨HQ3, HQ4, hz2⟩ := HD.keep (by omega) hz1 HP3 HP4
            have hc3 := IH mid e b d2 _ (by omega) hz2 S2 HD.stb HQ3 HQ4 (by omega) (by omega) (by omega)
            clear S2
            go_wp2_with fail
            refine hc3.mono ?_
            rintro e3 w3 ⟨rfl, d3, S3, HG⟩
            go_wp2
            go_end0
            exact ⟨rfl, d3, S3, Sb.both_done hO hb hmid.out (by omega) (by omega) hsl hsr (Sb.srch_as HE.out (if_pos hmm) (if_pos hmm)) (by rw [← he.out]; exact HR) HD HG⟩
          ·
            have qA0 : (i : Int) < (m : Int) := by omega
            have qA1 : (mid : Int) < (e : Int) := by omega
            have qB0 : (i : Int) < (mid : Int) := by omega
            have qB1 : (m : Int) < (e : Int) := by omega
            have qC0 : ¬ (a : Int) < (i : Int) := by omega
            have qD0 : ¬ (e : Int) < (b : Int) := by omega
            have hcall := rotate15 T Fsw Fro enc g cb blk off cap i m e d0 d w0 wr R hs S1.out (by omega) (by omega) (by omega) hsz
            clear S1
            go_wp2_with fail
            refine hcall.mono ?_
            rintro e1 w1 ⟨rfl, d1, S1, HR⟩
            obtain ⟨HP1, HP2, HP3, HP4, HST, hz1⟩ := Sb.rot_all hO hst hmid.out (by omega) (by omega) hb hsl hsr (Sb.srch_as HE.out (if_pos hmm) (if_pos hmm)) he.out HR
            obtain ⟨d2, hd2⟩ : ∃ d2, d2 = d1 := ⟨_, rfl⟩
            have HD : Sb.Done (ltOf cf) pl a mid d1 d2 := by rw [hd2]; exact Sb.done_none HST (by omega) HP1 HP2
            have S2 : Aside (SWK enc k w0 blk off d2 w1) := by rw [hd2]; exact S1
            clear hd2 S1
            obtain ⟨HQ3, HQ4, hz2⟩ := HD.keep (by omega) hz1 HP3 HP4
            obtain ⟨d3, hd3⟩ : ∃ d3, d3 = d2 := ⟨_, rfl⟩
            have HG : Sb.Done (ltOf cf) pl mid b d2 d3 := by rw [hd3]; exact Sb.done_none HD.stb (by omega) HQ3 HQ4
            have S3 : Aside (SWK enc k w0 blk off d3 w1) := by rw [hd3]; exact S2
            clear hd3 S2
            go_wp2
            go_end0
            exact ⟨rfl, d3, S3, Sb.both_done hO hb hmid.out (by omega) (by omega) hsl hsr (Sb.srch_as HE.out (if_pos hmm) (if_pos hmm)) (by rw [← he.out]; exact HR) HD HG⟩
      · by_cases kD : e < b
        ·
          have qA0 : (i : Int) < (m : Int) := by omega
          have qA1 : (mid : Int) < (e : Int) := by omega
          have qB0 : ¬ (i : Int) < (mid : Int) := by omega
          have qB1 : ¬ (m : Int) < (e : Int) := by omega
          have qC0 : (a : Int) < (i : Int) := by omega
          have qD0 : (e : Int) < (b : Int) := by omega
          obtain ⟨d1, hd1⟩ : ∃ d1, d1 = d := ⟨_, rfl⟩
          have HR : Sb.Rot d i m e d1 := by rw [hd1]; exact Sb.rot_none (by omega) (by omega) (by omega)
          replace S1 : Aside (SWK enc k w0 blk off d1 wr) := by rw [hd1]; exact S1
          clear hd1
          obtain ⟨HP1, HP2, HP3, HP4, HST, hz1⟩ := Sb.rot_all hO hst hmid.out (by omega) (by omega) hb hsl hsr (Sb.srch_as HE.out (if_pos hmm) (if_pos hmm)) he.out HR
          obtain ⟨d2, hd2⟩ : ∃ d2, d2 = d1 := ⟨_, rfl⟩
          have HD : Sb.Done (ltOf cf) pl a mid d1 d2 := by rw [hd2]; exact Sb.done_none HST (by omega) HP1 HP2
          have S2 : Aside (SWK enc k w0 blk off d2 wr) := by rw [hd2]; exact S1
          clear hd2 S1
          obtain ⟨HQ3, HQ4, hz2⟩ := HD.keep (by omega) hz1 HP3 HP4
          have hc3 := IH mid e b d2 _ (by omega) hz2 S2 HD.stb HQ3 HQ4 (by omega) (by omega) (by omega)
          clear S2
          go_wp2_with fail
          refine hc3.mono ?_
          rintro e3 w3 ⟨rfl, d3, S3, HG⟩
          go_wp2
          go_end0
          exact ⟨rfl, d3, S3, Sb.both_done hO hb hmid.out (by omega) (by omega) hsl hsr (Sb.srch_as HE.out (if_pos hmm) (if_pos hmm)) (by rw [← he.out]; exact HR) HD HG⟩
        ·
          have qA0 : (i : Int) < (m : Int) := by omega
          have qA1 : (mid : Int) < (e : Int) := by omega
          have qB0 : ¬ (i : Int) < (mid : Int) := by omega
          have qB1 : ¬ (m : Int) < (e : Int) := by omega
          have qC0 : (a : Int) < (i : Int) := by omega
          have qD0 : ¬ (e : Int) < (b : Int) := by omega
          obtain ⟨d1, hd1⟩ : ∃ d1, d1 = d := ⟨_, rfl⟩
          have HR : Sb.Rot d i m e d1 := by rw [hd1]; exact Sb.rot_none (by omega) (by omega) (by omega)
          replace S1 : Aside (SWK enc k w0 blk off d1 wr) := by rw [hd1]; exact S1
          clear hd1
          obtain ⟨HP1, HP2, HP3, HP4, HST, hz1⟩ := Sb.rot_all hO hst hmid.out (by omega) (by omega) hb hsl hsr (Sb.srch_as HE.out (if_pos hmm) (if_pos hmm)) he.out HR
          obtain ⟨d2, hd2⟩ : ∃ d2, d2 = d1 := ⟨_, rfl⟩
          have HD : Sb.Done (ltOf cf) pl a mid d1 d2 := by rw [hd2]; exact Sb.done_none HST (by omega) HP1 HP2
          have S2 : Aside (SWK enc k w0 blk off d2 wr) := by rw [hd2]; exact S1
          clear hd2 S1
          obtain ⟨HQ3, HQ4, hz2⟩ := HD.keep (by omega) hz1 HP3 HP4
          obtain ⟨d3, hd3⟩ : ∃ d3, d3 = d2 := ⟨_, rfl⟩
          have HG : Sb.Done (ltOf cf) pl mid b d2 d3 := by rw [hd3]; exact Sb.done_none HD.stb (by omega) HQ3 HQ4
          have S3 : Aside (SWK enc k w0 blk off d3 wr) := by rw [hd3]; exact S2
          clear hd3 S2
          go_wp2
          go_end0
          exact ⟨rfl, d3, S3, Sb.both_done hO hb hmid.out (by omega) (by omega) hsl hsr (Sb.srch_as HE.out (if_pos hmm) (if_pos hmm)) (by rw [← he.out]; exact HR) HD HG⟩


set_option maxHeartbeats 8000000 in
set_option maxRecDepth 1000000 in
theorem symD15 {k : Nat} (T : TyS P k) (Fsw : P.funcs[55]? = some Try.f55) (Fro : P.funcs[52]? = some Try.f52) (Fsy : P.funcs[47]? = some Try.f47) (enc : α → List Value) (cf : α → α → Int) (pl : α → Nat) (g : Nat) (cb : Array Value) (blk off cap a m b mid : Nat) (d0 d : Array α) (w0 w : World)
    (eg : ∀ args w, (callFunc g args).run P w = .ok (.enter g args) w) (hcmp : CmpLays P g cb enc k cf blk off d0.size w0) (R : RowK enc k w0 blk off d0) (hs : d0.size = d.size) (S : SWK enc k w0 blk off d w) (hO : SWO (ltOf cf)) (hst : Sb.Stb (ltOf cf) pl d) (hsl : SortedIn (ltOf cf) a m d) (hsr : SortedIn (ltOf cf) m b d) (ham : a + 1 < m) (hmb : m + 1 < b) (hb : b ≤ d.size) (hsz : d.size < 2305843009213693952) (hmid : mid = (a + b) / 2) (hmm : ¬ mid < m)
    (IH : ∀ (a' m' b' : Nat) (d' : Array α) (w' : World), b' - a' < b - a → d'.size = d.size → SWK enc k w0 blk off d' w' → Sb.Stb (ltOf cf) pl d' → SortedIn (ltOf cf) a' m' d' → SortedIn (ltOf cf) m' b' d' → a' < m' → m' < b' → b' ≤ d.size → Calls P 47 #[.slice (some ⟨blk, off, none⟩) d.size cap, .int .i64 a', .int .i64 m', .int .i64 b', .func (.func g) #[] cb] w' fun e w2 => e = .returned (.tuple #[]) ∧ ∃ d2, SWK enc k w0 blk off d2 w2 ∧ Sb.Done (ltOf cf) pl a' b' d' d2) :
    Calls P 47 #[.slice (some ⟨blk, off, none⟩) d.size cap, .int .i64 a, .int .i64 m, .int .i64 b, .func (.func g) #[] cb] w fun e w' => e = .returned (.tuple #[]) ∧ ∃ d', SWK enc k w0 blk off d' w' ∧ Sb.Done (ltOf cf) pl a b d d' := by
  have mixed := T.mixed; have aE := T.aE; have zE := T.zE; have t0 := T.t0; have a0 := T.a0; have z0 := T.z0; have v0 := T.v0; have t3 := T.t3; have a3 := T.a3; have z3 := T.z3; have v3 := T.v3; have t4 := T.t4; have a4 := T.a4; have z4 := T.z4; have v4 := T.v4; have t22 := T.t22; have a22 := T.a22; have z22 := T.z22; have v22 := T.v22; have t25 := T.t25; have a25 := T.a25; have z25 := T.z25; have v25 := T.v25; have t39 := T.t39; have a39 := T.a39; have z39 := T.z39; have v39 := T.v39
  have u3 := run_underlying T.t3; have u22 := run_underlying T.t22; have u39 := run_underlying T.t39
  have ero : ∀ args w, (callFunc 52 args).run P w = .ok (.enter 52 args) w := fun args w => enters_of Fro (by decide) rfl args w
  have esy : ∀ args w, (callFunc 47 args).run P w = .ok (.enter 47 args) w := fun args w => enters_of Fsy (by decide) rfl args w
  have HC : Aside _ := hcmp
  have S0 : Aside (SWK enc k w0 blk off d w) := S
  have HM : Hid (Sb.Mono (fun c => !ltOf cf d[mid + m - 1 - c]! d[c]!) a m) := Sb.mono_as (Sb.mono_both hO hmid (by omega) (by omega) hsl hsr) (if_neg hmm) (if_neg hmm)
  clear S hcmp
  have hmi1 : 2 * mid ≤ a + b := by omega
  have hmi2 : a + b ≤ 2 * mid + 1 := by omega
  have HMZ : Hid (((a : Int) + (b : Int)) / 2 = (mid : Int)) := by show _ = _; omega
  have hmg : ¬ ((a : Int) + (b : Int)) / 2 < (m : Int) := by omega
  obtain ⟨pp, hpp⟩ : ∃ pp, pp = mid + m - 1 := ⟨_, rfl⟩
  have HPZ : Hid ((mid : Int) + (m : Int) - 1 = (pp : Int)) := by show _ = _; omega
  have hpp1 : pp + 1 ≤ mid + m := by omega
  have hpp2 : mid + m ≤ pp + 1 := by omega
  clear hpp
  replace hmid : Hid (mid = (a + b) / 2) := hmid
  have hm1 : ¬ ((m : Int) - (a : Int) = 1) := by omega
  have hm2 : ¬ ((b : Int) - (m : Int) = 1) := by omega
  have hm3 : ((m : Int) - (a : Int) == 1) = false := beq_false_of_ne hm1
  have hm4 : ((b : Int) - (m : Int) == 1) = false := beq_false_of_ne hm2
  go_enter Fsy, Try.ntmps47
  go_wp2
  rw [HMZ.out, HPZ.out]
  go_loopg [20, 21] (m - a) (fun kx s10 s11 wr => ∃ (i j : Nat), s10 = .int .i64 i ∧ s11 = .int .i64 j ∧ j - i ≤ kx ∧ a ≤ i ∧ i ≤ j ∧ j ≤ m ∧ Aside (SWK enc k w0 blk off d wr) ∧ Hid (Sb.Srch (fun c => !ltOf cf d[mid + m - 1 - c]! d[c]!) (a) (m) i j))
  case atStart => exact ⟨a, m, rfl, rfl, Nat.le_refl _, Nat.le_refl _, by omega, Nat.le_refl _, S0, (Sb.srch_start _ (by omega) : Sb.Srch (fun c => !ltOf cf d[mid + m - 1 - c]! d[c]!) (a) (m) (a) (m))⟩
  case round =>
    clear S0
    obtain ⟨i, j, rfl, rfl, hkx, hli, hij, hjh, S1, HE⟩ := hrel
    by_cases hlt : i < j
    · have hltz : (i : Int) < (j : Int) := by omega
      obtain ⟨h, hh⟩ : ∃ h, h = (i + j) / 2 := ⟨_, rfl⟩
      have HHZ : Hid (((i : Int) + (j : Int)) / 2 = (h : Int)) := by show _ = _; omega
      have hh1 : i ≤ h := by omega
      have hh2 : h < j := by omega
      replace hh : Hid (h = (i + j) / 2) := hh
      obtain ⟨q, hq⟩ : ∃ q, q = mid + m - 1 - h := ⟨_, rfl⟩
      have hqr : IntKind.i64.wrap ((pp : Int) - (h : Int)) = (q : Int) := by rw [IntKind.wrap_i64]; omega
      have hqd : q < d.size := by omega
      replace hq : Hid (q = mid + m - 1 - h) := hq
      cases hL : ltOf cf d[q]! d[h]! with
      | false =>
        have HE2 : Hid (Sb.Srch (fun c => !ltOf cf d[mid + m - 1 - c]! d[c]!) (a) (m) (h + 1) j) := HE.out.up HM.out hlt hh.out (by show (!ltOf cf d[mid + m - 1 - h]! d[h]!) = _; rw [← hq.out, hL]; rfl)
        have ea1 : ((q : Int)).toNat = q := by omega
        have pa1 : (0 : Int) ≤ (q : Int) := by omega
        have ba1 : (q : Int) < (d.size : Int) := by omega
        have ra1 : IntKind.i64.wrap ((q : Int)) = (q : Int) := by rw [IntKind.wrap_i64]; omega
        have ec1 : ((h : Int)).toNat = h := by omega
        have pc1 : (0 : Int) ≤ (h : Int) := by omega
        have bc1 : (h : Int) < (d.size : Int) := by omega
        have rc1 : IntKind.i64.wrap ((h : Int)) = (h : Int) := by rw [IntKind.wrap_i64]; omega
        obtain ⟨x1, hx1⟩ : ∃ x, x = d[q]! := ⟨_, rfl⟩
        obtain ⟨y1, hy1⟩ : ∃ x, x = d[h]! := ⟨_, rfl⟩
        have l1a := S1.out.ld R (by omega) P (q) (by omega)
        have l1b := S1.out.ld R (by omega) P (h) (by omega)
        rw [← hx1] at l1a
        rw [← hy1] at l1b
        have hc1 := S1.out.cmp HC.out (by omega) x1 y1
        have hv1 : ¬ cf x1 y1 < 0 := by rw [hx1, hy1]; exact of_decide_eq_false hL
        have hd1 : decide (cf x1 y1 < 0) = false := by rw [hx1, hy1]; exact hL
        clear hx1 hy1
        go_wp2_with fail
        rw [HHZ.out]
        go_quiet_grown (first | (go_at_fn g; refine Calls.grown_of (hc1 _ _)))
        have S2 : Aside (SWK enc k w0 blk off d (grow (wr.drewN nq) osq)) := S1.out.grown nq osq
        clear l1a l1b hc1 S1
        generalize grow (wr.drewN nq) osq = w2 at S2 ⊢
        clear nq osq
        go_wp2
        go_roundg (j - (h + 1))
        case measure => omega
        case rel => exact ⟨h + 1, j, by go_num, rfl, Nat.le_refl _, by omega, by omega, hjh, S2, HE2⟩
      | true =>
        have HE2 : Hid (Sb.Srch (fun c => !ltOf cf d[mid + m - 1 - c]! d[c]!) (a) (m) i h) := HE.out.down HM.out hlt hh.out (by show (!ltOf cf d[mid + m - 1 - h]! d[h]!) = _; rw [← hq.out, hL]; rfl)
        have ea2 : ((q : Int)).toNat = q := by omega
        have pa2 : (0 : Int) ≤ (q : Int) := by omega
        have ba2 : (q : Int) < (d.size : Int) := by omega
        have ra2 : IntKind.i64.wrap ((q : Int)) = (q : Int) := by rw [IntKind.wrap_i64]; omega
        have ec2 : ((h : Int)).toNat = h := by omega
        have pc2 : (0 : Int) ≤ (h : Int) := by omega
        have bc2 : (h : Int) < (d.size : Int) := by omega
        have rc2 : IntKind.i64.wrap ((h : Int)) = (h : Int) := by rw [IntKind.wrap_i64]; omega
        obtain ⟨x2, hx2⟩ : ∃ x, x = d[q]! := ⟨_, rfl⟩
        obtain ⟨y2, hy2⟩ : ∃ x, x = d[h]! := ⟨_, rfl⟩
        have l2a := S1.out.ld R (by omega) P (q) (by omega)
        have l2b := S1.out.ld R (by omega) P (h) (by omega)
        rw [← hx2] at l2a
        rw [← hy2] at l2b
        have hc2 := S1.out.cmp HC.out (by omega) x2 y2
        have hv2 : cf x2 y2 < 0 := by rw [hx2, hy2]; exact of_decide_eq_true hL
        have hd2 : decide (cf x2 y2 < 0) = true := by rw [hx2, hy2]; exact hL
        clear hx2 hy2
        go_wp2_with fail
        rw [HHZ.out]
        go_quiet_grown (first | (go_at_fn g; refine Calls.grown_of (hc2 _ _)))
        have S2 : Aside (SWK enc k w0 blk off d (grow (wr.drewN nq) osq)) := S1.out.grown nq osq
        clear l2a l2b hc2 S1
        generalize grow (wr.drewN nq) osq = w2 at S2 ⊢
        clear nq osq
        go_wp2
        go_roundg (h - i)
        case measure => omega
        case rel => exact ⟨i, h, rfl, by go_num, Nat.le_refl _, hli, by omega, by omega, S2, HE2⟩
    · have hltz : ¬ (i : Int) < (j : Int) := by omega
      obtain rfl : i = j := by omega
      clear hlt hij
      obtain ⟨e, he⟩ : ∃ e, e = mid + m - i := ⟨_, rfl⟩
      have hez : (mid : Int) + (m : Int) - (i : Int) = (e : Int) := by omega
      have he1 : e + i ≤ mid + m := by omega
      have he2 : mid + m ≤ e + i := by omega
      replace he : Hid (e = mid + m - i) := he
      by_cases kA : i < m
      · by_cases kC : a < i
        · by_cases kD : e < b
          ·
            have qA0 : (i : Int) < (m : Int) := by omega
            have qA1 : (mid : Int) < (e : Int) := by omega
            have qB0 : (i : Int) < (mid : Int) := by omega
            have qB1 : (m : Int) < (e : Int) := by omega
            have qC0 : (a : Int) < (i : Int) := by omega
            have qD0 : (e : Int) < (b : Int) := by omega
            have hcall := rotate15 T Fsw Fro enc g cb blk off cap i m e d0 d w0 wr R hs S1.out (by omega) (by omega) (by omega) hsz
            clear S1
            go_wp2_with fail
            refine hcall.mono ?_
            rintro e1 w1 ⟨rfl, d1, S1, HR⟩
            obtain ⟨HP1, HP2, HP3, HP4, HST, hz1⟩ := Sb.rot_all hO hst hmid.out (by omega) (by omega) hb hsl hsr (Sb.srch_as HE.out (if_neg hmm) (if_neg hmm)) he.out HR
            have hc2 := IH a i mid d1 _ (by omega) hz1 S1 HST HP1 HP2 (by omega) (by omega) (by omega)
            clear S1
            go_wp2_with fail
            refine hc2.mono ?_
            rintro e2 w2 ⟨rfl, d2, S2, HD⟩
            obtain ⟨HQ3, HQ4, hz2⟩ := HD.keep (by omega) hz1 HP3 HP4
            have hc3 := IH mid e b d2 _ (by omega) hz2 S2 HD.stb HQ3 HQ4 (by omega) (by omega) (by omega)
            clear S2
            go_wp2_with fail
            refine hc3.mono ?_
            rintro e3 w3 ⟨rfl, d3, S3, HG⟩
            go_wp2
            go_end0
            exact ⟨rfl, d3, S3, Sb.both_done hO hb hmid.out (by omega) (by omega) hsl hsr (Sb.srch_as HE.out (if_neg hmm) (if_neg hmm)) (by rw [← he.out]; exact HR) HD HG⟩
          ·
            have qA0 : (i : Int) < (m : Int) := by omega
            have qA1 : (mid : Int) < (e : Int) := by omega
            have qB0 : (i : Int) < (mid : Int) := by omega
            have qB1 : (m : Int) < (e : Int) := by omega
            have qC0 : (a : Int) < (i : Int) := by omega
            have qD0 : ¬ (e : Int) < (b : Int) := by omega
            have hcall := rotate15 T Fsw Fro enc g cb blk off cap i m e d0 d w0 wr R hs S1.out (by omega) (by omega) (by omega) hsz
            clear S1
            go_wp2_with fail
            refine hcall.mono ?_
            rintro e1 w1 ⟨rfl, d1, S1, HR⟩
            obtain ⟨HP1, HP2, HP3, HP4, HST, hz1⟩ := Sb.rot_all hO hst hmid.out (by omega) (by omega) hb hsl hsr (Sb.srch_as HE.out (if_neg hmm) (if_neg hmm)) he.out HR
            have hc2 := IH a i mid d1 _ (by omega) hz1 S1 HST HP1 HP2 (by omega) (by omega) (by omega)
            clear S1
            go_wp2_with fail
            refine hc2.mono ?_
            rintro e2 w2 ⟨rfl, d2, S2, HD⟩
            obtain ⟨HQ3, HQ4, hz2⟩ := HD.keep (by omega) hz1 HP3 HP4
            obtain ⟨d3, hd3⟩ : ∃ d3, d3 = d2 := ⟨_, rfl⟩
            have HG : Sb.Done (ltOf cf) pl mid b d2 d3 := by rw [hd3]; exact Sb.done_none HD.stb (by omega) HQ3 HQ4
            have S3 : Aside (SWK enc k w0 blk off d3 w2) := by rw [hd3]; exact S2
            clear hd3 S2
            go_wp2
            go_end0
            exact ⟨rfl, d3, S3, Sb.both_done hO hb hmid.out (by omega) (by omega) hsl hsr (Sb.srch_as HE.out (if_neg hmm) (if_neg hmm)) (by rw [← he.out]; exact HR) HD HG⟩
        · by_cases kD : e < b
          ·
            have qA0 : (i : Int) < (m : Int) := by omega
            have qA1 : (mid : Int) < (e : Int) := by omega
            have qB0 : (i : Int) < (mid : Int) := by omega
            have qB1 : (m : Int) < (e : Int) := by omega
            have qC0 : ¬ (a : Int) < (i : Int) := by omega
            have qD0 : (e : Int) < (b : Int) := by omega
            have hcall := rotate15 T Fsw Fro enc g cb blk off cap i m e d0 d w0 wr R hs S1.out (by omega) (by omega) (by omega) hsz
            clear S1
            go_wp2_with fail
            refine hcall.mono ?_
            rintro e1 w1 ⟨rfl, d1, S1, HR⟩
            obtain ⟨HP1, HP2, HP3, HP4, HST, hz1⟩ := Sb.rot_all hO hst hmid.out (by omega) (by omega) hb hsl hsr (Sb.srch_as HE.out (if_neg hmm) (if_neg hmm)) he.out HR
            obtain ⟨d2, hd2⟩ : ∃ d2, d2 = d1 := ⟨_, rfl⟩
            have HD : Sb.Done (ltOf cf) pl a mid d1 d2 := by rw [hd2]; exact Sb.done_none HST (by omega) HP1 HP2
            have S2 : Aside (SWK enc k w0 blk off d2 w1) := by rw [hd2]; exact S1
            clear hd2 S1
            obtain ⟨HQ3, HQ4, hz2⟩ := HD.keep (by omega) hz1 HP3 HP4
            have hc3 := IH mid e b d2 _ (by omega) hz2 S2 HD.stb HQ3 HQ4 (by omega) (by omega) (by omega)
            clear S2
            go_wp2_with fail
            refine hc3.mono ?_
            rintro e3 w3 ⟨rfl, d3, S3, HG⟩
            go_wp2
            go_end0
            exact ⟨rfl, d3, S3, Sb.both_done hO hb hmid.out (by omega) (by omega) hsl hsr (Sb.srch_as HE.out (if_neg hmm) (if_neg hmm)) (by rw [← he.out]; exact HR) HD HG⟩
          ·
            have qA0 : (i : Int) < (m : Int) := by omega
            have qA1 : (mid : Int) < (e : Int) := by omega
            have qB0 : (i : Int) < (mid : Int) := by omega
            have qB1 : (m : Int) < (e : Int) := by omega
            have qC0 : ¬ (a : Int) < (i : Int) := by omega
            have qD0 : ¬ (e : Int) < (b : Int) := by omega
            have hcall := rotate15 T Fsw Fro enc g cb blk off cap i m e d0 d w0 wr R hs S1.out (by omega) (by omega) (by omega) hsz
            clear S1
            go_wp2_with fail
            refine hcall.mono ?_
            rintro e1 w1 ⟨rfl, d1, S1, HR⟩
            obtain ⟨HP1, HP2, HP3, HP4, HST, hz1⟩ := Sb.rot_all hO hst hmid.out (by omega) (by omega) hb hsl hsr (Sb.srch_as HE.out (if_neg hmm) (if_neg hmm)) he.out HR
            obtain ⟨d2, hd2⟩ : ∃ d2, d2 = d1 := ⟨_, rfl⟩
            have HD : Sb.Done (ltOf cf) pl a mid d1 d2 := by rw [hd2]; exact Sb.done_none HST (by omega) HP1 HP2
            have S2 : Aside (SWK enc k w0 blk off d2 w1) := by rw [hd2]; exact S1
            clear hd2 S1
            obtain ⟨HQ3, HQ4, hz2⟩ := HD.keep (by omega) hz1 HP3 HP4
            obtain ⟨d3, hd3⟩ : ∃ d3, d3 = d2 := ⟨_, rfl⟩
            have HG : Sb.Done (ltOf cf) pl mid b d2 d3 := by rw [hd3]; exact Sb.done_none HD.stb (by omega) HQ3 HQ4
            have S3 : Aside (SWK enc k w0 blk off d3 w1) := by rw [hd3]; exact S2
            clear hd3 S2
            go_wp2
            go_end0
            exact ⟨rfl, d3, S3, Sb.both_done hO hb hmid.out (by omega) (by omega) hsl hsr (Sb.srch_as HE.out (if_neg hmm) (if_neg hmm)) (by rw [← he.out]; exact HR) HD HG⟩
      · by_cases kB : i < mid
        ·
          have qA0 : ¬ (i : Int) < (m : Int) := by omega
          have qA1 : ¬ (mid : Int) < (e : Int) := by omega
          have qB0 : (i : Int) < (mid : Int) := by omega
          have qB1 : (m : Int) < (e : Int) := by omega
          have qC0 : (a : Int) < (i : Int) := by omega
          obtain ⟨d1, hd1⟩ : ∃ d1, d1 = d := ⟨_, rfl⟩
          have HR : Sb.Rot d i m e d1 := by rw [hd1]; exact Sb.rot_none (by omega) (by omega) (by omega)
          replace S1 : Aside (SWK enc k w0 blk off d1 wr) := by rw [hd1]; exact S1
          clear hd1
          obtain ⟨HP1, HP2, HP3, HP4, HST, hz1⟩ := Sb.rot_all hO hst hmid.out (by omega) (by omega) hb hsl hsr (Sb.srch_as HE.out (if_neg hmm) (if_neg hmm)) he.out HR
          have hc2 := IH a i mid d1 _ (by omega) hz1 S1 HST HP1 HP2 (by omega) (by omega) (by omega)
          clear S1
          go_wp2_with fail
          refine hc2.mono ?_
          rintro e2 w2 ⟨rfl, d2, S2, HD⟩
          obtain ⟨HQ3, HQ4, hz2⟩ := HD.keep (by omega) hz1 HP3 HP4
          obtain ⟨d3, hd3⟩ : ∃ d3, d3 = d2 := ⟨_, rfl⟩
          have HG : Sb.Done (ltOf cf) pl mid b d2 d3 := by rw [hd3]; exact Sb.done_none HD.stb (by omega) HQ3 HQ4
          have S3 : Aside (SWK enc k w0 blk off d3 w2) := by rw [hd3]; exact S2
          clear hd3 S2
          go_wp2
          go_end0
          exact ⟨rfl, d3, S3, Sb.both_done hO hb hmid.out (by omega) (by omega) hsl hsr (Sb.srch_as HE.out (if_neg hmm) (if_neg hmm)) (by rw [← he.out]; exact HR) HD HG⟩
        ·
          have qA0 : ¬ (i : Int) < (m : Int) := by omega
          have qA1 : ¬ (mid : Int) < (e : Int) := by omega
          have qB0 : ¬ (i : Int) < (mid : Int) := by omega
          have qB1 : ¬ (m : Int) < (e : Int) := by omega
          have qC0 : (a : Int) < (i : Int) := by omega
          obtain ⟨d1, hd1⟩ : ∃ d1, d1 = d := ⟨_, rfl⟩
          have HR : Sb.Rot d i m e d1 := by rw [hd1]; exact Sb.rot_none (by omega) (by omega) (by omega)
          replace S1 : Aside (SWK enc k w0 blk off d1 wr) := by rw [hd1]; exact S1
          clear hd1
          obtain ⟨HP1, HP2, HP3, HP4, HST, hz1⟩ := Sb.rot_all hO hst hmid.out (by omega) (by omega) hb hsl hsr (Sb.srch_as HE.out (if_neg hmm) (if_neg hmm)) he.out HR
          obtain ⟨d2, hd2⟩ : ∃ d2, d2 = d1 := ⟨_, rfl⟩
          have HD : Sb.Done (ltOf cf) pl a mid d1 d2 := by rw [hd2]; exact Sb.done_none HST (by omega) HP1 HP2
          have S2 : Aside (SWK enc k w0 blk off d2 wr) := by rw [hd2]; exact S1
          clear hd2 S1
          obtain ⟨HQ3, HQ4, hz2⟩ := HD.keep (by omega) hz1 HP3 HP4
          obtain ⟨d3, hd3⟩ : ∃ d3, d3 = d2 := ⟨_, rfl⟩
          have HG : Sb.Done (ltOf cf) pl mid b d2 d3 := by rw [hd3]; exact Sb.done_none HD.stb (by omega) HQ3 HQ4
          have S3 : Aside (SWK enc k w0 blk off d3 wr) := by rw [hd3]; exact S2
          clear hd3 S2
          go_wp2
          go_end0
          exact ⟨rfl, d3, S3, Sb.both_done hO hb hmid.out (by omega) (by omega) hsl hsr (Sb.srch_as HE.out (if_neg hmm) (if_neg hmm)) (by rw [← he.out]; exact HR) HD HG⟩


/-- symMerge: two halves in order make a whole in order, and what is equal stays as it stood. -/
theorem sym15 {k : Nat} (T : TyS P k) (Fsw : P.funcs[55]? = some Try.f55) (Fro : P.funcs[52]? = some Try.f52) (Fsy : P.funcs[47]? = some Try.f47) (enc : α → List Value) (cf : α → α → Int) (pl : α → Nat) (g : Nat) (cb : Array Value) (blk off cap) (d0 : Array α) (w0 : World)
    (eg : ∀ args w, (callFunc g args).run P w = .ok (.enter g args) w) (hcmp : CmpLays P g cb enc k cf blk off d0.size w0) (R : RowK enc k w0 blk off d0) (hO : SWO (ltOf cf)) (hsz : d0.size < 2305843009213693952) :
    ∀ (n a m b : Nat) (d : Array α) (w : World), b - a ≤ n → d.size = d0.size → SWK enc k w0 blk off d w → Sb.Stb (ltOf cf) pl d → SortedIn (ltOf cf) a m d → SortedIn (ltOf cf) m b d → a < m → m < b → b ≤ d0.size →
    Calls P 47 #[.slice (some ⟨blk, off, none⟩) d0.size cap, .int .i64 a, .int .i64 m, .int .i64 b, .func (.func g) #[] cb] w fun e w' => e = .returned (.tuple #[]) ∧ ∃ d', SWK enc k w0 blk off d' w' ∧ Sb.Done (ltOf cf) pl a b d d' := by
  intro n
  induction n with
  | zero => intro a m b d w h1 _ _ _ _ _ h2 h3; omega
  | succ n ih =>
    intro a m b d w hn hd S hst hsl hsr ham hmb hb
    have hs : d0.size = d.size := hd.symm
    rw [hs]
    by_cases k1 : m = a + 1
    · subst k1
      exact symA15 T Fsw Fro Fsy enc cf pl g cb blk off cap a b d0 d w0 w eg hcmp R hs S hO hst hsr (by omega) (by omega) (by omega)
    · by_cases k2 : b = m + 1
      · subst k2
        exact symB15 T Fsw Fro Fsy enc cf pl g cb blk off cap a m d0 d w0 w eg hcmp R hs S hO hst hsl (by omega) (by omega) (by omega)
      · by_cases k3 : (a + b) / 2 < m
        · refine symC15 T Fsw Fro Fsy enc cf pl g cb blk off cap a m b _ d0 d w0 w eg hcmp R hs S hO hst hsl hsr (by omega) (by omega) (by omega) (by omega) rfl k3 fun a' m' b' d' w' q1 q2 q3 q4 q5 q6 q7 q8 q9 => ?_
          rw [← hs]
          exact ih a' m' b' d' w' (by omega) (by omega) q3 q4 q5 q6 q7 q8 (by omega)
        · refine symD15 T Fsw Fro Fsy enc cf pl g cb blk off cap a m b _ d0 d w0 w eg hcmp R hs S hO hst hsl hsr (by omega) (by omega) (by omega) (by omega) rfl k3 fun a' m' b' d' w' q1 q2 q3 q4 q5 q6 q7 q8 q9 => ?_
          rw [← hs]
          exact ih a' m' b' d' w' (by omega) (by omega) q3 q4 q5 q6 q7 q8 (by omega)

def renIns15 : Go.Shelf.Ren := ⟨fun | 20 => 46 | n => n, fun | 0 => 0 | 3 => 3 | 4 => 4 | 22 => 46 | 24 => 51 | 25 => 71 | n => n, fun n => n⟩
/-- insertionSort, from a world of the sort's to one. -/
theorem ins15 {k : Nat} (L : SlLaysF0.n20 P renIns15) (T : TyS P k) (enc : α → List Value) (cf : α → α → Int) (pl : α → Nat) (g : Nat) (cb : Array Value) (blk off cap a b : Nat) (d0 d : Array α) (w0 w : World)
    (eg : ∀ args w, (callFunc g args).run P w = .ok (.enter g args) w) (hcmp : CmpLays P g cb enc k cf blk off d0.size w0) (R : RowK enc k w0 blk off d0) (hs : d0.size = d.size) (S : SWK enc k w0 blk off d w) (hO : SWO (ltOf cf)) (hst : Sb.Stb (ltOf cf) pl d) (hab : a ≤ b) (hb : b ≤ d.size) (hsz : d.size < 2305843009213693952) :
    Calls P 46 #[.slice (some ⟨blk, off, none⟩) d.size cap, .int .i64 a, .int .i64 b, .func (.func g) #[] cb] w fun e w' => e = .returned (.tuple #[]) ∧ ∃ d', SWK enc k w0 blk off d' w' ∧ Sb.Done (ltOf cf) pl a b d d' := by
  obtain ⟨hp, hso⟩ := insertionSort_holds hO d a b hab hb
  have hC : CmpLays P g cb enc k cf blk off d.size w := fun m os dk hdk x y => by
    obtain ⟨n0, os0, rfl⟩ := S
    rw [sortWorldK_on enc k w0 blk off n0 m d dk os0 os R.hblk hdk]
    exact hcmp _ _ dk (by omega) x y
  refine (AnyQ.insertionSortCmpFunc L k T.aE T.zE enc R.hk R.h1 cf g cb blk off cap a b d w eg hC (S.holds R.hblk R.hH hs.symm) (S.lt R.hblk) hab hb (by omega)).mono ?_
  rintro e w' ⟨rfl, n, os, rfl⟩
  exact ⟨rfl, _, S.on R.hblk n _ os hp.1, hp, Sb.insertion_stb hO hst hb, hso⟩
end Go.Proofs.Ytggdpnkekgmimaa
