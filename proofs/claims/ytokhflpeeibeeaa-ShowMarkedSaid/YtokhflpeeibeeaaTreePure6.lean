/-
  Plain laws on lines for layer 3 (tree): how kids, leaves, parts and paths are gathered, step by step. Condition: a tree where it says so.
-/
import Derived.Test.YtokhflpeeibeeaaTreePure5
namespace Go.Proofs.Ytokhflpeeibeeaa.T

/-- The depth of those that stand under i. -/
def kidD (t : List Ln) (i : Int) : Int := if i < 0 then 0 else dp t i.toNat + 1
def kidsTo (t : List Ln) (i : Int) (k : Nat) : List Nat := (List.range k).filter fun m => underL t m == i
/-- From the line behind i on, up to k, all are at least as deep as those that stand under i. -/
def DeepTo (t : List Ln) (i : Int) (k : Nat) : Prop := ∀ m : Nat, i < m → m < k → kidD t i ≤ dp t m
theorem RightT.kid_iff {t : List Ln} (h : RightT t) {i : Int} {k : Nat} (hi : -1 ≤ i) (hik : i < k) (hk : k < t.length) (hd : DeepTo t i k) : underL t k = i ↔ dp t k = kidD t i := by
  unfold kidD
  by_cases h0 : i < 0
  · rw [if_pos h0]
    rcases h.under k hk with ⟨a1, a2⟩ | ⟨u, u1, u2, u3, u4⟩
    · rw [a2]; omega
    · rw [u2]; have := (h.deep u (by omega)).1; omega
  · rw [if_neg h0]
    obtain ⟨n, rfl⟩ := Int.eq_ofNat_of_zero_le (show 0 ≤ i by omega)
    rw [Int.toNat_natCast]
    have hd2 : ∀ m, n < m → m < k → dp t n + 1 ≤ dp t m := fun m h1 h2 => by
      have := hd m (by omega) h2
      unfold kidD at this
      rw [if_neg h0, Int.toNat_natCast] at this
      exact this
    rcases h.under k hk with ⟨a1, a2⟩ | ⟨u, u1, u2, u3, u4⟩
    · rw [a2]; have := (h.deep n (by omega)).1; omega
    · rw [u2]
      constructor
      · intro e
        obtain rfl : u = n := by omega
        omega
      · intro e
        rcases Nat.lt_trichotomy u n with hlt | heq | hgt
        · have := u4 n hlt (by omega); omega
        · omega
        · have := hd2 u hgt u1; omega
theorem kids_next (t : List Ln) (i : Int) (k : Nat) : kidsTo t i (k + 1) = kidsTo t i k ++ if underL t k = i then [k] else [] := by
  unfold kidsTo
  rw [List.range_succ, List.filter_append]
  congr 1
  by_cases h : underL t k = i <;> simp [h]
theorem kids_start (t : List Ln) (i : Int) (k : Nat) (h : (k : Int) ≤ i + 1) : kidsTo t i k = [] := by
  unfold kidsTo
  rw [List.filter_eq_nil_iff]
  intro m hm
  have := (under_lt t m).2
  have := List.mem_range.1 hm
  simp; omega
theorem DeepTo.next {t : List Ln} {i : Int} {k : Nat} (h : DeepTo t i k) (hk : kidD t i ≤ dp t k) : DeepTo t i (k + 1) := by
  intro m h1 h2
  rcases Nat.lt_or_ge m k with hlt | hge
  · exact h m h1 hlt
  · obtain rfl : m = k := by omega
    exact hk
theorem filter_rest (l : List Nat) (p : Nat → Bool) (h : ∀ m ∈ l, p m = false) : l.filter p = [] := by
  rw [List.filter_eq_nil_iff]; intro m hm; rw [h m hm]; simp
theorem RightT.kids_done {t : List Ln} (h : RightT t) {i : Int} {k : Nat} (_hi : -1 ≤ i) (hik : i < k) (hkl : k ≤ t.length) (hs : k < t.length → dp t k < kidD t i) : kidsTo t i k = kidsL t i := by
  unfold kidsTo kidsL
  have e : List.range t.length = List.range k ++ (List.range (t.length - k)).map (k + ·) := by
    have := @List.range_add k (t.length - k)
    rwa [show k + (t.length - k) = t.length by omega] at this
  rw [e, List.filter_append, filter_rest ((List.range (t.length - k)).map (k + ·)), List.append_nil]
  intro m hm
  obtain ⟨j, hj, rfl⟩ := List.mem_map.1 hm
  have hj := List.mem_range.1 hj
  have hs := hs (by omega)
  rw [beq_eq_false_iff_ne]
  intro e
  rcases h.under (k + j) (by omega) with ⟨a1, a2⟩ | ⟨u, u1, u2, u3, u4⟩
  · unfold kidD at hs
    rw [if_pos (by omega)] at hs
    have := (h.deep k (by omega)).1; omega
  · unfold kidD at hs
    rw [if_neg (by omega)] at hs
    have hu : i.toNat = u := by omega
    rw [hu] at hs
    rcases Nat.eq_zero_or_pos j with rfl | hp
    · rw [Nat.add_zero] at u3; omega
    · have := u4 k (by omega) (by omega); omega
theorem kids_full (t : List Ln) (i : Int) : kidsTo t i t.length = kidsL t i := rfl
def leavesTo (t : List Ln) (k : Nat) : List Nat := (List.range k).filter (leafB t)
theorem leaves_next (t : List Ln) (k : Nat) : leavesTo t (k + 1) = leavesTo t k ++ if leafB t k = true then [k] else [] := by
  unfold leavesTo
  rw [List.range_succ, List.filter_append]
  congr 1
  cases h : leafB t k <;> simp [h]
theorem filter_len (k : Nat) (p : Nat → Bool) : ((List.range k).filter p).length ≤ k := by
  have := List.length_filter_le p (List.range k); rwa [List.length_range] at this

theorem sub_take_next (t : List Ln) (i k : Nat) (hi : i < t.length) (hk : k < endL t i - i) : (subL t i).take (k + 1) = (subL t i).take k ++ [⟨dp t (i + k) - dp t i, wd t (i + k), (at_ t (i + k)).mark⟩] := by
  have hl := sub_len t i hi
  rw [List.take_succ_eq_append_getElem (by omega)]
  congr 2
  rw [← sub_at t i k hi hk]
  unfold at_ List.getD
  rw [List.getElem?_eq_getElem (by omega)]; rfl

/-- The path of a line, or of none. -/
def pathI (t : List Ln) (j : Int) : List (List UInt8) := if j < 0 then [] else pathL t j.toNat
theorem pathI_nat (t : List Ln) (k : Nat) : pathI t (k : Int) = pathL t k := by unfold pathI; rw [if_neg (by omega), Int.toNat_natCast]
theorem pathI_none (t : List Ln) : pathI t (-1) = [] := by unfold pathI; rw [if_pos (by omega)]
theorem path_under (t : List Ln) (k : Nat) : pathL t k = pathI t (underL t k) ++ [wd t k] := by
  have hl := under_lt t k
  by_cases h : underL t k = -1
  · rw [path_root h, h, pathI_none]; rfl
  · obtain ⟨u, hu⟩ := Int.eq_ofNat_of_zero_le (show 0 ≤ underL t k by omega)
    rw [path_step hu, hu, pathI_nat]
/-- So much of a path is laid, from its end on. -/
def Laid (t : List Ln) (p : List (List UInt8)) (j : Int) (F : Nat → List UInt8) : Prop := -1 ≤ j ∧ j < t.length ∧ ∃ rest, p = pathI t j ++ rest ∧ ∀ d, (pathI t j).length ≤ d → d < p.length → F d = p.getD d []
theorem Laid.start (t : List Ln) (i : Nat) (hi : i < t.length) (F : Nat → List UInt8) : Laid t (pathL t i) i F :=
  ⟨by omega, by omega, [], by rw [pathI_nat, List.append_nil], fun d h1 h2 => by rw [pathI_nat] at h1; omega⟩
theorem RightT.laid {t : List Ln} (h : RightT t) {p : List (List UInt8)} {k d : Nat} {F : Nat → List UInt8} (hL : Laid t p k F) (hd : dp t k = d) : d < p.length ∧ Laid t p (underL t k) (fun x => if x = d then wd t k else F x) := by
  obtain ⟨_, hk, rest, hp, hF⟩ := hL
  have hkl : k < t.length := by omega
  have hl := h.path_len k k (Nat.le_refl _) hkl
  rw [pathI_nat] at hp hF
  have hdl : (pathL t k).length = d + 1 := by omega
  have hu := path_under t k
  have hul : (pathI t (underL t k)).length = d := by have := congrArg List.length hu; rw [List.length_append, List.length_singleton, hdl] at this; omega
  have hplen : d < p.length := by rw [hp, List.length_append]; omega
  have hlt := under_lt t k
  refine ⟨hplen, hlt.1, by omega, [wd t k] ++ rest, by rw [hp, hu, List.append_assoc], fun x h1 h2 => ?_⟩
  rw [hul] at h1
  by_cases hx : x = d
  · subst hx
    show (if x = x then wd t k else F x) = _
    rw [if_pos rfl, hp, hu, List.append_assoc]
    unfold List.getD
    rw [List.getElem?_append_right (by omega), hul, Nat.sub_self]
    rfl
  · show (if x = d then wd t k else F x) = _
    rw [if_neg hx]
    exact hF x (by omega) h2
theorem Laid.done {t : List Ln} {p : List (List UInt8)} {F : Nat → List UInt8} (h : Laid t p (-1) F) : ∀ d, d < p.length → F d = p.getD d [] := by
  obtain ⟨_, _, rest, _, hF⟩ := h
  intro d hd
  exact hF d (by rw [pathI_none]; simp) hd

/-- The line of a path's beginning. -/
theorem RightT.path_take {t : List Ln} (h : RightT t) : ∀ (n i m : Nat), i ≤ n → i < t.length → 0 < m → m ≤ (pathL t i).length → ∃ k, k < t.length ∧ pathL t k = (pathL t i).take m
  | n, i, m, hn, hi, hm, hle => by
    have hu := path_under t i
    rcases Nat.lt_or_ge m (pathL t i).length with hlt | hge
    · rcases h.under i hi with ⟨a1, a2⟩ | ⟨u, u1, u2, u3, _⟩
      · rw [path_root a2] at hlt; simp at hlt; omega
      · have e := path_step u2
        rw [e, List.length_append, List.length_singleton] at hlt
        match n, hn with
        | 0, hn => omega
        | n + 1, hn =>
          obtain ⟨k, k1, k2⟩ := RightT.path_take h n u m (by omega) (by omega) hm (by omega)
          exact ⟨k, k1, by rw [k2, e, List.take_append_of_le_length (by omega)]⟩
    · exact ⟨i, hi, by rw [List.take_of_length_le hge]⟩
/-- The lines under i that have that word: at most one has the path. -/
theorem RightT.find_none {t : List Ln} (h : RightT t) {p : List (List UInt8)} {d : Nat} {at' : Int} (hd : d < p.length) (ha : pathI t at' = p.take d) (hat : -1 ≤ at' ∧ at' < t.length)
    (hn : ∀ k, k < t.length → underL t k = at' → wd t k ≠ p[d]) : ∀ i, i < t.length → pathL t i ≠ p := by
  intro i hi e
  obtain ⟨k, k1, k2⟩ := h.path_take i i (d + 1) (Nat.le_refl _) hi (by omega) (by rw [e]; omega)
  rw [e, List.take_succ_eq_append_getElem hd, path_under t k] at k2
  obtain ⟨e1, e2⟩ := List.append_inj' k2 rfl
  injection e2 with e2 _
  refine hn k k1 ?_ e2
  rw [← ha] at e1
  have hlt := under_lt t k
  by_cases h1 : underL t k = -1
  · rw [h1, pathI_none] at e1
    by_cases h2 : at' = -1
    · omega
    · obtain ⟨a, ha2⟩ := Int.eq_ofNat_of_zero_le (show 0 ≤ at' by omega)
      rw [ha2, pathI_nat] at e1
      exact absurd e1.symm path_ne
  · obtain ⟨u, hu⟩ := Int.eq_ofNat_of_zero_le (show 0 ≤ underL t k by omega)
    rw [hu, pathI_nat] at e1
    by_cases h2 : at' = -1
    · rw [h2, pathI_none] at e1; exact absurd e1 path_ne
    · obtain ⟨a, ha2⟩ := Int.eq_ofNat_of_zero_le (show 0 ≤ at' by omega)
      rw [ha2, pathI_nat] at e1
      rw [hu, ha2, h.path_inj (max u a) u a (Nat.le_max_left ..) (Nat.le_max_right ..) (by omega) (by omega) e1]
theorem find_next {t : List Ln} {p : List (List UInt8)} {d k : Nat} {at' : Int} (hd : d < p.length) (ha : pathI t at' = p.take d) (hu : underL t k = at') (hw : wd t k = p[d]) : pathI t k = p.take (d + 1) := by
  rw [pathI_nat, path_under, hu, ha, hw, List.take_succ_eq_append_getElem hd]
theorem RightT.kidD_path {t : List Ln} (h : RightT t) {at' : Int} {d : Nat} (hat : -1 ≤ at' ∧ at' < t.length) (hp : (pathI t at').length = d) : kidD t at' = d := by
  unfold kidD
  by_cases h0 : at' < 0
  · rw [if_pos h0]; unfold pathI at hp; rw [if_pos h0] at hp; simp at hp; omega
  · rw [if_neg h0]
    obtain ⟨a, rfl⟩ := Int.eq_ofNat_of_zero_le (show 0 ≤ at' by omega)
    rw [pathI_nat] at hp
    have := h.path_len a a (Nat.le_refl _) (by omega)
    rw [Int.toNat_natCast]; omega
end Go.Proofs.Ytokhflpeeibeeaa.T
