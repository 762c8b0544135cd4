/-
  Plain laws on what Set and Turn make (layer 7): a tree stays a tree; what is locked stays; what is moved, copied, marked, set, deleted.
-/
import Derived.Test.YtfjpeonfkhcpfaaEditW
namespace Go.Proofs.Ytfjpeonfkhcpfaa
open Go.RowKit
set_option linter.unusedVariables false

theorem kept_yes {t : List T.Ln} (h : T.RightT t) (p : T.Pth) (n : Nat) : T.keptL t p n = true ↔ T.Kept t p n := T.kept_iff h p n
theorem kept_no {t : List T.Ln} (h : T.RightT t) (p : T.Pth) (n : Nat) : T.keptL t p n = false ↔ ¬ T.Kept t p n := by
  rw [← kept_yes h]; cases T.keptL t p n <;> simp
theorem anyB_yes (t : List T.Ln) (a k : Nat) : anyB t a k = true ↔ ∃ j, j < k ∧ 1 < (T.at_ t (a + j)).mark := by
  unfold anyB; rw [List.any_eq_true]
  constructor
  · rintro ⟨j, h1, h2⟩; exact ⟨j, List.mem_range.1 h1, of_decide_eq_true h2⟩
  · rintro ⟨j, h1, h2⟩; exact ⟨j, List.mem_range.2 h1, decide_eq_true h2⟩
theorem shut_yes {t : List T.Ln} (h : T.RightT t) {a : Nat} (ha : a < t.length) {p : T.Pth} (hp : T.pathL t a = p) : shutL t p a = true ↔ T.Shut t p := by
  subst hp
  obtain ⟨g1, g2, _⟩ := T.end_spec t a ha
  unfold shutL T.Shut
  rw [Bool.or_eq_true, kept_yes h, anyB_yes]
  constructor
  · rintro (⟨j, h1, h2⟩ | h1)
    · exact .inr ⟨(T.pathL t (a + j), (T.at_ t (a + j)).mark), (T.mem_entries t _ _).2 ⟨a + j, by omega, rfl, rfl⟩, (h.part_iff ha (show a + j < t.length by omega)).1 ⟨by omega, by omega⟩, h2⟩
    · exact .inl h1
  · rintro (h1 | ⟨x, h1, h2, h3⟩)
    · exact .inr h1
    · obtain ⟨i, hi, e1, e2⟩ := (T.mem_entries t x.1 x.2).1 h1
      rw [← e1] at h2
      obtain ⟨h4, h5⟩ := (h.part_iff ha hi).2 h2
      exact .inl ⟨i - a, by omega, by rw [show a + (i - a) = i by omega, e2]; exact h3⟩
theorem shut_no {t : List T.Ln} (h : T.RightT t) {a : Nat} (ha : a < t.length) {p : T.Pth} (hp : T.pathL t a = p) : shutL t p a = false ↔ ¬ T.Shut t p := by
  rw [← shut_yes h ha hp]; cases shutL t p a <;> simp
theorem TurnIs.err {t v : List T.Ln} {p : T.Pth} {k : Nat} {bit er : Int} {wd : List UInt8} (h : TurnIs t p k bit wd v er) (h0 : er ≠ 0) : v = t := by
  rcases h with ⟨e, _⟩ | ⟨_, _, _, ⟨_, e, _⟩ | ⟨a, _, _, h⟩⟩
  · exact e
  · exact e
  · rcases h with ⟨_, ⟨_, e, _⟩ | ⟨_, _, e⟩⟩ | ⟨_, ⟨_, e, _⟩ | ⟨_, _, _, e⟩⟩ | ⟨_, ⟨_, e, _⟩ | ⟨_, ⟨_, e, _⟩ | ⟨_, _, e⟩⟩⟩ | ⟨_, ⟨_, e, _⟩ | ⟨_, ⟨_, e, _⟩ | ⟨_, ⟨_, e, _⟩ | ⟨_, _, e⟩⟩⟩⟩ <;> first | exact e | exact absurd e h0
/-- What Turn makes where it makes something. -/
structure TurnOk (t : List T.Ln) (p : T.Pth) (k : Nat) (bit : Int) (wd : List UInt8) (v : List T.Ln) (a : Nat) : Prop where
  right : T.RightT t
  ne : p ≠ []
  lt : a < t.length
  path : T.pathL t a = p
  arg : argT k bit wd
  cases : (k = 1 ∧ ¬ T.Shut t p ∧ v = T.cutL t a) ∨ ((k = 2 ∨ k = 3) ∧ ¬ T.Kept t p (p.length - 1) ∧ (bit = 1 → (T.at_ t a).mark ≤ 1) ∧ v = S.setM t a (turnM k bit (T.at_ t a).mark)) ∨
    (k = 4 ∧ ¬ T.Shut t p ∧ ¬ thereT t (p.dropLast ++ [wd]) ∧ T.Moved t p wd v) ∨ (k = 5 ∧ ¬ T.Kept t p (p.length - 1) ∧ ¬ thereT t (p.dropLast ++ [wd]) ∧ T.Copied t p wd v)
theorem TurnIs.ok {t v : List T.Ln} {p : T.Pth} {k : Nat} {bit : Int} {wd : List UInt8} (h : TurnIs t p k bit wd v 0) : ∃ a, TurnOk t p k bit wd v a := by
  rcases h with ⟨_, e, _⟩ | ⟨harg, hR, hne, ⟨_, _, e⟩ | ⟨a, ha, hp, h⟩⟩
  · omega
  · omega
  · refine ⟨a, hR, hne, ha, hp, harg, ?_⟩
    rcases h with ⟨hk, ⟨_, _, e⟩ | ⟨h1, h2, _⟩⟩ | ⟨hk, ⟨_, _, e⟩ | ⟨h1, h2, h3, _⟩⟩ | ⟨hk, ⟨_, _, e⟩ | ⟨h1, ⟨_, _, e⟩ | ⟨h2, h3, _⟩⟩⟩ | ⟨hk, ⟨_, _, e⟩ | ⟨h1, ⟨_, _, e⟩ | ⟨h2, ⟨_, _, e⟩ | ⟨h3, h4, _⟩⟩⟩⟩
    · omega
    · exact .inl ⟨hk, (shut_no hR ha hp).1 h1, h2⟩
    · omega
    · exact .inr (.inl ⟨hk, (kept_no hR _ _).1 h1, h2, h3⟩)
    · omega
    · omega
    · have h40 : wd.length ≤ 40 := by
        subst hk
        rcases harg with e | ⟨e, _⟩ | ⟨e, _⟩ | ⟨_, e⟩ | ⟨e, _⟩ <;> first | exact e | omega
      refine .inr (.inr (.inl ⟨hk, (shut_no hR ha hp).1 h1, h2, ?_⟩))
      subst hp; subst h3
      exact T.moved_is hR ha h40 fun i hi e => h2 ⟨i, hi, e⟩
    · omega
    · omega
    · omega
    · have h40 : wd.length ≤ 40 := by
        subst hk
        rcases harg with e | ⟨e, _⟩ | ⟨e, _⟩ | ⟨e, _⟩ | ⟨_, e⟩ <;> first | exact e | omega
      refine .inr (.inr (.inr ⟨hk, (kept_no hR _ _).1 h1, h2, ?_⟩))
      subst hp; subst h4
      exact T.copied_is hR ha h40 (fun i hi e => h2 ⟨i, hi, e⟩) h3
theorem turnM_ok (k : Nat) (bit m : Int) (hb : bit = 1 ∨ bit = 2) (hm : 0 ≤ m ∧ m ≤ 3) : 0 ≤ turnM k bit m ∧ turnM k bit m ≤ 3 := by
  obtain rfl | rfl | rfl | rfl : m = 0 ∨ m = 1 ∨ m = 2 ∨ m = 3 := by omega
  all_goals
    rcases hb with rfl | rfl <;> unfold turnM <;> by_cases hk : k = 2
    · rw [if_pos hk]; decide
    · rw [if_neg hk]; decide
    · rw [if_pos hk]; decide
    · rw [if_neg hk]; decide
theorem TurnOk.bit {t v : List T.Ln} {p : T.Pth} {k : Nat} {bit : Int} {wd : List UInt8} {a : Nat} (h : TurnOk t p k bit wd v a) (hk : k = 2 ∨ k = 3) : bit = 1 ∨ bit = 2 := by
  rcases h.arg with e | ⟨_, e⟩ | ⟨_, e⟩ | ⟨e, _⟩ | ⟨e, _⟩ <;> first | exact e | omega
/-- A tree stays a tree. -/
theorem TurnIs.right {t v : List T.Ln} {p : T.Pth} {k : Nat} {bit er : Int} {wd : List UInt8} (h : TurnIs t p k bit wd v er) (hR : T.RightT t) : T.RightT v := by
  by_cases h0 : er = 0
  · subst h0
    obtain ⟨a, h⟩ := h.ok
    rcases h.cases with ⟨_, _, rfl⟩ | ⟨hk, _, _, rfl⟩ | ⟨_, _, _, hm⟩ | ⟨_, _, _, hm⟩
    · exact (hR.cut_entries h.lt).1
    · exact S.RightT.setM hR h.lt (turnM_ok k bit _ (h.bit hk) (hR.mark a h.lt))
    · exact hm.right
    · exact hm.right
  · rw [h.err h0]; exact hR
theorem SetIs.err {t v : List T.Ln} {p : T.Pth} {er : Int} (h : SetIs t p v er) (h0 : er ≠ 0) : v = t := by
  rcases h with ⟨e, _⟩ | ⟨_, ⟨_, e, _⟩ | ⟨_, _, e⟩⟩
  · exact e
  · exact e
  · exact absurd e h0
theorem SetIs.ok {t v : List T.Ln} {p : T.Pth} (h : SetIs t p v 0) : (0 < p.length ∧ (∀ w ∈ p, w.length ≤ 40) ∧ T.RightT t ∧ p.length ≤ 16 ∧ (T.addL t p).length ≤ 200 ∧ T.RightT v) ∧ v = T.addL t p ∧ ¬ T.Kept t p p.length := by
  rcases h with ⟨_, e, _⟩ | ⟨ha, ⟨_, _, e⟩ | ⟨hk, e, _⟩⟩
  · exact absurd rfl e
  · omega
  · obtain ⟨h1, h2, h3, h4, h5, _, h7⟩ := ha.zero
    subst e
    exact ⟨⟨h1, h2, h3, h4, h5, h7⟩, rfl, (kept_no h3 _ _).1 hk⟩
theorem SetIs.right {t v : List T.Ln} {p : T.Pth} {er : Int} (h : SetIs t p v er) (hR : T.RightT t) : T.RightT v := by
  by_cases h0 : er = 0
  · subst h0; exact h.ok.1.2.2.2.2.2
  · rw [h.err h0]; exact hR
/-- What is locked stays. -/
def Stays (t v : List T.Ln) (i : Nat) : Prop := ∃ j, j < v.length ∧ T.pathL v j = T.pathL t i ∧ Int.tmod (T.at_ v j).mark 2 = Int.tmod (T.at_ t i).mark 2 ∧ (T.Kept t (T.pathL t i) ((T.pathL t i).length - 1) → (T.at_ v j).mark = (T.at_ t i).mark)
theorem stays_of {t v : List T.Ln} {i : Nat} (h : (T.pathL t i, (T.at_ t i).mark) ∈ T.entries v) : Stays t v i := by
  obtain ⟨j, hj, e1, e2⟩ := (T.mem_entries v _ _).1 h
  exact ⟨j, hj, e1, by rw [e2], fun _ => e2⟩
theorem turnM_two (k : Nat) (m : Int) (hm : 0 ≤ m ∧ m ≤ 3) : Int.tmod (turnM k 2 m) 2 = Int.tmod m 2 := by
  obtain rfl | rfl | rfl | rfl : m = 0 ∨ m = 1 ∨ m = 2 ∨ m = 3 := by omega
  all_goals
    unfold turnM
    by_cases hk : k = 2
    · rw [if_pos hk]; decide
    · rw [if_neg hk]; decide
theorem TurnIs.stays {t v : List T.Ln} {p : T.Pth} {k : Nat} {bit er : Int} {wd : List UInt8} (h : TurnIs t p k bit wd v er) {i : Nat} (hi : i < t.length) (hk : T.Kept t (T.pathL t i) (T.pathL t i).length) : Stays t v i := by
  have hmem : (T.pathL t i, (T.at_ t i).mark) ∈ T.entries t := (T.mem_entries t _ _).2 ⟨i, hi, rfl, rfl⟩
  by_cases h0 : er = 0
  · subst h0
    obtain ⟨a, h⟩ := h.ok
    have hR := h.right
    rcases h.cases with ⟨_, hs, rfl⟩ | ⟨hk2, hkp, hb, rfl⟩ | ⟨_, hs, _, hm⟩ | ⟨_, _, _, hm⟩
    · refine stays_of (((hR.cut_entries h.lt).2 _).2 ⟨hmem, fun hp => ?_⟩)
      rw [h.path] at hp
      exact T.kept_free hs hp hk
    · by_cases hia : i = a
      · subst hia
        have hm := hR.mark i hi
        refine ⟨i, by rw [S.setM_len]; exact hi, S.setM_path t i _ i hi, ?_, fun hk3 => ?_⟩
        · rw [S.setM_at t i _ i hi, if_pos rfl]
          rcases h.bit hk2 with rfl | rfl
          · have hm1 := hb rfl
            obtain ⟨k1, m, h1, h2, h3, h4⟩ := hk
            rcases Nat.lt_or_ge k1 (T.pathL t i).length with h5 | h5
            · exact absurd ⟨k1, m, h1, by rw [← h.path]; omega, by rw [← h.path]; exact h3, h4⟩ hkp
            · rw [List.take_of_length_le h5] at h3
              obtain ⟨i2, hi2, e1, e2⟩ := (T.mem_entries t _ _).1 h3
              obtain rfl : i2 = i := hR.path_inj (max i2 i) i2 i (Nat.le_max_left ..) (Nat.le_max_right ..) hi2 hi e1
              omega
          · exact turnM_two k _ hm
        · rw [h.path] at hk3
          exact absurd hk3 hkp
      · refine stays_of ((T.mem_entries _ _ _).2 ⟨i, by rw [S.setM_len]; exact hi, S.setM_path t a _ i h.lt, ?_⟩)
        rw [S.setM_at t a _ i h.lt, if_neg hia]
    · refine stays_of ((hm.mem _).2 (.inl ⟨hmem, fun hp => ?_⟩))
      exact T.kept_free hs hp hk
    · exact stays_of ((hm.mem _).2 (.inl hmem))
  · rw [h.err h0]; exact stays_of hmem
theorem SetIs.stays {t v : List T.Ln} {p : T.Pth} {er : Int} (h : SetIs t p v er) {i : Nat} (hi : i < t.length) : Stays t v i := by
  have hmem : (T.pathL t i, (T.at_ t i).mark) ∈ T.entries t := (T.mem_entries t _ _).2 ⟨i, hi, rfl, rfl⟩
  by_cases h0 : er = 0
  · subst h0
    obtain ⟨⟨h1, h2, h3, h4, h5, h6⟩, rfl, _⟩ := h.ok
    exact stays_of (((T.add_is h3 h4 h2).mem _).2 (.inl hmem))
  · rw [h.err h0]; exact stays_of hmem
end Go.Proofs.Ytfjpeonfkhcpfaa
