/-
  Plain laws on what Set and Turn make, second part (layer 7): gone, moved back, copied back, marked, set.
-/
import Derived.Test.YtfjpeonfkhcpfaaEditY
namespace Go.Proofs.Ytfjpeonfkhcpfaa
open Go.RowKit
set_option linter.unusedVariables false

/-- Turn's answer, where nothing forbids it. -/
theorem TurnIs.one {t v : List T.Ln} {p : T.Pth} {k : Nat} {bit er : Int} {wd : List UInt8} (h : TurnIs t p k bit wd v er) (harg : argT k bit wd) (hR : T.RightT t) (hne : p ≠ []) {a : Nat} (ha : a < t.length) (hp : T.pathL t a = p) : TurnAt t p a k bit wd v er := by
  rcases h with ⟨_, _, e | e | e⟩ | ⟨_, _, _, ⟨e, _, _⟩ | ⟨b, hb, hpb, h⟩⟩
  · exact absurd harg e
  · exact absurd hR e
  · exact absurd e hne
  · exact absurd ⟨a, ha, hp⟩ e
  · obtain rfl : a = b := hR.path_inj (max a b) a b (Nat.le_max_left ..) (Nat.le_max_right ..) ha hb (by rw [hp, hpb])
    exact h
theorem TurnAt.del {t v : List T.Ln} {p : T.Pth} {a : Nat} {bit er : Int} {wd : List UInt8} (h : TurnAt t p a 1 bit wd v er) (hR : T.RightT t) (ha : a < t.length) (hp : T.pathL t a = p) : (T.Shut t p ∧ v = t ∧ er = 12) ∨ (¬ T.Shut t p ∧ v = T.cutL t a ∧ er = 0) := by
  rcases h with ⟨_, h⟩ | ⟨h, _⟩ | ⟨h, _⟩ | ⟨h, _⟩
  · rw [shut_yes hR ha hp, shut_no hR ha hp] at h; exact h
  all_goals omega
/-- What is deleted is gone, and nothing else. -/
theorem TurnIs.gone {t v : List T.Ln} {p : T.Pth} {bit : Int} {wd : List UInt8} (h : TurnIs t p 1 bit wd v 0) : T.RightT t ∧ T.RightT v ∧ p ≠ [] ∧ ∀ x, x ∈ T.entries v ↔ x ∈ T.entries t ∧ ¬ T.pre p x.1 := by
  obtain ⟨a, h⟩ := h.ok
  rcases h.cases with ⟨_, _, rfl⟩ | ⟨hk, _⟩ | ⟨hk, _⟩ | ⟨hk, _⟩
  · have := h.right.cut_entries h.lt
    rw [h.path] at this
    exact ⟨h.right, this.1, h.ne, this.2⟩
  all_goals omega
theorem last_long {t : List T.Ln} (hR : T.RightT t) {a : Nat} (ha : a < t.length) : ((T.pathL t a).getLastD []).length ≤ 40 := by
  obtain ⟨q, v, e⟩ := T.snoc_of (T.path_ne (t := t) (i := a))
  rw [e, T.last_snoc]
  exact S.RightN.path_long hR a a (Nat.le_refl _) ha v (by rw [e]; simp)
theorem take_drop_last {p : T.Pth} {k : Nat} (h : k < p.length) (w : List UInt8) : (p.dropLast ++ [w]).take k = p.take k := by
  rw [List.take_append, List.length_dropLast, show k - (p.length - 1) = 0 by omega, List.take_zero, List.append_nil, List.dropLast_eq_take, List.take_take, Nat.min_eq_left (by omega)]
theorem last_back {p : T.Pth} (hp : p ≠ []) (w : List UInt8) : (p.dropLast ++ [w]).dropLast ++ [p.getLastD []] = p := by
  rw [List.dropLast_concat]
  obtain ⟨r, v, er⟩ := T.snoc_of hp
  rw [er, List.dropLast_concat, T.last_snoc]
theorem not_pre_short {p q : T.Pth} (h : q.length < p.length) : ¬ T.pre p q := fun e => by have := T.pre_len e; omega
/-- A part, renamed and renamed back. -/
theorem rename_back {t u v : List T.Ln} {p : T.Pth} {b1 b2 er : Int} {wd : List UInt8} (h : TurnIs t p 4 b1 wd u 0) (h2 : TurnIs u (p.dropLast ++ [wd]) 4 b2 (p.getLastD []) v er) : er = 0 ∧ v = t ∧ u.length = t.length := by
  obtain ⟨a, h⟩ := h.ok
  have hR := h.right
  rcases h.cases with ⟨hk, _⟩ | ⟨hk, _⟩ | ⟨_, hs, hno, hm⟩ | ⟨hk, _⟩
  · omega
  · omega
  · have hno2 : ∀ i, i < t.length → T.pathL t i ≠ p.dropLast ++ [wd] := fun i hi e => hno ⟨i, hi, e⟩
    have hq : p.dropLast ++ [wd] ≠ [] := by simp
    have hpin : (p, (T.at_ t a).mark) ∈ T.entries t := (T.mem_entries t _ _).2 ⟨a, h.lt, h.path, rfl⟩
    have hself : T.newP p wd p = p.dropLast ++ [wd] := by unfold T.newP; rw [List.drop_length, List.append_nil]
    have hqin : (p.dropLast ++ [wd], (T.at_ t a).mark) ∈ T.entries u := (hm.mem _).2 (.inr ⟨_, hpin, T.pre_refl p, by rw [hself]⟩)
    obtain ⟨b, hb, hpb, _⟩ := (T.mem_entries u _ _).1 hqin
    have h40 : (p.getLastD []).length ≤ 40 := by have := last_long hR h.lt; rw [h.path] at this; exact this
    have hat := h2.one (.inr (.inr (.inr (.inl ⟨rfl, h40⟩)))) hm.right hq hb hpb
    have hnsh : ¬ T.Shut u (p.dropLast ++ [wd]) := by
      rintro (⟨k, m, g1, g2, g3, g4⟩ | ⟨x, g1, g2, g3⟩)
      · rcases (hm.mem _).1 g3 with ⟨g5, _⟩ | ⟨y, g5, g6, g7⟩
        · rcases Nat.lt_or_ge k p.length with g8 | g8
          · rw [take_drop_last g8] at g5
            exact hs (.inl ⟨k, m, g1, by omega, g5, g4⟩)
          · rw [List.take_of_length_le (by rw [T.newP_len h.ne]; omega)] at g5
            exact absurd (T.pre_refl _) (hR.none_pre hq hno2 g5)
        · injection g7 with g7 g9
          exact hs (.inr ⟨y, g5, g6, by omega⟩)
      · rcases (hm.mem x).1 g1 with ⟨g5, _⟩ | ⟨y, g5, g6, rfl⟩
        · exact absurd g2 (hR.none_pre hq hno2 g5)
        · exact hs (.inr ⟨y, g5, g6, g3⟩)
    have hnth : ¬ thereT u ((p.dropLast ++ [wd]).dropLast ++ [p.getLastD []]) := by
      rw [last_back h.ne]
      rintro ⟨i, hi, e⟩
      rcases (hm.mem _).1 ((T.mem_entries u _ _).2 ⟨i, hi, e, rfl⟩) with ⟨_, g⟩ | ⟨y, g5, g6, g7⟩
      · exact g (T.pre_refl p)
      · injection g7 with g7 _
        have e2 : T.pre (p.dropLast ++ [wd]) p := by have := T.newP_self h.ne wd y.1; rw [← g7] at this; exact this
        have e3 : p.dropLast ++ [wd] = p := by
          have := e2
          unfold T.pre at this
          rw [List.take_of_length_le (by rw [T.newP_len h.ne]; exact Nat.le_refl _)] at this
          exact this.symm
        exact hno ⟨a, h.lt, by rw [h.path, e3]⟩
    rcases hat with ⟨hk, _⟩ | ⟨hk, _⟩ | ⟨_, ⟨g, _⟩ | ⟨_, ⟨g, _⟩ | ⟨_, gv, ge⟩⟩⟩ | ⟨hk, _⟩
    · omega
    · omega
    · exact absurd ((shut_yes hm.right hb hpb).1 g) hnsh
    · exact absurd g hnth
    · refine ⟨ge, ?_, hm.len⟩
      have hmv : T.Moved u (p.dropLast ++ [wd]) (p.getLastD []) v := by
        rw [gv]
        have := T.moved_is hm.right hb h40 fun i hi e => hnth ⟨i, hi, by rw [e, hpb]⟩
        rw [hpb] at this
        exact this
      exact T.Moved.same hmv (T.Moved.back hR h.ne hno2 hm)
    · omega
  · omega
/-- A part, copied, and its copy deleted. -/
theorem copy_back {t u v : List T.Ln} {p : T.Pth} {b1 b2 er : Int} {wd w2 : List UInt8} (h : TurnIs t p 5 b1 wd u 0) (h2 : TurnIs u (p.dropLast ++ [wd]) 1 b2 w2 v er) : (er = 0 ∧ v = t) ∨ er = 12 := by
  obtain ⟨a, h⟩ := h.ok
  have hR := h.right
  rcases h.cases with ⟨hk, _⟩ | ⟨hk, _⟩ | ⟨hk, _⟩ | ⟨_, _, hno, hm⟩
  · omega
  · omega
  · omega
  · have hno2 : ∀ i, i < t.length → T.pathL t i ≠ p.dropLast ++ [wd] := fun i hi e => hno ⟨i, hi, e⟩
    have hpin : (p, (T.at_ t a).mark) ∈ T.entries t := (T.mem_entries t _ _).2 ⟨a, h.lt, h.path, rfl⟩
    have hself : T.newP p wd p = p.dropLast ++ [wd] := by unfold T.newP; rw [List.drop_length, List.append_nil]
    obtain ⟨b, hb, hpb, _⟩ := (T.mem_entries u _ _).1 ((hm.mem (p.dropLast ++ [wd], (T.at_ t a).mark)).2 (.inr ⟨_, hpin, T.pre_refl p, by rw [hself]⟩))
    rcases (h2.one (.inl rfl) hm.right (by simp) hb hpb).del hm.right hb hpb with ⟨_, _, e⟩ | ⟨_, e1, e2⟩
    · exact .inr e
    · exact .inl ⟨e2, by rw [e1]; exact T.Copied.back hR h.ne hno2 hm hb hpb⟩
theorem TurnAt.mark {t v : List T.Ln} {p : T.Pth} {a k : Nat} {bit er : Int} {wd : List UInt8} (h : TurnAt t p a k bit wd v er) (hk : k = 2 ∨ k = 3) (hR : T.RightT t) (h1 : ¬ T.Kept t p (p.length - 1)) (h2 : bit = 1 → (T.at_ t a).mark ≤ 1) : v = S.setM t a (turnM k bit (T.at_ t a).mark) ∧ er = 0 := by
  rcases h with ⟨h, _⟩ | ⟨_, ⟨h | ⟨e, h⟩, _⟩ | ⟨_, _, e1, e2⟩⟩ | ⟨h, _⟩ | ⟨h, _⟩
  · omega
  · exact absurd ((kept_yes hR _ _).1 h) h1
  · have := h2 e; omega
  · exact ⟨e1, e2⟩
  · omega
  · omega
theorem kept_mark {t : List T.Ln} (hR : T.RightT t) {a : Nat} (ha : a < t.length) (m : Int) : T.Kept (S.setM t a m) (T.pathL t a) ((T.pathL t a).length - 1) ↔ T.Kept t (T.pathL t a) ((T.pathL t a).length - 1) := by
  have hne := List.length_pos_iff.2 (T.path_ne (t := t) (i := a))
  have hn : ∀ k, k ≤ (T.pathL t a).length - 1 → (T.pathL t a).take k ≠ T.pathL t a := fun k hk e => by
    have := congrArg List.length e
    rw [List.length_take] at this
    omega
  constructor
  · rintro ⟨k, b, h1, h2, h3, h4⟩
    rcases (T.mark_entries hR ha m _).1 h3 with ⟨h5, _⟩ | h5
    · exact ⟨k, b, h1, h2, h5, h4⟩
    · injection h5 with h5 _
      exact absurd h5 (hn k h2)
  · rintro ⟨k, b, h1, h2, h3, h4⟩
    exact ⟨k, b, h1, h2, (T.mark_entries hR ha m _).2 (.inl ⟨h3, hn k h2⟩), h4⟩
/-- A mark, set; set again; taken off. -/
theorem mark_twice {t u v x : List T.Ln} {p : T.Pth} {bit f g : Int} {w1 w2 w3 : List UInt8} (h : TurnIs t p 2 bit w1 u 0) (h2 : TurnIs u p 2 bit w2 v f) (h3 : TurnIs u p 3 bit w3 x g) :
    f = 0 ∧ g = 0 ∧ v = u ∧ ∃ a m, a < t.length ∧ T.pathL t a = p ∧ (T.at_ t a).mark = m ∧ (m = 0 ∨ m = 1 ∨ m = 2 ∨ m = 3) ∧ (bit = 1 → m ≤ 1) ∧ T.RightT t ∧ T.RightT u ∧ u = S.setM t a (turnM 2 bit m) ∧ x = S.setM t a (turnM 3 bit (turnM 2 bit m)) := by
  obtain ⟨a, h⟩ := h.ok
  have hR := h.right
  have hbit := h.bit (.inl rfl)
  rcases h.cases with ⟨hk, _⟩ | ⟨_, hkp, hb, hu⟩ | ⟨hk, _⟩ | ⟨hk, _⟩
  · omega
  · have hmk := hR.mark a h.lt
    obtain ⟨m, hm⟩ : ∃ m, (T.at_ t a).mark = m := ⟨_, rfl⟩
    rw [hm] at hmk hb hu
    have hm2 := turnM_ok 2 bit m hbit hmk
    have hRu : T.RightT u := by rw [hu]; exact S.RightT.setM hR h.lt hm2
    have hau : a < u.length := by rw [hu, S.setM_len]; exact h.lt
    have hpu : T.pathL u a = p := by rw [hu, S.setM_path t a _ a h.lt]; exact h.path
    have hmu : (T.at_ u a).mark = turnM 2 bit m := by rw [hu, S.setM_at t a _ a h.lt, if_pos rfl]
    have hku : ¬ T.Kept u p (p.length - 1) := by
      rw [hu, ← h.path, kept_mark hR h.lt, h.path]; exact hkp
    have hbu : bit = 1 → turnM 2 bit m ≤ 1 := fun e => by
      have := hb e
      subst e
      obtain rfl | rfl : m = 0 ∨ m = 1 := by omega
      · decide
      · decide
    have a2 : argT 2 bit w2 := .inr (.inl ⟨rfl, hbit⟩)
    have a3 : argT 3 bit w3 := .inr (.inr (.inl ⟨rfl, hbit⟩))
    obtain ⟨e1, e2⟩ := (h2.one a2 hRu h.ne hau hpu).mark (.inl rfl) hRu hku (by rw [hmu]; exact hbu)
    obtain ⟨e3, e4⟩ := (h3.one a3 hRu h.ne hau hpu).mark (.inr rfl) hRu hku (by rw [hmu]; exact hbu)
    rw [hmu] at e1 e3
    have hset : ∀ k, S.setM u a k = S.setM t a k := fun k => by
      rw [hu]
      have d1 := S.setM_dp t a (turnM 2 bit m) a h.lt
      have d2 := S.setM_wd t a (turnM 2 bit m) a h.lt
      unfold S.setM at d1 d2 ⊢
      rw [d1, d2, List.set_set]
    have hidem : turnM 2 bit (turnM 2 bit m) = turnM 2 bit m := by
      obtain rfl | rfl | rfl | rfl : m = 0 ∨ m = 1 ∨ m = 2 ∨ m = 3 := by omega
      all_goals rcases hbit with rfl | rfl <;> decide
    refine ⟨e2, e4, ?_, a, m, h.lt, h.path, hm, by omega, hb, hR, hRu, hu, ?_⟩
    · rw [e1, hidem, hset, ← hu]
    · rw [e3, hset]
  · omega
  · omega
/-- A path that is there is added without a change. -/
theorem add_same {t : List T.Ln} (hR : T.RightT t) {p : T.Pth} (h : thereT t p) : T.addL t p = t := by
  obtain ⟨i, hi, e⟩ := h
  refine T.add_again (fun j hj => ?_) hR p.length (Nat.le_refl _)
  obtain ⟨k, hk, ek⟩ := hR.path_take i i (j + 1) (Nat.le_refl _) hi (by omega) (by rw [e]; omega)
  exact ⟨k, hk, by rw [ek, e]⟩
theorem SetIs.one {t v : List T.Ln} {p : T.Pth} {er : Int} (h : SetIs t p v er) (h1 : 0 < p.length) (h2 : ∀ w ∈ p, w.length ≤ 40) (h3 : T.RightT t) (h4 : p.length ≤ 16) (h5 : (T.addL t p).length ≤ 200) (hk : ¬ T.Kept t p p.length) : v = T.addL t p ∧ er = 0 := by
  have hlo : longB p = false := longB_no fun j hj => decide_eq_false (by have := h2 _ (List.getElem_mem hj); omega)
  rcases h with ⟨_, h0, ⟨_, _, e | e | e⟩ | ⟨_, ⟨_, _, e⟩ | ⟨_, ⟨e, _⟩ | ⟨_, _, e⟩⟩⟩⟩ | ⟨_, ⟨e, _⟩ | ⟨_, e1, e2⟩⟩
  · subst e; simp at h1
  · rw [hlo] at e; cases e
  · exact absurd h3 e
  · omega
  · omega
  · exact absurd e h0
  · exact absurd ((kept_yes h3 _ _).1 e) hk
  · exact ⟨e1, e2⟩
/-- Nothing that Set adds is locked. -/
theorem kept_add {t : List T.Ln} {p : T.Pth} (h1 : 0 < p.length) (h2 : ∀ w ∈ p, w.length ≤ 40) (h3 : T.RightT t) (h4 : p.length ≤ 16) (q : T.Pth) (n : Nat) (hk : ¬ T.Kept t q n) : ¬ T.Kept (T.addL t p) q n := by
  rintro ⟨k, m, g1, g2, g3, g4⟩
  rcases ((T.add_is h3 h4 h2).mem _).1 g3 with g5 | ⟨j, _, g5, _⟩
  · exact hk ⟨k, m, g1, g2, g5, g4⟩
  · injection g5 with _ g5; omega
/-- Set again, it changes nothing; where it was there, it changed nothing. -/
theorem set_twice {t u v : List T.Ln} {p : T.Pth} {f : Int} (h : SetIs t p u 0) (h2 : SetIs u p v f) : f = 0 ∧ v = u ∧ thereT u p ∧ (thereT t p → u = t) := by
  obtain ⟨⟨h1, h3, h4, h5, h6, h7⟩, e, hk⟩ := h.ok
  have htw := T.add_twice h4 h5 h3
  have hth : thereT u p := by rw [e]; exact T.add_there h4 h5 h3 (List.length_pos_iff.1 h1)
  obtain ⟨e1, e2⟩ := h2.one h1 h3 h7 h5 (by rw [e, htw]; exact h6) (by rw [e]; exact kept_add h1 h3 h4 h5 _ _ hk)
  refine ⟨e2, by rw [e1, e, htw], hth, fun ht => by rw [e, add_same h4 ht]⟩
/-- Deleted, what was ahead of it is there, but for what stood alone. -/
theorem set_del {t u x : List T.Ln} {p : T.Pth} {b g : Int} {wd : List UInt8} (h : SetIs t p u 0) (hno : ¬ thereT t p) (h2 : TurnIs u p 1 b wd x g) : g = 0 ∧ (p.length = 1 → x = t) ∧ (1 < p.length → ∀ y e, SetIs t p.dropLast y e → e = 0 ∧ x = y) := by
  obtain ⟨⟨h1, h3, h4, h5, h6, h7⟩, e, hk⟩ := h.ok
  have hne := List.length_pos_iff.1 h1
  have hno2 : ∀ i, i < t.length → T.pathL t i ≠ p := fun i hi e => hno ⟨i, hi, e⟩
  obtain ⟨a, ha, hpa⟩ : thereT u p := by rw [e]; exact T.add_there h4 h5 h3 hne
  have hadd := (T.add_is h4 h5 h3).mem
  rw [← e] at hadd
  have hns : ¬ T.Shut u p := by
    rintro (g | ⟨y, g1, g2, g3⟩)
    · rw [e] at g; exact kept_add h1 h3 h4 h5 _ _ hk g
    · rcases (hadd y).1 g1 with g4 | ⟨j, _, rfl, _⟩
      · exact absurd g2 (h4.none_pre hne hno2 g4)
      · simp at g3
  rcases (h2.one (.inl rfl) h7 hne ha hpa).del h7 ha hpa with ⟨g1, _⟩ | ⟨_, g2, g3⟩
  · exact absurd g1 hns
  · obtain ⟨c1, c2⟩ := h7.cut_entries ha
    rw [hpa, ← g2] at c2
    rw [← g2] at c1
    refine ⟨g3, fun hl => ?_, fun hl y er hy => ?_⟩
    · refine T.RightN.ext c1 h4 fun z => ?_
      rw [c2 z, hadd z]
      constructor
      · rintro ⟨g4 | ⟨j, hj, rfl, _⟩, g5⟩
        · exact g4
        · exact absurd (by rw [show j + 1 = p.length by omega, List.take_length]; exact T.pre_refl p) g5
      · intro g4
        exact ⟨.inl g4, h4.none_pre hne hno2 g4⟩
    · have hdl : p.dropLast = p.take (p.length - 1) := List.dropLast_eq_take
      have hl2 : p.dropLast.length = p.length - 1 := List.length_dropLast
      have hw2 : ∀ w ∈ p.dropLast, w.length ≤ 40 := fun w hw => h3 w (List.dropLast_subset p hw)
      have h52 : p.dropLast.length ≤ 16 := by omega
      have hadd2 := (T.add_is h4 h52 hw2).mem
      have hmem : ∀ z, z ∈ T.entries x ↔ z ∈ T.entries (T.addL t p.dropLast) := fun z => by
        rw [c2 z, hadd z, hadd2 z]
        constructor
        · rintro ⟨g4 | ⟨j, hj, rfl, g6⟩, g5⟩
          · exact .inl g4
          · have hjp : j + 1 < p.length := by
              rcases Nat.lt_or_ge (j + 1) p.length with g | g
              · exact g
              · exact absurd (by show T.pre p (p.take (j + 1)); rw [List.take_of_length_le g]; exact T.pre_refl p) g5
            have ht : p.dropLast.take (j + 1) = p.take (j + 1) := by rw [hdl, List.take_take, Nat.min_eq_left (by omega)]
            exact .inr ⟨j, by omega, by rw [ht], fun i hi => by rw [ht]; exact g6 i hi⟩
        · rintro (g4 | ⟨j, hj, rfl, g6⟩)
          · exact ⟨.inl g4, h4.none_pre hne hno2 g4⟩
          · have ht : p.dropLast.take (j + 1) = p.take (j + 1) := by rw [hdl, List.take_take, Nat.min_eq_left (by omega)]
            rw [ht] at g6 ⊢
            exact ⟨.inr ⟨j, by omega, rfl, g6⟩, not_pre_short (by rw [List.length_take]; omega)⟩
      have hr216 := (T.add_is h4 h52 hw2).right
      have hx : x = T.addL t p.dropLast := T.RightN.ext (c1.mono (by have := c1.len; omega)) hr216 hmem
      obtain ⟨e1, e2⟩ := hy.one (by omega) hw2 h4 h52 (by rw [← hx]; exact c1.len) (by
        rintro ⟨k, m, g4, g5, g6, g7⟩
        rw [hdl, List.take_take, Nat.min_eq_left (by omega)] at g6
        exact hk ⟨k, m, g4, by omega, g6, g7⟩)
      exact ⟨e2, by rw [hx, e1]⟩
end Go.Proofs.Ytfjpeonfkhcpfaa
