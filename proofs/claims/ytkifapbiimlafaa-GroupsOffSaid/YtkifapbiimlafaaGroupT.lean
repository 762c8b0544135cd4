/-
  The document's side of layer 12 (ferryslipref12): Active, Explicit, Paths, Expand. Condition: trees.
-/
import Derived.Test.YtkifapbiimlafaaGroupS
namespace Go.Proofs.Ytkifapbiimlafaa.T
set_option linter.unusedVariables false
theorem entries_next {t : List Ln} {i : Nat} (hi : i < t.length) : (entries t).take (i + 1) = (entries t).take i ++ [(pathL t i, (at_ t i).mark)] := by
  rw [List.take_succ_eq_append_getElem (by rw [entries_len]; exact hi), entries_at t i hi]
theorem entries_full (t : List Ln) : (entries t).take t.length = entries t := List.take_of_length_le (Nat.le_of_eq (entries_len t))
theorem RightN.lnOf {N : Nat} {t : List Ln} (h : RightN N t) {i : Nat} (hi : i < t.length) (m : Int) : lnOf (pathL t i, m) = ⟨dp t i, wd t i, m⟩ := by
  unfold T.lnOf
  have h1 := h.path_len i i (Nat.le_refl _) hi
  have h2 : (pathL t i).getLastD [] = wd t i := by rw [path_under, last_snoc]
  simp only [h2]
  congr 1
  omega
/-- The active lines among the first ones. -/
def actTo (t : List Ln) (i : Nat) : List Ln := (((entries t).take i).filter (onB t)).map fun x => lnOf (x.1, (0 : Int))
theorem actTo_all (t : List Ln) : actTo t t.length = actL t := by
  unfold actTo actL actE ofP
  rw [entries_full, List.map_map]
  rfl
theorem actTo_on {t : List Ln} {N : Nat} (h : RightN N t) {i : Nat} (hi : i < t.length) (ho : onB t (pathL t i, (at_ t i).mark) = true) : actTo t (i + 1) = actTo t i ++ [⟨dp t i, wd t i, 0⟩] := by
  unfold actTo
  rw [entries_next hi, List.filter_append, List.map_append, List.filter_cons_of_pos ho]
  show _ ++ [lnOf (pathL t i, (0 : Int))] = _
  rw [h.lnOf hi]
theorem actTo_off {t : List Ln} {i : Nat} (hi : i < t.length) (ho : onB t (pathL t i, (at_ t i).mark) = false) : actTo t (i + 1) = actTo t i := by
  unfold actTo
  rw [entries_next hi, List.filter_append, List.map_append, List.filter_cons_of_neg (by rw [ho]; decide)]
  show _ ++ [] = _
  rw [List.append_nil]
theorem actTo_len (t : List Ln) (i : Nat) : (actTo t i).length ≤ t.length := by
  unfold actTo
  rw [List.length_map]
  refine Nat.le_trans (List.length_filter_le _ _) ?_
  rw [List.length_take, entries_len]
  exact Nat.min_le_right _ _
/-- How far up a path is looked at. -/
structure UpAt (t : List Ln) (i : Nat) (off : Bool) (k : Int) : Prop where
  lo : -1 ≤ k
  hi : k ≤ i
  pr : pre (pathI t k) (pathL t i)
  yes : off = true → onB t (pathL t i, (at_ t i).mark) = false
  no : off = false → ∀ y ∈ entries t, pre y.1 (pathL t i) → ¬ pre y.1 (pathI t k) → y.2 % 2 ≠ 1
theorem UpAt.start (t : List Ln) (i : Nat) : UpAt t i false i := ⟨by omega, Int.le_refl _, by rw [pathI_nat]; exact pre_refl _, (fun h => by cases h), fun _ y _ h1 h2 => absurd (by rw [pathI_nat]; exact h1) h2⟩
theorem pre_snoc_cases {q p : Pth} {w : List UInt8} (h : pre q (p ++ [w])) (hn : ¬ pre q p) : q = p ++ [w] := by
  by_cases hl : q.length ≤ p.length
  · exact absurd (by
      have := pre_take h hl
      rwa [List.take_left] at this) hn
  · have h2 := pre_len h
    rw [List.length_append, List.length_singleton] at h2
    unfold pre at h
    rw [List.take_of_length_le (by rw [List.length_append, List.length_singleton]; omega)] at h
    exact h.symm
theorem UpAt.hit {N : Nat} {t : List Ln} (h : RightN N t) {i k : Nat} {off : Bool} (hu : UpAt t i off k) (hi : i < t.length) (hm : off = true ∨ (at_ t k).mark % 2 = 1) : UpAt t i true (underL t k) := by
  have hk : k < t.length := by have := hu.hi; omega
  have hul := under_lt t k
  refine ⟨hul.1, by have := hu.hi; omega, ?_, fun _ => ?_, fun e => by cases e⟩
  · have := hu.pr
    rw [pathI_nat, path_under] at this
    exact pre_trans (pre_app _ _) this
  · rcases hm with hm | hm
    · exact hu.yes hm
    · cases e : onB t (pathL t i, (at_ t i).mark) with
      | false => rfl
      | true =>
        have hin : (pathL t k, (at_ t k).mark) ∈ entries t := List.mem_map.2 ⟨k, List.mem_range.2 hk, rfl⟩
        have := (on_iff t _).1 e _ hin (by have := hu.pr; rwa [pathI_nat] at this)
        exact absurd hm this
theorem UpAt.miss {N : Nat} {t : List Ln} (h : RightN N t) {i k : Nat} (hu : UpAt t i false k) (hi : i < t.length) (hm : ¬ (at_ t k).mark % 2 = 1) : UpAt t i false (underL t k) := by
  have hk : k < t.length := by have := hu.hi; omega
  have hul := under_lt t k
  refine ⟨hul.1, by have := hu.hi; omega, ?_, (fun e => by cases e), fun _ y hy h1 h2 => ?_⟩
  · have := hu.pr
    rw [pathI_nat, path_under] at this
    exact pre_trans (pre_app _ _) this
  · by_cases h3 : pre y.1 (pathI t k)
    · rw [pathI_nat, path_under] at h3
      have e := pre_snoc_cases h3 h2
      rw [← path_under] at e
      have hin : (pathL t k, (at_ t k).mark) ∈ entries t := List.mem_map.2 ⟨k, List.mem_range.2 hk, rfl⟩
      have e2 : y.2 = (at_ t k).mark := h.one_mark (p := y.1) hy (by rw [e]; exact hin)
      rw [e2]; exact hm
    · exact hu.no rfl y hy h1 h3
theorem UpAt.done {t : List Ln} {i : Nat} {off : Bool} (hu : UpAt t i off (-1)) : onB t (pathL t i, (at_ t i).mark) = !off := by
  cases off with
  | true => exact hu.yes rfl
  | false =>
    refine (on_iff t _).2 fun y hy h1 => hu.no rfl y hy h1 fun h2 => ?_
    rw [pathI_none] at h2
    have := pre_len h2
    exact entry_ne hy (List.eq_nil_of_length_eq_zero (by simpa using this))
/-- What is explicit among the first lines. -/
def expTo (a : List Ln) (i : Nat) : List Ln := (((entries a).take i).filter fun x => ownB x.1).map lnOf
theorem expTo_all (t : List Ln) : expTo (actL t) (actL t).length = expL t := by
  unfold expTo expL expE ofP
  rw [entries_full, List.map_map]
  rfl
theorem expTo_on {N : Nat} {a : List Ln} (h : RightN N a) {i : Nat} (hi : i < a.length) (ho : ownB (pathL a i) = true) : expTo a (i + 1) = expTo a i ++ [at_ a i] := by
  unfold expTo
  rw [entries_next hi, List.filter_append, List.map_append, List.filter_cons_of_pos (by exact ho)]
  show _ ++ [lnOf (pathL a i, (at_ a i).mark)] = _
  rw [h.lnOf hi]
  rfl
theorem expTo_off {a : List Ln} {i : Nat} (hi : i < a.length) (ho : ownB (pathL a i) = false) : expTo a (i + 1) = expTo a i := by
  unfold expTo
  rw [entries_next hi, List.filter_append, List.map_append, List.filter_cons_of_neg (by show ¬ ownB (pathL a i) = true; rw [ho]; decide)]
  show _ ++ [] = _
  rw [List.append_nil]
theorem expTo_len (a : List Ln) (i : Nat) : (expTo a i).length ≤ a.length := by
  unfold expTo
  rw [List.length_map]
  refine Nat.le_trans (List.length_filter_le _ _) ?_
  rw [List.length_take, entries_len]
  exact Nat.min_le_right _ _
/-- The paths of a group among the first lines. -/
def pathsTo (a x : List Ln) (g : List UInt8) (i : Nat) : List Pth := (((entries a).take i).filter (gB a g)).flatMap fun e => fillR x [] (e.1.drop 2)
theorem pathsTo_all (a x : List Ln) (g : List UInt8) : pathsTo a x g a.length = pathsL a x g := by unfold pathsTo pathsL; rw [entries_full]
theorem pathsTo_on {a x : List Ln} {g : List UInt8} {i : Nat} (hi : i < a.length) (ho : gB a g (pathL a i, (at_ a i).mark) = true) : pathsTo a x g (i + 1) = pathsTo a x g i ++ fillR x [] ((pathL a i).drop 2) := by
  unfold pathsTo
  rw [entries_next hi, List.filter_append, List.flatMap_append, List.filter_cons_of_pos ho]
  simp
theorem pathsTo_off {a x : List Ln} {g : List UInt8} {i : Nat} (hi : i < a.length) (ho : gB a g (pathL a i, (at_ a i).mark) = false) : pathsTo a x g (i + 1) = pathsTo a x g i := by
  unfold pathsTo
  rw [entries_next hi, List.filter_append, List.flatMap_append, List.filter_cons_of_neg (by rw [ho]; decide)]
  simp
theorem pathsTo_len {a x : List Ln} (ha : a.length ≤ 200) (hx : RightN 200 x) (g : List UInt8) (i : Nat) : (pathsTo a x g i).length ≤ 40200 := by
  unfold pathsTo
  have h1 := flat_len (fun e : Pth × Int => fillR x [] (e.1.drop 2)) (fun _ => 201) (((entries a).take i).filter (gB a g)) fun e _ => Nat.le_trans (fill_most hx _ _) (by have := hx.len; omega)
  rw [sum_const] at h1
  have h2 : (((entries a).take i).filter (gB a g)).length ≤ 200 := by
    refine Nat.le_trans (List.length_filter_le _ _) ?_
    rw [List.length_take, entries_len]
    exact Nat.le_trans (Nat.min_le_right _ _) ha
  have h3 := Nat.mul_le_mul_right 201 h2
  omega
theorem leaf_words {N : Nat} {a : List Ln} (h : RightN N a) {i : Nat} (hi : i < a.length) : (endL a i = i + 1) ↔ (underW a (pathL a i)).isEmpty = true := by
  have h1 := leaf_iff a i hi
  unfold leafB at h1
  rw [beq_iff_eq] at h1
  rw [h1, ← pathI_nat, ← kids_words h ⟨by omega, by omega⟩, List.isEmpty_iff, List.map_eq_nil_iff]
end Go.Proofs.Ytkifapbiimlafaa.T
namespace Go.Proofs.Ytkifapbiimlafaa
open Go.RowKit
set_option linter.unusedVariables false
/-- What a call has made: lines. -/
def MadeL (w : World) (u : List T.Ln) (e : Ending) (w' : World) : Prop := ∃ A c, e = .returned (.slice A u.length c) ∧ u.length ≤ c ∧ NilOk A c ∧ Seen eL w' A u ∧ Below w.heap.size w w'
theorem Own.made {w : World} {base : Nat} {v : Value} {u : List T.Ln} (h : Own eL w base v u) : ∃ A c, v = .slice A u.length c ∧ u.length ≤ c ∧ NilOk A c ∧ Seen eL w A u := by
  obtain ⟨A, c, e, hc, hs⟩ := h.seen
  subst e
  refine ⟨A, c, rfl, hc, fun hA => ?_, hs⟩
  rcases h.2 with ⟨e, _⟩ | ⟨g, cap, cur, e, _⟩
  · injection e with _ _ e
  · injection e with e _ _
    rw [hA] at e; cases e
theorem underN12 (A : Option Addr) (c n : Nat) (t : List T.Ln) (i : Nat) (w : World) (hn : t.length = n) (hA : Seen eL w A t) (hi : i < n) (hl : n ≤ 1073741824) :
    Calls Try.prog 36 #[.slice A n c, .int .i64 i] w (IntS w (T.underL t i)) := by subst hn; exact refUnder_any A c t i w hA hi hl
theorem pathN12 {N : Nat} (A : Option Addr) (c n : Nat) (t : List T.Ln) (i : Nat) (w : World) (hn : t.length = n) (hA : Seen eL w A t) (hi : i < n) (hl : n ≤ 1073741824) (hR : T.RightN N t) :
    Calls Try.prog 29 #[.slice A n c, .int .i64 i] w (FreshP w (T.pathL t i)) := by subst hn; exact refPath_new A c t i w hA hl hi hR
theorem endN12 (A : Option Addr) (c n : Nat) (t : List T.Ln) (i : Nat) (w : World) (hn : t.length = n) (hA : Seen eL w A t) (hi : i < n) (hl : n ≤ 1073741824) :
    Calls Try.prog 42 #[.slice A n c, .int .i64 i] w (IntS w (T.endL t i : Nat)) := by subst hn; exact refEnd_any A c t i w hA hi hl
set_option maxRecDepth 100000 in
set_option maxHeartbeats 8000000 in
theorem activeR12 {N : Nat} (A : Option Addr) (c n : Nat) (t : List T.Ln) (w : World) (hn : t.length = n) (hA : Seen eL w A t) (hl : n ≤ 1073741824) (hR : T.RightN N t) :
    Calls Try.prog 16 #[.slice A n c] w (MadeL w (T.actL t)) := by
  have HA := Lib.hid hA
  have HN := Lib.hid hn
  have HR := Lib.hid hR
  clear hA hn hR
  go_enter Try.func16, Try.ntmps16
  go_wp2
  go_loopg [3, 4, 5, 6] n (fun g vo vi v5 v6 wr => ∃ i : Nat, Hid (i + g = n) ∧ vi = .int .i64 (i : Int) ∧ Hid (Own eL wr w.heap.size vo (T.actTo t i)) ∧ Hid (Below w.heap.size w wr))
  case atStart => exact ⟨0, Nat.zero_add _, rfl, Own.nil _ _, Below.refl _ _⟩
  case round =>
    obtain ⟨i, HG, rfl, HO, HB⟩ := hrel
    have hgk := HG.out
    by_cases hlt : i < n
    · have blt : decide ((i : Int) < (n : Int)) = true := decide_eq_true (by omega)
      have blt2 : decide (i < n) = true := decide_eq_true hlt
      have hit : i < t.length := by rw [HN.out]; exact hlt
      have hU0 := Lib.hid (T.UpAt.start t i)
      obtain ⟨wo, hwo⟩ : ∃ wo, wo = wr := ⟨_, rfl⟩
      subst hwo
      go_wp2
      go_loopg [5, 6] (i + 1) (fun g2 vf vk w2 => ∃ (off : Bool) (k : Int), Hid (k + 1 = (g2 : Int)) ∧ vf = .bool off ∧ vk = .int .i64 k ∧ Hid (T.UpAt t i off k) ∧ Hid (Below wo.heap.size wo w2))
      case atStart => exact ⟨false, (i : Int), (by show _ = _; omega), rfl, rfl, hU0.out, Below.refl _ _⟩
      case round =>
        obtain ⟨off, k0, HG2, rfl, rfl, HU, HB2⟩ := hrel
        by_cases hk0 : 0 ≤ k0
        · obtain ⟨k, rfl⟩ := Int.eq_ofNat_of_zero_le hk0
          have bk : decide ((0 : Int) ≤ (k : Int)) = true := decide_eq_true hk0
          have hki : k ≤ i := by have := HU.out.hi; omega
          have hkn : k < n := by omega
          have hkt : k < t.length := by rw [HN.out]; exact hkn
          have hkz : (k : Int) < (n : Int) := by omega
          have HBW := Lib.hid (HB.out.trans (HB2.out.mono HB.out.size))
          obtain ⟨b, o, rfl, hbw, hL⟩ := HA.out.lines (by omega)
          obtain ⟨_, _, c2⟩ := (hL.below HBW.out hbw).line hkt
          obtain ⟨m, hm⟩ : ∃ m, (T.at_ t k).mark = m := ⟨_, rfl⟩
          rw [hm] at c2
          have HMK := Lib.hid hm
          have hmk := HR.out.mark k hkt
          rw [hm] at hmk
          have hul := T.under_lt t k
          have HUL := Lib.hid hul
          clear hm hL
          cases off with
          | true =>
            have HX := Lib.hid (HU.out.hit HR.out hit (.inl rfl))
            clear hmk hul
            go_wp2_with fail
            refine (underN12 _ c n t k _ HN.out (HA.out.below HBW.out) hkn hl).mono ?_
            rintro e w3 ⟨rfl, hb3⟩
            have HB3 := Lib.hid (HB2.out.trans (hb3.mono HB2.out.size))
            clear hb3
            go_wp2
            go_roundg (T.underL t k + 1).toNat
            case rel => exact ⟨true, T.underL t k, (by show _ = _; have := HUL.out.1; omega), rfl, rfl, HX.out, HB3.out⟩
            case measure => have := HG2.out; have := HUL.out; omega
          | false =>
            by_cases hodd : m % 2 = 1
            · have e1 : Int.tmod m 2 = 1 := by rw [Int.tmod_eq_emod_of_nonneg hmk.1]; exact hodd
              have HX := Lib.hid (HU.out.hit HR.out hit (.inr (by rw [HMK.out]; exact hodd)))
              clear hmk hul hodd
              go_wp2_with fail
              refine (underN12 _ c n t k _ HN.out (HA.out.below HBW.out) hkn hl).mono ?_
              rintro e w3 ⟨rfl, hb3⟩
              have HB3 := Lib.hid (HB2.out.trans (hb3.mono HB2.out.size))
              clear hb3
              go_wp2
              go_roundg (T.underL t k + 1).toNat
              case rel => exact ⟨true, T.underL t k, (by show _ = _; have := HUL.out.1; omega), rfl, rfl, HX.out, HB3.out⟩
              case measure => have := HG2.out; have := HUL.out; omega
            · have e1 : Int.tmod m 2 = 0 := by rw [Int.tmod_eq_emod_of_nonneg hmk.1]; omega
              have HX := Lib.hid (HU.out.miss HR.out hit (by rw [HMK.out]; exact hodd))
              clear hmk hul hodd
              go_wp2_with fail
              refine (underN12 _ c n t k _ HN.out (HA.out.below HBW.out) hkn hl).mono ?_
              rintro e w3 ⟨rfl, hb3⟩
              have HB3 := Lib.hid (HB2.out.trans (hb3.mono HB2.out.size))
              clear hb3
              go_wp2
              go_roundg (T.underL t k + 1).toNat
              case rel => exact ⟨false, T.underL t k, (by show _ = _; have := HUL.out.1; omega), rfl, rfl, HX.out, HB3.out⟩
              case measure => have := HG2.out; have := HUL.out; omega
        · have bk : decide ((0 : Int) ≤ k0) = false := decide_eq_false hk0
          obtain rfl : k0 = -1 := by have := HU.out.lo; omega
          have HON := Lib.hid HU.out.done
          have HBW := Lib.hid (HB.out.trans (HB2.out.mono HB.out.size))
          have HO2 := Lib.hid (HO.out.keep HB2.out)
          cases off with
          | true =>
            have HNX := Lib.hid (T.actTo_off hit HON.out)
            go_wp2
            go_roundg (n - (i + 1))
            case rel => exact ⟨i + 1, (by show _ = _; omega), by go_num, (by rw [HNX.out]; exact HO2.out), HBW.out⟩
            case measure => omega
          | false =>
            have HNX := Lib.hid (T.actTo_on HR.out hit HON.out)
            obtain ⟨b, o, rfl, hbw, hL⟩ := HA.out.lines (by omega)
            obtain ⟨c0, c1, _⟩ := (hL.below HBW.out hbw).line hit
            have HLN := Lib.hid (show (T.actTo t i).length ≤ n by rw [← HN.out]; exact T.actTo_len t i)
            have hsz := HBW.out.size
            have hiz : (i : Int) < (n : Int) := by omega
            clear hL
            go_wp2
            go_region_law (refine step_appG eL wr rfl (.tmp 31) (.tmp 43) rfl w.heap.size u3 (T.actTo t i) rfl HO2.out ⟨T.dp t i, T.wd t i, 0⟩ 1 _ rfl wr.heap.size rfl rfl (by have := HLN.out; omega) hsz ?_; intro v4 w4 ho4 hb4)
            all_goals
              have HB4 := Lib.hid (HBW.out.trans hb4)
              have HO4 := Lib.hid ho4
              clear ho4 hb4
              go_wp2
              go_roundg (n - (i + 1))
              case rel => exact ⟨i + 1, (by show _ = _; omega), by go_num, (by rw [HNX.out]; exact HO4.out), HB4.out⟩
              case measure => omega
    · have blt : decide ((i : Int) < (n : Int)) = false := decide_eq_false (by omega)
      have blt2 : decide (i < n) = false := decide_eq_false hlt
      have HE := Lib.hid (show T.actTo t i = T.actL t by rw [← T.actTo_all t, show i = t.length by rw [HN.out]; omega])
      have hown := HO.out
      rw [HE.out] at hown
      obtain ⟨A6, c6, rfl, hc6, hn6, hs6⟩ := Own.made hown
      have HC6 := Lib.hid hc6
      have HN6 := Lib.hid hn6
      have HS6 := Lib.hid hs6
      clear hown hc6 hn6 hs6
      go_wp2
      go_ret
      exact ⟨A6, c6, rfl, HC6.out, HN6.out, HS6.out, HB.out⟩
theorem own_head {p : T.Pth} (h : 0 < p.length) : T.ownB p = (!(p[0] == T.wGroups) && !(p[0] == T.wApply)) := by
  cases p with
  | nil => exact absurd h (by decide)
  | cons a r =>
    show (!decide (some a = some T.wGroups) && !decide (some a = some T.wApply)) = (!(a == T.wGroups) && !(a == T.wApply))
    have e : ∀ b : List UInt8, decide (some a = some b) = (a == b) := fun b => by
      rw [Bool.eq_iff_iff, decide_eq_true_eq, beq_iff_eq]
      exact ⟨fun h => Option.some.inj h, fun h => by rw [h]⟩
    rw [e, e]
set_option maxRecDepth 100000 in
set_option maxHeartbeats 8000000 in
theorem explicitR12 (A : Option Addr) (c n : Nat) (t : List T.Ln) (w : World) (hn : t.length = n) (hA : Seen eL w A t) (hl : n ≤ 1073741824) (hR : T.RightN 200 t) :
    Calls Try.prog 17 #[.slice A n c] w (MadeL w (T.expL t)) := by
  have HA := Lib.hid hA
  have HN := Lib.hid hn
  have HR := Lib.hid hR
  clear hA hn hR
  go_enter Try.func17, Try.ntmps17
  go_wp2_with fail
  refine (activeR12 A c n t _ HN.out HA.out hl HR.out).mono ?_
  rintro e w1 ⟨A1, c1, rfl, hc1, hn1, hs1, hb1⟩
  obtain ⟨a, ha⟩ : ∃ a, T.actL t = a := ⟨_, rfl⟩
  have HRA := Lib.hid (show T.RightN 200 a by rw [← ha]; exact T.act_right HR.out)
  have HE := Lib.hid (show T.expTo a a.length = T.expL t by rw [← ha]; exact T.expTo_all t)
  rw [ha] at hs1 ⊢
  obtain ⟨la, hla⟩ : ∃ k, a.length = k := ⟨_, rfl⟩
  rw [hla]
  have HLA := Lib.hid hla
  have hla2 : la ≤ 200 := by rw [← hla]; exact HRA.out.len
  have HS1 := Lib.hid hs1
  have HB1 := Lib.hid hb1
  clear ha hla hs1 hb1 hc1 hn1
  go_wp2
  go_loopg [4, 5, 6] la (fun g vo vi v6 wr => ∃ i : Nat, Hid (i + g = la) ∧ vi = .int .i64 (i : Int) ∧ Hid (Own eL wr w1.heap.size vo (T.expTo a i)) ∧ Hid (Below w1.heap.size w1 wr))
  case atStart => exact ⟨0, Nat.zero_add _, rfl, Own.nil _ _, Below.refl _ _⟩
  case round =>
    obtain ⟨i, HG, rfl, HO, HB⟩ := hrel
    have hgk := HG.out
    by_cases hlt : i < la
    · have blt : decide ((i : Int) < (la : Int)) = true := decide_eq_true (by omega)
      have blt2 : decide (i < la) = true := decide_eq_true hlt
      have hia : i < a.length := by rw [HLA.out]; exact hlt
      have hiz : (i : Int) < (la : Int) := by omega
      obtain ⟨p, hp⟩ : ∃ p, T.pathL a i = p := ⟨_, rfl⟩
      have HP := Lib.hid hp
      have HPD := Lib.hid (show 0 < p.length by rw [← hp]; exact (S.RightN.path_deep HRA.out hia).1)
      obtain ⟨pl, hpl⟩ : ∃ k, p.length = k := ⟨_, rfl⟩
      have HPL := Lib.hid hpl
      have hpl0 : 0 < pl := by rw [← hpl]; exact HPD.out
      have hplz : (0 : Int) < (pl : Int) := by omega
      obtain ⟨hd, hhd⟩ : ∃ h, p[0]'HPD.out = h := ⟨_, rfl⟩
      have HOW := Lib.hid (show T.ownB (T.pathL a i) = (!(hd == T.wGroups) && !(hd == T.wApply)) by rw [hp, own_head HPD.out, hhd])
      have HHD := Lib.hid hhd
      have HLN := Lib.hid (show (T.expTo a i).length ≤ 200 from Nat.le_trans (T.expTo_len a i) HRA.out.len)
      clear hp hpl hhd
      go_wp2_with fail
      refine (pathN12 _ c1 la a i _ HLA.out (HS1.out.below HB.out) hlt (by omega) HRA.out).mono ?_
      rintro e w3 ⟨A3, c3, rfl, hc3, hs3, _, hb3⟩
      rw [HP.out] at hc3 hs3 ⊢
      rw [HPL.out]
      obtain ⟨b3, o3, rfl, hw3, hL3⟩ := hs3 HPD.out
      have k3 := hL3.str HPD.out
      rw [HHD.out] at k3
      rw [Nat.add_zero] at k3
      have HB3 := Lib.hid (HB.out.trans (hb3.mono HB.out.size))
      have HO3 := Lib.hid (HO.out.keep hb3)
      clear hc3 hs3 hb3 hL3
      cases hg : (hd == T.wGroups) with
      | true =>
        have q1 : ((sB hd).toList == [103, 114, 111, 117, 112, 115]) = true := by rw [sB_toList]; exact hg
        have q2 : ((sB hd).toList != [103, 114, 111, 117, 112, 115]) = false := by rw [bne, q1]; rfl
        have HNX := Lib.hid (T.expTo_off hia (by rw [HOW.out, hg]; rfl))
        clear hg
        go_wp2
        go_roundg (la - (i + 1))
        case rel => exact ⟨i + 1, (by show _ = _; omega), by go_num, (by rw [HNX.out]; exact HO3.out), HB3.out⟩
        case measure => omega
      | false =>
        have q1 : ((sB hd).toList == [103, 114, 111, 117, 112, 115]) = false := by rw [sB_toList]; exact hg
        have q2 : ((sB hd).toList != [103, 114, 111, 117, 112, 115]) = true := by rw [bne, q1]; rfl
        cases hg2 : (hd == T.wApply) with
        | true =>
          have q3 : ((sB hd).toList == [97, 112, 112, 108, 121]) = true := by rw [sB_toList]; exact hg2
          have q4 : ((sB hd).toList != [97, 112, 112, 108, 121]) = false := by rw [bne, q3]; rfl
          have HNX := Lib.hid (T.expTo_off hia (by rw [HOW.out, hg, hg2]; rfl))
          clear hg hg2
          go_wp2
          go_roundg (la - (i + 1))
          case rel => exact ⟨i + 1, (by show _ = _; omega), by go_num, (by rw [HNX.out]; exact HO3.out), HB3.out⟩
          case measure => omega
        | false =>
          have q3 : ((sB hd).toList == [97, 112, 112, 108, 121]) = false := by rw [sB_toList]; exact hg2
          have q4 : ((sB hd).toList != [97, 112, 112, 108, 121]) = true := by rw [bne, q3]; rfl
          have HNX := Lib.hid (T.expTo_on HRA.out hia (by rw [HOW.out, hg, hg2]; rfl))
          obtain ⟨b, o, rfl, hbw, hL⟩ := HS1.out.lines (by omega)
          obtain ⟨c0, c1_, c2⟩ := (hL.below HB3.out hbw).line hia
          have hsz := HB3.out.size
          clear hg hg2 hL
          go_wp2_with (at_builtin; refine wpList_appG eL w3 rfl (.tmp 26) (.tmp 31) rfl w1.heap.size u4 (T.expTo a i) rfl HO3.out (T.at_ a i) 1 _ rfl w3.heap.size rfl rfl (by have := HLN.out; omega) hsz ?_; intro v5 w5 hown5 hb5; have HB5 := Lib.hid (HB3.out.trans hb5); have HO5 := Lib.hid hown5; clear hown5 hb5)
          go_roundg (la - (i + 1))
          case rel => exact ⟨i + 1, (by show _ = _; omega), by go_num, (by rw [HNX.out]; exact HO5.out), HB5.out⟩
          case measure => omega
    · have blt : decide ((i : Int) < (la : Int)) = false := decide_eq_false (by omega)
      have blt2 : decide (i < la) = false := decide_eq_false hlt
      have hown := HO.out
      rw [show T.expTo a i = T.expL t by rw [← HE.out, show i = a.length by rw [HLA.out]; omega]] at hown
      obtain ⟨A6, c6, rfl, hc6, hn6, hs6⟩ := Own.made hown
      have HC6 := Lib.hid hc6
      have HN6 := Lib.hid hn6
      have HS6 := Lib.hid hs6
      clear hown hc6 hn6 hs6
      go_wp2
      go_ret
      exact ⟨A6, c6, rfl, HC6.out, HN6.out, HS6.out, HB1.out.trans (HB.out.mono HB1.out.size)⟩
/-- What the document says of a group's paths. -/
def PathsIs (t : List T.Ln) (g : List UInt8) (L : List T.Pth) (er : Int) : Prop := (T.inB (T.actL t) [T.wGroups, g] = true ∧ L = T.pathsA t g ∧ er = 0) ∨ (T.inB (T.actL t) [T.wGroups, g] = false ∧ L = [] ∧ er = 3)
theorem gB_is (a : List T.Ln) (g : List UInt8) (e : T.Pth × Int) : T.gB a g e = (decide (2 < e.1.length) && decide (e.1.take 2 = [T.wGroups, g]) && (T.underW a e.1).isEmpty) := rfl
theorem take_two12 {p : T.Pth} (h : 2 < p.length) (g : List UInt8) : decide (p.take 2 = [T.wGroups, g]) = ((p[0]'(by omega) == T.wGroups) && (p[1]'(by omega) == g)) := by
  match p, h with
  | x :: y :: r, _ =>
    show decide ([x, y] = [T.wGroups, g]) = ((x == T.wGroups) && (y == g))
    rw [Bool.eq_iff_iff, decide_eq_true_eq, Bool.and_eq_true, beq_iff_eq, beq_iff_eq]
    constructor
    · intro h
      injection h with h1 h2
      injection h2 with h2 _
      exact ⟨h1, h2⟩
    · rintro ⟨h1, h2⟩
      rw [h1, h2]
set_option maxRecDepth 100000 in
set_option maxHeartbeats 16000000 in
theorem pathsR12 (A : Option Addr) (c n : Nat) (t : List T.Ln) (g : List UInt8) (L : List T.Pth) (er : Int) (w : World) (hn : t.length = n) (hA : Seen eL w A t) (hl : n ≤ 1073741824) (hR : T.RightN 200 t) (hI : PathsIs t g L er) :
    Calls Try.prog 22 #[.slice A n c, .string (sB g)] w (fun e w' => ∃ v, e = .returned (.tuple #[v, .int .i64 er]) ∧ ManyQ w' w.heap.size v L ∧ Below w.heap.size w w') := by
  have HA := Lib.hid hA
  have HN := Lib.hid hn
  have HR := Lib.hid hR
  have HI := Lib.hid hI
  clear hA hn hR hI
  go_enter Try.func22, Try.ntmps22
  go_wp2_with fail
  refine (activeR12 A c n t _ HN.out HA.out hl HR.out).mono ?_
  rintro e w1 ⟨A1, c1, rfl, hc1, hn1, hs1, hb1⟩
  obtain ⟨a, ha⟩ : ∃ a, T.actL t = a := ⟨_, rfl⟩
  have HAC := Lib.hid ha
  have HRA := Lib.hid (show T.RightN 200 a by rw [← ha]; exact T.act_right HR.out)
  rw [ha] at hs1 ⊢
  obtain ⟨la, hla⟩ : ∃ k, a.length = k := ⟨_, rfl⟩
  rw [hla]
  have HLA := Lib.hid hla
  have hla2 : la ≤ 200 := by rw [← hla]; exact HRA.out.len
  have HS1 := Lib.hid hs1
  have HB1 := Lib.hid hb1
  clear ha hla hs1 hb1 hc1 hn1
  go_wp2_with fail
  refine (findN12 A1 (some ⟨w1.heap.size, 0, none⟩) c1 2 la 2 a [T.wGroups, g] _ HLA.out rfl (HS1.out.below (up _ _)) (lit_seen eS w1 [T.wGroups, g] _ rfl (by simp)) (by omega) (by decide) HRA.out).mono ?_
  rintro e w2 ⟨⟨i0, hi0, hp0, rfl⟩ | ⟨hno, rfl⟩, hb2⟩
  · have HB2 := Lib.hid (show Below w1.heap.size w1 w2 from bthen (up _ _) hb2)
    have HX := Lib.hid (show L = T.pathsA t g ∧ er = 0 by
      rcases HI.out with ⟨_, h⟩ | ⟨h, _⟩
      · exact h
      · rw [HAC.out, T.inB_no] at h
        exact absurd ⟨i0, hi0, hp0⟩ h)
    obtain ⟨rfl, rfl⟩ := HX.out
    have hz0 : decide ((i0 : Int) < 0) = false := decide_eq_false (by omega)
    clear hi0 hp0 hb2
    go_wp2_with fail
    refine (explicitR12 A c n t _ HN.out (HA.out.below (HB1.out.trans (HB2.out.mono HB1.out.size))) hl HR.out).mono ?_
    rintro e w3 ⟨A2, c2, rfl, hc2, hn2, hs2, hb3⟩
    obtain ⟨x, hx⟩ : ∃ x, T.expL t = x := ⟨_, rfl⟩
    have HXP := Lib.hid hx
    have HRX := Lib.hid (show T.RightN 200 x by rw [← hx]; exact T.exp_right HR.out)
    rw [hx] at hs2 ⊢
    obtain ⟨lx, hlx⟩ : ∃ k, x.length = k := ⟨_, rfl⟩
    rw [hlx]
    have HLX := Lib.hid hlx
    have hlx2 : lx ≤ 200 := by rw [← hlx]; exact HRX.out.len
    have HS2 := Lib.hid hs2
    have HB3w := Lib.hid (HB2.out.trans (hb3.mono HB2.out.size))
    clear hx hlx hs2 hb3 hc2 hn2
    go_wp2
    go_loopg [8, 9, 10] la (fun g2 vo vi v10 wr => ∃ i : Nat, Hid (i + g2 = la) ∧ vi = .int .i64 (i : Int) ∧ Hid (OwnK wr w3.heap.size w.heap.size vo (T.pathsTo a x g i)) ∧ Hid (Below w3.heap.size w3 wr))
    case atStart => exact ⟨0, Nat.zero_add _, rfl, OwnK.nil _ _ _, Below.refl _ _⟩
    case round =>
      obtain ⟨i, HG, rfl, HO, HB⟩ := hrel
      have hgk := HG.out
      have HBA := Lib.hid (HB3w.out.trans (HB.out.mono HB3w.out.size))
      by_cases hlt : i < la
      · have blt : decide ((i : Int) < (la : Int)) = true := decide_eq_true (by omega)
        have blt2 : decide (i < la) = true := decide_eq_true hlt
        have hia : i < a.length := by rw [HLA.out]; exact hlt
        obtain ⟨p, hp⟩ : ∃ p, T.pathL a i = p := ⟨_, rfl⟩
        have HP := Lib.hid hp
        have HPD := Lib.hid (show 0 < p.length ∧ p.length ≤ 16 by rw [← hp]; exact S.RightN.path_deep HRA.out hia)
        obtain ⟨pl, hpl⟩ : ∃ k, p.length = k := ⟨_, rfl⟩
        have HPL := Lib.hid hpl
        have hpl0 : 0 < pl := by rw [← hpl]; exact HPD.out.1
        have hpl16 : pl ≤ 16 := by rw [← hpl]; exact HPD.out.2
        clear hp hpl
        go_wp2_with fail
        refine (pathN12 _ c1 la a i _ HLA.out (HS1.out.below HBA.out) hlt (by omega) HRA.out).mono ?_
        rintro e w4 ⟨A3, c3, rfl, hc3, hs3, hnw, hb4⟩
        rw [HP.out] at hc3 hs3 ⊢
        rw [HPL.out] at hc3 ⊢
        have HPK := Lib.hid (show PtK w4 wr.heap.size ⟨A3, pl, c3⟩ p from ⟨⟨HPL.out, hc3, hs3⟩, hnw⟩)
        obtain ⟨b3, o3, rfl, hw3, hL3⟩ := hs3 HPD.out.1
        have HB3 := Lib.hid (HB.out.trans (hb4.mono HB.out.size))
        have HO3 := Lib.hid (HO.out.keep hb4)
        have HWW := Lib.hid hb4
        have HBA4 := Lib.hid (HB3w.out.trans (HB3.out.mono HB3w.out.size))
        clear hs3 hb4 hnw
        by_cases h2 : 2 < pl
        · have d2 : decide ((2 : Int) < (pl : Int)) = true := decide_eq_true (by omega)
          have d2b : decide (2 < pl) = true := decide_eq_true h2
          have h2p : 2 < p.length := by rw [HPL.out]; exact h2
          have hz0 : (0 : Int) < (pl : Int) := by omega
          have hz1 : (1 : Int) < (pl : Int) := by omega
          obtain ⟨p0, hp0⟩ : ∃ q, p[0]'(by omega) = q := ⟨_, rfl⟩
          obtain ⟨p1, hp1⟩ : ∃ q, p[1]'(by omega) = q := ⟨_, rfl⟩
          have k0 := hL3.str (show 0 < p.length by omega)
          have k1 := hL3.str (show 1 < p.length by omega)
          rw [hp0, Nat.add_zero] at k0
          rw [hp1] at k1
          have HGB := Lib.hid (show T.gB a g (T.pathL a i, (T.at_ a i).mark) = ((p0 == T.wGroups) && (p1 == g) && (T.underW a p).isEmpty) by
            rw [gB_is]; simp only [HP.out]
            rw [decide_eq_true h2p, Bool.true_and, take_two12 h2p, hp0, hp1])
          clear hp0 hp1 hL3
          cases e0 : (p0 == T.wGroups) with
          | false =>
            have q0 : ((sB p0).toList == [103, 114, 111, 117, 112, 115]) = false := by rw [sB_toList]; exact e0
            have HNX := Lib.hid (T.pathsTo_off (x := x) hia (show T.gB a g (T.pathL a i, (T.at_ a i).mark) = false by rw [HGB.out, e0]; rfl))
            clear e0
            go_wp2
            go_roundg (la - (i + 1))
            case rel => exact ⟨i + 1, (by show _ = _; omega), by go_num, (by rw [HNX.out]; exact HO3.out), HB3.out⟩
            case measure => omega
          | true =>
            have q0 : ((sB p0).toList == [103, 114, 111, 117, 112, 115]) = true := by rw [sB_toList]; exact e0
            cases e1 : (p1 == g) with
            | false =>
              have q1 : ((sB p1).toList == (sB g).toList) = false := by rw [sB_toList, sB_toList]; exact e1
              have HNX := Lib.hid (T.pathsTo_off (x := x) hia (show T.gB a g (T.pathL a i, (T.at_ a i).mark) = false by rw [HGB.out, e1, Bool.and_false]; rfl))
              clear e0 e1
              go_wp2
              go_roundg (la - (i + 1))
              case rel => exact ⟨i + 1, (by show _ = _; omega), by go_num, (by rw [HNX.out]; exact HO3.out), HB3.out⟩
              case measure => omega
            | true =>
              have q1 : ((sB p1).toList == (sB g).toList) = true := by rw [sB_toList, sB_toList]; exact e1
              have HLF := Lib.hid (T.leaf_words HRA.out hia)
              obtain ⟨el, hel⟩ : ∃ k, T.endL a i = k := ⟨_, rfl⟩
              have HEL := Lib.hid hel
              have HGC := Lib.hid (show T.gB a g (T.pathL a i, (T.at_ a i).mark) = (T.underW a p).isEmpty by rw [HGB.out, e0, e1]; rfl)
              clear e0 e1 hel
              by_cases hle : el = i + 1
              · have qe : ((el : Int) == (i : Int) + 1) = true := by rw [beq_iff_eq]; omega
                have HNX := Lib.hid (T.pathsTo_on (x := x) hia (show T.gB a g (T.pathL a i, (T.at_ a i).mark) = true by rw [HGC.out, ← HP.out]; exact HLF.out.1 (HEL.out.trans hle)))
                obtain ⟨d, rfl⟩ : ∃ d, pl = 2 + d := ⟨pl - 2, by omega⟩
                obtain ⟨dc, rfl⟩ : ∃ d, c3 = 2 + d := ⟨c3 - 2, by omega⟩
                have hdc : ¬ dc = 0 := by omega
                have hd16 : d ≤ 14 := by omega
                have hcz : (2 : Int) ≤ (2 : Int) + (d : Int) := by omega
                clear hle
                go_wp2_with fail
                refine (endN12 _ c1 la a i _ HLA.out (HS1.out.below HBA4.out) hlt (by omega)).mono ?_
                rintro e w5 ⟨rfl, hb5⟩
                rw [HEL.out]
                have HB5 := Lib.hid (HB3.out.trans (hb5.mono HB3.out.size))
                have HW5 := Lib.hid (HWW.out.trans (hb5.mono HWW.out.size))
                have HPC := Lib.hid (show PtK w5 wr.heap.size ⟨some ⟨b3, o3 + 2, none⟩, d, dc⟩ (p.drop 2) by
                  have := (HPK.out.cut 2 (by omega)).below hb5
                  rw [Nat.add_sub_cancel_left, Nat.add_sub_cancel_left] at this
                  exact this)
                have HDL := Lib.hid (show (p.drop 2).length ≤ 16 by rw [List.length_drop, HPL.out]; omega)
                clear hb5
                have hIH := fillR12 A2 c2 lx x HLX.out hlx2 HRX.out 16 ⟨some ⟨b3, o3 + 2, none⟩, d, dc⟩ (p.drop 2) 0 wr.heap.size w5 (by have := HDL.out; omega) (Nat.zero_le _) (by have := HDL.out; omega) (HS2.out.below HB5.out) HPC.out HW5.out.size
                rw [List.take_zero, List.drop_zero] at hIH
                have HIH := Lib.hid hIH
                clear hIH
                go_wp2_with fail
                refine (HIH.out).mono ?_
                rintro e w6 ⟨v6, rfl, hm6, hb6⟩
                have HM6 := Lib.hid hm6
                have HW6 := Lib.hid (HW5.out.trans (hb6.mono HW5.out.size))
                have HL6 := Lib.hid (show (T.pathsTo a x g i).length + (T.fillR x [] (p.drop 2)).length ≤ 1099511627776 by
                  have h1 := T.pathsTo_len (a := a) (x := x) (by rw [HLA.out]; exact hla2) HRX.out g i
                  have h2 := T.fill_most HRX.out (p.drop 2) []
                  have h3 := HLX.out
                  omega)
                have HKW := Lib.hid (show w.heap.size ≤ wr.heap.size from Nat.le_trans HB1.out.size HBA.out.size)
                have HSZ := Lib.hid (show w3.heap.size ≤ w6.heap.size from Nat.le_trans HB.out.size HW6.out.size)
                clear hm6 hb6
                go_wp2_with (at_builtin; refine wpList_appManyQ w6 rfl (.tmp 53) (.tmp 57) rfl w3.heap.size w.heap.size u8 (T.pathsTo a x g i) rfl wr HO.out HW6.out wr.heap.size (Nat.le_refl _) HKW.out v6 (T.fillR x [] (p.drop 2)) rfl HM6.out HL6.out HSZ.out ?_; intro v7 w7 ho7 hb7; have HO7 := Lib.hid ho7; have HB7 := Lib.hid hb7; clear ho7 hb7)
                go_roundg (la - (i + 1))
                case rel => exact ⟨i + 1, (by show _ = _; omega), by go_num, (by rw [HNX.out, HP.out]; exact HO7.out), (HB.out.trans (HW6.out.mono HB.out.size)).trans HB7.out⟩
                case measure => omega
              · have qe : ((el : Int) == (i : Int) + 1) = false := beq_eq_false_iff_ne.2 (by omega)
                have HNX := Lib.hid (T.pathsTo_off (x := x) hia (show T.gB a g (T.pathL a i, (T.at_ a i).mark) = false by
                  rw [HGC.out, ← HP.out]
                  cases hq : (T.underW a (T.pathL a i)).isEmpty with
                  | false => rfl
                  | true => exact absurd (HEL.out.symm.trans (HLF.out.2 hq)) hle))
                clear hle
                go_wp2_with fail
                refine (endN12 _ c1 la a i _ HLA.out (HS1.out.below HBA4.out) hlt (by omega)).mono ?_
                rintro e w5 ⟨rfl, hb5⟩
                rw [HEL.out]
                have HB5 := Lib.hid (HB3.out.trans (hb5.mono HB3.out.size))
                have HO5 := Lib.hid (HO3.out.keep hb5)
                clear hb5
                go_wp2
                go_roundg (la - (i + 1))
                case rel => exact ⟨i + 1, (by show _ = _; omega), by go_num, (by rw [HNX.out]; exact HO5.out), HB5.out⟩
                case measure => omega
        · have d2 : decide ((2 : Int) < (pl : Int)) = false := decide_eq_false (by omega)
          have d2b : decide (2 < pl) = false := decide_eq_false h2
          have HNX := Lib.hid (T.pathsTo_off (x := x) hia (show T.gB a g (T.pathL a i, (T.at_ a i).mark) = false by
            rw [gB_is]; simp only [HP.out]
            rw [decide_eq_false (show ¬ 2 < p.length by rw [HPL.out]; exact h2)]; rfl))
          clear hL3
          go_wp2
          go_roundg (la - (i + 1))
          case rel => exact ⟨i + 1, (by show _ = _; omega), by go_num, (by rw [HNX.out]; exact HO3.out), HB3.out⟩
          case measure => omega
      · have blt : decide ((i : Int) < (la : Int)) = false := decide_eq_false (by omega)
        have blt2 : decide (i < la) = false := decide_eq_false hlt
        have HE := Lib.hid (show T.pathsTo a x g i = T.pathsA t g by
          unfold T.pathsA
          rw [HAC.out, HXP.out, ← T.pathsTo_all, show i = a.length by rw [HLA.out]; omega])
        have HM := Lib.hid HO.out.many
        go_wp2
        go_ret2
        refine ⟨_, rfl, ?_, HB1.out.trans (HBA.out.mono HB1.out.size)⟩
        rw [← HE.out]
        exact HM.out
  · have HX := Lib.hid (show L = [] ∧ er = 3 by
      rcases HI.out with ⟨h, _⟩ | ⟨_, h⟩
      · rw [HAC.out, T.inB_yes] at h
        obtain ⟨i, hi, e⟩ := h
        exact absurd e (hno i hi)
      · exact h)
    obtain ⟨rfl, rfl⟩ := HX.out
    have HBZ := Lib.hid (HB1.out.trans ((bthen (up _ _) hb2 : Below w1.heap.size w1 w2).mono HB1.out.size))
    clear hno hb2
    go_wp2
    go_ret2
    exact ⟨_, rfl, ManyQ.nil _ _, HBZ.out⟩
end Go.Proofs.Ytkifapbiimlafaa
