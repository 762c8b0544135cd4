/-
  Part 6 of what the proofs of this claim stand on. No conditions but those that each theorem states.
-/
import Derived.Test.YtfcikfohmehmkaaGreatDoorTabs5
import Derived.Deep.QuietTactic
import Derived.RegionTactic
import Derived.StillTailTactics
import Derived.ArgAppend
import Derived.Lib.AppendZeros
import Derived.Lib.AppendZerosOnto
import Derived.Deep.LoopGhost
import Derived.WalkMore
import Derived.BigQuiet
import Derived.Deep.RegionHeld3
import Derived.Deep.RegionWith
import Derived.Laws.FloatArith
import Derived.Laws.Cover2
import Derived.Laws.Externs
import Derived.WalkLawsBesides
import Derived.Lib.Hide

namespace Go.Proofs.YtfcikfohmehmkaaGreatDoor
open Go.RowKit
set_option linter.unusedVariables false
set_option maxHeartbeats 4000000 in
theorem aheadR (x y : H.En) (r : Bool) (w : World) (hr : H.aheadE x y = r) : Calls Tryz.prog 16 #[enV x, enV y] w (fun e w' => e = .returned (.bool r) ∧ Below w.heap.size w w') := by
 obtain ⟨h1, k1, q1, v1⟩ := x
 obtain ⟨h2, k2, q2, v2⟩ := y
 unfold H.aheadE at hr
 simp only at hr
 unfold enV
 simp only
 by_cases e1 : h1 = h2
 ·rw [if_neg (fun h => h e1)] at hr
  have b1 : ((sB h1).toList == (sB h2).toList) = true := sB_eq e1
  clear e1
  by_cases e2 : k1 = k2
  ·rw [if_neg (fun h => h e2)] at hr
   have b2 : (k1 == k2) = true := by simp [e2]
   clear e2
   by_cases e3 : q1 = q2
   ·rw [if_neg (fun h => h e3)] at hr
    have b3 : ((sB q1).toList == (sB q2).toList) = true := sB_eq e3
    have b4 : Op.bytesLess (sB v1).toList (sB v2).toList = r := by rw [sB_toList, sB_toList]; exact hr
    clear e3 hr
    go_enter Tryz.func16, Tryz.ntmps16
    go_wp2
    go_ret
    exact ⟨rfl, bthen (up _ _) (up _ _)⟩
   ·rw [if_pos e3] at hr
    have b3 : ((sB q1).toList == (sB q2).toList) = false := sB_ne e3
    have b4 : Op.bytesLess (sB q1).toList (sB q2).toList = r := by rw [sB_toList, sB_toList]; exact hr
    clear e3 hr
    go_enter Tryz.func16, Tryz.ntmps16
    go_wp2
    go_ret
    exact ⟨rfl, bthen (up _ _) (up _ _)⟩
  ·rw [if_pos e2] at hr
   have b2 : (k1 == k2) = false := by simp [e2]
   clear e2
   go_enter Tryz.func16, Tryz.ntmps16
   go_wp2
   go_ret
   exact ⟨rfl, bthen (up _ _) (up _ _)⟩
 ·rw [if_pos e1] at hr
  have b1 : ((sB h1).toList == (sB h2).toList) = false := sB_ne e1
  have b4 : Op.bytesLess (sB h1).toList (sB h2).toList = r := by rw [sB_toList, sB_toList]; exact hr
  clear e1 hr
  go_enter Tryz.func16, Tryz.ntmps16
  go_wp2
  go_ret
  exact ⟨rfl, bthen (up _ _) (up _ _)⟩
set_option maxRecDepth 100000 in
theorem sameR14 (A B : Option Addr) (c d n : Nat) (l : List H.En) (w : World) (hn : l.length = n) (hl : n ≤ 1073741824) (hA : Seen eEd w A l) (hB : Seen eEd w B l) :
  Calls Tryz.prog 14 #[.slice A n c, .slice B n d] w (TrueS w) := by
 have HA := Lib.hid hA
 have HB := Lib.hid hB
 have HN := Lib.hid hn
 clear hA hB hn
 go_enter Tryz.func14, Tryz.ntmps14
 go_wp2
 go_loopg [5] n (fun g i wr => ∃ k : Nat, Hid (k + g = n) ∧ k ≤ n ∧ i = .int .i64 k ∧ Below w.heap.size w wr)
 case atStart => exact ⟨0, Nat.zero_add _, Nat.zero_le _, rfl, Below.refl _ _⟩
 case round =>
  obtain ⟨k, HG, hk, rfl, hb⟩ := hrel
  by_cases hlt : k < n
  ·have hkl : k < l.length := by have := HN.out; omega
   obtain ⟨b1, o1, rfl, hw1, hL1⟩ := HA.out (by omega)
   obtain ⟨b2, o2, rfl, hw2, hL2⟩ := HB.out (by omega)
   obtain ⟨c0, c1, c2, c3⟩ := (hL1.below hb hw1).entry rfl rfl hkl
   obtain ⟨d0, d1, d2, d3⟩ := (hL2.below hb hw2).entry rfl rfl hkl
   generalize l[k] = x at c0 c1 c2 c3 d0 d1 d2 d3
   clear hL1 hL2
   go_wp2
   go_region
   go_wp2
   go_roundg (n - (k + 1))
   case rel => exact ⟨k + 1, (by show _ = _; omega), by omega, by go_num, hb.drew⟩
   case measure => have := HG.out; omega
  ·go_wp2
   go_ret
   exact ⟨rfl, hb⟩
end Go.Proofs.YtfcikfohmehmkaaGreatDoor
namespace Go.Proofs.YtfcikfohmehmkaaGreatDoor.C
set_option linter.unusedVariables false
open T (Pth pless RightN RightT pathL endL kidsL underL pathI wd dp at_ Ln pre isIn)
theorem pths_len (t : List Ln) : (pths t).length = t.length := by unfold pths; rw [List.length_map, List.length_range]
theorem pths_at (t : List Ln) {i : Nat} (hi : i < t.length) : (pths t)[i]'(by rw [pths_len]; exact hi) = pathL t i := by
 unfold pths
 rw [List.getElem_map, List.getElem_range]
theorem mem_pths {t : List Ln} {p : Pth} : p ∈ pths t ↔ isIn t p := by
 unfold pths isIn
 rw [List.mem_map]
 exact ⟨fun ⟨k, h, e⟩ => ⟨k, List.mem_range.1 h, e⟩, fun ⟨k, h, e⟩ => ⟨k, List.mem_range.2 h, e⟩⟩
theorem dropLast_path (t : List Ln) (k : Nat) : (pathL t k).dropLast = pathI t (underL t k) := by rw [T.path_under, List.dropLast_concat]
theorem kid_iff {N : Nat} {t : List Ln} (h : RightN N t) {i k : Nat} (hi : i < t.length) (hk : k < t.length) : isKid (pathL t i) (pathL t k) = (underL t k == (i : Int)) := by
 have hu := T.under_lt t k
 unfold isKid
 rw [dropLast_path, Bool.eq_iff_iff, decide_eq_true_eq, beq_iff_eq]
 constructor
 ·rintro ⟨_, e⟩
  rw [← T.pathI_nat t i] at e
  exact h.pathI_inj ⟨hu.1, by omega⟩ ⟨by omega, by omega⟩ e
 ·intro e
  exact ⟨T.path_ne, by rw [e, T.pathI_nat]⟩
theorem kids_pths {N : Nat} {t : List Ln} (h : RightN N t) {i : Nat} (hi : i < t.length) : kidsP (pths t) (pathL t i) = (kidsL t i).map (pathL t) := by
 unfold kidsP pths kidsL
 rw [List.filter_map]
 congr 1
 exact List.filter_congr fun k hk => kid_iff h hi (List.mem_range.1 hk)
theorem kids_count {N : Nat} {t : List Ln} (h : RightN N t) {i : Nat} (hi : i < t.length) : (kidsP (pths t) (pathL t i)).length = (kidsL t i).length := by rw [kids_pths h hi, List.length_map]
theorem kid_path {t : List Ln} {i k : Nat} (hk : k ∈ kidsL t i) : pathL t k = pathL t i ++ [wd t k] := by
 rw [T.path_under t k, ((T.mem_kids t i k).1 hk).2, T.pathI_nat]
theorem has_pths {N : Nat} {t : List Ln} (h : RightN N t) {i : Nat} (hi : i < t.length) (w : Wd) : hasP (pths t) (pathL t i) w = (kidsL t i).any fun k => wd t k == w := by
 unfold hasP
 rw [kids_pths h hi, Bool.eq_iff_iff, decide_eq_true_eq, List.mem_map, List.any_eq_true]
 constructor
 ·rintro ⟨k, hk, e⟩
  rw [kid_path hk] at e
  have := List.append_cancel_left e
  exact ⟨k, hk, by rw [beq_iff_eq]; injection this⟩
 ·rintro ⟨k, hk, e⟩
  exact ⟨k, hk, by rw [kid_path hk, beq_iff_eq.1 e]⟩
theorem kids_off {N : Nat} {t : List Ln} (h : RightN N t) {p : Pth} (hp : p ≠ []) (hno : ¬ isIn t p) : kidsP (pths t) p = [] := by
 unfold kidsP
 rw [List.filter_eq_nil_iff]
 intro q hq hk
 obtain ⟨k, hkl, rfl⟩ := mem_pths.1 hq
 unfold isKid at hk
 obtain ⟨_, e⟩ := of_decide_eq_true hk
 rw [dropLast_path] at e
 have hu := T.under_lt t k
 by_cases h0 : underL t k < 0
 ·rw [show underL t k = -1 by omega, T.pathI_none] at e
  exact hp e.symm
 ·obtain ⟨j, hj⟩ := Int.eq_ofNat_of_zero_le (show 0 ≤ underL t k by omega)
  rw [hj, T.pathI_nat] at e
  exact hno ⟨j, by omega, e⟩
def checkTo (t : List Ln) (i : Nat) : List (Pth × Int) := ((pths t).take i).flatMap (atP (pths t))
theorem check_full (t : List Ln) : checkTo t t.length = checkP (pths t) := by
 unfold checkTo checkP
 rw [List.take_of_length_le (by rw [pths_len]; exact Nat.le_refl _)]
theorem check_none0 (t : List Ln) : checkTo t 0 = [] := rfl
theorem check_step {t : List Ln} {i : Nat} (hi : i < t.length) : checkTo t (i + 1) = checkTo t i ++ atP (pths t) (pathL t i) := by
 unfold checkTo
 rw [List.take_succ_eq_append_getElem (by rw [pths_len]; exact hi), List.flatMap_append, pths_at t hi]
 simp
theorem dead_under {P : List Pth} {p q : Pth} (hp : p ≠ []) (hk : knownP p ≠ 0) (hq : q ≠ []) : atP P (p ++ q) = [] := by
 unfold atP
 rw [if_neg]
 intro h
 unfold liveP at h
 rw [List.all_eq_true] at h
 have hl := List.length_pos_iff.2 hp
 have hl2 := List.length_pos_iff.2 hq
 have := h p.length (List.mem_range.2 (by rw [List.length_append]; omega))
 rw [List.take_left] at this
 simp only [Bool.or_eq_true, decide_eq_true_eq] at this
 rcases this with h | h
 ·omega
 ·exact hk h
theorem check_skip {N : Nat} {t : List Ln} (h : RightN N t) {i : Nat} (hi : i < t.length) (hk : knownP (pathL t i) ≠ 0) : ∀ d, i + 1 + d ≤ endL t i → checkTo t (i + 1 + d) = checkTo t (i + 1)
 | 0, _ => rfl
 | d + 1, hd => by
  have he := T.end_spec t i hi
  rw [show i + 1 + (d + 1) = (i + 1 + d) + 1 by omega, check_step (by omega), check_skip h hi hk d (by omega)]
  obtain ⟨r, hr⟩ := T.part_prefix hi (i + 1 + d) (i + 1 + d) (Nat.le_refl _) (by omega) (by omega)
  have hne : r ≠ [] := by
   intro e
   rw [e, List.append_nil] at hr
   have := h.path_inj (i + 1 + d + i) (i + 1 + d) i (by omega) (by omega) (by omega) hi hr
   omega
  rw [hr, dead_under T.path_ne hk hne, List.append_nil]
theorem check_end {N : Nat} {t : List Ln} (h : RightN N t) {i : Nat} (hi : i < t.length) (hk : knownP (pathL t i) ≠ 0) : checkTo t (endL t i) = checkTo t i ++ atP (pths t) (pathL t i) := by
 have he := T.end_spec t i hi
 have := check_skip h hi hk (endL t i - (i + 1)) (by omega)
 rw [show i + 1 + (endL t i - (i + 1)) = endL t i by omega] at this
 rw [this, check_step hi]
def Going (t : List Ln) (i : Nat) : Prop := ∀ j, j < i → knownP (pathL t j) ≠ 0 → endL t j ≤ i
theorem Going.start (t : List Ln) : Going t 0 := fun j hj => absurd hj (Nat.not_lt_zero j)
theorem Going.next {t : List Ln} {i : Nat} (g : Going t i) (hk : knownP (pathL t i) = 0) : Going t (i + 1) := fun j hj hn => by
 by_cases h : j < i
 ·exact Nat.le_succ_of_le (g j h hn)
 ·obtain rfl : j = i := by omega
  exact absurd hk hn
theorem Going.skip {N : Nat} {t : List Ln} (h : RightN N t) {i : Nat} (hi : i < t.length) (g : Going t i) : Going t (endL t i) := fun j hj hn => by
 have he := T.end_spec t i hi
 by_cases h1 : j < i
 ·have := g j h1 hn; omega
 ·have hjl : j < t.length := by omega
  have hej := T.end_spec t j hjl
  apply Nat.le_of_not_lt
  intro hlt
  have p1 := (h.part_iff hi hjl).1 ⟨by omega, hj⟩
  have p2 := (h.part_iff hjl (show endL t i < t.length by omega)).1 ⟨by omega, hlt⟩
  have : i ≤ endL t i ∧ endL t i < endL t i := (h.part_iff hi (show endL t i < t.length by omega)).2 (T.pre_trans p1 p2)
  omega
theorem Going.live {N : Nat} {t : List Ln} (h : RightN N t) {i : Nat} (hi : i < t.length) (g : Going t i) : liveP (pathL t i) = true := by
 unfold liveP
 rw [List.all_eq_true]
 intro k hk
 have hk := List.mem_range.1 hk
 by_cases h0 : k = 0
 ·simp [h0]
 ·obtain ⟨j, hj, e⟩ := h.path_take (i) i k (Nat.le_refl _) hi (by omega) (by omega)
  have hpre := (h.part_iff hj hi).2 (T.pre_iff.2 ⟨(pathL t i).drop k, by rw [e, List.take_append_drop]⟩)
  have hji : j < i := by
   rcases Nat.lt_or_ge j i with h1 | h1
   ·exact h1
   ·obtain rfl : j = i := by omega
    have := congrArg List.length e
    rw [List.length_take] at this
    omega
  rw [← e]
  have : knownP (pathL t j) = 0 := Decidable.byContradiction fun hn => by
   have := g j hji hn
   omega
  simp [this]
end Go.Proofs.YtfcikfohmehmkaaGreatDoor.C
namespace Go.Proofs.YtfcikfohmehmkaaGreatDoor
open Go.RowKit
set_option linter.unusedVariables false
theorem Own.frozenNo {α : Type} {E : Elem α} {w : World} {base g n cap : Nat} {t : List α} (h : Own E w base (.slice (some ⟨g, 0, none⟩) n cap) t) (j : Nat) : w.frozen? ⟨g, j, none⟩ = false ∧ base ≤ g ∧ g < w.heap.size := by
 rcases h.2 with ⟨e, _⟩ | ⟨g2, cap2, cur, e, hbg, hgg, _⟩
 ·cases e
 ·injection e with e1 e2 e3
  injection e1 with e1
  injection e1 with e1
  subst e1
  exact ⟨Lib.frozen_of_heap hgg j, hbg, (Array.getElem?_eq_some_iff.1 hgg).1⟩
theorem below_cells {B : Nat} {a : World} (b : Nat) (hb : B ≤ b) : ∀ (vs : List Value) (o : Nat) {w : World}, Below B a w → Below B a (w.setCells b o vs)
 | [], _, _, h => h
 | v :: r, o, _, h => below_cells b hb r (o + 1) (h.setCell (p := ⟨b, o, none⟩) hb v)
theorem zeroCells_one (a : Array Value) (h : ∀ v ∈ a, v.oneCell' = true) (n : Nat) : ∀ v ∈ (Builtin.zeroCells a n).toList, v.oneCell' = true := by
 intro v hv
 unfold Builtin.zeroCells at hv
 rw [Array.toList_map] at hv
 obtain ⟨i, hi, rfl⟩ := List.mem_map.1 hv
 have hi2 : i < n * a.size := by simpa using hi
 have hpos : 0 < a.size := Nat.pos_of_ne_zero fun e => by rw [e] at hi2; omega
 have hm : i % a.size < a.size := Nat.mod_lt _ hpos
 rw [getElem!_pos a (i % a.size) hm]
 exact h _ (Array.getElem_mem hm)
theorem num_bad {s : List UInt8} {c : UInt8} (hc : c ∈ s) (h : N.digB c = false) : N.numL s = -1 := by
 unfold N.numL
 rw [if_pos (.inr (.inr (.inr (List.all_eq_false.2 ⟨c, hc, by rw [h]; simp⟩))))]
theorem num_all {s : List UInt8} (h0 : s ≠ []) (h1 : ¬ 10 < s.length) (h2 : ¬ (s.head? = some 48 ∧ 1 < s.length)) (h3 : s.all N.digB = true) : N.numL s = N.valL s := by
 unfold N.numL
 rw [if_neg]
 rintro (e | e | e | e)
 ·exact h0 e
 ·exact h1 e
 ·exact h2 e
 ·rw [h3] at e; cases e
theorem head_is (s : ByteArray) (h : 0 < s.size) : s.data.toList.head? = some s[0] := by
 have e : s.data.toList.take 1 = s.data.toList.take 0 ++ [s[0]] := W.take_snoc s 0 h
 cases hl : s.data.toList with
 | nil => rw [hl] at e; simp at e
 | cons x r => rw [hl] at e; simp at e; rw [e]; rfl
theorem digB_lo {c : UInt8} (h : c.toNat < 48) : N.digB c = false := by unfold N.digB; rw [decide_eq_false (by omega)]; rfl
theorem digB_hi {c : UInt8} (h : 57 < c.toNat) : N.digB c = false := by unfold N.digB; rw [decide_eq_false (show ¬ c.toNat ≤ 57 by omega), Bool.and_false]
theorem digB_in {c : UInt8} (h : 48 ≤ c.toNat) (h2 : c.toNat ≤ 57) : N.digB c = true := by unfold N.digB; rw [decide_eq_true h, decide_eq_true h2]; rfl
set_option maxRecDepth 100000 in
set_option maxHeartbeats 2000000 in
theorem numR (s : ByteArray) (w : World) (hs : s.size ≤ 1073741824) : Calls Tryz.prog 134 #[.string s] w (fun e w' => e = .returned (.int .i64 (N.numL s.data.toList)) ∧ w = w') := by
 have hsz : s.data.toList.length = s.size := by simp
 by_cases h0 : s.size = 0
 ·have HE := Lib.hid (show N.numL s.data.toList = -1 by rw [List.eq_nil_of_length_eq_zero (hsz.trans h0)]; rfl)
  have b1 : decide ((s.size : Int) < 1) = true := decide_eq_true (by omega)
  have b1b : decide (s.size < 1) = true := decide_eq_true (by omega)
  have b1c : decide (s.size = 0) = true := decide_eq_true h0
  clear hsz h0
  go_enter Tryz.func134, Tryz.ntmps134
  go_wp2
  go_ret
  exact ⟨by rw [HE.out]; rfl, rfl⟩
 have hpos : 0 < s.size := by omega
 have b1 : decide ((s.size : Int) < 1) = false := decide_eq_false (by omega)
 have b1b : decide (s.size < 1) = false := decide_eq_false (by omega)
 have b1c : decide (s.size = 0) = false := decide_eq_false h0
 by_cases h1 : 10 < s.size
 ·have HE := Lib.hid (show N.numL s.data.toList = -1 by unfold N.numL; rw [if_pos (.inr (.inl (by rw [hsz]; exact h1)))])
  have b2 : decide ((10 : Int) < (s.size : Int)) = true := decide_eq_true (by omega)
  have b2b : decide (10 < s.size) = true := decide_eq_true h1
  clear hsz h0 h1
  go_enter Tryz.func134, Tryz.ntmps134
  go_wp2
  go_ret
  exact ⟨by rw [HE.out]; rfl, rfl⟩
 have b2 : decide ((10 : Int) < (s.size : Int)) = false := decide_eq_false (by omega)
 have b2b : decide (10 < s.size) = false := decide_eq_false h1
 have hhd := head_is s hpos
 by_cases h2 : s[0].toNat = 48 ∧ 1 < s.size
 ·have HE := Lib.hid (show N.numL s.data.toList = -1 by unfold N.numL; rw [if_pos (.inr (.inr (.inl ⟨by rw [hhd, show s[0] = 48 from UInt8.toNat_inj.1 h2.1], by rw [hsz]; exact h2.2⟩)))])
  have b3 : ((s[0].toNat : Int) == 48) = true := by simp; omega
  have b4 : decide ((1 : Int) < (s.size : Int)) = true := decide_eq_true (by omega)
  have b4b : decide (1 < s.size) = true := decide_eq_true h2.2
  clear hsz h0 h1 h2 hhd
  go_enter Tryz.func134, Tryz.ntmps134
  go_wp2
  go_ret
  exact ⟨by rw [HE.out]; rfl, rfl⟩
 have HSZ := Lib.hid hsz
 have HNE := Lib.hid (show s.data.toList ≠ [] from fun e => h0 (by rw [← hsz, e]; rfl))
 have HH := Lib.hid (show ¬ (s.data.toList.head? = some 48 ∧ 1 < s.data.toList.length) by
  rintro ⟨e1, e2⟩
  rw [hhd] at e1
  injection e1 with e1
  exact h2 ⟨by rw [e1]; rfl, by omega⟩)
 by_cases h3 : s[0].toNat = 48
 all_goals
  first
  | (have b3 : ((s[0].toNat : Int) == 48) = true := by (simp; omega)
     have b4 : decide ((1 : Int) < (s.size : Int)) = false := decide_eq_false (by omega)
     have b4b : decide (1 < s.size) = false := decide_eq_false (by omega))
  | (have b3 : ((s[0].toNat : Int) == 48) = false := by (simp; omega))
  clear hsz h0 h2 h3 hhd
  go_enter Tryz.func134, Tryz.ntmps134
  go_wp2
  go_loopg [3, 4] s.size (fun gk vn vi wr => ∃ k v : Nat, Hid (k + gk = s.size) ∧ k ≤ s.size ∧ vi = .int .i64 (k : Int) ∧ vn = .int .i64 (v : Int) ∧ Hid (N.valL (s.data.toList.take k) = v) ∧ Hid ((s.data.toList.take k).all N.digB = true) ∧ w = wr)
  case atStart => exact ⟨0, 0, Nat.zero_add _, Nat.zero_le _, rfl, rfl, rfl, rfl, rfl⟩
  case round =>
   obtain ⟨k, v, HG, hk, rfl, rfl, HV, HD, rfl⟩ := hrel
   by_cases hlt : k < s.size
   ·have blt : decide ((k : Int) < (s.size : Int)) = true := decide_eq_true (by omega)
    have blt2 : decide (k < s.size) = true := decide_eq_true hlt
    have hki : (k : Int) < (s.size : Int) := by omega
    have hsn := W.take_snoc s k hlt
    have hmem : s[k] ∈ s.data.toList := List.mem_of_mem_take (i := k + 1) (by rw [hsn]; simp)
    have hv : v < 10000000000 := by
     rw [← HV.out]
     exact N.val_lt _ HD.out 10 (by rw [List.length_take]; omega)
    have hc := s[k].toNat_lt
    by_cases hlo : s[k].toNat < 48
    ·have c1 : decide ((s[k].toNat : Int) < 48) = true := decide_eq_true (by omega)
     have HE := Lib.hid (num_bad hmem (digB_lo hlo))
     clear hsn hmem hlo
     go_wp2
     go_ret
     exact ⟨by rw [HE.out]; rfl, rfl⟩
    ·have c1 : decide ((s[k].toNat : Int) < 48) = false := decide_eq_false (by omega)
     by_cases hhi : 57 < s[k].toNat
     ·have c2 : decide ((57 : Int) < (s[k].toNat : Int)) = true := decide_eq_true (by omega)
      have c2b : decide (57 < s[k].toNat) = true := decide_eq_true hhi
      have HE := Lib.hid (num_bad hmem (digB_hi hhi))
      clear hsn hmem hlo hhi
      go_wp2
      go_ret
      exact ⟨by rw [HE.out]; rfl, rfl⟩
     ·have c2 : decide ((57 : Int) < (s[k].toNat : Int)) = false := decide_eq_false (by omega)
      have c2b : decide (57 < s[k].toNat) = false := decide_eq_false hhi
      have HSN := Lib.hid hsn
      have HD2 := Lib.hid (show (s.data.toList.take (k + 1)).all N.digB = true by rw [hsn, List.all_append, HD.out]; show ([s[k]] : List UInt8).all N.digB = true; rw [List.all_cons, digB_in (by omega) (by omega)]; rfl)
      have HV2 := Lib.hid (show N.valL (s.data.toList.take (k + 1)) = 10 * v + (s[k].toNat - 48) by rw [hsn, N.val_snoc, HV.out])
      have hgk := HG.out
      have hu : IntKind.u8.wrap ((s[k].toNat : Int) - 48) = ((s[k].toNat - 48 : Nat) : Int) := by rw [IntKind.wrap_u8]; omega
      clear hsn hmem
      go_wp2
      go_roundg (s.size - (k + 1))
      case rel => exact ⟨k + 1, 10 * v + (s[k].toNat - 48), (by show _ = _; omega), by omega, by go_num, by go_num, HV2, HD2, rfl⟩
      case measure => omega
   ·have blt : decide ((k : Int) < (s.size : Int)) = false := decide_eq_false (by omega)
    have blt2 : decide (k < s.size) = false := decide_eq_false hlt
    have htk : s.data.toList.take k = s.data.toList := List.take_of_length_le (by have := HSZ.out; omega)
    have HE := Lib.hid (show N.numL s.data.toList = v by
     have h5 := HV.out
     have h6 := HD.out
     rw [htk] at h5 h6
     rw [num_all HNE.out (by rw [HSZ.out]; exact h1) HH.out h6, h5])
    clear htk
    go_wp2
    go_ret
    exact ⟨by rw [HE.out]; rfl, rfl⟩
theorem numQ (x : List UInt8) (z : Int) (w : World) (hs : x.length ≤ 1073741824) (h : N.numL x = z) : Calls Tryz.prog 134 #[.string (sB x)] w (fun e w' => e = .returned (.int .i64 z) ∧ w = w') := by
 have := numR (sB x) w (by rw [sB_size]; exact hs)
 rw [sB_data, h] at this
 exact this
theorem cut_str (s : ByteArray) (a b : Nat) (hb : b ≤ s.size) : s.extract a b = sB ((s.data.toList.drop a).take (b - a)) := by
 refine ByteArray.ext (Array.ext' ?_)
 have h1 : (s.extract a b).data = s.data.extract a b := by simp [ByteArray.data_extract]
 rw [h1]
 simp [sB, Array.toList_extract, List.extract_eq_take_drop]
set_option maxRecDepth 100000 in
set_option maxHeartbeats 2000000 in
theorem partsR (s : ByteArray) (c : UInt8) (w : World) (hs : s.size ≤ 1073741824) : Calls Tryz.prog 165 #[.string s, .int .u8 c.toNat] w (OwnS eS w (N.splitL c s.data.toList)) := by
 have hsz : s.data.toList.length = s.size := by simp
 have HSZ := Lib.hid hsz
 clear hsz
 go_enter Tryz.func165, Tryz.ntmps165
 go_wp2
 go_loopg [5, 6, 7] (s.size + 1) (fun gk vo vf vi wr => ∃ (i f : Nat) (L : List (List UInt8)), Hid (i + gk = s.size + 1) ∧ vi = .int .i64 (i : Int) ∧ vf = .int .i64 (f : Int) ∧ Hid (Own eS wr w.heap.size vo L) ∧ Hid (L.length ≤ i ∧ f ≤ i) ∧ Hid ((i ≤ s.size ∧ N.CutAt c s.data.toList L f i) ∨ (i = s.size + 1 ∧ N.splitL c s.data.toList = L)) ∧ Below w.heap.size w wr)
 case atStart => exact ⟨0, 0, [], Nat.zero_add _, rfl, rfl, Own.nil _ _, ⟨Nat.le_refl _, Nat.le_refl _⟩, .inl ⟨Nat.zero_le _, N.cut_start c _⟩, Below.refl _ _⟩
 case round =>
  obtain ⟨i, f, L, HG, rfl, rfl, HO, HLF, HC, hbr⟩ := hrel
  have hgk := HG.out
  obtain ⟨hLi, hfi⟩ := HLF.out
  have hsz := hbr.size
  by_cases hle : i ≤ s.size
  ·have blt : decide ((i : Int) ≤ (s.size : Int)) = true := decide_eq_true (by omega)
   have blt2 : decide (i ≤ s.size) = true := decide_eq_true hle
   have hcut : N.CutAt c s.data.toList L f i := by
    rcases HC.out with ⟨_, h⟩ | ⟨h, _⟩
    ·exact h
    ·omega
   have hx := cut_str s f i hle
   obtain ⟨x, hxd⟩ : ∃ x, (s.data.toList.drop f).take (i - f) = x := ⟨_, rfl⟩
   rw [hxd] at hx
   have HXD := Lib.hid hxd
   have HXS := Lib.hid hx
   clear hx
   by_cases heq : i = s.size
   ·have be : ((i : Int) == (s.size : Int)) = true := by simp; omega
    have be2 : (i == s.size) = true := by simp; omega
    have HN := Lib.hid (N.cut_end hcut (by rw [HSZ.out]; exact heq))
    have HEQ := Lib.hid heq
    clear hcut hxd heq
    go_wp2_with (at_builtin; refine wpList_appG eS wr rfl (.tmp 25) (.tmp 30) rfl w.heap.size u5 L rfl HO.out x 1 _ (by rw [HXS.out]; rfl) wr.heap.size rfl rfl (by omega) hsz ?_; intro v3 w3 hown3 hb3)
    go_roundg (s.size + 1 - (i + 1))
    case rel => exact ⟨i + 1, i + 1, L ++ [x], (by show _ = _; omega), by go_num, by go_num, hown3, ⟨by rw [List.length_append, List.length_singleton]; omega, Nat.le_refl _⟩, .inr ⟨by have := HEQ.out; omega, by rw [HN.out, HXD.out]⟩, hbr.trans hb3⟩
    case measure => omega
   ·have hlt : i < s.size := by omega
    have be : ((i : Int) == (s.size : Int)) = false := by simp; omega
    have be2 : (i == s.size) = false := by simp; omega
    have hki : (i : Int) < (s.size : Int) := by omega
    have hlt2 : i < s.data.toList.length := by rw [HSZ.out]; exact hlt
    have hget : s.data.toList[i] = s[i] := rfl
    by_cases hc : s[i] = c
    ·have bc : ((s[i].toNat : Int) == (c.toNat : Int)) = true := by rw [hc]; simp
     have bc2 : (s[i].toNat == c.toNat) = true := by rw [hc]; simp
     have HN := Lib.hid (N.cut_here hcut hlt2 (hget.trans hc))
     clear hcut hxd hget hc
     go_wp2_with (at_builtin; refine wpList_appG eS wr rfl (.tmp 25) (.tmp 30) rfl w.heap.size u5 L rfl HO.out x 1 _ (by rw [HXS.out]; rfl) wr.heap.size rfl rfl (by omega) hsz ?_; intro v3 w3 hown3 hb3)
     go_roundg (s.size + 1 - (i + 1))
     case rel => exact ⟨i + 1, i + 1, L ++ [x], (by show _ = _; omega), by go_num, by go_num, hown3, ⟨by rw [List.length_append, List.length_singleton]; omega, Nat.le_refl _⟩, .inl ⟨by omega, by have := HN.out; rw [HXD.out] at this; exact this⟩, hbr.trans hb3⟩
     case measure => omega
    ·have hne : s[i].toNat ≠ c.toNat := fun e => hc (UInt8.toNat_inj.1 e)
     have bc : ((s[i].toNat : Int) == (c.toNat : Int)) = false := by simp; omega
     have bc2 : (s[i].toNat == c.toNat) = false := by simp; omega
     have HN := Lib.hid (N.cut_other hcut hlt2 (fun e => hc (hget.symm.trans e)))
     clear hcut hxd hget hc hne
     go_wp2
     go_roundg (s.size + 1 - (i + 1))
     case rel => exact ⟨i + 1, f, L, (by show _ = _; omega), by go_num, rfl, HO, ⟨by omega, by omega⟩, .inl ⟨by omega, HN.out⟩, hbr⟩
     case measure => omega
  ·have blt : decide ((i : Int) ≤ (s.size : Int)) = false := decide_eq_false (by omega)
   have blt2 : decide (i ≤ s.size) = false := decide_eq_false hle
   have HE := Lib.hid (show N.splitL c s.data.toList = L by
    rcases HC.out with ⟨h, _⟩ | ⟨_, h⟩
    ·omega
    ·exact h)
   go_wp2
   go_ret
   exact ⟨_, rfl, by rw [HE.out]; exact HO.out, hbr⟩
theorem name_long {s : List UInt8} (h : 16 < s.length) : C.nameB s = false := by
 cases s with
 | nil => rfl
 | cons c r =>
  rw [List.length_cons] at h
  show (decide (97 ≤ c.toNat) && decide (c.toNat ≤ 122) && decide (r.length < 16) && r.all C.okC) = false
  rw [decide_eq_false (show ¬ r.length < 16 by omega), Bool.and_false]
  rfl
theorem name_head {s : List UInt8} {c : UInt8} (h : s.head? = some c) (hc : c.toNat < 97 ∨ 122 < c.toNat) : C.nameB s = false := by
 cases s with
 | nil => rfl
 | cons x r =>
  injection h with h
  subst h
  show (decide (97 ≤ x.toNat) && decide (x.toNat ≤ 122) && decide (r.length < 16) && r.all C.okC) = false
  rcases hc with h | h
  ·rw [decide_eq_false (show ¬ 97 ≤ x.toNat by omega)]
   rfl
  ·rw [decide_eq_false (show ¬ x.toNat ≤ 122 by omega), Bool.and_false]
   rfl
theorem okC_az {c : UInt8} (h : 97 ≤ c.toNat) (h2 : c.toNat ≤ 122) : C.okC c = true := by unfold C.okC; rw [decide_eq_true h, decide_eq_true h2]; rfl
theorem okC_dig {c : UInt8} (h : 48 ≤ c.toNat) (h2 : c.toNat ≤ 57) : C.okC c = true := by unfold C.okC N.digB; rw [decide_eq_true h, decide_eq_true h2]; simp
theorem okC_dash {c : UInt8} (h : c.toNat = 45) : C.okC c = true := by unfold C.okC; rw [decide_eq_true h, Bool.or_true]
theorem okC_no {c : UInt8} (h : ¬ (97 ≤ c.toNat ∧ c.toNat ≤ 122)) (h2 : ¬ (48 ≤ c.toNat ∧ c.toNat ≤ 57)) (h3 : c.toNat ≠ 45) : C.okC c = false := by
 unfold C.okC N.digB
 rw [← Bool.decide_and, ← Bool.decide_and, decide_eq_false h, decide_eq_false h2, decide_eq_false h3]
 rfl
theorem name_bad {s : List UInt8} {c : UInt8} (hc : c ∈ s) (h : C.okC c = false) : C.nameB s = false := by
 cases s with
 | nil => cases hc
 | cons x r =>
  rcases List.mem_cons.1 hc with rfl | hr
  ·refine name_head rfl ?_
   apply Decidable.byContradiction
   intro hn
   rw [okC_az (by omega) (by omega)] at h
   cases h
  ·show (decide (97 ≤ x.toNat) && decide (x.toNat ≤ 122) && decide (r.length < 16) && r.all C.okC) = false
   rw [show r.all C.okC = false from List.all_eq_false.2 ⟨c, hr, by rw [h]; simp⟩, Bool.and_false]
theorem name_yes {s : List UInt8} {c : UInt8} (h : s.head? = some c) (h1 : 97 ≤ c.toNat) (h2 : c.toNat ≤ 122) (hl : s.length ≤ 16) (ha : s.all C.okC = true) : C.nameB s = true := by
 cases s with
 | nil => cases h
 | cons x r =>
  injection h with h
  subst h
  rw [List.length_cons] at hl
  rw [List.all_cons, Bool.and_eq_true] at ha
  show (decide (97 ≤ x.toNat) && decide (x.toNat ≤ 122) && decide (r.length < 16) && r.all C.okC) = true
  rw [decide_eq_true h1, decide_eq_true h2, decide_eq_true (show r.length < 16 by omega), ha.2]
  rfl
set_option maxRecDepth 100000 in
set_option maxHeartbeats 4000000 in
theorem nameR (s : ByteArray) (w : World) (hs : s.size ≤ 1073741824) : Calls Tryz.prog 135 #[.string s] w (fun e w' => e = .returned (.bool (C.nameB s.data.toList)) ∧ w = w') := by
 have hsz : s.data.toList.length = s.size := by simp
 by_cases h0 : s.size = 0
 ·have HE := Lib.hid (show C.nameB s.data.toList = false by rw [List.eq_nil_of_length_eq_zero (hsz.trans h0)]; rfl)
  have b1 : decide ((s.size : Int) < 1) = true := decide_eq_true (by omega)
  have b1b : decide (s.size < 1) = true := decide_eq_true (by omega)
  have b1c : decide (s.size = 0) = true := decide_eq_true h0
  clear hsz h0
  go_enter Tryz.func135, Tryz.ntmps135
  go_wp2
  go_ret
  exact ⟨by rw [HE.out]; rfl, rfl⟩
 have hpos : 0 < s.size := by omega
 have b1 : decide ((s.size : Int) < 1) = false := decide_eq_false (by omega)
 have b1b : decide (s.size < 1) = false := decide_eq_false (by omega)
 have b1c : decide (s.size = 0) = false := decide_eq_false h0
 by_cases h1 : 16 < s.size
 ·have HE := Lib.hid (show C.nameB s.data.toList = false from name_long (by rw [hsz]; exact h1))
  have b2 : decide ((16 : Int) < (s.size : Int)) = true := decide_eq_true (by omega)
  have b2b : decide (16 < s.size) = true := decide_eq_true h1
  clear hsz h0 h1
  go_enter Tryz.func135, Tryz.ntmps135
  go_wp2
  go_ret
  exact ⟨by rw [HE.out]; rfl, rfl⟩
 have b2 : decide ((16 : Int) < (s.size : Int)) = false := decide_eq_false (by omega)
 have b2b : decide (16 < s.size) = false := decide_eq_false h1
 have hhd := head_is s hpos
 have hposi : (0 : Int) < (s.size : Int) := by omega
 by_cases h2 : s[0].toNat < 97
 ·have HE := Lib.hid (show C.nameB s.data.toList = false from name_head hhd (.inl h2))
  have b3 : decide ((s[0].toNat : Int) < 97) = true := decide_eq_true (by omega)
  have b3b : decide (s[0].toNat < 97) = true := decide_eq_true h2
  clear hsz h0 h1 h2 hhd
  go_enter Tryz.func135, Tryz.ntmps135
  go_wp2
  go_ret
  exact ⟨by rw [HE.out]; rfl, rfl⟩
 have b3 : decide ((s[0].toNat : Int) < 97) = false := decide_eq_false (by omega)
 have b3b : decide (s[0].toNat < 97) = false := decide_eq_false h2
 by_cases h3 : 122 < s[0].toNat
 ·have HE := Lib.hid (show C.nameB s.data.toList = false from name_head hhd (.inr h3))
  have b4 : decide ((122 : Int) < (s[0].toNat : Int)) = true := decide_eq_true (by omega)
  have b4b : decide (122 < s[0].toNat) = true := decide_eq_true h3
  clear hsz h0 h1 h2 h3 hhd
  go_enter Tryz.func135, Tryz.ntmps135
  go_wp2
  go_ret
  exact ⟨by rw [HE.out]; rfl, rfl⟩
 have b4 : decide ((122 : Int) < (s[0].toNat : Int)) = false := decide_eq_false (by omega)
 have b4b : decide (122 < s[0].toNat) = false := decide_eq_false h3
 have HHD := Lib.hid hhd
 have HSZ := Lib.hid hsz
 have HLO := Lib.hid (show 97 ≤ s[0].toNat ∧ s[0].toNat ≤ 122 ∧ s.size ≤ 16 from ⟨by omega, by omega, by omega⟩)
 clear hsz h0 h1 h2 h3 hhd
 go_enter Tryz.func135, Tryz.ntmps135
 go_wp2
 go_loopg [3, 4] s.size (fun gk vi vc wr => ∃ k : Nat, Hid (k + gk = s.size) ∧ k ≤ s.size ∧ vi = .int .i64 (k : Int) ∧ Hid ((s.data.toList.take k).all C.okC = true) ∧ w = wr)
 case atStart => exact ⟨0, Nat.zero_add _, Nat.zero_le _, rfl, rfl, rfl⟩
 case round =>
  obtain ⟨k, HG, hk, rfl, HD, rfl⟩ := hrel
  by_cases hlt : k < s.size
  ·have blt : decide ((k : Int) < (s.size : Int)) = true := decide_eq_true (by omega)
   have blt2 : decide (k < s.size) = true := decide_eq_true hlt
   have hki : (k : Int) < (s.size : Int) := by omega
   have hsn := W.take_snoc s k hlt
   have hmem : s[k] ∈ s.data.toList := List.mem_of_mem_take (i := k + 1) (by rw [hsn]; simp)
   have hc := s[k].toNat_lt
   have hgk := HG.out
   have hcases : s[k].toNat < 45 ∨ s[k].toNat = 45 ∨ (45 < s[k].toNat ∧ s[k].toNat < 48) ∨ (48 ≤ s[k].toNat ∧ s[k].toNat ≤ 57) ∨ (57 < s[k].toNat ∧ s[k].toNat < 97) ∨ (97 ≤ s[k].toNat ∧ s[k].toNat ≤ 122) ∨ 122 < s[k].toNat := by omega
   rcases hcases with hr | hr | hr | hr | hr | hr | hr
   ·have d1 : decide ((97 : Int) ≤ (s[k].toNat : Int)) = false := decide_eq_false (by omega)
    have d1n : decide (97 ≤ s[k].toNat) = false := decide_eq_false (by omega)
    have d2 : decide ((s[k].toNat : Int) ≤ 122) = true := decide_eq_true (by omega)
    have d2n : decide (s[k].toNat ≤ 122) = true := decide_eq_true (by omega)
    have d3 : decide ((48 : Int) ≤ (s[k].toNat : Int)) = false := decide_eq_false (by omega)
    have d3n : decide (48 ≤ s[k].toNat) = false := decide_eq_false (by omega)
    have d4 : decide ((s[k].toNat : Int) ≤ 57) = true := decide_eq_true (by omega)
    have d4n : decide (s[k].toNat ≤ 57) = true := decide_eq_true (by omega)
    have d5 : ((s[k].toNat : Int) == 45) = false := by (simp; omega)
    have d5n : (s[k].toNat == 45) = false := by (simp; omega)
    have HE := Lib.hid (show C.nameB s.data.toList = false from name_bad hmem (okC_no (by omega) (by omega) (by omega)))
    clear hsn hmem hr
    go_wp2
    go_ret
    exact ⟨by rw [HE.out]; rfl, rfl⟩
   ·have d1 : decide ((97 : Int) ≤ (s[k].toNat : Int)) = false := decide_eq_false (by omega)
    have d1n : decide (97 ≤ s[k].toNat) = false := decide_eq_false (by omega)
    have d2 : decide ((s[k].toNat : Int) ≤ 122) = true := decide_eq_true (by omega)
    have d2n : decide (s[k].toNat ≤ 122) = true := decide_eq_true (by omega)
    have d3 : decide ((48 : Int) ≤ (s[k].toNat : Int)) = false := decide_eq_false (by omega)
    have d3n : decide (48 ≤ s[k].toNat) = false := decide_eq_false (by omega)
    have d4 : decide ((s[k].toNat : Int) ≤ 57) = true := decide_eq_true (by omega)
    have d4n : decide (s[k].toNat ≤ 57) = true := decide_eq_true (by omega)
    have d5 : ((s[k].toNat : Int) == 45) = true := by (simp; omega)
    have d5n : (s[k].toNat == 45) = true := by (simp; omega)
    have HD2 := Lib.hid (show (s.data.toList.take (k + 1)).all C.okC = true by rw [hsn, List.all_append, HD.out]; show ([s[k]] : List UInt8).all C.okC = true; rw [List.all_cons, okC_dash hr]; rfl)
    clear hsn hmem hr
    go_wp2
    go_roundg (s.size - (k + 1))
    case rel => exact ⟨k + 1, (by show _ = _; omega), by omega, by go_num, HD2, rfl⟩
    case measure => omega
   ·have d1 : decide ((97 : Int) ≤ (s[k].toNat : Int)) = false := decide_eq_false (by omega)
    have d1n : decide (97 ≤ s[k].toNat) = false := decide_eq_false (by omega)
    have d2 : decide ((s[k].toNat : Int) ≤ 122) = true := decide_eq_true (by omega)
    have d2n : decide (s[k].toNat ≤ 122) = true := decide_eq_true (by omega)
    have d3 : decide ((48 : Int) ≤ (s[k].toNat : Int)) = false := decide_eq_false (by omega)
    have d3n : decide (48 ≤ s[k].toNat) = false := decide_eq_false (by omega)
    have d4 : decide ((s[k].toNat : Int) ≤ 57) = true := decide_eq_true (by omega)
    have d4n : decide (s[k].toNat ≤ 57) = true := decide_eq_true (by omega)
    have d5 : ((s[k].toNat : Int) == 45) = false := by (simp; omega)
    have d5n : (s[k].toNat == 45) = false := by (simp; omega)
    have HE := Lib.hid (show C.nameB s.data.toList = false from name_bad hmem (okC_no (by omega) (by omega) (by omega)))
    clear hsn hmem hr
    go_wp2
    go_ret
    exact ⟨by rw [HE.out]; rfl, rfl⟩
   ·have d1 : decide ((97 : Int) ≤ (s[k].toNat : Int)) = false := decide_eq_false (by omega)
    have d1n : decide (97 ≤ s[k].toNat) = false := decide_eq_false (by omega)
    have d2 : decide ((s[k].toNat : Int) ≤ 122) = true := decide_eq_true (by omega)
    have d2n : decide (s[k].toNat ≤ 122) = true := decide_eq_true (by omega)
    have d3 : decide ((48 : Int) ≤ (s[k].toNat : Int)) = true := decide_eq_true (by omega)
    have d3n : decide (48 ≤ s[k].toNat) = true := decide_eq_true (by omega)
    have d4 : decide ((s[k].toNat : Int) ≤ 57) = true := decide_eq_true (by omega)
    have d4n : decide (s[k].toNat ≤ 57) = true := decide_eq_true (by omega)
    have d5 : ((s[k].toNat : Int) == 45) = false := by (simp; omega)
    have d5n : (s[k].toNat == 45) = false := by (simp; omega)
    have HD2 := Lib.hid (show (s.data.toList.take (k + 1)).all C.okC = true by rw [hsn, List.all_append, HD.out]; show ([s[k]] : List UInt8).all C.okC = true; rw [List.all_cons, okC_dig hr.1 hr.2]; rfl)
    clear hsn hmem hr
    go_wp2
    go_roundg (s.size - (k + 1))
    case rel => exact ⟨k + 1, (by show _ = _; omega), by omega, by go_num, HD2, rfl⟩
    case measure => omega
   ·have d1 : decide ((97 : Int) ≤ (s[k].toNat : Int)) = false := decide_eq_false (by omega)
    have d1n : decide (97 ≤ s[k].toNat) = false := decide_eq_false (by omega)
    have d2 : decide ((s[k].toNat : Int) ≤ 122) = true := decide_eq_true (by omega)
    have d2n : decide (s[k].toNat ≤ 122) = true := decide_eq_true (by omega)
    have d3 : decide ((48 : Int) ≤ (s[k].toNat : Int)) = true := decide_eq_true (by omega)
    have d3n : decide (48 ≤ s[k].toNat) = true := decide_eq_true (by omega)
    have d4 : decide ((s[k].toNat : Int) ≤ 57) = false := decide_eq_false (by omega)
    have d4n : decide (s[k].toNat ≤ 57) = false := decide_eq_false (by omega)
    have d5 : ((s[k].toNat : Int) == 45) = false := by (simp; omega)
    have d5n : (s[k].toNat == 45) = false := by (simp; omega)
    have HE := Lib.hid (show C.nameB s.data.toList = false from name_bad hmem (okC_no (by omega) (by omega) (by omega)))
    clear hsn hmem hr
    go_wp2
    go_ret
    exact ⟨by rw [HE.out]; rfl, rfl⟩
   ·have d1 : decide ((97 : Int) ≤ (s[k].toNat : Int)) = true := decide_eq_true (by omega)
    have d1n : decide (97 ≤ s[k].toNat) = true := decide_eq_true (by omega)
    have d2 : decide ((s[k].toNat : Int) ≤ 122) = true := decide_eq_true (by omega)
    have d2n : decide (s[k].toNat ≤ 122) = true := decide_eq_true (by omega)
    have d3 : decide ((48 : Int) ≤ (s[k].toNat : Int)) = true := decide_eq_true (by omega)
    have d3n : decide (48 ≤ s[k].toNat) = true := decide_eq_true (by omega)
    have d4 : decide ((s[k].toNat : Int) ≤ 57) = false := decide_eq_false (by omega)
    have d4n : decide (s[k].toNat ≤ 57) = false := decide_eq_false (by omega)
    have d5 : ((s[k].toNat : Int) == 45) = false := by (simp; omega)
    have d5n : (s[k].toNat == 45) = false := by (simp; omega)
    have HD2 := Lib.hid (show (s.data.toList.take (k + 1)).all C.okC = true by rw [hsn, List.all_append, HD.out]; show ([s[k]] : List UInt8).all C.okC = true; rw [List.all_cons, okC_az hr.1 hr.2]; rfl)
    clear hsn hmem hr
    go_wp2
    go_roundg (s.size - (k + 1))
    case rel => exact ⟨k + 1, (by show _ = _; omega), by omega, by go_num, HD2, rfl⟩
    case measure => omega
   ·have d1 : decide ((97 : Int) ≤ (s[k].toNat : Int)) = true := decide_eq_true (by omega)
    have d1n : decide (97 ≤ s[k].toNat) = true := decide_eq_true (by omega)
    have d2 : decide ((s[k].toNat : Int) ≤ 122) = false := decide_eq_false (by omega)
    have d2n : decide (s[k].toNat ≤ 122) = false := decide_eq_false (by omega)
    have d3 : decide ((48 : Int) ≤ (s[k].toNat : Int)) = true := decide_eq_true (by omega)
    have d3n : decide (48 ≤ s[k].toNat) = true := decide_eq_true (by omega)
    have d4 : decide ((s[k].toNat : Int) ≤ 57) = false := decide_eq_false (by omega)
    have d4n : decide (s[k].toNat ≤ 57) = false := decide_eq_false (by omega)
    have d5 : ((s[k].toNat : Int) == 45) = false := by (simp; omega)
    have d5n : (s[k].toNat == 45) = false := by (simp; omega)
    have HE := Lib.hid (show C.nameB s.data.toList = false from name_bad hmem (okC_no (by omega) (by omega) (by omega)))
    clear hsn hmem hr
    go_wp2
    go_ret
    exact ⟨by rw [HE.out]; rfl, rfl⟩
  ·have blt : decide ((k : Int) < (s.size : Int)) = false := decide_eq_false (by omega)
   have blt2 : decide (k < s.size) = false := decide_eq_false hlt
   have htk : s.data.toList.take k = s.data.toList := List.take_of_length_le (by have := HSZ.out; omega)
   have HE := Lib.hid (show C.nameB s.data.toList = true by
    have h6 := HD.out
    rw [htk] at h6
    exact name_yes HHD.out HLO.out.1 HLO.out.2.1 (by rw [HSZ.out]; exact HLO.out.2.2) h6)
   clear htk
   go_wp2
   go_ret
   exact ⟨by rw [HE.out]; rfl, rfl⟩
set_option maxRecDepth 100000 in
set_option maxHeartbeats 4000000 in
theorem secondR (x : List UInt8) (w : World) : Calls Tryz.prog 97 #[.string (sB x)] w (fun e w' => e = .returned (.string (sB (C.secondW x))) ∧ w = w') := by
 by_cases h0 : x = C.wHosts
 ·have q0 : ((sB x).toList == [104, 111, 115, 116, 115]) = true := by rw [sB_toList, beq_iff_eq]; exact h0
  have HE := Lib.hid (show C.secondW x = C.secondW C.wHosts from by rw [h0])
  clear h0
  go_enter Tryz.func97, Tryz.ntmps97
  go_wp2
  go_ret
  exact ⟨by rw [HE.out]; rfl, rfl⟩
 have q0 : ((sB x).toList == [104, 111, 115, 116, 115]) = false := by rw [sB_toList, beq_eq_false_iff_ne]; exact h0
 by_cases h1 : x = C.wVnis
 ·have q1 : ((sB x).toList == [118, 110, 105, 115]) = true := by rw [sB_toList, beq_iff_eq]; exact h1
  have HE := Lib.hid (show C.secondW x = C.secondW C.wVnis from by rw [h1])
  clear h0 h1
  go_enter Tryz.func97, Tryz.ntmps97
  go_wp2
  go_ret
  exact ⟨by rw [HE.out]; rfl, rfl⟩
 have q1 : ((sB x).toList == [118, 110, 105, 115]) = false := by rw [sB_toList, beq_eq_false_iff_ne]; exact h1
 by_cases h2 : x = C.wBindings
 ·have q2 : ((sB x).toList == [98, 105, 110, 100, 105, 110, 103, 115]) = true := by rw [sB_toList, beq_iff_eq]; exact h2
  have HE := Lib.hid (show C.secondW x = C.secondW C.wBindings from by rw [h2])
  clear h0 h1 h2
  go_enter Tryz.func97, Tryz.ntmps97
  go_wp2
  go_ret
  exact ⟨by rw [HE.out]; rfl, rfl⟩
 have q2 : ((sB x).toList == [98, 105, 110, 100, 105, 110, 103, 115]) = false := by rw [sB_toList, beq_eq_false_iff_ne]; exact h2
 by_cases h3 : x = C.wRoutes
 ·have q3 : ((sB x).toList == [114, 111, 117, 116, 101, 115]) = true := by rw [sB_toList, beq_iff_eq]; exact h3
  have HE := Lib.hid (show C.secondW x = C.secondW C.wRoutes from by rw [h3])
  clear h0 h1 h2 h3
  go_enter Tryz.func97, Tryz.ntmps97
  go_wp2
  go_ret
  exact ⟨by rw [HE.out]; rfl, rfl⟩
 have q3 : ((sB x).toList == [114, 111, 117, 116, 101, 115]) = false := by rw [sB_toList, beq_eq_false_iff_ne]; exact h3
 by_cases h4 : x = C.wPolicy
 ·have q4 : ((sB x).toList == [112, 111, 108, 105, 99, 121]) = true := by rw [sB_toList, beq_iff_eq]; exact h4
  have HE := Lib.hid (show C.secondW x = C.secondW C.wPolicy from by rw [h4])
  clear h0 h1 h2 h3 h4
  go_enter Tryz.func97, Tryz.ntmps97
  go_wp2
  go_ret
  exact ⟨by rw [HE.out]; rfl, rfl⟩
 have q4 : ((sB x).toList == [112, 111, 108, 105, 99, 121]) = false := by rw [sB_toList, beq_eq_false_iff_ne]; exact h4
 have HE := Lib.hid (show C.secondW x = [] from by unfold C.secondW; rw [if_neg h0, if_neg h1, if_neg h2, if_neg h3, if_neg h4])
 clear h0 h1 h2 h3 h4
 go_enter Tryz.func97, Tryz.ntmps97
 go_wp2
 go_ret
 exact ⟨by rw [HE.out]; rfl, rfl⟩
set_option maxRecDepth 100000 in
set_option maxHeartbeats 4000000 in
theorem needsR (x : List UInt8) (w : World) : Calls Tryz.prog 64 #[.string (sB x)] w (fun e w' => ∃ A c, e = .returned (.slice A (C.needsW x).length c) ∧ (C.needsW x).length ≤ c ∧ Seen eS w' A (C.needsW x) ∧ (∀ a, A = some a → w.heap.size ≤ a.block) ∧ Below w.heap.size w w') := by
 by_cases h0 : x = C.wHosts
 ·have q0 : ((sB x).toList == [104, 111, 115, 116, 115]) = true := by rw [sB_toList, beq_iff_eq]; exact h0
  have HE := Lib.hid (show C.needsW x = C.needsW C.wHosts from by rw [h0])
  clear h0
  go_enter Tryz.func64, Tryz.ntmps64
  go_wp2
  go_ret
  rw [HE.out]
  exact ⟨some ⟨w.heap.size, 0, none⟩, 1, rfl, by decide, lit_seen eS w [C.wIp] _ rfl (by decide), (fun a h => by injection h with h; rw [← h]; exact Nat.le_refl _), up w _⟩
 have q0 : ((sB x).toList == [104, 111, 115, 116, 115]) = false := by rw [sB_toList, beq_eq_false_iff_ne]; exact h0
 by_cases h1 : x = C.wVnis
 ·have q1 : ((sB x).toList == [118, 110, 105, 115]) = true := by rw [sB_toList, beq_iff_eq]; exact h1
  have HE := Lib.hid (show C.needsW x = C.needsW C.wVnis from by rw [h1])
  clear h0 h1
  go_enter Tryz.func64, Tryz.ntmps64
  go_wp2
  go_ret
  rw [HE.out]
  exact ⟨some ⟨w.heap.size, 0, none⟩, 1, rfl, by decide, lit_seen eS w [C.wSubnet] _ rfl (by decide), (fun a h => by injection h with h; rw [← h]; exact Nat.le_refl _), up w _⟩
 have q1 : ((sB x).toList == [118, 110, 105, 115]) = false := by rw [sB_toList, beq_eq_false_iff_ne]; exact h1
 by_cases h2 : x = C.wBindings
 ·have q2 : ((sB x).toList == [98, 105, 110, 100, 105, 110, 103, 115]) = true := by rw [sB_toList, beq_iff_eq]; exact h2
  have HE := Lib.hid (show C.needsW x = C.needsW C.wBindings from by rw [h2])
  clear h0 h1 h2
  go_enter Tryz.func64, Tryz.ntmps64
  go_wp2
  go_ret
  rw [HE.out]
  exact ⟨some ⟨w.heap.size, 0, none⟩, 3, rfl, by decide, lit_seen eS w [C.wHost, C.wMac, C.wVni] _ rfl (by decide), (fun a h => by injection h with h; rw [← h]; exact Nat.le_refl _), up w _⟩
 have q2 : ((sB x).toList == [98, 105, 110, 100, 105, 110, 103, 115]) = false := by rw [sB_toList, beq_eq_false_iff_ne]; exact h2
 by_cases h3 : x = C.wRoutes
 ·have q3 : ((sB x).toList == [114, 111, 117, 116, 101, 115]) = true := by rw [sB_toList, beq_iff_eq]; exact h3
  have HE := Lib.hid (show C.needsW x = C.needsW C.wRoutes from by rw [h3])
  clear h0 h1 h2 h3
  go_enter Tryz.func64, Tryz.ntmps64
  go_wp2
  go_ret
  rw [HE.out]
  exact ⟨some ⟨w.heap.size, 0, none⟩, 1, rfl, by decide, lit_seen eS w [C.wVia] _ rfl (by decide), (fun a h => by injection h with h; rw [← h]; exact Nat.le_refl _), up w _⟩
 have q3 : ((sB x).toList == [114, 111, 117, 116, 101, 115]) = false := by rw [sB_toList, beq_eq_false_iff_ne]; exact h3
 by_cases h4 : x = C.wPolicy
 ·have q4 : ((sB x).toList == [112, 111, 108, 105, 99, 121]) = true := by rw [sB_toList, beq_iff_eq]; exact h4
  have HE := Lib.hid (show C.needsW x = C.needsW C.wPolicy from by rw [h4])
  clear h0 h1 h2 h3 h4
  go_enter Tryz.func64, Tryz.ntmps64
  go_wp2
  go_ret
  rw [HE.out]
  exact ⟨some ⟨w.heap.size, 0, none⟩, 1, rfl, by decide, lit_seen eS w [C.wAction] _ rfl (by decide), (fun a h => by injection h with h; rw [← h]; exact Nat.le_refl _), up w _⟩
 have q4 : ((sB x).toList == [112, 111, 108, 105, 99, 121]) = false := by rw [sB_toList, beq_eq_false_iff_ne]; exact h4
 have HE := Lib.hid (show C.needsW x = [] from by unfold C.needsW; rw [if_neg h0, if_neg h1, if_neg h2, if_neg h3, if_neg h4])
 clear h0 h1 h2 h3 h4
 go_enter Tryz.func64, Tryz.ntmps64
 go_wp2
 go_ret
 exact ⟨none, 0, by rw [HE.out]; rfl, by rw [HE.out]; exact Nat.le_refl _, by rw [HE.out]; exact Seen.nil, (fun a h => by cases h), Below.refl _ _⟩
theorem sB_join13 (a b : List UInt8) : sB (a ++ b) = sB a ++ sB b := by
 apply ByteArray.ext
 unfold sB
 rw [ByteArray.data_append]
 simp
set_option maxRecDepth 100000 in
set_option maxHeartbeats 8000000 in
theorem thirdR (x y z : List UInt8) (k : List UInt8) (one need : Bool) (w : World) (hx : x.length ≤ 1073741824) (hy : y.length ≤ 1073741824) (hz : C.key x y = z) (hk : C.thirdK z = (k, one, need)) : Calls Tryz.prog 63 #[.string (sB x), .string (sB y)] w (fun e w' => e = .returned (.tuple #[.string (sB k), .bool one, .bool need]) ∧ w = w') := by
 have a1 : Sem.run Tryz.prog (Op.stringOp .add (sB x) (⟨#[32]⟩ : ByteArray)) w = .ok (.string (sB (x ++ [32]))) w := by
  rw [sB_join13]
  exact run_string_add_sum (P := Tryz.prog) (w := w) (sB x) (sB [32]) (by rw [sB_size, sB_size, List.length_singleton]; omega)
 have a2 : Sem.run Tryz.prog (Op.stringOp .add (sB (x ++ [32])) (sB y)) w = .ok (.string (sB z)) w := by
  rw [← hz, show C.key x y = (x ++ [32]) ++ y by unfold C.key; simp, sB_join13 (x ++ [32]) y]
  exact run_string_add_sum (P := Tryz.prog) (w := w) (sB (x ++ [32])) (sB y) (by rw [sB_size, sB_size, List.length_append, List.length_singleton]; omega)
 clear hz hx hy
 by_cases h0 : z = C.key C.wHosts C.wIp
 ·have q0 : ((sB z).toList == [104, 111, 115, 116, 115, 32, 105, 112]) = true := by rw [sB_toList, beq_iff_eq]; exact h0
  have HE := Lib.hid (show C.thirdK z = (C.kIp, true, true) from by rw [h0]; rfl)
  clear h0
  have HK := Lib.hid hk
  clear hk
  go_enter Tryz.func63, Tryz.ntmps63
  go_wp2
  go_ret3
  have hk := HK.out
  rw [HE.out] at hk
  injection hk with e1 e2
  injection e2 with e2 e3
  subst e1; subst e2; subst e3
  exact ⟨rfl, rfl⟩
 have q0 : ((sB z).toList == [104, 111, 115, 116, 115, 32, 105, 112]) = false := by rw [sB_toList, beq_eq_false_iff_ne]; exact h0
 by_cases h1 : z = C.key C.wHosts C.wMac
 ·have q1 : ((sB z).toList == [104, 111, 115, 116, 115, 32, 109, 97, 99]) = true := by rw [sB_toList, beq_iff_eq]; exact h1
  have HE := Lib.hid (show C.thirdK z = (C.kMac, true, false) from by rw [h1]; rfl)
  clear h0 h1
  have HK := Lib.hid hk
  clear hk
  go_enter Tryz.func63, Tryz.ntmps63
  go_wp2
  go_ret3
  have hk := HK.out
  rw [HE.out] at hk
  injection hk with e1 e2
  injection e2 with e2 e3
  subst e1; subst e2; subst e3
  exact ⟨rfl, rfl⟩
 have q1 : ((sB z).toList == [104, 111, 115, 116, 115, 32, 109, 97, 99]) = false := by rw [sB_toList, beq_eq_false_iff_ne]; exact h1
 by_cases h2 : z = C.key C.wHosts C.wVnis
 ·have q2 : ((sB z).toList == [104, 111, 115, 116, 115, 32, 118, 110, 105, 115]) = true := by rw [sB_toList, beq_iff_eq]; exact h2
  have HE := Lib.hid (show C.thirdK z = (C.kVni, false, false) from by rw [h2]; rfl)
  clear h0 h1 h2
  have HK := Lib.hid hk
  clear hk
  go_enter Tryz.func63, Tryz.ntmps63
  go_wp2
  go_ret3
  have hk := HK.out
  rw [HE.out] at hk
  injection hk with e1 e2
  injection e2 with e2 e3
  subst e1; subst e2; subst e3
  exact ⟨rfl, rfl⟩
 have q2 : ((sB z).toList == [104, 111, 115, 116, 115, 32, 118, 110, 105, 115]) = false := by rw [sB_toList, beq_eq_false_iff_ne]; exact h2
 by_cases h3 : z = C.key C.wVnis C.wSubnet
 ·have q3 : ((sB z).toList == [118, 110, 105, 115, 32, 115, 117, 98, 110, 101, 116]) = true := by rw [sB_toList, beq_iff_eq]; exact h3
  have HE := Lib.hid (show C.thirdK z = (C.kPrefix, true, true) from by rw [h3]; rfl)
  clear h0 h1 h2 h3
  have HK := Lib.hid hk
  clear hk
  go_enter Tryz.func63, Tryz.ntmps63
  go_wp2
  go_ret3
  have hk := HK.out
  rw [HE.out] at hk
  injection hk with e1 e2
  injection e2 with e2 e3
  subst e1; subst e2; subst e3
  exact ⟨rfl, rfl⟩
 have q3 : ((sB z).toList == [118, 110, 105, 115, 32, 115, 117, 98, 110, 101, 116]) = false := by rw [sB_toList, beq_eq_false_iff_ne]; exact h3
 by_cases h4 : z = C.key C.wBindings C.wHost
 ·have q4 : ((sB z).toList == [98, 105, 110, 100, 105, 110, 103, 115, 32, 104, 111, 115, 116]) = true := by rw [sB_toList, beq_iff_eq]; exact h4
  have HE := Lib.hid (show C.thirdK z = (C.kName, true, true) from by rw [h4]; rfl)
  clear h0 h1 h2 h3 h4
  have HK := Lib.hid hk
  clear hk
  go_enter Tryz.func63, Tryz.ntmps63
  go_wp2
  go_ret3
  have hk := HK.out
  rw [HE.out] at hk
  injection hk with e1 e2
  injection e2 with e2 e3
  subst e1; subst e2; subst e3
  exact ⟨rfl, rfl⟩
 have q4 : ((sB z).toList == [98, 105, 110, 100, 105, 110, 103, 115, 32, 104, 111, 115, 116]) = false := by rw [sB_toList, beq_eq_false_iff_ne]; exact h4
 by_cases h5 : z = C.key C.wRoutes C.wVia
 ·have q5 : ((sB z).toList == [114, 111, 117, 116, 101, 115, 32, 118, 105, 97]) = true := by rw [sB_toList, beq_iff_eq]; exact h5
  have HE := Lib.hid (show C.thirdK z = (C.kName, true, true) from by rw [h5]; rfl)
  clear h0 h1 h2 h3 h4 h5
  have HK := Lib.hid hk
  clear hk
  go_enter Tryz.func63, Tryz.ntmps63
  go_wp2
  go_ret3
  have hk := HK.out
  rw [HE.out] at hk
  injection hk with e1 e2
  injection e2 with e2 e3
  subst e1; subst e2; subst e3
  exact ⟨rfl, rfl⟩
 have q5 : ((sB z).toList == [114, 111, 117, 116, 101, 115, 32, 118, 105, 97]) = false := by rw [sB_toList, beq_eq_false_iff_ne]; exact h5
 by_cases h6 : z = C.key C.wBindings C.wMac
 ·have q6 : ((sB z).toList == [98, 105, 110, 100, 105, 110, 103, 115, 32, 109, 97, 99]) = true := by rw [sB_toList, beq_iff_eq]; exact h6
  have HE := Lib.hid (show C.thirdK z = (C.kMac, true, true) from by rw [h6]; rfl)
  clear h0 h1 h2 h3 h4 h5 h6
  have HK := Lib.hid hk
  clear hk
  go_enter Tryz.func63, Tryz.ntmps63
  go_wp2
  go_ret3
  have hk := HK.out
  rw [HE.out] at hk
  injection hk with e1 e2
  injection e2 with e2 e3
  subst e1; subst e2; subst e3
  exact ⟨rfl, rfl⟩
 have q6 : ((sB z).toList == [98, 105, 110, 100, 105, 110, 103, 115, 32, 109, 97, 99]) = false := by rw [sB_toList, beq_eq_false_iff_ne]; exact h6
 by_cases h7 : z = C.key C.wBindings C.wVni
 ·have q7 : ((sB z).toList == [98, 105, 110, 100, 105, 110, 103, 115, 32, 118, 110, 105]) = true := by rw [sB_toList, beq_iff_eq]; exact h7
  have HE := Lib.hid (show C.thirdK z = (C.kVni, true, true) from by rw [h7]; rfl)
  clear h0 h1 h2 h3 h4 h5 h6 h7
  have HK := Lib.hid hk
  clear hk
  go_enter Tryz.func63, Tryz.ntmps63
  go_wp2
  go_ret3
  have hk := HK.out
  rw [HE.out] at hk
  injection hk with e1 e2
  injection e2 with e2 e3
  subst e1; subst e2; subst e3
  exact ⟨rfl, rfl⟩
 have q7 : ((sB z).toList == [98, 105, 110, 100, 105, 110, 103, 115, 32, 118, 110, 105]) = false := by rw [sB_toList, beq_eq_false_iff_ne]; exact h7
 by_cases h8 : z = C.key C.wRoutes C.wMetric
 ·have q8 : ((sB z).toList == [114, 111, 117, 116, 101, 115, 32, 109, 101, 116, 114, 105, 99]) = true := by rw [sB_toList, beq_iff_eq]; exact h8
  have HE := Lib.hid (show C.thirdK z = (C.kMetric, true, false) from by rw [h8]; rfl)
  clear h0 h1 h2 h3 h4 h5 h6 h7 h8
  have HK := Lib.hid hk
  clear hk
  go_enter Tryz.func63, Tryz.ntmps63
  go_wp2
  go_ret3
  have hk := HK.out
  rw [HE.out] at hk
  injection hk with e1 e2
  injection e2 with e2 e3
  subst e1; subst e2; subst e3
  exact ⟨rfl, rfl⟩
 have q8 : ((sB z).toList == [114, 111, 117, 116, 101, 115, 32, 109, 101, 116, 114, 105, 99]) = false := by rw [sB_toList, beq_eq_false_iff_ne]; exact h8
 by_cases h9 : z = C.key C.wPolicy C.wAction
 ·have q9 : ((sB z).toList == [112, 111, 108, 105, 99, 121, 32, 97, 99, 116, 105, 111, 110]) = true := by rw [sB_toList, beq_iff_eq]; exact h9
  have HE := Lib.hid (show C.thirdK z = (C.kAction, true, true) from by rw [h9]; rfl)
  clear h0 h1 h2 h3 h4 h5 h6 h7 h8 h9
  have HK := Lib.hid hk
  clear hk
  go_enter Tryz.func63, Tryz.ntmps63
  go_wp2
  go_ret3
  have hk := HK.out
  rw [HE.out] at hk
  injection hk with e1 e2
  injection e2 with e2 e3
  subst e1; subst e2; subst e3
  exact ⟨rfl, rfl⟩
 have q9 : ((sB z).toList == [112, 111, 108, 105, 99, 121, 32, 97, 99, 116, 105, 111, 110]) = false := by rw [sB_toList, beq_eq_false_iff_ne]; exact h9
 by_cases h10 : z = C.key C.wPolicy C.wFrom
 ·have q10 : ((sB z).toList == [112, 111, 108, 105, 99, 121, 32, 102, 114, 111, 109]) = true := by rw [sB_toList, beq_iff_eq]; exact h10
  have HE := Lib.hid (show C.thirdK z = (C.kPrefix, true, false) from by rw [h10]; rfl)
  clear h0 h1 h2 h3 h4 h5 h6 h7 h8 h9 h10
  have HK := Lib.hid hk
  clear hk
  go_enter Tryz.func63, Tryz.ntmps63
  go_wp2
  go_ret3
  have hk := HK.out
  rw [HE.out] at hk
  injection hk with e1 e2
  injection e2 with e2 e3
  subst e1; subst e2; subst e3
  exact ⟨rfl, rfl⟩
 have q10 : ((sB z).toList == [112, 111, 108, 105, 99, 121, 32, 102, 114, 111, 109]) = false := by rw [sB_toList, beq_eq_false_iff_ne]; exact h10
 by_cases h11 : z = C.key C.wPolicy C.wTo
 ·have q11 : ((sB z).toList == [112, 111, 108, 105, 99, 121, 32, 116, 111]) = true := by rw [sB_toList, beq_iff_eq]; exact h11
  have HE := Lib.hid (show C.thirdK z = (C.kPrefix, true, false) from by rw [h11]; rfl)
  clear h0 h1 h2 h3 h4 h5 h6 h7 h8 h9 h10 h11
  have HK := Lib.hid hk
  clear hk
  go_enter Tryz.func63, Tryz.ntmps63
  go_wp2
  go_ret3
  have hk := HK.out
  rw [HE.out] at hk
  injection hk with e1 e2
  injection e2 with e2 e3
  subst e1; subst e2; subst e3
  exact ⟨rfl, rfl⟩
 have q11 : ((sB z).toList == [112, 111, 108, 105, 99, 121, 32, 116, 111]) = false := by rw [sB_toList, beq_eq_false_iff_ne]; exact h11
 have HE := Lib.hid (show C.thirdK z = ([], false, false) from by unfold C.thirdK; rw [if_neg h0, if_neg h1, if_neg h2, if_neg h3, if_neg (fun h => h.elim h4 h5), if_neg h6, if_neg h7, if_neg h8, if_neg h9, if_neg (fun h => h.elim h10 h11)])
 clear h0 h1 h2 h3 h4 h5 h6 h7 h8 h9 h10 h11
 have HK := Lib.hid hk
 clear hk
 go_enter Tryz.func63, Tryz.ntmps63
 go_wp2
 go_ret3
 have hk := HK.out
 rw [HE.out] at hk
 injection hk with e1 e2
 injection e2 with e2 e3
 subst e1; subst e2; subst e3
 exact ⟨rfl, rfl⟩
theorem split_mem {c : UInt8} {s : List UInt8} {x : List UInt8} (h : x ∈ N.splitL c s) : x.length ≤ s.length := by
 induction s generalizing x with
 | nil =>
  have e : x = [] := List.mem_singleton.1 h
  subst e; exact Nat.le_refl _
 | cons y r ih =>
  rw [N.split_cons] at h
  by_cases hy : y = c
  ·rw [if_pos hy] at h
   rcases List.mem_cons.1 h with rfl | h
   ·exact Nat.zero_le _
   ·have := ih h; rw [List.length_cons]; omega
  ·rw [if_neg hy] at h
   cases e : N.splitL c r with
   | nil => exact absurd e (N.split_ne c r)
   | cons z zs =>
    rw [e] at h ih
    rcases List.mem_cons.1 h with rfl | h
    ·have := ih (List.mem_cons_self ..); rw [List.length_cons, List.length_cons]; omega
    ·have := ih (List.mem_cons_of_mem _ h); rw [List.length_cons]; omega
set_option maxRecDepth 100000 in
set_option maxHeartbeats 2000000 in
theorem ipR (s : ByteArray) (w : World) (hs : s.size ≤ 1073741824) : Calls Tryz.prog 136 #[.string s] w (fun e w' => e = .returned (.int .i64 (N.ipL s.data.toList)) ∧ Below w.heap.size w w') := by
 obtain ⟨L, hL⟩ : ∃ L, N.splitL 46 s.data.toList = L := ⟨_, rfl⟩
 obtain ⟨r, hr⟩ : ∃ r, N.ipL s.data.toList = r := ⟨_, rfl⟩
 obtain ⟨m, hm⟩ : ∃ m, L.length = m := ⟨_, rfl⟩
 have hparts := partsR s 46 w hs
 rw [hL] at hparts
 rw [hr]
 have HEA := Lib.hid (show ∀ x ∈ L, x.length ≤ 1073741824 from fun x hx => by
  have h := split_mem (c := 46) (hL ▸ hx)
  have h2 : s.data.toList.length = s.size := by simp
  omega)
 have HL := Lib.hid hL
 have HR := Lib.hid hr
 have HM := Lib.hid hm
 clear hL hr
 by_cases h4 : m = 4
 ·have b4 : ((m : Int) != 4) = false := by simp; omega
  have H4 := Lib.hid h4
  clear h4 hm
  go_enter Tryz.func136, Tryz.ntmps136
  go_wp2_with fail
  refine hparts.mono ?_
  rintro e w1 ⟨v1, rfl, hown, hx⟩
  obtain ⟨A1, c1, e1, hc1, hs1⟩ := hown.seen
  rw [HM.out] at e1 hc1
  subst e1
  obtain ⟨b, o, rfl, hb, hH⟩ := hs1 (by rw [HM.out, H4.out]; omega)
  have HH := Lib.hid hH
  clear hown hs1 hH hparts
  go_wp2
  go_loopg [4, 5] 4 (fun gk vn vi wr => ∃ k v : Nat, Hid (k + gk = 4) ∧ k ≤ 4 ∧ vi = .int .i64 (k : Int) ∧ vn = .int .i64 (v : Int) ∧ Hid (N.accL N.octL (L.take k) = v) ∧ Hid (∀ x ∈ L.take k, 0 ≤ N.octL x) ∧ w1 = wr)
  case atStart => exact ⟨0, 0, Nat.zero_add _, Nat.zero_le _, rfl, rfl, rfl, (fun x hx => by simp at hx), rfl⟩
  case round =>
   obtain ⟨k, v, HG, hk, rfl, rfl, HV, HD, rfl⟩ := hrel
   by_cases hlt : k < 4
   ·have blt : decide ((k : Int) < 4) = true := decide_eq_true (by omega)
    have blt2 : decide (k < 4) = true := decide_eq_true hlt
    have hkL : k < L.length := by rw [HM.out, H4.out]; exact hlt
    have hki : (k : Int) < (m : Int) := by have := H4.out; omega
    have z0 := HH.out.str hkL
    have hsn := List.take_succ_eq_append_getElem hkL
    obtain ⟨x, hx⟩ : ∃ x, L[k] = x := ⟨_, rfl⟩
    have hmem : x ∈ L := hx ▸ List.getElem_mem hkL
    rw [hx] at z0 hsn
    obtain ⟨z, hz⟩ : ∃ z, N.numL x = z := ⟨_, rfl⟩
    have hzr := N.num_ge x
    rw [hz] at hzr
    have hv : v < 4294967296 := by
     have h5 := (N.acc_range N.octL (fun x => (N.oct_range x).2) 4 (L.take k) (by rw [List.length_take]; omega) HD.out).2
     rw [HV.out] at h5
     omega
    have hgk := HG.out
    have HSN := Lib.hid hsn
    have HZ := Lib.hid hz
    have HXM := Lib.hid hmem
    clear hx hsn hz hmem
    go_wp2_with fail
    refine (numQ x z _ (HEA.out x HXM.out) HZ.out).mono ?_
    rintro e w2 ⟨rfl, rfl⟩
    by_cases hlo : z < 0
    ·have c1 : decide (z < 0) = true := decide_eq_true hlo
     have HE := Lib.hid (show r = -1 by rw [← HR.out]; exact N.ip_bad HL.out HXM.out (by unfold N.octL; rw [HZ.out, if_pos (.inl hlo)]; omega))
     clear hlo
     go_wp2
     go_ret
     exact ⟨by rw [HE.out]; rfl, hx⟩
    ·have c1 : decide (z < 0) = false := decide_eq_false hlo
     by_cases hhi : 255 < z
     ·have c2 : decide (255 < z) = true := decide_eq_true hhi
      have HE := Lib.hid (show r = -1 by rw [← HR.out]; exact N.ip_bad HL.out HXM.out (by unfold N.octL; rw [HZ.out, if_pos (.inr hhi)]; omega))
      clear hlo hhi
      go_wp2
      go_ret
      exact ⟨by rw [HE.out]; rfl, hx⟩
     ·have c2 : decide (255 < z) = false := decide_eq_false hhi
      obtain ⟨zn, rfl⟩ := Int.eq_ofNat_of_zero_le (show 0 ≤ z by omega)
      have hoct : N.octL x = (zn : Int) := by unfold N.octL; rw [HZ.out, if_neg (by omega)]
      have HV2 := Lib.hid (show N.accL N.octL (L.take (k + 1)) = ((256 * v + zn : Nat) : Int) by rw [HSN.out, N.acc_snoc, HV.out, hoct]; omega)
      have HD2 := Lib.hid (show ∀ y ∈ L.take (k + 1), 0 ≤ N.octL y from fun y hy => by
       rw [HSN.out] at hy
       rcases List.mem_append.1 hy with hy | hy
       ·exact HD.out y hy
       ·rw [List.mem_singleton.1 hy, hoct]; omega)
      clear hlo hhi hoct
      go_wp2
      go_roundg (4 - (k + 1))
      case rel => exact ⟨k + 1, 256 * v + zn, (by show _ = _; omega), by omega, by go_num, by go_num, HV2, HD2, rfl⟩
      case measure => omega
   ·have blt : decide ((k : Int) < 4) = false := decide_eq_false (by omega)
    have blt2 : decide (k < 4) = false := decide_eq_false hlt
    have HE := Lib.hid (show r = (v : Int) by
     have htk : L.take k = L := List.take_of_length_le (by rw [HM.out, H4.out]; omega)
     have h5 := HV.out
     have h6 := HD.out
     rw [htk] at h5 h6
     rw [← HR.out, N.ip_good HL.out (HM.out.trans H4.out) h6, h5])
    go_wp2
    go_ret
    exact ⟨by rw [HE.out]; rfl, hx⟩
 ·have b4 : ((m : Int) != 4) = true := by simp; omega
  have HE := Lib.hid (show r = -1 by rw [← HR.out]; exact N.ip_len HL.out (by rw [hm]; exact h4))
  clear h4 hm
  go_enter Tryz.func136, Tryz.ntmps136
  go_wp2_with fail
  refine hparts.mono ?_
  rintro e w1 ⟨v1, rfl, hown, hx⟩
  obtain ⟨A1, c1, e1, hc1, hs1⟩ := hown.seen
  rw [HM.out] at e1 hc1
  subst e1
  clear hown hs1 hparts
  go_wp2
  go_ret
  exact ⟨by rw [HE.out]; rfl, hx⟩
set_option maxRecDepth 100000 in
theorem powR (n : Nat) (w : World) (hn : n ≤ 60) : Calls Tryz.prog 168 #[.int .i64 (n : Int)] w (fun e w' => e = .returned (.int .i64 ((2 ^ n : Nat) : Int)) ∧ w = w') := by
 go_enter Tryz.func168, Tryz.ntmps168
 go_wp2
 go_loopg [3, 4] n (fun gk vo vi wr => ∃ k v : Nat, Hid (k + gk = n) ∧ k ≤ n ∧ vi = .int .i64 (k : Int) ∧ vo = .int .i64 (v : Int) ∧ Hid (2 ^ k = v) ∧ w = wr)
 case atStart => exact ⟨0, 1, Nat.zero_add _, Nat.zero_le _, rfl, rfl, rfl, rfl⟩
 case round =>
  obtain ⟨k, v, HG, hk, rfl, rfl, HV, rfl⟩ := hrel
  by_cases hlt : k < n
  ·have blt : decide ((k : Int) < (n : Int)) = true := decide_eq_true (by omega)
   have blt2 : decide (k < n) = true := decide_eq_true hlt
   have hv : v ≤ 1152921504606846976 := by
    rw [← HV.out]
    exact Nat.le_trans (Nat.pow_le_pow_right (by omega) (show k ≤ 60 by omega)) (by decide)
   have HV2 := Lib.hid (show 2 ^ (k + 1) = 2 * v by rw [Nat.pow_succ, HV.out]; omega)
   have hgk := HG.out
   go_wp2
   go_roundg (n - (k + 1))
   case rel => exact ⟨k + 1, 2 * v, (by show _ = _; omega), by omega, by go_num, by go_num, HV2, rfl⟩
   case measure => omega
  ·have blt : decide ((k : Int) < (n : Int)) = false := decide_eq_false (by omega)
   have blt2 : decide (k < n) = false := decide_eq_false hlt
   obtain rfl : n = k := by omega
   go_wp2
   go_ret
   exact ⟨by rw [HV.out]; rfl, rfl⟩
theorem powQ (n : Int) (k p : Nat) (w : World) (hn : n = (k : Int)) (hk : k ≤ 60) (hp : 2 ^ k = p) : Calls Tryz.prog 168 #[.int .i64 n] w (fun e w' => e = .returned (.int .i64 (p : Int)) ∧ w = w') := by
 subst hn; subst hp; exact powR k w hk
set_option maxRecDepth 100000 in
set_option maxHeartbeats 1000000 in
theorem rightR10 (n bits : Int) (w : World) : Calls Tryz.prog 166 #[.int .i64 n, .int .i64 bits] w (fun e w' => e = .returned (.bool (N.rightB n bits)) ∧ w = w') := by
 by_cases h1 : 0 ≤ n
 ·have b1 : decide (0 ≤ n) = true := decide_eq_true h1
  by_cases h2 : n < 4294967296
  ·have b2 : decide (n < 4294967296) = true := decide_eq_true h2
   by_cases h3 : 0 ≤ bits
   ·have b3 : decide (0 ≤ bits) = true := decide_eq_true h3
    by_cases h4 : bits ≤ 32
    ·have b4 : decide (bits ≤ 32) = true := decide_eq_true h4
     obtain ⟨nn, rfl⟩ := Int.eq_ofNat_of_zero_le h1
     obtain ⟨k, hk⟩ : ∃ k : Nat, (32 - bits).toNat = k := ⟨_, rfl⟩
     have hk2 : 32 - bits = (k : Int) := by omega
     obtain ⟨p, hp⟩ : ∃ p, 2 ^ k = p := ⟨_, rfl⟩
     have hpp : 0 < p := by rw [← hp]; exact N.pow_pos2 k
     have hpb : p ≤ 4294967296 := by rw [← hp]; exact Nat.le_trans (Nat.pow_le_pow_right (by omega) (show k ≤ 32 by omega)) (by decide)
     obtain ⟨r, hr⟩ : ∃ r, N.rightB (nn : Int) bits = r := ⟨_, rfl⟩
     have hr2 : r = decide (nn % p = 0) := by
      rw [← hr]
      unfold N.rightB
      rw [b1, b2, b3, b4, hk, hp]
      show decide ((nn : Int) % (p : Int) = 0) = _
      exact decide_eq_decide.2 (by rw [← Int.natCast_emod]; omega)
     rw [hr]
     have hpow := powQ (32 - bits) k p w hk2 (by omega) hp
     have bp : ((p : Int) == 0) = false := beq_eq_false_iff_ne.2 (by omega)
     have bp2 : (p == 0) = false := beq_eq_false_iff_ne.2 (by omega)
     have hmod : Int.tmod (nn : Int) (p : Int) = ((nn % p : Nat) : Int) := by rw [Int.tmod_eq_emod_of_nonneg (by omega), Int.natCast_emod]
     obtain ⟨q, hq⟩ : ∃ q, nn % p = q := ⟨_, rfl⟩
     rw [hq] at hmod hr2
     have hqp : q < p := by rw [← hq]; exact Nat.mod_lt _ hpp
     have HR := Lib.hid hr2
     clear hr2 hr hk hk2 hp hq
     cases hz : (q == 0) with
     | true =>
      have hz2 : ((q : Int) == 0) = true := by simp at hz ⊢; omega
      have HE := Lib.hid (show r = true by rw [HR.out]; simpa using hz)
      clear hz
      go_enter Tryz.func166, Tryz.ntmps166
      go_wp2_with fail
      refine hpow.mono ?_
      rintro e w1 ⟨rfl, rfl⟩
      go_wp2
      go_ret
      exact ⟨by rw [HE.out]; rfl, rfl⟩
     | false =>
      have hz2 : ((q : Int) == 0) = false := by simp at hz ⊢; omega
      have HE := Lib.hid (show r = false by rw [HR.out]; simpa using hz)
      clear hz
      go_enter Tryz.func166, Tryz.ntmps166
      go_wp2_with fail
      refine hpow.mono ?_
      rintro e w1 ⟨rfl, rfl⟩
      go_wp2
      go_ret
      exact ⟨by rw [HE.out]; rfl, rfl⟩
    ·have b4 : decide (bits ≤ 32) = false := decide_eq_false h4
     have HE := Lib.hid (show N.rightB n bits = false by unfold N.rightB; rw [b4, Bool.and_false, Bool.false_and])
     clear h1 h2 h3 h4
     go_enter Tryz.func166, Tryz.ntmps166
     go_wp2
     go_ret
     exact ⟨by rw [HE.out]; rfl, rfl⟩
   ·have b3 : decide (0 ≤ bits) = false := decide_eq_false h3
    have HE := Lib.hid (show N.rightB n bits = false by unfold N.rightB; rw [b3, Bool.and_false, Bool.false_and, Bool.false_and])
    clear h1 h2 h3
    go_enter Tryz.func166, Tryz.ntmps166
    go_wp2
    go_ret
    exact ⟨by rw [HE.out]; rfl, rfl⟩
  ·have b2 : decide (n < 4294967296) = false := decide_eq_false h2
   have HE := Lib.hid (show N.rightB n bits = false by unfold N.rightB; rw [b2, Bool.and_false, Bool.false_and, Bool.false_and, Bool.false_and])
   clear h1 h2
   go_enter Tryz.func166, Tryz.ntmps166
   go_wp2
   go_ret
   exact ⟨by rw [HE.out]; rfl, rfl⟩
 ·have b1 : decide (0 ≤ n) = false := decide_eq_false h1
  have HE := Lib.hid (show N.rightB n bits = false by unfold N.rightB; rw [b1, Bool.false_and, Bool.false_and, Bool.false_and, Bool.false_and])
  clear h1
  go_enter Tryz.func166, Tryz.ntmps166
  go_wp2
  go_ret
  exact ⟨by rw [HE.out]; rfl, rfl⟩
theorem valueR10 (c : UInt8) (w : World) : Calls Tryz.prog 167 #[.int .u8 c.toNat] w (fun e w' => e = .returned (.int .i64 (N.hexV c)) ∧ w = w') := by
 have hlt := c.toNat_lt
 go_enter Tryz.func167, Tryz.ntmps167
 go_wp2
 all_goals go_ret
 all_goals
  refine ⟨congrArg (fun z => Ending.returned (.int .i64 z)) ?_, rfl⟩
  unfold N.hexV
  first | rw [if_pos (by omega)] | (rw [if_neg (by omega), if_pos (by omega)]; omega) | (rw [if_neg (by omega), if_neg (by omega)])
theorem calls_sym {P : Program} {f : FuncId} {args : Array Value} {w : World} {v : Value} (h : Calls P f args w fun e w' => e = .returned v ∧ w = w') : Calls P f args w fun e w' => e = .returned v ∧ w' = w := h.mono fun _ _ ⟨a, b⟩ => ⟨a, b.symm⟩
theorem below_drawn10 {B : Nat} {a w : World} (h : Below B a w) (q : Nat) : Below B a (w.drewN q) := ⟨h.os, h.tape, h.output, h.size, h.block⟩
theorem rightQ10 (n bits : Int) (r : Bool) (w : World) (h : N.rightB n bits = r) : Calls Tryz.prog 166 #[.int .i64 n, .int .i64 bits] w (fun e w' => e = .returned (.bool r) ∧ w = w') := by subst h; exact rightR10 n bits w
theorem right_nums {n bits : Int} (h : N.rightB n bits = true) : 0 ≤ n ∧ n < 4294967296 ∧ 0 ≤ bits ∧ bits ≤ 32 := by
 unfold N.rightB at h
 simp only [Bool.and_eq_true, decide_eq_true_eq] at h
 exact ⟨h.1.1.1.1, h.1.1.1.2, h.1.1.2, h.1.2⟩
set_option maxRecDepth 100000 in
set_option maxHeartbeats 2000000 in
theorem inR10 (n bits ip : Int) (w : World) : Calls Tryz.prog 140 #[.int .i64 n, .int .i64 bits, .int .i64 ip] w (fun e w' => e = .returned (.bool (N.inB n bits ip)) ∧ Below w.heap.size w w') := by
 obtain ⟨r, hr⟩ : ∃ r, N.rightB n bits = r := ⟨_, rfl⟩
 have HRI := Lib.hid hr
 cases r with
 | false =>
  have HE := Lib.hid (show N.inB n bits ip = false by unfold N.inB; rw [hr]; rfl)
  clear hr
  go_enter Tryz.func140, Tryz.ntmps140
  go_wp2
  go_quiet (first | (go_at_call 166; exact Calls.quiet_of_same (calls_sym (rightQ10 _ _ _ _ HRI.out))) | (go_at_call 168; exact Calls.quiet_of_same (calls_sym (powQ _ 0 1 _ rfl (by omega) rfl))))
  go_wp2
  go_ret
  exact ⟨by rw [HE.out]; rfl, (below_drawn10 (Below.refl _ _) _)⟩
 | true =>
  obtain ⟨g1, g2, g3, g4⟩ := right_nums hr
  by_cases h1 : 0 ≤ ip
  ·have b1 : decide (0 ≤ ip) = true := decide_eq_true h1
   by_cases h2 : ip < 4294967296
   ·have b2 : decide (ip < 4294967296) = true := decide_eq_true h2
    obtain ⟨nn, rfl⟩ := Int.eq_ofNat_of_zero_le g1
    obtain ⟨ii, rfl⟩ := Int.eq_ofNat_of_zero_le h1
    obtain ⟨k, hk⟩ : ∃ k : Nat, (32 - bits).toNat = k := ⟨_, rfl⟩
    have hk2 : 32 - bits = (k : Int) := by omega
    obtain ⟨p, hp⟩ : ∃ p, 2 ^ k = p := ⟨_, rfl⟩
    have hpp : 0 < p := by rw [← hp]; exact N.pow_pos2 k
    have hpb : p ≤ 4294967296 := by rw [← hp]; exact Nat.le_trans (Nat.pow_le_pow_right (by omega) (show k ≤ 32 by omega)) (by decide)
    have bp : ((p : Int) == 0) = false := beq_eq_false_iff_ne.2 (by omega)
    have bp2 : (p == 0) = false := beq_eq_false_iff_ne.2 (by omega)
    obtain ⟨qi, hqi⟩ : ∃ q, ii / p = q := ⟨_, rfl⟩
    obtain ⟨qn, hqn⟩ : ∃ q, nn / p = q := ⟨_, rfl⟩
    have d1 : Int.tdiv (ii : Int) (p : Int) = (qi : Int) := by rw [Int.tdiv_eq_ediv_of_nonneg (by omega), ← hqi, Int.natCast_ediv]
    have d2 : Int.tdiv (nn : Int) (p : Int) = (qn : Int) := by rw [Int.tdiv_eq_ediv_of_nonneg (by omega), ← hqn, Int.natCast_ediv]
    have l1 : qi < 4294967296 := by rw [← hqi]; exact Nat.lt_of_le_of_lt (Nat.div_le_self _ _) (by omega)
    have l2 : qn < 4294967296 := by rw [← hqn]; exact Nat.lt_of_le_of_lt (Nat.div_le_self _ _) (by omega)
    have hK := Lib.hid (show ∀ w, Calls Tryz.prog 168 #[.int .i64 (k : Int)] w (fun e w' => e = .returned (.int .i64 (p : Int)) ∧ w = w') from fun w => powQ _ k p w rfl (by omega) hp)
    obtain ⟨rr, hrr⟩ : ∃ rr, N.inB (nn : Int) bits (ii : Int) = rr := ⟨_, rfl⟩
    have hr2 : rr = (qi == qn) := by
     rw [← hrr]
     unfold N.inB
     rw [hr, b1, b2, hk, hp]
     show decide ((ii : Int) / (p : Int) = (nn : Int) / (p : Int)) = _
     rw [← Int.natCast_ediv, ← Int.natCast_ediv, hqi, hqn, Bool.eq_iff_iff, decide_eq_true_eq, beq_iff_eq]
     omega
    rw [hrr]
    have HK2 := Lib.hid hk2
    have sb : IntKind.i64.wrap (32 - bits) = (k : Int) := by rw [hk2]; rw [IntKind.wrap_i64]; omega
    clear hr hrr hqi hqn hk hp
    cases hz : (qi == qn) with
    | true =>
     have hz2 : ((qi : Int) == (qn : Int)) = true := by simp at hz ⊢; omega
     have HE := Lib.hid (show rr = true by rw [hr2, hz])
     clear hr2 hz
     go_enter Tryz.func140, Tryz.ntmps140
     go_wp2
     go_quiet (first | (go_at_call 166; exact Calls.quiet_of_same (calls_sym (rightQ10 _ _ _ _ HRI.out))) | (go_at_call 168; exact Calls.quiet_of_same (calls_sym (hK.out _))))
     go_wp2
     go_ret
     exact ⟨by rw [HE.out]; rfl, (below_drawn10 (Below.refl _ _) _)⟩
    | false =>
     have hz2 : ((qi : Int) == (qn : Int)) = false := by simp at hz ⊢; omega
     have HE := Lib.hid (show rr = false by rw [hr2, hz])
     clear hr2 hz
     go_enter Tryz.func140, Tryz.ntmps140
     go_wp2
     go_quiet (first | (go_at_call 166; exact Calls.quiet_of_same (calls_sym (rightQ10 _ _ _ _ HRI.out))) | (go_at_call 168; exact Calls.quiet_of_same (calls_sym (hK.out _))))
     go_wp2
     go_ret
     exact ⟨by rw [HE.out]; rfl, (below_drawn10 (Below.refl _ _) _)⟩
   ·have b2 : decide (ip < 4294967296) = false := decide_eq_false h2
    have HE := Lib.hid (show N.inB n bits ip = false by unfold N.inB; rw [b2, Bool.and_false, Bool.false_and])
    clear hr
    go_enter Tryz.func140, Tryz.ntmps140
    go_wp2
    go_quiet (first | (go_at_call 166; exact Calls.quiet_of_same (calls_sym (rightQ10 _ _ _ _ HRI.out))) | (go_at_call 168; exact Calls.quiet_of_same (calls_sym (powQ _ 0 1 _ rfl (by omega) rfl))))
    go_wp2
    go_ret
    exact ⟨by rw [HE.out]; rfl, (below_drawn10 (Below.refl _ _) _)⟩
  ·have b1 : decide (0 ≤ ip) = false := decide_eq_false h1
   have HE := Lib.hid (show N.inB n bits ip = false by unfold N.inB; rw [b1, Bool.and_false, Bool.false_and, Bool.false_and])
   clear hr
   go_enter Tryz.func140, Tryz.ntmps140
   go_wp2
   go_quiet (first | (go_at_call 166; exact Calls.quiet_of_same (calls_sym (rightQ10 _ _ _ _ HRI.out))) | (go_at_call 168; exact Calls.quiet_of_same (calls_sym (powQ _ 0 1 _ rfl (by omega) rfl))))
   go_wp2
   go_ret
   exact ⟨by rw [HE.out]; rfl, (below_drawn10 (Below.refl _ _) _)⟩
theorem pref_other {s : List UInt8} {L : List (List UInt8)} (h : N.splitL 47 s = L) (hl : L.length ≠ 2) : N.prefL s = (-1, 0) := by
 unfold N.prefL
 rw [h]
 match L, hl with
 | [], _ => rfl
 | [_], _ => rfl
 | [_, _], hl => exact absurd rfl hl
 | _ :: _ :: _ :: _, _ => rfl
theorem ip_range10 (x : List UInt8) : -1 ≤ N.ipL x ∧ N.ipL x < 4294967296 := by
 rcases N.ip_cases x with h | ⟨n, h, hn, _⟩ <;> rw [h] <;> omega
theorem ipQ (x : List UInt8) (z : Int) (w : World) (hs : x.length ≤ 1073741824) (h : N.ipL x = z) : Calls Tryz.prog 136 #[.string (sB x)] w (fun e w' => e = .returned (.int .i64 z) ∧ Below w.heap.size w w') := by
 subst h; exact ipR (sB x) w (by rw [sB_size]; exact hs)
set_option maxRecDepth 100000 in
set_option maxHeartbeats 4000000 in
theorem prefR (s : ByteArray) (w : World) (hs : s.size ≤ 1073741824) : Calls Tryz.prog 137 #[.string s] w (fun e w' => e = .returned (.tuple #[.int .i64 (N.prefL s.data.toList).1, .int .i64 (N.prefL s.data.toList).2]) ∧ Below w.heap.size w w') := by
 obtain ⟨L, hL⟩ : ∃ L, N.splitL 47 s.data.toList = L := ⟨_, rfl⟩
 obtain ⟨r, hr⟩ : ∃ r, N.prefL s.data.toList = r := ⟨_, rfl⟩
 obtain ⟨r1, r2⟩ := r
 obtain ⟨m, hm⟩ : ∃ m, L.length = m := ⟨_, rfl⟩
 have hparts := partsR s 47 w hs
 rw [hL] at hparts
 rw [hr]
 have HEA := Lib.hid (show ∀ x ∈ L, x.length ≤ 1073741824 from fun x hx => by
  have h := split_mem (c := 47) (hL ▸ hx)
  have h2 : s.data.toList.length = s.size := by simp
  omega)
 have HL := Lib.hid hL
 have HR := Lib.hid hr
 have HM := Lib.hid hm
 clear hL hr
 show Calls _ _ _ _ (fun e w' => e = .returned (.tuple #[.int .i64 r1, .int .i64 r2]) ∧ Below w.heap.size w w')
 by_cases h4 : m = 2
 ·have b4 : ((m : Int) != 2) = false := by simp; omega
  have H4 := Lib.hid h4
  obtain ⟨xa, xb, rfl⟩ : ∃ xa xb, L = [xa, xb] := by
   subst h4
   match L, hm with
   | [a, b], _ => exact ⟨a, b, rfl⟩
  clear h4 hm
  obtain ⟨z, hz⟩ : ∃ z, N.ipL xa = z := ⟨_, rfl⟩
  obtain ⟨k, hk⟩ : ∃ k, N.numL xb = k := ⟨_, rfl⟩
  obtain ⟨rr, hrr⟩ : ∃ rr, N.rightB z k = rr := ⟨_, rfl⟩
  have rz := ip_range10 xa
  have rk := N.num_ge xb
  rw [hz] at rz
  rw [hk] at rk
  have hsp : (if rr = true then (z, k) else ((-1 : Int), (0 : Int))) = (r1, r2) := by
   rw [← HR.out]
   unfold N.prefL
   rw [HL.out]
   show _ = if N.rightB (N.ipL xa) (N.numL xb) = true then (N.ipL xa, N.numL xb) else (-1, 0)
   rw [hz, hk, hrr]
  have HNO := Lib.hid (show rr = false → r1 = -1 ∧ r2 = 0 from fun h => by rw [h, if_neg (by decide)] at hsp; exact ⟨(congrArg Prod.fst hsp).symm, (congrArg Prod.snd hsp).symm⟩)
  have HYES := Lib.hid (show rr = true → r1 = z ∧ r2 = k from fun h => by rw [h, if_pos rfl] at hsp; exact ⟨(congrArg Prod.fst hsp).symm, (congrArg Prod.snd hsp).symm⟩)
  have HBD := Lib.hid (show rr = true → 0 ≤ z ∧ 0 ≤ k ∧ k ≤ 32 from fun h => by have h5 := right_nums (hrr.trans h); exact ⟨h5.1, h5.2.2.1, h5.2.2.2⟩)
  clear hsp
  have HZ := Lib.hid hz
  have HK := Lib.hid hk
  have HRR := Lib.hid hrr
  clear hz hk hrr
  go_enter Tryz.func137, Tryz.ntmps137
  go_wp2_with fail
  refine hparts.mono ?_
  rintro e w1 ⟨v1, rfl, hown, hx⟩
  obtain ⟨A1, c1, e1, hc1, hs1⟩ := hown.seen
  rw [HM.out] at e1 hc1
  subst e1
  obtain ⟨b, o, rfl, hb, hH⟩ := hs1 (by rw [HM.out, H4.out]; omega)
  obtain rfl : m = 2 := H4.out
  have z0 := hH.str (i := 0) (by show 0 < 2; omega)
  have z1 := hH.str (i := 1) (by show 1 < 2; omega)
  have HKP := Lib.hid (fun w' (h : Below w1.heap.size w1 w') => show w'.cell? ⟨b, o, none⟩ = some (.string (sB xa)) ∧ w'.cell? ⟨b, o + 1, none⟩ = some (.string (sB xb)) from ⟨(h.cell hb).trans z0, (h.cell hb).trans z1⟩)
  have HX := Lib.hid hx
  have HIP := Lib.hid (fun w' => ipQ xa z w' (HEA.out xa (by simp)) HZ.out)
  have HNU := Lib.hid (fun w' => numQ xb k w' (HEA.out xb (by simp)) HK.out)
  have hbd : Below w1.heap.size w1 w1.drew := (Below.refl _ _).drew
  clear hown hs1 hH hparts hx
  by_cases y1 : z < 0
  ·have c1 : decide (z < 0) = true := decide_eq_true y1
   have hrf : rr = false := by cases hrc : rr with | false => rfl | true => exact absurd (HBD.out hrc).1 (by omega)
   clear y1
   have HE1 := Lib.hid (HNO.out hrf).1
   have HE2 := Lib.hid (HNO.out hrf).2
   clear hrf
   go_wp2
   go_region_held3 (fun w' => Below w1.heap.size w1 w' ∧ w'.cell? ⟨b, o, none⟩ = some (.string (sB xa)) ∧ w'.cell? ⟨b, o + 1, none⟩ = some (.string (sB xb))) (first | ((refine ⟨?_, HKP.out _ ?_⟩) <;> (first | assumption | (refine Below.drew ?_; assumption))) | go_keep) (first | (go_at_call 136; refine (HIP.out _).mono ?_; rintro e w' ⟨rfl, hx⟩; have hbx := bthen (show Below w1.heap.size w1 _ by assumption) hx) | (go_at_call 134; refine (HNU.out _).mono ?_; rintro e w' ⟨rfl, rfl⟩))
   all_goals go_wp2
   all_goals go_ret2
   all_goals exact ⟨by rw [show r1 = -1 from HE1.out, show r2 = 0 from HE2.out]; rfl, bthen HX.out (by first | assumption | (refine Below.drew ?_; assumption))⟩
  ·have c1 : decide (z < 0) = false := decide_eq_false y1
   by_cases y2 : k < 0
   ·have c2 : decide (k < 0) = true := decide_eq_true y2
    have hrf : rr = false := by cases hrc : rr with | false => rfl | true => exact absurd (HBD.out hrc).2.1 (by omega)
    clear y1 y2
    have HE1 := Lib.hid (HNO.out hrf).1
    have HE2 := Lib.hid (HNO.out hrf).2
    clear hrf
    go_wp2
    go_region_held3 (fun w' => Below w1.heap.size w1 w' ∧ w'.cell? ⟨b, o, none⟩ = some (.string (sB xa)) ∧ w'.cell? ⟨b, o + 1, none⟩ = some (.string (sB xb))) (first | ((refine ⟨?_, HKP.out _ ?_⟩) <;> (first | assumption | (refine Below.drew ?_; assumption))) | go_keep) (first | (go_at_call 136; refine (HIP.out _).mono ?_; rintro e w' ⟨rfl, hx⟩; have hbx := bthen (show Below w1.heap.size w1 _ by assumption) hx) | (go_at_call 134; refine (HNU.out _).mono ?_; rintro e w' ⟨rfl, rfl⟩))
    all_goals go_wp2
    all_goals go_ret2
    all_goals exact ⟨by rw [show r1 = -1 from HE1.out, show r2 = 0 from HE2.out]; rfl, bthen HX.out (by first | assumption | (refine Below.drew ?_; assumption))⟩
   ·have c2 : decide (k < 0) = false := decide_eq_false y2
    by_cases y3 : 32 < k
    ·have c3 : decide (32 < k) = true := decide_eq_true y3
     have hrf : rr = false := by cases hrc : rr with | false => rfl | true => exact absurd (HBD.out hrc).2.2 (by omega)
     clear y1 y2 y3
     have HE1 := Lib.hid (HNO.out hrf).1
     have HE2 := Lib.hid (HNO.out hrf).2
     clear hrf
     go_wp2
     go_region_held3 (fun w' => Below w1.heap.size w1 w' ∧ w'.cell? ⟨b, o, none⟩ = some (.string (sB xa)) ∧ w'.cell? ⟨b, o + 1, none⟩ = some (.string (sB xb))) (first | ((refine ⟨?_, HKP.out _ ?_⟩) <;> (first | assumption | (refine Below.drew ?_; assumption))) | go_keep) (first | (go_at_call 136; refine (HIP.out _).mono ?_; rintro e w' ⟨rfl, hx⟩; have hbx := bthen (show Below w1.heap.size w1 _ by assumption) hx) | (go_at_call 134; refine (HNU.out _).mono ?_; rintro e w' ⟨rfl, rfl⟩))
     all_goals go_wp2
     all_goals go_ret2
     all_goals exact ⟨by rw [show r1 = -1 from HE1.out, show r2 = 0 from HE2.out]; rfl, bthen HX.out (by first | assumption | (refine Below.drew ?_; assumption))⟩
    ·have c3 : decide (32 < k) = false := decide_eq_false y3
     clear y1 y2 y3
     cases rr with
     | false =>
      have hrf : false = false := rfl
      have HE1 := Lib.hid (HNO.out hrf).1
      have HE2 := Lib.hid (HNO.out hrf).2
      clear hrf
      go_wp2
      go_region_held3 (fun w' => Below w1.heap.size w1 w' ∧ w'.cell? ⟨b, o, none⟩ = some (.string (sB xa)) ∧ w'.cell? ⟨b, o + 1, none⟩ = some (.string (sB xb))) (first | ((refine ⟨?_, HKP.out _ ?_⟩) <;> (first | assumption | (refine Below.drew ?_; assumption))) | go_keep) (first | (go_at_call 136; refine (HIP.out _).mono ?_; rintro e w' ⟨rfl, hx⟩; have hbx := bthen (show Below w1.heap.size w1 _ by assumption) hx) | (go_at_call 134; refine (HNU.out _).mono ?_; rintro e w' ⟨rfl, rfl⟩))
      all_goals go_wp2_with fail
      all_goals (refine (rightQ10 z k _ _ HRR.out).mono ?_; rintro e w' ⟨rfl, rfl⟩)
      all_goals go_wp2
      all_goals go_ret2
      all_goals exact ⟨by rw [show r1 = -1 from HE1.out, show r2 = 0 from HE2.out]; rfl, bthen HX.out (by first | assumption | (refine Below.drew ?_; assumption))⟩
     | true =>
      have HE1 := Lib.hid (HYES.out rfl).1
      have HE2 := Lib.hid (HYES.out rfl).2
      go_wp2
      go_region_held3 (fun w' => Below w1.heap.size w1 w' ∧ w'.cell? ⟨b, o, none⟩ = some (.string (sB xa)) ∧ w'.cell? ⟨b, o + 1, none⟩ = some (.string (sB xb))) (first | ((refine ⟨?_, HKP.out _ ?_⟩) <;> (first | assumption | (refine Below.drew ?_; assumption))) | go_keep) (first | (go_at_call 136; refine (HIP.out _).mono ?_; rintro e w' ⟨rfl, hx⟩; have hbx := bthen (show Below w1.heap.size w1 _ by assumption) hx) | (go_at_call 134; refine (HNU.out _).mono ?_; rintro e w' ⟨rfl, rfl⟩))
      all_goals go_wp2_with fail
      all_goals (refine (rightQ10 z k _ _ HRR.out).mono ?_; rintro e w' ⟨rfl, rfl⟩)
      all_goals go_wp2
      all_goals go_ret2
      all_goals exact ⟨by rw [show r1 = z from HE1.out, show r2 = k from HE2.out]; rfl, bthen HX.out (by first | assumption | (refine Below.drew ?_; assumption))⟩
 ·have b4 : ((m : Int) != 2) = true := by simp; omega
  have HE := Lib.hid (show (r1, r2) = ((-1 : Int), (0 : Int)) by rw [← HR.out]; exact pref_other HL.out (by rw [hm]; exact h4))
  have HE1 := Lib.hid (congrArg Prod.fst HE.out)
  have HE2 := Lib.hid (congrArg Prod.snd HE.out)
  clear h4 hm
  go_enter Tryz.func137, Tryz.ntmps137
  go_wp2_with fail
  refine hparts.mono ?_
  rintro e w1 ⟨v1, rfl, hown, hx⟩
  obtain ⟨A1, c1, e1, hc1, hs1⟩ := hown.seen
  rw [HM.out] at e1 hc1
  subst e1
  clear hown hs1 hparts
  go_wp2
  go_ret2
  exact ⟨by rw [show r1 = -1 from HE1.out, show r2 = 0 from HE2.out]; rfl, hx⟩
theorem pair_short {x : List UInt8} (h : x.length ≠ 2) : N.pairV x = -1 := by
 match x with
 | [] => rfl
 | [_] => rfl
 | [_, _] => exact absurd rfl h
 | _ :: _ :: _ :: _ => rfl
theorem hexV_range (c : UInt8) : -1 ≤ N.hexV c ∧ N.hexV c ≤ 15 := by
 rcases N.hex_cases c with h | ⟨n, h, hn, _⟩ <;> rw [h] <;> omega
theorem valueQ (c : UInt8) (z : Int) (w : World) (h : N.hexV c = z) : Calls Tryz.prog 167 #[.int .u8 c.toNat] w (fun e w' => e = .returned (.int .i64 z) ∧ w = w') := by subst h; exact valueR10 c w
set_option maxRecDepth 100000 in
set_option maxHeartbeats 4000000 in
theorem macR (s : ByteArray) (w : World) (hs : s.size ≤ 1073741824) : Calls Tryz.prog 138 #[.string s] w (fun e w' => e = .returned (.int .i64 (N.macL s.data.toList)) ∧ Below w.heap.size w w') := by
 obtain ⟨L, hL⟩ : ∃ L, N.splitL 58 s.data.toList = L := ⟨_, rfl⟩
 obtain ⟨r, hr⟩ : ∃ r, N.macL s.data.toList = r := ⟨_, rfl⟩
 obtain ⟨m, hm⟩ : ∃ m, L.length = m := ⟨_, rfl⟩
 have hparts := partsR s 58 w hs
 rw [hL] at hparts
 rw [hr]
 have HEA := Lib.hid (show ∀ x ∈ L, x.length ≤ 1073741824 from fun x hx => by
  have h := split_mem (c := 58) (hL ▸ hx)
  have h2 : s.data.toList.length = s.size := by simp
  omega)
 have HL := Lib.hid hL
 have HR := Lib.hid hr
 have HM := Lib.hid hm
 clear hL hr
 by_cases h4 : m = 6
 ·have b4 : ((m : Int) != 6) = false := by simp; omega
  have H4 := Lib.hid h4
  clear h4 hm
  go_enter Tryz.func138, Tryz.ntmps138
  go_wp2_with fail
  refine hparts.mono ?_
  rintro e w1 ⟨v1, rfl, hown, hx⟩
  obtain ⟨A1, c1, e1, hc1, hs1⟩ := hown.seen
  rw [HM.out] at e1 hc1
  subst e1
  obtain ⟨b, o, rfl, hb, hH⟩ := hs1 (by rw [HM.out, H4.out]; omega)
  have HH := Lib.hid hH
  clear hown hs1 hH hparts
  go_wp2
  go_loopg [4, 5] 6 (fun gk vn vi wr => ∃ k v : Nat, Hid (k + gk = 6) ∧ k ≤ 6 ∧ vi = .int .i64 (k : Int) ∧ vn = .int .i64 (v : Int) ∧ Hid (N.accL N.pairV (L.take k) = v) ∧ Hid (∀ x ∈ L.take k, 0 ≤ N.pairV x) ∧ Hid (Below w.heap.size w wr) ∧ Hid (Holds eS wr b o L))
  case atStart => exact ⟨0, 0, Nat.zero_add _, Nat.zero_le _, rfl, rfl, rfl, (fun x hx => by simp at hx), hx, HH.out⟩
  case round =>
   obtain ⟨k, v, HG, hk, rfl, rfl, HV, HD, HBW, HHr⟩ := hrel
   by_cases hlt : k < 6
   ·have blt : decide ((k : Int) < 6) = true := decide_eq_true (by omega)
    have blt2 : decide (k < 6) = true := decide_eq_true hlt
    have hkL : k < L.length := by rw [HM.out, H4.out]; exact hlt
    have hki : (k : Int) < (m : Int) := by have := H4.out; omega
    have z0 := HHr.out.str hkL
    have hsn := List.take_succ_eq_append_getElem hkL
    obtain ⟨x, hx⟩ : ∃ x, L[k] = x := ⟨_, rfl⟩
    have hmem : x ∈ L := hx ▸ List.getElem_mem hkL
    rw [hx] at z0 hsn
    have hv : v < 281474976710656 := by
     have h5 := (N.acc_range N.pairV (fun x => (N.pair_range x).2) 6 (L.take k) (by rw [List.length_take]; omega) HD.out).2
     rw [HV.out] at h5
     omega
    have hgk := HG.out
    have HSN := Lib.hid hsn
    have HXM := Lib.hid hmem
    by_cases hx2 : x.length = 2
    ·obtain ⟨ca, cb, rfl⟩ : ∃ ca cb, x = [ca, cb] := by
      match x, hx2 with
      | [a, b], _ => exact ⟨a, b, rfl⟩
     clear hx hsn hmem hx2
     obtain ⟨za, hza⟩ : ∃ z, N.hexV ca = z := ⟨_, rfl⟩
     obtain ⟨zb, hzb⟩ : ∃ z, N.hexV cb = z := ⟨_, rfl⟩
     have ra := hexV_range ca
     have rb := hexV_range cb
     rw [hza] at ra
     rw [hzb] at rb
     have HZA := Lib.hid hza
     have HZB := Lib.hid hzb
     obtain ⟨q, hq⟩ : ∃ q, sB [ca, cb] = q := ⟨_, rfl⟩
     have q2 : q.size = 2 := by rw [← hq]; rfl
     have qa : q[0]'(by omega) = ca := by subst hq; rfl
     have qb : q[1]'(by omega) = cb := by subst hq; rfl
     rw [hq] at z0
     clear hza hzb hq
     by_cases ha : za < 0
     ·have c1 : decide (za < 0) = true := decide_eq_true ha
      have HE := Lib.hid (show r = -1 by
       rw [← HR.out]
       refine N.mac_bad HL.out HXM.out ?_
       show (if N.hexV ca < 0 ∨ N.hexV cb < 0 then (-1 : Int) else _) < 0
       rw [HZA.out, if_pos (.inl ha)]; omega)
      clear ha
      go_wp2_with fail
      refine (valueQ ca za _ HZA.out).mono ?_
      rintro e w2 ⟨rfl, rfl⟩
      go_wp2
      go_ret
      exact ⟨by rw [HE.out]; rfl, HBW.out⟩
     ·have c1 : decide (za < 0) = false := decide_eq_false ha
      by_cases hb0 : zb < 0
      ·have c2 : decide (zb < 0) = true := decide_eq_true hb0
       have HE := Lib.hid (show r = -1 by
        rw [← HR.out]
        refine N.mac_bad HL.out HXM.out ?_
        show (if N.hexV ca < 0 ∨ N.hexV cb < 0 then (-1 : Int) else _) < 0
        rw [HZB.out, if_pos (.inr hb0)]; omega)
       clear ha hb0
       go_wp2_with fail
       refine (valueQ ca za _ HZA.out).mono ?_
       rintro e w2 ⟨rfl, rfl⟩
       go_wp2_with fail
       refine (valueQ cb zb _ HZB.out).mono ?_
       rintro e w2 ⟨rfl, rfl⟩
       go_wp2
       go_ret
       exact ⟨by rw [HE.out]; rfl, HBW.out⟩
      ·have c2 : decide (zb < 0) = false := decide_eq_false hb0
       obtain ⟨na, rfl⟩ := Int.eq_ofNat_of_zero_le (show 0 ≤ za by omega)
       obtain ⟨nb, rfl⟩ := Int.eq_ofNat_of_zero_le (show 0 ≤ zb by omega)
       have hpv : N.pairV [ca, cb] = ((16 * na + nb : Nat) : Int) := by
        show (if N.hexV ca < 0 ∨ N.hexV cb < 0 then (-1 : Int) else _) = _
        rw [HZA.out, HZB.out, if_neg (by omega)]; omega
       have HV2 := Lib.hid (show N.accL N.pairV (L.take (k + 1)) = ((256 * v + 16 * na + nb : Nat) : Int) by rw [HSN.out, N.acc_snoc, HV.out, hpv]; omega)
       have HD2 := Lib.hid (show ∀ y ∈ L.take (k + 1), 0 ≤ N.pairV y from fun y hy => by
        rw [HSN.out] at hy
        rcases List.mem_append.1 hy with hy | hy
        ·exact HD.out y hy
        ·rw [List.mem_singleton.1 hy, hpv]; omega)
       have hna : na ≤ 15 := by omega
       have hnb : nb ≤ 15 := by omega
       clear ha hb0 hpv
       go_wp2_with fail
       refine (valueQ ca na _ HZA.out).mono ?_
       rintro e w2 ⟨rfl, rfl⟩
       go_wp2_with fail
       refine (valueQ cb nb _ HZB.out).mono ?_
       rintro e w2 ⟨rfl, rfl⟩
       go_wp2
       go_quiet (first | (go_at_call_of 167 ca; exact Calls.quiet_of_same (calls_sym (valueQ ca na _ HZA.out))) | (go_at_call_of 167 cb; exact Calls.quiet_of_same (calls_sym (valueQ cb nb _ HZB.out))))
       go_wp2
       go_roundg (6 - (k + 1))
       case rel => exact ⟨k + 1, 256 * v + 16 * na + nb, (by show _ = _; omega), by omega, by go_num, by go_num, HV2, HD2, Lib.hid (below_drawn10 HBW.out _), Lib.hid HHr.out⟩
       case measure => omega
    ·clear hx hsn hmem
     have HE := Lib.hid (show r = -1 by rw [← HR.out]; exact N.mac_bad HL.out HXM.out (by rw [pair_short hx2]; omega))
     obtain ⟨n2, hn2⟩ : ∃ n2, x.length = n2 := ⟨_, rfl⟩
     have hxl := HEA.out x HXM.out
     obtain ⟨q, hq⟩ : ∃ q, sB x = q := ⟨_, rfl⟩
     have q2 : q.size = n2 := by rw [← hq, sB_size, hn2]
     have bn : ((n2 : Int) != 2) = true := by simp; omega
     rw [hq] at z0
     rw [hn2] at hxl
     clear hq hn2 hx2
     go_wp2
     go_ret
     exact ⟨by rw [HE.out]; rfl, HBW.out⟩
   ·have blt : decide ((k : Int) < 6) = false := decide_eq_false (by omega)
    have blt2 : decide (k < 6) = false := decide_eq_false hlt
    have HE := Lib.hid (show r = (v : Int) by
     have htk : L.take k = L := List.take_of_length_le (by rw [HM.out, H4.out]; omega)
     have h5 := HV.out
     have h6 := HD.out
     rw [htk] at h5 h6
     rw [← HR.out, N.mac_good HL.out (HM.out.trans H4.out) h6, h5])
    go_wp2
    go_ret
    exact ⟨by rw [HE.out]; rfl, HBW.out⟩
 ·have b4 : ((m : Int) != 6) = true := by simp; omega
  have HE := Lib.hid (show r = -1 by rw [← HR.out]; exact N.mac_len HL.out (by rw [hm]; exact h4))
  clear h4 hm
  go_enter Tryz.func138, Tryz.ntmps138
  go_wp2_with fail
  refine hparts.mono ?_
  rintro e w1 ⟨v1, rfl, hown, hx⟩
  obtain ⟨A1, c1, e1, hc1, hs1⟩ := hown.seen
  rw [HM.out] at e1 hc1
  subst e1
  clear hown hs1 hparts
  go_wp2
  go_ret
  exact ⟨by rw [HE.out]; rfl, hx⟩
end Go.Proofs.YtfcikfohmehmkaaGreatDoor
namespace Go.Proofs.YtfcikfohmehmkaaGreatDoor.F
set_option linter.unusedVariables false
open Ieee
def U (r : Nat) : Nat := if r < 4503599627370496 then r else (4503599627370496 + r % 4503599627370496) * 2 ^ (r / 4503599627370496 - 1)
theorem pow_pos3 (k : Nat) : 0 < 2 ^ k := Nat.pow_pos (by omega)
def negB (x : Nat) : Bool := decide (9223372036854775808 ≤ x)
def rung (x : Nat) : Nat := x % 9223372036854775808
def nanB (x : Nat) : Bool := decide (9218868437227405312 < rung x)
theorem lit_sign : double.signWeight = 9223372036854775808 := by decide
theorem lit_binade : double.binade = 4503599627370496 := by decide
theorem lit_inf : double.infRung = 9218868437227405312 := by decide
theorem lit_least : double.leastPlace = -1074 := by decide
theorem neg_bit {x : Nat} (h : x < 18446744073709551616) : (x / 9223372036854775808 % 2 == 1) = negB x := by
 unfold negB
 by_cases h1 : 9223372036854775808 ≤ x
 ·rw [decide_eq_true h1, beq_iff_eq]; omega
 ·rw [decide_eq_false h1, beq_eq_false_iff_ne]; omega
-- THE ORDER
end Go.Proofs.YtfcikfohmehmkaaGreatDoor.F
namespace Go.Proofs.YtfcikfohmehmkaaGreatDoor.F
set_option linter.unusedVariables false
open Ieee
theorem U_rung (L k : Nat) (h : k ≤ 9007199254740992) (h2 : L = 0 ∨ 4503599627370496 ≤ k) : U (L * 4503599627370496 + k) = k * 2 ^ L := by
 by_cases hk : k < 4503599627370496
 ·obtain rfl : L = 0 := by omega
  unfold U; rw [if_pos (by omega)]; omega
 ·unfold U
  rw [if_neg (by omega)]
  by_cases hb : k = 9007199254740992
  ·subst hb
   have e1 : (L * 4503599627370496 + 9007199254740992) % 4503599627370496 = 0 := by omega
   have e2 : (L * 4503599627370496 + 9007199254740992) / 4503599627370496 - 1 = L + 1 := by omega
   rw [e1, e2, Nat.pow_succ]; omega
  ·have e1 : (L * 4503599627370496 + k) % 4503599627370496 = k - 4503599627370496 := by omega
   have e2 : (L * 4503599627370496 + k) / 4503599627370496 - 1 = L := by omega
   rw [e1, e2, Nat.add_sub_cancel' (show 4503599627370496 ≤ k by omega)]
theorem cut_near (neg : Bool) (n drop : Nat) (h : drop ≤ n.log2 + 2) : 2 * n ≤ 2 * (Toward.even.cut neg n drop * 2 ^ drop) + 2 ^ drop ∧ 2 * (Toward.even.cut neg n drop * 2 ^ drop) ≤ 2 * n + 2 ^ drop := by
 have hg : 1 <<< min drop (n.log2 + 2) = 2 ^ drop := by rw [Nat.min_eq_left h, Nat.shiftLeft_eq, Nat.one_mul]
 unfold Toward.cut
 simp only [hg]
 have hp := pow_pos3 drop
 generalize 2 ^ drop = g at hp
 have hd := Nat.div_add_mod n g
 have hm := Nat.mod_lt n hp
 rw [Nat.mul_comm] at hd
 generalize n / g = q at hd
 generalize n % g = r at hd hm
 generalize hq : q * g = qg at hd
 by_cases h1 : g < 2 * r
 ·rw [decide_eq_true h1]
  show _ ≤ 2 * ((q + 1) * g) + g ∧ 2 * ((q + 1) * g) ≤ _
  rw [Nat.add_mul, hq]; omega
 ·rw [decide_eq_false h1, Bool.false_or]
  by_cases h2 : g = 2 * r
  ·cases (g == 2 * r && q % 2 == 1) with
   | true =>
    show _ ≤ 2 * ((q + 1) * g) + g ∧ 2 * ((q + 1) * g) ≤ _
    rw [Nat.add_mul, hq]; omega
   | false =>
    show _ ≤ 2 * ((q + 0) * g) + g ∧ 2 * ((q + 0) * g) ≤ _
    rw [Nat.add_zero, hq]; omega
  ·rw [beq_eq_false_iff_ne.2 h2, Bool.false_and]
   show _ ≤ 2 * ((q + 0) * g) + g ∧ 2 * ((q + 0) * g) ≤ _
   rw [Nat.add_zero, hq]; omega
theorem cut_zero (neg : Bool) (n : Nat) : Toward.even.cut neg n 0 = n := by
 have h := cut_near neg n 0 (by omega)
 simp only [Nat.pow_zero, Nat.mul_one] at h
 omega
theorem log_bounds {n : Nat} (h : n ≠ 0) : 2 ^ n.log2 ≤ n ∧ n < 2 ^ (n.log2 + 1) := ⟨Nat.log2_self_le h, Nat.lt_log2_self⟩
theorem nearest_pos (mag : Nat) (place : Int) (hm : mag ≠ 0) : double.nearest false mag place = min ((max (place + mag.log2 - 52) (-1074) + 1074).toNat * 4503599627370496 + Toward.even.cut false (mag <<< (place - max (place + mag.log2 - 52) (-1074)).toNat) (max (place + mag.log2 - 52) (-1074) - place).toNat) 9218868437227405312 := by
 unfold Format.nearest
 rw [if_neg hm]
 have hf : (double.fractionBits : Int) = 52 := rfl
 simp only [lit_binade, lit_inf, lit_least, hf]
 unfold Format.word
 rw [if_neg (by decide), Int.sub_neg]
theorem nearest_exact (mag : Nat) (place : Int) (k : Nat) (hk : mag.log2 = k) (h0 : mag ≠ 0) (h1 : k ≤ 52) (h2 : -1000 ≤ place) (h3 : place + k ≤ 1000) :
  double.nearest false mag place = (place + k - 52 + 1074).toNat * 4503599627370496 + mag * 2 ^ (52 - k) ∧ rung (double.nearest false mag place) = double.nearest false mag place ∧ double.nearest false mag place < 9218868437227405312 ∧ U (double.nearest false mag place) = mag * 2 ^ (place + 1074).toNat := by
 have hb := log_bounds h0
 rw [hk] at hb
 have e1 : max (place + (k : Int) - 52) (-1074) = place + k - 52 := by omega
 have e2 : (place - (place + (k : Int) - 52)).toNat = 52 - k := by omega
 have e3 : (place + (k : Int) - 52 - place).toNat = 0 := by omega
 have e4 : mag <<< (52 - k) = mag * 2 ^ (52 - k) := Nat.shiftLeft_eq ..
 have hp : (2 : Nat) ^ (k + 1) * 2 ^ (52 - k) = 9007199254740992 := by rw [← Nat.pow_add, show k + 1 + (52 - k) = 53 by omega]
 have hp2 : (2 : Nat) ^ k * 2 ^ (52 - k) = 4503599627370496 := by rw [← Nat.pow_add, show k + (52 - k) = 52 by omega]
 have hlo : 4503599627370496 ≤ mag * 2 ^ (52 - k) := by rw [← hp2]; exact Nat.mul_le_mul_right _ hb.1
 have hhi : mag * 2 ^ (52 - k) < 9007199254740992 := by rw [← hp]; exact Nat.mul_lt_mul_of_pos_right hb.2 (pow_pos3 _)
 obtain ⟨L, hL⟩ : ∃ L, (place + (k : Int) - 52 + 1074).toNat = L := ⟨_, rfl⟩
 have hE : double.nearest false mag place = L * 4503599627370496 + mag * 2 ^ (52 - k) := by
  rw [nearest_pos mag place h0, hk, e1, e2, e3, cut_zero, e4, hL]
  exact Nat.min_eq_left (by omega)
 refine ⟨by rw [hE, hL], ?_, ?_, ?_⟩
 ·rw [hE]; unfold rung; exact Nat.mod_eq_of_lt (by omega)
 ·rw [hE]; omega
 ·rw [hE, U_rung _ _ (by omega) (.inr hlo), Nat.mul_assoc, ← Nat.pow_add]
  congr 2; omega
theorem nearest_round (mag : Nat) (place : Int) (k d L : Nat) (hk : mag.log2 = k) (hd : k = 52 + d) (h0 : mag ≠ 0) (hL : place + (d : Int) + 1074 = (L : Int)) (h3 : place + k ≤ 1000) :
  ∃ K, double.nearest false mag place = L * 4503599627370496 + K ∧ rung (double.nearest false mag place) = double.nearest false mag place ∧ double.nearest false mag place < 9218868437227405312 ∧
   4503599627370496 ≤ K ∧ K ≤ 9007199254740992 ∧ U (double.nearest false mag place) = K * 2 ^ L ∧ 2 * mag ≤ 2 * (K * 2 ^ d) + 2 ^ d ∧ 2 * (K * 2 ^ d) ≤ 2 * mag + 2 ^ d := by
 have hb := log_bounds h0
 have hdl : d ≤ mag.log2 + 2 := by omega
 rw [hk, hd] at hb
 have e1 : max (place + (k : Int) - 52) (-1074) = place + d := by omega
 have e2 : (place - (place + (d : Int))).toNat = 0 := by omega
 have e3 : (place + (d : Int) - place).toNat = d := by omega
 have e4 : (place + (d : Int) + 1074).toNat = L := by omega
 have hc := cut_near false mag d hdl
 obtain ⟨K, hK⟩ : ∃ K, Toward.even.cut false mag d = K := ⟨_, rfl⟩
 rw [hK] at hc
 have hp := pow_pos3 d
 have hp1 : (2 : Nat) ^ (52 + d) = 4503599627370496 * 2 ^ d := by rw [Nat.pow_add]
 have hp2 : (2 : Nat) ^ (52 + d + 1) = 9007199254740992 * 2 ^ d := by rw [show 52 + d + 1 = 53 + d by omega, Nat.pow_add]
 rw [hp1, hp2] at hb
 have hlo : 4503599627370496 ≤ K := by
  apply Nat.le_of_not_lt
  intro h
  have h1 : (K + 1) * 2 ^ d ≤ 4503599627370496 * 2 ^ d := Nat.mul_le_mul_right _ (by omega)
  rw [Nat.add_mul] at h1
  omega
 have hhi : K ≤ 9007199254740992 := by
  apply Nat.le_of_not_lt
  intro h
  have h1 : (9007199254740992 + 1) * 2 ^ d ≤ K * 2 ^ d := Nat.mul_le_mul_right _ (by omega)
  rw [Nat.add_mul] at h1
  omega
 have hE : double.nearest false mag place = L * 4503599627370496 + K := by
  rw [nearest_pos mag place h0, hk, e1, e2, e3, e4, Nat.shiftLeft_zero, hK]
  exact Nat.min_eq_left (by omega)
 refine ⟨K, hE, ?_, ?_, hlo, hhi, ?_, hc⟩
 ·rw [hE]; unfold rung; exact Nat.mod_eq_of_lt (by omega)
 ·rw [hE]; omega
 ·rw [hE, U_rung _ _ hhi (.inr hlo)]
end Go.Proofs.YtfcikfohmehmkaaGreatDoor.F
namespace Go.Proofs.YtfcikfohmehmkaaGreatDoor.F
set_option linter.unusedVariables false
open Ieee
theorem read_pos {x : Nat} (h1 : 4503599627370496 ≤ x) (h2 : x < 9218868437227405312) : ∃ (m k : Nat), double.read x = .number false m ((k : Int) - 1074) ∧ m * 2 ^ k = U x ∧ 4503599627370496 ≤ m ∧ m < 9007199254740992 := by
 have hr : rung x = x := Nat.mod_eq_of_lt (by omega)
 have hn : negB x = false := decide_eq_false (by omega)
 refine ⟨4503599627370496 + x % 4503599627370496, x / 4503599627370496 - 1, ?_, by unfold U; rw [if_neg (by omega)], by omega, by omega⟩
 unfold Format.read
 simp only [lit_sign, lit_binade, lit_inf, lit_least, neg_bit (show x < 18446744073709551616 by omega), hn]
 show (if rung x < 4503599627370496 then Datum.number false (rung x) (-1074) else if rung x < 9218868437227405312 then Datum.number false (4503599627370496 + rung x % 4503599627370496) (-1074 + ((rung x / 4503599627370496 - 1 : Nat) : Int)) else _) = _
 rw [hr, if_neg (by omega), if_pos h2]
 congr 1 <;> omega
@[irreducible] def unitE : Nat := 1074
theorem unitE_is : unitE = 1074 := by unfold unitE; rfl
theorem whole_word (n : Nat) (h0 : n ≠ 0) (h : n < 9007199254740992) : 4503599627370496 ≤ double.nearest false n 0 ∧ double.nearest false n 0 < 9218868437227405312 ∧ U (double.nearest false n 0) = n * 2 ^ unitE := by
 have hl : n.log2 < 53 := (Nat.log2_lt h0).2 h
 obtain ⟨e, _, h2, h3⟩ := nearest_exact n 0 n.log2 rfl h0 (by omega) (by omega) (by omega)
 refine ⟨?_, h2, by rw [h3, show ((0 : Int) + 1074).toNat = unitE by rw [unitE_is]; rfl]⟩
 rw [e, show (0 + (n.log2 : Int) - 52 + 1074).toNat = n.log2 + 1022 by omega]
 generalize n * 2 ^ (52 - n.log2) = z
 generalize n.log2 = k
 omega
theorem read_1000 : double.read (double.nearest false 1000 0) = .number false 8796093022208000 (-43) := by decide +kernel
theorem pow_lt {a b : Nat} (h : 2 ^ a < 2 ^ b) : a < b := (Nat.pow_lt_pow_iff_right (by omega)).1 h
theorem quot_1000 (m i : Nat) (h1 : 4503599627370496 ≤ m) (h2 : m < 9007199254740992) : (Datum.number false m ((i : Int) - 1074)).quotient 54 (.number false 8796093022208000 (-43)) = some (.number false (2 * (m * 18014398509481984 / 8796093022208000) + (m * 18014398509481984 % 8796093022208000 != 0).toNat) ((i : Int) - 1086)) := by
 have hl : m.log2 = 52 := (Nat.log2_eq_iff (by omega)).2 ⟨h1, h2⟩
 have hk : Nat.log2 8796093022208000 = 52 := by decide +kernel
 have hs : m <<< 54 = m * 18014398509481984 := Nat.shiftLeft_eq ..
 unfold Datum.quotient
 simp only [hl, hk, hs]
 refine (if_neg (show ¬ (8796093022208000 = 0) by omega)).trans ?_
 rw [Bool.false_xor, show ((i : Int) - 1074 - -43 - ((54 + 52 - 52 : Nat) : Int) - 1) = (i : Int) - 1086 by omega]
theorem quot_near (m g b : Nat) (h1 : 4503599627370496 ≤ m) (h2 : m < 9007199254740992) (hg : 2 * (m * 18014398509481984 / 8796093022208000) + (m * 18014398509481984 % 8796093022208000 != 0).toNat = g) :
  g * 1000 ≤ m * 4096 + 2000 ∧ m * 4096 ≤ g * 1000 + 2000 ∧ 18014398509481984 ≤ g ∧ g < 72057594037927936 := by
 have hd := Nat.div_add_mod (m * 18014398509481984) 8796093022208000
 have hm := Nat.mod_lt (m * 18014398509481984) (show 0 < 8796093022208000 by omega)
 have hb : (m * 18014398509481984 % 8796093022208000 != 0).toNat ≤ 1 := by cases (m * 18014398509481984 % 8796093022208000 != 0) <;> decide
 generalize (m * 18014398509481984 % 8796093022208000 != 0).toNat = s at hg hb
 generalize m * 18014398509481984 / 8796093022208000 = q at hg hd
 generalize m * 18014398509481984 % 8796093022208000 = r at hd hm
 omega
theorem thou_arith {m g X D : Nat} (m1 : 4503599627370496 ≤ m) (b1 : g * 1000 ≤ m * 4096 + 2000) (b2 : m * 4096 ≤ g * 1000 + 2000) (k7 : 2 * g ≤ 2 * X + D) (k8 : 2 * X ≤ 2 * g + D) (hD : 4503599627370496 * D ≤ X) :
  X * 1000 * 4503599627370496 ≤ m * 4096 * 4503599627370497 ∧ m * 4096 * 4503599627370495 ≤ X * 1000 * 4503599627370496 := by omega
theorem thou_div (n : Nat) (h0 : n ≠ 0) (h : n < 9007199254740992) : ∃ r, double.div (double.nearest false n 0) (double.nearest false 1000 0) = some r ∧ rung r = r ∧ 4503599627370496 ≤ r ∧ r < 9218868437227405312 ∧
  U r * 1000 * 4503599627370496 ≤ n * 2 ^ unitE * 4503599627370497 ∧ n * 2 ^ unitE * 4503599627370495 ≤ U r * 1000 * 4503599627370496 := by
 obtain ⟨w1, w2, w3⟩ := whole_word n h0 h
 obtain ⟨m, i, e1, e2, m1, m2⟩ := read_pos w1 w2
 rw [w3] at e2
 have hi1 : i < unitE + 1 := by
  have h1 : 2 ^ (52 + i) < 2 ^ (53 + unitE) := by
   rw [Nat.pow_add, Nat.pow_add]
   refine Nat.lt_of_le_of_lt (Nat.mul_le_mul_right _ m1) ?_
   rw [e2]
   exact Nat.mul_lt_mul_of_pos_right h (pow_pos3 _)
  have := pow_lt h1
  omega
 have hi2 : unitE < 53 + i := by
  refine pow_lt ?_
  rw [Nat.pow_add]
  refine Nat.lt_of_le_of_lt (?_ : _ ≤ m * 2 ^ i) (Nat.mul_lt_mul_of_pos_right m2 (pow_pos3 _))
  rw [e2]
  exact Nat.le_mul_of_pos_left _ (by omega)
 rw [unitE_is] at hi1 hi2
 obtain ⟨g, hg⟩ : ∃ g, 2 * (m * 18014398509481984 / 8796093022208000) + (m * 18014398509481984 % 8796093022208000 != 0).toNat = g := ⟨_, rfl⟩
 obtain ⟨b1, b2, b3, b4⟩ := quot_near m g 0 m1 m2 hg
 have hdiv : double.div (double.nearest false n 0) (double.nearest false 1000 0) = some (double.nearest false g ((i : Int) - 1086)) := by
  unfold Format.div
  rw [e1, read_1000]
  show ((Datum.number false m ((i : Int) - 1074)).quotient 54 (.number false 8796093022208000 (-43))).map double.write = _
  rw [quot_1000 m i m1 m2, hg]
  rfl
 obtain ⟨d, hd, hd3⟩ : ∃ d, g.log2 = 52 + d ∧ d ≤ 3 := by
  have l1 : 54 ≤ g.log2 := (Nat.le_log2 (by omega)).2 b3
  have l2 : g.log2 < 56 := (Nat.log2_lt (by omega)).2 b4
  exact ⟨g.log2 - 52, by omega, by omega⟩
 obtain ⟨K, k1, k2, k3, k4, k5, k6, k7, k8⟩ := nearest_round g ((i : Int) - 1086) _ d (i - 12 + d) hd rfl (by omega) (by omega) (by omega)
 obtain ⟨y, hy⟩ : ∃ y, i = y + 12 := ⟨i - 12, by omega⟩
 refine ⟨_, hdiv, k2, ?_, k3, ?_⟩
 ·rw [k1]
  have : 1 ≤ i - 12 + d := by omega
  generalize i - 12 + d = L at this
  omega
 rw [k6, ← e2, show i - 12 + d = d + y by omega, Nat.pow_add, hy, Nat.pow_add, ← Nat.mul_assoc]
 have hD : 4503599627370496 * 2 ^ d ≤ K * 2 ^ d := Nat.mul_le_mul_right _ k4
 generalize K * 2 ^ d = X at k7 k8 hD
 generalize 2 ^ d = D at k7 k8 hD
 generalize 2 ^ y = Y
 obtain ⟨a1, a2⟩ := thou_arith m1 b1 b2 k7 k8 hD
 constructor
 ·have := Nat.mul_le_mul_right Y a1
  rw [show (2 : Nat) ^ 12 = 4096 from rfl]
  calc X * Y * 1000 * 4503599627370496 = X * 1000 * 4503599627370496 * Y := by ac_rfl
   _ ≤ m * 4096 * 4503599627370497 * Y := this
   _ = m * (Y * 4096) * 4503599627370497 := by ac_rfl
 ·have := Nat.mul_le_mul_right Y a2
  rw [show (2 : Nat) ^ 12 = 4096 from rfl]
  calc m * (Y * 4096) * 4503599627370495 = m * 4096 * 4503599627370495 * Y := by ac_rfl
   _ ≤ X * 1000 * 4503599627370496 * Y := this
   _ = X * Y * 1000 * 4503599627370496 := by ac_rfl
end Go.Proofs.YtfcikfohmehmkaaGreatDoor.F
namespace Go.Proofs.YtfcikfohmehmkaaGreatDoor
open Go.RowKit
open F
set_option linter.unusedVariables false
theorem ext_bits (x : Nat) (w : World) : (callFunc 180 #[.float .f64 x]).run Tryz.prog w = .ok (.value (.int .u64 x)) w := by
 rw [run_callFunc_extern (fn := Tryz.f180) (e := Extern.MathFloatBits.float64bits) (by kernel_rfl) (by kernel_rfl) (by kernel_rfl) (by kernel_rfl) (by kernel_rfl)]
 rfl
theorem ext_from (x : Nat) (w : World) : (callFunc 176 #[.int .u64 (x : Int)]).run Tryz.prog w = .ok (.value (.float .f64 x)) w := by
 rw [run_callFunc_extern (fn := Tryz.f176) (e := Extern.MathFloatBits.float64frombits) (by kernel_rfl) (by kernel_rfl) (by kernel_rfl) (by kernel_rfl) (by kernel_rfl)]
 rfl
def Yes (w : World) (v : Value) (e : Ending) (w' : World) : Prop := e = .returned v ∧ w' = w
theorem wrap_big {x : Nat} (h : x < 9223372036854775808) : IntKind.i64.wrap (x : Int) = (x : Int) := by rw [IntKind.wrap_i64]; omega
end Go.Proofs.YtfcikfohmehmkaaGreatDoor
namespace Go.Proofs.YtfcikfohmehmkaaGreatDoor.F
set_option linter.unusedVariables false
open Ieee
theorem word_no (r : Nat) : double.word false r = r := by unfold Format.word; rw [if_neg (by decide)]
theorem near_nought (neg : Bool) (place : Int) : double.nearest neg 0 place = double.word neg 0 := by unfold Format.nearest; rw [if_pos rfl]
end Go.Proofs.YtfcikfohmehmkaaGreatDoor.F
