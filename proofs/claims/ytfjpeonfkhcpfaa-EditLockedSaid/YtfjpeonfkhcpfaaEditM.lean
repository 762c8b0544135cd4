/-
  Contracts of the code's Locked and Above, find and findFor, beside, there, part, partLocked (layer 7). Condition: at most 2^30 lines and words.
-/
import Derived.Test.YtfjpeonfkhcpfaaEditL
import Derived.Test.YtfjpeonfkhcpfaaEditU
namespace Go.Proofs.Ytfjpeonfkhcpfaa
open Go.RowKit
set_option linter.unusedVariables false

theorem codeLocked (A B : Option Addr) (c d n m : Nat) (t : List T.Ln) (p : T.Pth) (b : Bool) (w : World) (hn : t.length = n) (hm : p.length = m) (hA : Seen eL w A t) (hB : Seen eS w B p) (hl : n ≤ 1073741824) (hd : m ≤ d) (hp : m ≤ 1073741824) (h : b = true ↔ T.RightT t ∧ T.keptL t p m = true) :
    Calls Try.prog 17 #[.slice A n c, .slice B m d] w (BoolS w b) := by
  subst hn
  by_cases hR : T.RightT t
  · have e : T.keptL t p m = b := by cases b <;> cases hk : T.keptL t p m <;> simp_all
    rw [← e]
    exact locked_right A B c d m t p w hm hA hB hl hd hp hR
  · have e : b = false := by cases b <;> simp_all
    rw [e]
    exact locked_wrong A B c d m t p w hm hA hB hl hd hp hR
theorem keptL_pre {t : List T.Ln} (p : T.Pth) (k : Nat) : ∀ n, n ≤ k → T.keptL t (p.take k) n = T.keptL t p n
  | 0, _ => rfl
  | n + 1, h => by
    unfold T.keptL
    rw [keptL_pre p k n (by omega), List.take_take, Nat.min_eq_left h]
set_option maxRecDepth 100000 in
theorem codeAbove (A B : Option Addr) (c d n m : Nat) (t : List T.Ln) (p : T.Pth) (b : Bool) (w : World) (hn : t.length = n) (hm : p.length = m) (hA : Seen eL w A t) (hB : Seen eS w B p) (hl : n ≤ 1073741824) (hd : m ≤ d) (hp : m ≤ 1073741824) (h : b = true ↔ T.RightT t ∧ T.keptL t p (m - 1) = true) :
    Calls Try.prog 19 #[.slice A n c, .slice B m d] w (BoolS w b) := by
  cases m with
  | zero =>
    have e : b = false := by cases b with
      | false => rfl
      | true => exact absurd (h.1 rfl).2 (by simp [T.keptL])
    subst e
    clear h hA hB hm
    go_enter Try.func19, Try.ntmps19
    go_wp2
    go_ret
    exact ⟨rfl, Below.refl _ _⟩
  | succ q =>
    obtain ⟨bb, o, rfl, hbb, hH⟩ := hB (by omega)
    have hq : (p.take q).length = q := by rw [List.length_take]; omega
    have hS := ((hH.take q).seen hbb)
    rw [Nat.add_sub_cancel, ← keptL_pre p q q (Nat.le_refl _)] at h
    have hc := codeLocked A (some ⟨bb, o, none⟩) c d n q t (p.take q) b w hn hq hA hS hl (by omega) (by omega) h
    have b0 : decide ((0 : Int) < (q : Int) + 1) = true := decide_eq_true (by omega)
    have hqd : q ≤ d := by omega
    have hqd2 : q + 1 ≤ d := hd
    have hqi : (q : Int) ≤ (d : Int) := by omega
    clear h hA hB hm hS hH hq hn
    go_enter Try.func19, Try.ntmps19
    go_wp2_with fail
    refine hc.mono ?_
    rintro e w1 ⟨rfl, hb⟩
    go_wp2
    go_ret
    exact ⟨by first | rfl | (cases b <;> rfl), hb⟩

/-- Where a line's place, or an error, comes back. -/
def PlaceS (w : World) (i er : Int) (e : Ending) (w' : World) : Prop := e = .returned (.tuple #[.int .i64 i, .int .i64 er]) ∧ Below w.heap.size w w'
set_option maxRecDepth 100000 in
theorem codeFind_bad (A B : Option Addr) (c d n m : Nat) (t : List T.Ln) (p : T.Pth) (w : World) (hn : t.length = n) (hm : p.length = m) (hA : Seen eL w A t) (hl : n ≤ 1073741824) (h : ¬ T.RightT t ∨ p = []) :
    Calls Try.prog 45 #[.slice A n c, .slice B m d] w (PlaceS w 0 1) := by
  subst hn
  by_cases h0 : m = 0
  · subst h0
    clear h hm hA
    go_enter Try.func45, Try.ntmps45
    go_wp2
    go_ret2
    exact ⟨rfl, Below.refl _ _⟩
  · have hR : ¬ T.RightT t := by
      rcases h with h | h
      · exact h
      · rw [h] at hm; exact absurd hm.symm h0
    have b0 : ((m : Int) == 0) = false := beq_eq_false_iff_ne.2 (by omega)
    have b1 : (m == 0) = false := beq_eq_false_iff_ne.2 h0
    have hc := right_is A c t false w hA hl (no_iff hR)
    clear h hm hA hR h0
    go_enter Try.func45, Try.ntmps45
    go_wp2_with fail
    refine hc.mono ?_
    rintro e w1 ⟨rfl, hb⟩
    go_wp2
    go_ret2
    exact ⟨rfl, hb⟩
set_option maxRecDepth 100000 in
theorem codeFind_no (A B : Option Addr) (c d n m : Nat) (t : List T.Ln) (p : T.Pth) (w : World) (hn : t.length = n) (hm : p.length = m) (hA : Seen eL w A t) (hB : Seen eS w B p) (hl : n ≤ 1073741824) (hp : m ≤ 1073741824) (hR : T.RightT t) (hne : p ≠ []) (h : ¬ thereT t p) :
    Calls Try.prog 45 #[.slice A n c, .slice B m d] w (PlaceS w 0 3) := by
  subst hn; subst hm
  have h0 := List.length_pos_iff.2 hne
  obtain ⟨m, hm⟩ : ∃ m, p.length = m := ⟨_, rfl⟩
  have HA := Lib.hid hA
  have HB := Lib.hid hB
  have HR := Lib.hid hR
  have HM := Lib.hid hm
  have HF := Lib.hid (show ∀ i, i < t.length → T.pathL t i ≠ p from fun i hi e => h ⟨i, hi, e⟩)
  rw [hm] at hp h0 ⊢
  have b0 : ((m : Int) == 0) = false := beq_eq_false_iff_ne.2 (by omega)
  have b1 : (m == 0) = false := beq_eq_false_iff_ne.2 (by omega)
  clear hm hA hB hR h hne
  go_enter Try.func45, Try.ntmps45
  go_wp2_with fail
  refine (right_is A c t true w HA.out hl (yes_iff HR.out)).mono ?_
  rintro e w1 ⟨rfl, hb⟩
  have hf := find_not A B c d t p w1 (HA.out.below hb) (HB.out.below hb) hl (by rw [HM.out]; exact hp) HR.out HF.out
  rw [HM.out] at hf
  go_wp2_with fail
  refine hf.mono ?_
  rintro e w2 ⟨rfl, hb2⟩
  go_wp2
  go_ret2
  exact ⟨rfl, bthen hb hb2⟩
set_option maxRecDepth 100000 in
theorem codeFind_at (A B : Option Addr) (c d n m a : Nat) (t : List T.Ln) (p : T.Pth) (w : World) (hn : t.length = n) (hm : p.length = m) (hA : Seen eL w A t) (hB : Seen eS w B p) (hl : n ≤ 1073741824) (hp : m ≤ 1073741824) (hR : T.RightT t) (ha : a < n) (hpa : T.pathL t a = p) :
    Calls Try.prog 45 #[.slice A n c, .slice B m d] w (PlaceS w (a : Nat) 0) := by
  subst hn; subst hm
  have hne : p ≠ [] := by rw [← hpa]; exact T.path_ne
  have h0 := List.length_pos_iff.2 hne
  obtain ⟨m, hm⟩ : ∃ m, p.length = m := ⟨_, rfl⟩
  have HA := Lib.hid hA
  have HB := Lib.hid hB
  have HR := Lib.hid hR
  have HM := Lib.hid hm
  have HF := Lib.hid hpa
  rw [hm] at hp h0 ⊢
  have b0 : ((m : Int) == 0) = false := beq_eq_false_iff_ne.2 (by omega)
  have b1 : (m == 0) = false := beq_eq_false_iff_ne.2 (by omega)
  clear hm hA hB hR hpa hne
  go_enter Try.func45, Try.ntmps45
  go_wp2_with fail
  refine (right_is A c t true w HA.out hl (yes_iff HR.out)).mono ?_
  rintro e w1 ⟨rfl, hb⟩
  have hf := find_some A B c d t a p w1 (HA.out.below hb) (HB.out.below hb) hl (by rw [HM.out]; exact hp) HR.out ha HF.out
  rw [HM.out] at hf
  go_wp2_with fail
  refine hf.mono ?_
  rintro e w2 ⟨rfl, hb2⟩
  go_wp2
  go_ret2
  exact ⟨rfl, bthen hb hb2⟩
set_option maxRecDepth 100000 in
theorem codeFor_long (A B : Option Addr) (c d n m : Nat) (wd : List UInt8) (w : World) (h : 40 < wd.length) :
    Calls Try.prog 37 #[.slice A n c, .slice B m d, .string (sB wd)] w (PlaceS w 0 1) := by
  have hs := sB_size wd
  have b : decide ((40 : Int) < ((sB wd).size : Int)) = true := decide_eq_true (by rw [hs]; omega)
  have b2 : decide (40 < (sB wd).size) = true := decide_eq_true (by rw [hs]; omega)
  clear hs h
  go_enter Try.func37, Try.ntmps37
  go_wp2
  go_ret2
  exact ⟨rfl, Below.refl _ _⟩
set_option maxRecDepth 100000 in
theorem codeFor (A B : Option Addr) (c d n m : Nat) (wd : List UInt8) (w : World) (i er : Int) (h : wd.length ≤ 40) (hf : Calls Try.prog 45 #[.slice A n c, .slice B m d] w (PlaceS w i er)) :
    Calls Try.prog 37 #[.slice A n c, .slice B m d, .string (sB wd)] w (PlaceS w i er) := by
  have hs := sB_size wd
  have b : decide ((40 : Int) < ((sB wd).size : Int)) = false := decide_eq_false (by rw [hs]; omega)
  have b2 : decide (40 < (sB wd).size) = false := decide_eq_false (by rw [hs]; omega)
  clear hs h
  go_enter Try.func37, Try.ntmps37
  go_wp2_with fail
  refine hf.mono ?_
  rintro e w1 ⟨rfl, hb⟩
  go_wp2
  go_ret2
  exact ⟨rfl, hb⟩

set_option maxRecDepth 100000 in
theorem cloneP_some (ad : Addr) (cap n : Nat) (t : T.Pth) (w : World) (hn : t.length = n) (hp : n ≤ 1073741824) (h : Seen eS w (some ad) t) :
    Calls Try.prog 56 #[.slice (some ad) n cap] w (OwnS eS w t) := by
  have HH := Lib.hid (h.below ((Below.refl _ _).alloc (Nat.le_refl _) (.cells #[] eS.T)))
  have HO := Lib.hid (Own.empty eS w)
  clear h
  have q := fun (w : World) (a : Option Addr) (n c : Nat) => Lib.run_eql_slice_nil (P := Try.prog) w 23 _ a n c 0 0 Try.underlying23
  have HN := Lib.hid hn
  clear hn
  go_enter Try.func56, Try.ntmps56
  go_wp2_with (first | (at_builtin; refine wpList_appSeen eS (w.alloc (.cells #[] eS.T)) rfl (.tmp 5) (.tmp 6) rfl w.heap.size _ [] rfl HO.out ad t n cap HN.out rfl HH.out (by simp; omega) (by simp) ?_; intro v3 w3 hown3 hb3))
  go_ret
  exact ⟨v3, rfl, hown3, ((Below.refl _ _).alloc (Nat.le_refl _) _).trans hb3⟩
theorem cells_word (t : T.Pth) : ∀ (i : Nat) (x : List UInt8), (cellsG eS t).set i (.string (sB x)) = cellsG eS (t.set i x) := by
  induction t with
  | nil => intro i x; rfl
  | cons y t ih =>
    intro i x
    cases i with
    | zero => rfl
    | succ i =>
      have e1 : cellsG eS (y :: t) = .string (sB y) :: cellsG eS t := rfl
      have e2 : cellsG eS (y :: t.set i x) = .string (sB y) :: cellsG eS (t.set i x) := rfl
      rw [List.set_cons_succ, e2, ← ih i x, e1]
      rfl
/-- A word, stored. -/
theorem Own.word {w : World} {base g n cap : Nat} {t : T.Pth} (h : Own eS w base (.slice (some ⟨g, 0, none⟩) n cap) t) (i : Nat) (x : List UInt8) : Own eS (w.setCell ⟨g, i, none⟩ (.string (sB x))) base (.slice (some ⟨g, 0, none⟩) n cap) (t.set i x) := by
  have hcl2 := cellsG_len eS (t.set i x)
  rcases h.2 with ⟨e, _⟩ | ⟨g2, cap2, cur, e, hbg, hgg, hnc, hcm, hcs, htk⟩
  · cases e
  · injection e with e1 e2 e3
    injection e1 with e1
    injection e1 with e1
    subst e1; subst e2; subst e3
    refine ⟨hcl2, .inr ⟨g, cap, cur.setIfInBounds i (.string (sB x)), by rw [List.length_set], hbg, ?_, by rw [List.length_set]; exact hnc, hcm, by rw [Array.size_setIfInBounds]; exact hcs, ?_⟩⟩
    · simp [World.setCell, Array.getElem?_modify, hgg]
    · rw [List.length_set, ← cells_word t i x, ← htk, Array.toList_setIfInBounds, List.take_set]
theorem Own.frozenNo {α : Type} {E : Elem α} {w : World} {base g n cap : Nat} {t : List α} (h : Own E w base (.slice (some ⟨g, 0, none⟩) n cap) t) (j : Nat) : w.frozen? ⟨g, j, none⟩ = false ∧ base ≤ g ∧ g < w.heap.size := by
  rcases h.2 with ⟨e, _⟩ | ⟨g2, cap2, cur, e, hbg, hgg, _⟩
  · cases e
  · injection e with e1 e2 e3
    injection e1 with e1
    injection e1 with e1
    subst e1
    exact ⟨Lib.frozen_of_heap hgg j, hbg, (Array.getElem?_eq_some_iff.1 hgg).1⟩
theorem set_last {p : T.Pth} {q : Nat} (h : p.length = q + 1) (x : List UInt8) : p.set q x = p.dropLast ++ [x] := by
  obtain ⟨r, v, e⟩ := T.snoc_of (p := p) (by intro e; rw [e] at h; simp at h)
  subst e
  rw [List.length_append, List.length_singleton] at h
  obtain rfl : r.length = q := by omega
  rw [List.dropLast_concat, List.set_append_right _ _ (Nat.le_refl _), Nat.sub_self]
  rfl
set_option maxRecDepth 100000 in
set_option maxHeartbeats 1000000 in
theorem beside_any (b o d q : Nat) (p : T.Pth) (wd : List UInt8) (w : World) (hm : p.length = q + 1) (hb : b < w.heap.size) (hH : Holds eS w b o p) (hq : q ≤ 1073741823) :
    Calls Try.prog 43 #[.slice (some ⟨b, o, none⟩) (q + 1) d, .string (sB wd)] w (fun e w' => ∃ g cap, e = .returned (.slice (some ⟨g, 0, none⟩) (q + 1) cap) ∧ Own eS w' w.heap.size (.slice (some ⟨g, 0, none⟩) (q + 1) cap) (p.dropLast ++ [wd]) ∧ q + 1 ≤ cap ∧ Below w.heap.size w w') := by
  have hcl := cloneP_some ⟨b, o, none⟩ d (q + 1) p w hm (by omega) (hH.seen hb)
  have HM := Lib.hid hm
  clear hH hm
  go_enter Try.func43, Try.ntmps43
  go_wp2_with fail
  refine hcl.mono ?_
  rintro e w1 ⟨v1, rfl, hown, hx⟩
  obtain ⟨A1, c1, e1, hc1, _⟩ := hown.seen
  rw [HM.out] at e1 hc1
  subst e1
  obtain ⟨g, e2, hbg, hg, hhg⟩ := hown.block (by rw [HM.out]; omega)
  subst e2
  obtain ⟨f1, f2, f3⟩ := hown.frozenNo q
  obtain ⟨x0, hcell⟩ : ∃ x0, w1.cell? ⟨g, q, none⟩ = some (.string x0) := by
    have hq2 : q < p.length := by have := HM.out; omega
    have := hhg.str hq2
    rw [Nat.zero_add] at this
    exact ⟨_, this⟩
  have hset := hown.word q wd
  rw [set_last HM.out] at hset
  have HS := Lib.hid hset
  have HX := Lib.hid hx
  have HBG := Lib.hid hbg
  have hqi : (q : Int) < (q : Int) + 1 := by omega
  clear hown hcl hhg hset hx hbg
  go_wp2
  go_ret
  exact ⟨g, c1, rfl, HS.out, hc1, HX.out.setCell HBG.out _⟩
end Go.Proofs.Ytfjpeonfkhcpfaa
