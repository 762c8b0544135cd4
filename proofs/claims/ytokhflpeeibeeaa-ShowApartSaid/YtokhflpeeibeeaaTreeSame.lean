/-
  Contract of the document's Same (layer 3) for any two lists of lines: it returns whether they are equal; below the heap's size at the call the world is as it was. Condition: at most 2^30 lines.
-/
import Derived.Test.YtokhflpeeibeeaaTreeRightR
import Derived.Test.YtokhflpeeibeeaaTreeHas
namespace Go.Proofs.Ytokhflpeeibeeaa
open Go.RowKit

theorem take_nextG {α : Type} {l1 l2 : List α} {k : Nat} (h : l1.take k = l2.take k) (h1 : k < l1.length) (h2 : k < l2.length) (e : l1[k] = l2[k]) : l1.take (k + 1) = l2.take (k + 1) := by
  rw [List.take_succ_eq_append_getElem h1, List.take_succ_eq_append_getElem h2, h, e]
theorem ln_ext {x y : T.Ln} (h1 : x.depth = y.depth) (h2 : x.word = y.word) (h3 : x.mark = y.mark) : x = y := by cases x; cases y; simp_all

set_option maxRecDepth 100000 in
set_option maxHeartbeats 2000000 in
theorem same_long (A B : Option Addr) (c d : Nat) (l1 l2 : List T.Ln) (n : Nat) (w : World) (r : Bool) (hr : r = true ↔ l1 = l2) (hl : n ≤ 1073741824) (hA : Seen eL w A l1) (hB : Seen eL w B l2) (h1 : l1.length = n) (h2 : l2.length = n) :
    Calls Try.prog 17 #[.slice A n c, .slice B n d] w (BoolS w r) := by
  have HA := Lib.hid hA
  have HB := Lib.hid hB
  have H1 := Lib.hid h1
  have H2 := Lib.hid h2
  have HR := Lib.hid hr
  clear hA hB h1 h2 hr
  go_enter Try.func17, Try.ntmps17
  go_wp2
  go_loopg [5] n (fun g i wr => ∃ k : Nat, Hid (k + g = n) ∧ k ≤ n ∧ i = .int .i64 k ∧ Hid (l1.take k = l2.take k) ∧ Below w.heap.size w wr)
  case atStart => exact ⟨0, Nat.zero_add _, Nat.zero_le _, rfl, rfl, Below.refl _ _⟩
  case round =>
    obtain ⟨k, HG, hk, rfl, HI, hb⟩ := hrel
    by_cases hlt : k < n
    · have hk1 : k < l1.length := by have := H1.out; omega
      have hk2 : k < l2.length := by have := H2.out; omega
      obtain ⟨b1, o1, rfl, hw1, hL1⟩ := HA.out.lines (by omega)
      obtain ⟨b2, o2, rfl, hw2, hL2⟩ := HB.out.lines (by omega)
      obtain ⟨c0, c1, c2⟩ := (hL1.below hb hw1).line hk1
      obtain ⟨d0, d1, d2⟩ := (hL2.below hb hw2).line hk2
      have e1 : l1[k] = T.at_ l1 k := at_get l1 k hk1
      have e2 : l2[k] = T.at_ l2 k := at_get l2 k hk2
      have hno : T.at_ l1 k ≠ T.at_ l2 k → r = false := fun h => by
        cases hrr : r with
        | false => rfl
        | true => exact absurd (by have := HR.out.1 hrr; subst this; rfl) h
      have HN := Lib.hid hno
      have HS := Lib.hid (show T.at_ l1 k = T.at_ l2 k → l1.take (k + 1) = l2.take (k + 1) from fun h => take_nextG HI.out hk1 hk2 (by rw [e1, e2, h]))
      clear hno e1 e2
      by_cases q0 : T.dp l1 k = T.dp l2 k
      · by_cases q1 : T.wd l1 k = T.wd l2 k
        · by_cases q2 : (T.at_ l1 k).mark = (T.at_ l2 k).mark
          · have HS2 := Lib.hid (HS.out (ln_ext q0 q1 q2))
            rw [← q0] at d0
            rw [← q1] at d1
            rw [← q2] at d2
            clear q0 q1 q2
            go_wp2
            go_region
            go_wp2
            go_roundg (n - (k + 1))
            case rel => exact ⟨k + 1, (by show _ = _; have := HG.out; omega), by omega, by go_num, HS2, hb.drew⟩
            case measure => have := HG.out; omega
          · have hr2 := HN.out (fun e => q2 (by rw [e]))
            subst hr2
            have b2 : ((T.at_ l1 k).mark == (T.at_ l2 k).mark) = false := beq_eq_false_iff_ne.2 q2
            rw [← q0] at d0
            rw [← q1] at d1
            clear q0 q1 q2
            go_wp2
            go_region
            go_wp2
            go_ret
            exact ⟨rfl, hb.drew⟩
        · have hr2 := HN.out (fun e => q1 (by unfold T.wd; rw [e]))
          subst hr2
          have hne := sB_ne q1
          rw [← q0] at d0
          clear q0 q1
          go_wp2
          go_region
          go_wp2
          go_ret
          exact ⟨rfl, hb.drew⟩
      · have hr2 := HN.out (fun e => q0 (by unfold T.dp; rw [e]))
        subst hr2
        have b2 : (T.dp l1 k == T.dp l2 k) = false := beq_eq_false_iff_ne.2 q0
        clear q0
        go_wp2
        go_region
        go_wp2
        go_ret
        exact ⟨rfl, hb.drew⟩
    · have hr2 : r = true := HR.out.2 (by
        have := HI.out
        rwa [List.take_of_length_le (by have := H1.out; omega), List.take_of_length_le (by have := H2.out; omega)] at this)
      subst hr2
      go_wp2
      go_ret
      exact ⟨rfl, hb⟩
theorem same_short (A B : Option Addr) (c d n m : Nat) (w : World) (h : n ≠ m) :
    Calls Try.prog 17 #[.slice A n c, .slice B m d] w (BoolS w false) := by
  have b : ((n : Int) != (m : Int)) = true := by simp; omega
  go_enter Try.func17, Try.ntmps17
  go_wp2
  go_ret
  exact ⟨rfl, Below.refl _ _⟩
theorem same_any (A B : Option Addr) (c d : Nat) (l1 l2 : List T.Ln) (w : World) (r : Bool) (hr : r = true ↔ l1 = l2) (hl : l1.length ≤ 1073741824) (hA : Seen eL w A l1) (hB : Seen eL w B l2) :
    Calls Try.prog 17 #[.slice A l1.length c, .slice B l2.length d] w (BoolS w r) := by
  by_cases h : l1.length = l2.length
  · have := same_long A B c d l1 l2 l1.length w r hr hl hA hB rfl h.symm
    rw [h] at this ⊢
    exact this
  · have e : r = false := by
      cases hrr : r with
      | false => rfl
      | true => exact absurd (by rw [hr.1 hrr]) h
    subst e
    exact same_short A B c d _ _ w h
end Go.Proofs.Ytokhflpeeibeeaa
