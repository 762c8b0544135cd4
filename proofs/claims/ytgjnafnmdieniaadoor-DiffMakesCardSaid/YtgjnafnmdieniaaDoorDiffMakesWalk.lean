/-
  The walk of layer 8's statement DiffMakes, from what diff's functions do: it returns true whatever the lines are. No conditions.
-/
import Derived.Test.YtgjnafnmdieniaaDoorDiffG
import Derived.Test.YtgjnafnmdieniaaDoorLinesC
namespace Go.Proofs.YtgjnafnmdieniaaDoor
open Go.RowKit
set_option linter.unusedVariables false

set_option maxRecDepth 100000 in
set_option maxHeartbeats 4000000 in
theorem diffMakes_walk (E : DiffOk) (w : World) (A : Option Addr) (c : Nat) (a : List T.Ln) (hc : a.length ≤ c) (hA : Seen eL w A a) (hl : a.length ≤ maxLen) (hNA : NilOk A c) (B : Option Addr) (d : Nat) (b : List T.Ln) (hd : b.length ≤ d) (hB : Seen eL w B b) (hl2 : b.length ≤ maxLen) (hNB : NilOk B d) :
    Calls Tryd.prog 4 #[.slice A a.length c, .slice B b.length d] w (TrueS w) := by
  unfold maxLen at hl hl2
  obtain ⟨n, hn⟩ : ∃ n, a.length = n := ⟨_, rfl⟩
  obtain ⟨m, hm⟩ : ∃ m, b.length = m := ⟨_, rfl⟩
  rw [hn] at hc hl ⊢
  rw [hm] at hd hl2 ⊢
  have HN := Lib.hid hn
  have HM := Lib.hid hm
  have HA := Lib.hid hA
  have HB := Lib.hid hB
  have HNA := Lib.hid hNA
  have HNB := Lib.hid hNB
  clear hA hB hn hm hNA hNB
  have hb : Below w.heap.size w w := Below.refl _ _
  go_enter Tryd.func4, Tryd.ntmps4
  go_wp2_with fail
  refine (smallQ A c n a _ HN.out HA.out).mono ?_
  rintro e wx1 ⟨bs, rfl, hsm, hx⟩
  replace HA := Lib.hid (HA.out.below hx)
  replace HB := Lib.hid (HB.out.below hx)
  replace hb := bthen hb hx
  clear hx
  cases bs with
  | false =>
    clear hsm
    go_wp2_with fail
    refine (awake_of E _).mono ?_
    rintro e wz ⟨rfl, hx⟩
    go_wp2
    go_ret
    exact ⟨rfl, bthen hb hx⟩
  | true =>
    replace hsm := hsm rfl
    have hn220 : n ≤ 220 := hsm
    clear hsm
    go_wp2_with fail
    refine (smallQ B d m b _ HM.out HB.out).mono ?_
    rintro e wx2 ⟨bs, rfl, hsm, hx⟩
    replace HA := Lib.hid (HA.out.below hx)
    replace HB := Lib.hid (HB.out.below hx)
    replace hb := bthen hb hx
    clear hx
    cases bs with
    | false =>
      clear hsm
      go_wp2_with fail
      refine (awake_of E _).mono ?_
      rintro e wz ⟨rfl, hx⟩
      go_wp2
      go_ret
      exact ⟨rfl, bthen hb hx⟩
    | true =>
      replace hsm := hsm rfl
      have hm220 : m ≤ 220 := hsm
      clear hsm
      by_cases hn60 : 60 < n
      · have bn60 : decide ((60 : Int) < (n : Int)) = true := decide_eq_true (by omega)
        have bn61 : decide (60 < n) = true := decide_eq_true hn60
        go_wp2_with fail
        refine (awake_of E _).mono ?_
        rintro e wz ⟨rfl, hx⟩
        go_wp2
        go_ret
        exact ⟨rfl, bthen hb hx⟩
      · have bn60 : decide ((60 : Int) < (n : Int)) = false := decide_eq_false (by omega)
        have bn61 : decide (60 < n) = false := decide_eq_false hn60
        replace hn60 : n ≤ 60 := by omega
        by_cases hm60 : 60 < m
        · have bm60 : decide ((60 : Int) < (m : Int)) = true := decide_eq_true (by omega)
          have bm61 : decide (60 < m) = true := decide_eq_true hm60
          go_wp2_with fail
          refine (awake_of E _).mono ?_
          rintro e wz ⟨rfl, hx⟩
          go_wp2
          go_ret
          exact ⟨rfl, bthen hb hx⟩
        · have bm60 : decide ((60 : Int) < (m : Int)) = false := decide_eq_false (by omega)
          have bm61 : decide (60 < m) = false := decide_eq_false hm60
          replace hm60 : m ≤ 60 := by omega
          replace HA := Lib.hid (TArg.mk HN.out (by omega) hc HA.out HNA.out)
          replace HB := Lib.hid (TArg.mk HM.out (by omega) hd HB.out HNB.out)
          by_cases hR : T.RightT a ∧ T.RightT b
          · have HR1 := Lib.hid hR.1
            have HR2 := Lib.hid hR.2
            obtain ⟨L, hL⟩ : ∃ L, T.diffL a b = L := ⟨_, rfl⟩
            obtain ⟨k, hk⟩ : ∃ k, L.length = k := ⟨_, rfl⟩
            have HL := Lib.hid hL
            have HK := Lib.hid hk
            have HFW := Lib.hid (show FewC L from hL ▸ diff_few hR.1 hR.2)
            have HGR := Lib.hid (show GoodR L from hL ▸ diff_goodR hR.1 hR.2)
            have HRUN := Lib.hid (show T.RunOk a L b from hL ▸ T.diff_runs hR.1 hR.2)
            have HNONE := Lib.hid (show L = [] ↔ a = b from hL ▸ T.diff_none hR.1 hR.2)
            have hk1024 : k ≤ 1024 := hk ▸ HFW.out.1
            clear hL hk hR
            go_wp2_with fail
            refine (of_is E A B c d n m k a b L _ HA.out HB.out HR1.out HR2.out HL.out HK.out).mono ?_
            rintro e wx3 ⟨A1, c1, rfl, hs3, hk3, hx⟩
            replace HA := Lib.hid (HA.out.below hx)
            replace HB := Lib.hid (HB.out.below hx)
            have HX := Lib.hid hs3
            clear hs3
            replace hb := bthen hb hx
            clear hx
            go_wp2_with fail
            refine (apply_is E A A1 c c1 n k m a b L _ HA.out HX.out HR1.out HRUN.out HM.out).mono ?_
            rintro e wx4 ⟨A2, c2, rfl, hs4, hx⟩
            replace HA := Lib.hid (HA.out.below hx)
            replace HB := Lib.hid (HB.out.below hx)
            replace HX := Lib.hid (HX.out.below hx)
            have HT := Lib.hid hs4
            clear hs4
            replace hb := bthen hb hx
            clear hx
            go_wp2_with fail
            refine (sameQ A2 B c2 d m m b b _ true (yes_iff rfl) HM.out HM.out (by omega) HT.out.hA HB.out.hA).mono ?_
            rintro e wx5 ⟨rfl, hx⟩
            replace HA := Lib.hid (HA.out.below hx)
            replace HB := Lib.hid (HB.out.below hx)
            replace HX := Lib.hid (HX.out.below hx)
            replace HT := Lib.hid (HT.out.below hx)
            replace hb := bthen hb hx
            clear hx
            by_cases hab : a = b
            · have hk0 : k = 0 := by rw [← HK.out, HNONE.out.2 hab]; rfl
              have b0 : ((k : Int) == 0) = true := by rw [hk0]; rfl
              have b01 : (k == 0) = true := by rw [hk0]; rfl
              have HAB := Lib.hid hab
              clear hab hk0
              go_wp2_with fail
              refine (sameQ A B c d n m a b _ true (yes_iff HAB.out) HN.out HM.out (by omega) HA.out.hA HB.out.hA).mono ?_
              rintro e wx6 ⟨rfl, hx⟩
              replace HA := Lib.hid (HA.out.below hx)
              replace HB := Lib.hid (HB.out.below hx)
              replace HX := Lib.hid (HX.out.below hx)
              replace HT := Lib.hid (HT.out.below hx)
              replace hb := bthen hb hx
              clear hx
              go_wp2_with fail
              refine (awake_of E _).mono ?_
              rintro e wz ⟨rfl, hx⟩
              go_wp2
              go_ret
              exact ⟨rfl, bthen hb hx⟩
            · have hk0 : k ≠ 0 := fun e => hab (HNONE.out.1 (List.eq_nil_of_length_eq_zero (HK.out.trans e)))
              have b0 : ((k : Int) == 0) = false := beq_eq_false_iff_ne.2 (by omega)
              have b01 : (k == 0) = false := beq_eq_false_iff_ne.2 hk0
              have HAB := Lib.hid hab
              clear hab
              go_wp2_with fail
              refine (sameQ A B c d n m a b _ false (no_iff HAB.out) HN.out HM.out (by omega) HA.out.hA HB.out.hA).mono ?_
              rintro e wx6 ⟨rfl, hx⟩
              replace HA := Lib.hid (HA.out.below hx)
              replace HB := Lib.hid (HB.out.below hx)
              replace HX := Lib.hid (HX.out.below hx)
              replace HT := Lib.hid (HT.out.below hx)
              replace hb := bthen hb hx
              clear hx
              go_wp2_with fail
              refine (awake_of E _).mono ?_
              rintro e wz ⟨rfl, hx⟩
              go_wp2
              go_ret
              exact ⟨rfl, bthen hb hx⟩
          · have HR := Lib.hid hR
            clear hR
            go_wp2_with fail
            refine (of_bad E A B c d n m a b _ HA.out HB.out HR.out).mono ?_
            rintro e wx3 ⟨A1, c1, rfl, hx⟩
            replace HA := Lib.hid (HA.out.below hx)
            replace HB := Lib.hid (HB.out.below hx)
            replace hb := bthen hb hx
            clear hx
            go_wp2_with fail
            refine (awake_of E _).mono ?_
            rintro e wz ⟨rfl, hx⟩
            go_wp2
            go_ret
            exact ⟨rfl, bthen hb hx⟩
end Go.Proofs.YtgjnafnmdieniaaDoor
