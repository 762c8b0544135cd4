/-
  The walk of layer 8's statement DiffOf, from what diff's functions do: it returns true whatever the lines are. No conditions.
-/
import Derived.Test.YtgjnafnmdieniaaDoorDiffG
import Derived.Test.YtgjnafnmdieniaaDoorLinesC
namespace Go.Proofs.YtgjnafnmdieniaaDoor
open Go.RowKit
set_option linter.unusedVariables false

set_option maxRecDepth 100000 in
set_option maxHeartbeats 4000000 in
theorem diffOf_walk (E : DiffOk) (w : World) (A : Option Addr) (c : Nat) (a : List T.Ln) (hc : a.length ≤ c) (hA : Seen eL w A a) (hl : a.length ≤ maxLen) (hNA : NilOk A c) (B : Option Addr) (d : Nat) (b : List T.Ln) (hd : b.length ≤ d) (hB : Seen eL w B b) (hl2 : b.length ≤ maxLen) (hNB : NilOk B d) :
    Calls Tryd.prog 3 #[.slice A a.length c, .slice B b.length d] w (TrueS w) := by
  unfold maxLen at hl hl2
  obtain ⟨n, hn⟩ : ∃ n, a.length = n := ⟨_, rfl⟩
  obtain ⟨m, hm⟩ : ∃ m, b.length = m := ⟨_, rfl⟩
  rw [hn] at hc hl ⊢
  rw [hm] at hd hl2 ⊢
  have HN := Lib.hid hn
  have HM := Lib.hid hm
  have HA := Lib.hid hA
  have HB := Lib.hid hB
  have HNA := Lib.hid hNA
  have HNB := Lib.hid hNB
  clear hA hB hn hm hNA hNB
  have hb : Below w.heap.size w w := Below.refl _ _
  go_enter Tryd.func3, Tryd.ntmps3
  go_wp2_with fail
  refine (smallQ A c n a _ HN.out HA.out).mono ?_
  rintro e wx1 ⟨bs, rfl, hsm, hx⟩
  replace HA := Lib.hid (HA.out.below hx)
  replace HB := Lib.hid (HB.out.below hx)
  replace hb := bthen hb hx
  clear hx
  cases bs with
  | false =>
    clear hsm
    go_wp2_with fail
    refine (awake_of E _).mono ?_
    rintro e wz ⟨rfl, hx⟩
    go_wp2
    go_ret
    exact ⟨rfl, bthen hb hx⟩
  | true =>
    replace hsm := hsm rfl
    have hn220 : n ≤ 220 := hsm
    clear hsm
    go_wp2_with fail
    refine (smallQ B d m b _ HM.out HB.out).mono ?_
    rintro e wx2 ⟨bs, rfl, hsm, hx⟩
    replace HA := Lib.hid (HA.out.below hx)
    replace HB := Lib.hid (HB.out.below hx)
    replace hb := bthen hb hx
    clear hx
    cases bs with
    | false =>
      clear hsm
      go_wp2_with fail
      refine (awake_of E _).mono ?_
      rintro e wz ⟨rfl, hx⟩
      go_wp2
      go_ret
      exact ⟨rfl, bthen hb hx⟩
    | true =>
      replace hsm := hsm rfl
      have hm220 : m ≤ 220 := hsm
      clear hsm
      by_cases hn60 : 60 < n
      · have bn60 : decide ((60 : Int) < (n : Int)) = true := decide_eq_true (by omega)
        have bn61 : decide (60 < n) = true := decide_eq_true hn60
        go_wp2_with fail
        refine (awake_of E _).mono ?_
        rintro e wz ⟨rfl, hx⟩
        go_wp2
        go_ret
        exact ⟨rfl, bthen hb hx⟩
      · have bn60 : decide ((60 : Int) < (n : Int)) = false := decide_eq_false (by omega)
        have bn61 : decide (60 < n) = false := decide_eq_false hn60
        replace hn60 : n ≤ 60 := by omega
        by_cases hm60 : 60 < m
        · have bm60 : decide ((60 : Int) < (m : Int)) = true := decide_eq_true (by omega)
          have bm61 : decide (60 < m) = true := decide_eq_true hm60
          go_wp2_with fail
          refine (awake_of E _).mono ?_
          rintro e wz ⟨rfl, hx⟩
          go_wp2
          go_ret
          exact ⟨rfl, bthen hb hx⟩
        · have bm60 : decide ((60 : Int) < (m : Int)) = false := decide_eq_false (by omega)
          have bm61 : decide (60 < m) = false := decide_eq_false hm60
          replace hm60 : m ≤ 60 := by omega
          replace HA := Lib.hid (TArg.mk HN.out (by omega) hc HA.out HNA.out)
          replace HB := Lib.hid (TArg.mk HM.out (by omega) hd HB.out HNB.out)
          by_cases hR : T.RightT a ∧ T.RightT b
          · have HR1 := Lib.hid hR.1
            have HR2 := Lib.hid hR.2
            obtain ⟨L, hL⟩ : ∃ L, T.diffL a b = L := ⟨_, rfl⟩
            obtain ⟨k, hk⟩ : ∃ k, L.length = k := ⟨_, rfl⟩
            have HL := Lib.hid hL
            have HK := Lib.hid hk
            have HFW := Lib.hid (show FewC L from hL ▸ diff_few hR.1 hR.2)
            have HSM := Lib.hid (show ∀ x ∈ L, x.mark < 100 from fun x hx => by
              rw [← hL] at hx
              have h := (T.diff_good hR.1 hR.2 hx).2.1.2
              omega)
            have HGR := Lib.hid (show GoodR L from hL ▸ diff_goodR hR.1 hR.2)
            have HRUN := Lib.hid (show T.RunOk a L b from hL ▸ T.diff_runs hR.1 hR.2)
            have HNONE := Lib.hid (show L = [] ↔ a = b from hL ▸ T.diff_none hR.1 hR.2)
            have hk1024 : k ≤ 1024 := hk ▸ HFW.out.1
            clear hL hk hR
            obtain ⟨q, hq⟩ : ∃ q, sB (T.textD L) = q := ⟨_, rfl⟩
            have HQ := Lib.hid hq
            clear hq
            go_wp2_with fail
            refine (of_is E A B c d n m k a b L _ HA.out HB.out HR1.out HR2.out HL.out HK.out).mono ?_
            rintro e wx3 ⟨A1, c1, rfl, hs3, hk3, hx⟩
            replace HA := Lib.hid (HA.out.below hx)
            replace HB := Lib.hid (HB.out.below hx)
            have HX := Lib.hid hs3
            clear hs3
            replace hb := bthen hb hx
            clear hx
            go_wp2_with fail
            refine (rightRQ A c n a true _ HA.out (yes_iff HR1.out)).mono ?_
            rintro e wx4 ⟨rfl, hx⟩
            replace HA := Lib.hid (HA.out.below hx)
            replace HB := Lib.hid (HB.out.below hx)
            replace HX := Lib.hid (HX.out.below hx)
            replace hb := bthen hb hx
            clear hx
            go_wp2_with fail
            refine (rightRQ B d m b true _ HB.out (yes_iff HR2.out)).mono ?_
            rintro e wx5 ⟨rfl, hx⟩
            replace HA := Lib.hid (HA.out.below hx)
            replace HB := Lib.hid (HB.out.below hx)
            replace HX := Lib.hid (HX.out.below hx)
            replace hb := bthen hb hx
            clear hx
            go_wp2_with fail
            refine (refsQ A1 c1 k L _ HX.out HGR.out).mono ?_
            rintro e wx6 ⟨A2, c2, rfl, hs6, hx⟩
            replace HA := Lib.hid (HA.out.below hx)
            replace HB := Lib.hid (HB.out.below hx)
            replace HX := Lib.hid (HX.out.below hx)
            have HY := Lib.hid hs6
            clear hs6
            replace hb := bthen hb hx
            clear hx
            go_wp2_with fail
            refine (refOfQ A B c d n m k a b L _ HA.out HB.out HR1.out HR2.out HL.out HK.out).mono ?_
            rintro e wx7 ⟨A3, c3, rfl, hs7, hx⟩
            replace HA := Lib.hid (HA.out.below hx)
            replace HB := Lib.hid (HB.out.below hx)
            replace HX := Lib.hid (HX.out.below hx)
            replace HY := Lib.hid (HY.out.below hx)
            have HZ := Lib.hid hs7
            clear hs7
            replace hb := bthen hb hx
            clear hx
            go_wp2_with fail
            refine (sameCQ A2 A3 c2 c3 k L _ HK.out HGR.out HY.out HZ.out).mono ?_
            rintro e wx8 ⟨rfl, hx⟩
            replace HA := Lib.hid (HA.out.below hx)
            replace HB := Lib.hid (HB.out.below hx)
            replace HX := Lib.hid (HX.out.below hx)
            replace HY := Lib.hid (HY.out.below hx)
            replace HZ := Lib.hid (HZ.out.below hx)
            replace hb := bthen hb hx
            clear hx
            go_wp2_with fail
            refine (text_is8 E A1 c1 k L q _ HX.out HFW.out (Or.inl HSM.out) HQ.out).mono ?_
            rintro e wx9 ⟨rfl, hx⟩
            replace HA := Lib.hid (HA.out.below hx)
            replace HB := Lib.hid (HB.out.below hx)
            replace HX := Lib.hid (HX.out.below hx)
            replace HY := Lib.hid (HY.out.below hx)
            replace HZ := Lib.hid (HZ.out.below hx)
            replace hb := bthen hb hx
            clear hx
            go_wp2_with fail
            refine (refTextQ A3 c3 k L q _ HK.out HZ.out HFW.out HQ.out).mono ?_
            rintro e wx10 ⟨rfl, hx⟩
            replace HA := Lib.hid (HA.out.below hx)
            replace HB := Lib.hid (HB.out.below hx)
            replace HX := Lib.hid (HX.out.below hx)
            replace HY := Lib.hid (HY.out.below hx)
            replace HZ := Lib.hid (HZ.out.below hx)
            replace hb := bthen hb hx
            clear hx
            go_wp2_with fail
            refine (awake_of E _).mono ?_
            rintro e wz ⟨rfl, hx⟩
            go_wp2
            go_ret
            exact ⟨rfl, bthen hb hx⟩
          · have HR := Lib.hid hR
            clear hR
            go_wp2_with fail
            refine (of_bad E A B c d n m a b _ HA.out HB.out HR.out).mono ?_
            rintro e wx3 ⟨A1, c1, rfl, hx⟩
            replace HA := Lib.hid (HA.out.below hx)
            replace HB := Lib.hid (HB.out.below hx)
            replace hb := bthen hb hx
            clear hx
            by_cases hR1 : T.RightT a
            · have HR1 := Lib.hid hR1
              have HR2 := Lib.hid (show ¬ T.RightT b from fun h => HR.out ⟨hR1, h⟩)
              clear hR1
              go_wp2_with fail
              refine (rightRQ A c n a true _ HA.out (yes_iff HR1.out)).mono ?_
              rintro e wx4 ⟨rfl, hx⟩
              replace HA := Lib.hid (HA.out.below hx)
              replace HB := Lib.hid (HB.out.below hx)
              replace hb := bthen hb hx
              clear hx
              go_wp2_with fail
              refine (rightRQ B d m b false _ HB.out (no_iff HR2.out)).mono ?_
              rintro e wx5 ⟨rfl, hx⟩
              replace HA := Lib.hid (HA.out.below hx)
              replace HB := Lib.hid (HB.out.below hx)
              replace hb := bthen hb hx
              clear hx
              go_wp2_with fail
              refine (awake_of E _).mono ?_
              rintro e wz ⟨rfl, hx⟩
              go_wp2
              go_ret
              exact ⟨rfl, bthen hb hx⟩
            · have HR1 := Lib.hid hR1
              clear hR1
              go_wp2_with fail
              refine (rightRQ A c n a false _ HA.out (no_iff HR1.out)).mono ?_
              rintro e wx4 ⟨rfl, hx⟩
              replace HA := Lib.hid (HA.out.below hx)
              replace HB := Lib.hid (HB.out.below hx)
              replace hb := bthen hb hx
              clear hx
              go_wp2_with fail
              refine (awake_of E _).mono ?_
              rintro e wz ⟨rfl, hx⟩
              go_wp2
              go_ret
              exact ⟨rfl, bthen hb hx⟩
end Go.Proofs.YtgjnafnmdieniaaDoor
