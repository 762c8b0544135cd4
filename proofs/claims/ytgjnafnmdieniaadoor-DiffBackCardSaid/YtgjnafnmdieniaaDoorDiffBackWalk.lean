/-
  The walk of layer 8's statement DiffBack, from what diff's functions do: it returns true whatever the lines are. No conditions.
-/
import Derived.Test.YtgjnafnmdieniaaDoorDiffH
import Derived.Test.YtgjnafnmdieniaaDoorLinesC
namespace Go.Proofs.YtgjnafnmdieniaaDoor
open Go.RowKit
set_option linter.unusedVariables false

set_option maxRecDepth 100000 in
set_option maxHeartbeats 4000000 in
theorem diffBack_walk (E : DiffOk) (w : World) (A : Option Addr) (c : Nat) (a : List T.Ln) (hc : a.length ≤ c) (hA : Seen eL w A a) (hl : a.length ≤ maxLen) (hNA : NilOk A c) (B : Option Addr) (d : Nat) (b : List T.Ln) (hd : b.length ≤ d) (hB : Seen eL w B b) (hl2 : b.length ≤ maxLen) (hNB : NilOk B d) :
    Calls Tryd.prog 5 #[.slice A a.length c, .slice B b.length d] w (TrueS w) := by
  unfold maxLen at hl hl2
  obtain ⟨n, hn⟩ : ∃ n, a.length = n := ⟨_, rfl⟩
  obtain ⟨m, hm⟩ : ∃ m, b.length = m := ⟨_, rfl⟩
  rw [hn] at hc hl ⊢
  rw [hm] at hd hl2 ⊢
  have HN := Lib.hid hn
  have HM := Lib.hid hm
  have HA := Lib.hid hA
  have HB := Lib.hid hB
  have HNA := Lib.hid hNA
  have HNB := Lib.hid hNB
  clear hA hB hn hm hNA hNB
  have hb : Below w.heap.size w w := Below.refl _ _
  go_enter Tryd.func5, Tryd.ntmps5
  go_wp2_with fail
  refine (smallQ A c n a _ HN.out HA.out).mono ?_
  rintro e wx1 ⟨bs, rfl, hsm, hx⟩
  replace HA := Lib.hid (HA.out.below hx)
  replace HB := Lib.hid (HB.out.below hx)
  replace hb := bthen hb hx
  clear hx
  cases bs with
  | false =>
    clear hsm
    go_wp2_with fail
    refine (awake_of E _).mono ?_
    rintro e wz ⟨rfl, hx⟩
    go_wp2
    go_ret
    exact ⟨rfl, bthen hb hx⟩
  | true =>
    replace hsm := hsm rfl
    have hn220 : n ≤ 220 := hsm
    clear hsm
    go_wp2_with fail
    refine (smallQ B d m b _ HM.out HB.out).mono ?_
    rintro e wx2 ⟨bs, rfl, hsm, hx⟩
    replace HA := Lib.hid (HA.out.below hx)
    replace HB := Lib.hid (HB.out.below hx)
    replace hb := bthen hb hx
    clear hx
    cases bs with
    | false =>
      clear hsm
      go_wp2_with fail
      refine (awake_of E _).mono ?_
      rintro e wz ⟨rfl, hx⟩
      go_wp2
      go_ret
      exact ⟨rfl, bthen hb hx⟩
    | true =>
      replace hsm := hsm rfl
      have hm220 : m ≤ 220 := hsm
      clear hsm
      by_cases hn60 : 60 < n
      · have bn60 : decide ((60 : Int) < (n : Int)) = true := decide_eq_true (by omega)
        have bn61 : decide (60 < n) = true := decide_eq_true hn60
        go_wp2_with fail
        refine (awake_of E _).mono ?_
        rintro e wz ⟨rfl, hx⟩
        go_wp2
        go_ret
        exact ⟨rfl, bthen hb hx⟩
      · have bn60 : decide ((60 : Int) < (n : Int)) = false := decide_eq_false (by omega)
        have bn61 : decide (60 < n) = false := decide_eq_false hn60
        replace hn60 : n ≤ 60 := by omega
        by_cases hm60 : 60 < m
        · have bm60 : decide ((60 : Int) < (m : Int)) = true := decide_eq_true (by omega)
          have bm61 : decide (60 < m) = true := decide_eq_true hm60
          go_wp2_with fail
          refine (awake_of E _).mono ?_
          rintro e wz ⟨rfl, hx⟩
          go_wp2
          go_ret
          exact ⟨rfl, bthen hb hx⟩
        · have bm60 : decide ((60 : Int) < (m : Int)) = false := decide_eq_false (by omega)
          have bm61 : decide (60 < m) = false := decide_eq_false hm60
          replace hm60 : m ≤ 60 := by omega
          replace HA := Lib.hid (TArg.mk HN.out (by omega) hc HA.out HNA.out)
          replace HB := Lib.hid (TArg.mk HM.out (by omega) hd HB.out HNB.out)
          by_cases hR : T.RightT a ∧ T.RightT b
          · have HR1 := Lib.hid hR.1
            have HR2 := Lib.hid hR.2
            obtain ⟨L, hL⟩ : ∃ L, T.diffL a b = L := ⟨_, rfl⟩
            obtain ⟨k, hk⟩ : ∃ k, L.length = k := ⟨_, rfl⟩
            have HL := Lib.hid hL
            have HK := Lib.hid hk
            have HFW := Lib.hid (show FewC L from hL ▸ diff_few hR.1 hR.2)
            have HGR := Lib.hid (show GoodR L from hL ▸ diff_goodR hR.1 hR.2)
            have HRUN := Lib.hid (show T.RunOk a L b from hL ▸ T.diff_runs hR.1 hR.2)
            have HNONE := Lib.hid (show L = [] ↔ a = b from hL ▸ T.diff_none hR.1 hR.2)
            have hk1024 : k ≤ 1024 := hk ▸ HFW.out.1
            clear hL hk hR
            obtain ⟨L2, hL2⟩ : ∃ L2, T.diffL b a = L2 := ⟨_, rfl⟩
            obtain ⟨k2, hk2⟩ : ∃ k2, L2.length = k2 := ⟨_, rfl⟩
            have HL2 := Lib.hid hL2
            have HK2 := Lib.hid hk2
            have hk21024 : k2 ≤ 420 := by rw [← hk2, ← hL2]; exact (diff_goodR HR2.out HR1.out).1
            have hk1024b : k ≤ 420 := by rw [← HK.out]; exact HGR.out.1
            have HRB := Lib.hid (show T.RunOk a (L ++ L2) a from T.run_app HRUN.out (hL2 ▸ T.diff_runs HR2.out HR1.out))
            obtain ⟨k3, hk3⟩ : ∃ k3, k + k2 = k3 := ⟨_, rfl⟩
            have HK3 := Lib.hid (show (L ++ L2).length = k3 by rw [List.length_append, HK.out, hk2, hk3])
            have hk31024 : k3 ≤ 1024 := by omega
            have b3 : ((k3 : Int) == (k : Int) + (k2 : Int)) = true := by simp; omega
            have b31 : (k3 == k + k2) = true := by simp; omega
            clear hL2 hk2 hk3
            go_wp2_with fail
            refine (of_is E A B c d n m k a b L _ HA.out HB.out HR1.out HR2.out HL.out HK.out).mono ?_
            rintro e wx3 ⟨A1, c1, rfl, hs3, hk3, hx⟩
            replace HA := Lib.hid (HA.out.below hx)
            replace HB := Lib.hid (HB.out.below hx)
            have HX := Lib.hid hs3
            clear hs3
            replace hb := bthen hb hx
            clear hx
            have HNX := Lib.hid hk3
            clear hk3
            go_wp2_with fail
            refine (of_is E B A d c m n k2 b a L2 _ HB.out HA.out HR2.out HR1.out HL2.out HK2.out).mono ?_
            rintro e wx4 ⟨A2, c2, rfl, hs4, hk4, hx⟩
            replace HA := Lib.hid (HA.out.below hx)
            replace HB := Lib.hid (HB.out.below hx)
            replace HX := Lib.hid (HX.out.below hx)
            have HY := Lib.hid hs4
            clear hs4
            replace hb := bthen hb hx
            clear hx
            have HNY := Lib.hid hk4
            clear hk4
            obtain ⟨M1, hl1, hs1, he1⟩ := HX.out.hA
            obtain ⟨M2, hl2, hs2, he2⟩ := HY.out.hA
            have HO := Lib.hid (own_empty wx4)
            have HS1 := Lib.hid (hs1.below (up wx4 (.cells #[] 41)))
            have HS2 := Lib.hid hs2
            have HE1 := Lib.hid he1
            have HE2 := Lib.hid he2
            have HM1 := Lib.hid hl1
            have HM2 := Lib.hid hl2
            have hc1 := HX.out.hc
            have hc2 := HY.out.hc
            have HBX := Lib.hid (up wx4 (.cells #[] 41))
            have HM1K := Lib.hid (hl1.trans HK.out)
            have HM2K := Lib.hid (hl2.trans HK2.out)
            clear hl1 hl2 hs1 hs2 he1 he2
            go_wp2_with (first | (at_builtin; refine wpList_appAny eD (wx4.alloc (.cells #[] 41)) rfl (.tmp 57) (.tmp 58) rfl wx4.heap.size _ [] rfl HO.out A1 M1 k c1 HM1K.out rfl hc1 HNX.out HS1.out (by simp; omega) (by simp) ?_; intro v3 w3 hown3 hb3) | (at_builtin; refine wpList_appAny eD w3 rfl (.tmp 59) (.tmp 60) rfl wx4.heap.size v3 ([] ++ M1) rfl hown3 A2 M2 k2 c2 HM2K.out rfl hc2 HNY.out (HS2.out.below (HBX.out.trans hb3)) (by rw [List.nil_append, HM1K.out]; omega) (HBX.out.trans hb3).size ?_; intro v4 w4 hown4 hb4; have hx := (HBX.out.trans hb3).trans hb4; obtain ⟨A4, c4, rfl, h4⟩ := seenC_app HM1.out HM2.out HE1.out HE2.out hown4 hx HK3.out hk31024; have HZ := Lib.hid h4; clear h4))
            replace HA := Lib.hid (HA.out.below hx)
            replace HB := Lib.hid (HB.out.below hx)
            replace HX := Lib.hid (HX.out.below hx)
            replace HY := Lib.hid (HY.out.below hx)
            replace hb := bthen hb hx
            clear hx
            refine (apply_is E A A4 c c4 n k3 n a a (L ++ L2) _ HA.out HZ.out HR1.out HRB.out HN.out).mono ?_
            rintro e wx5 ⟨A5, c5, rfl, hs5, hx⟩
            replace HA := Lib.hid (HA.out.below hx)
            replace HB := Lib.hid (HB.out.below hx)
            replace HX := Lib.hid (HX.out.below hx)
            replace HY := Lib.hid (HY.out.below hx)
            replace HZ := Lib.hid (HZ.out.below hx)
            have HT := Lib.hid hs5
            clear hs5
            replace hb := bthen hb hx
            clear hx
            go_wp2_with fail
            refine (sameQ A5 A c5 c n n a a _ true (yes_iff rfl) HN.out HN.out (by omega) HT.out.hA HA.out.hA).mono ?_
            rintro e wx6 ⟨rfl, hx⟩
            replace HA := Lib.hid (HA.out.below hx)
            replace HB := Lib.hid (HB.out.below hx)
            replace HX := Lib.hid (HX.out.below hx)
            replace HY := Lib.hid (HY.out.below hx)
            replace HZ := Lib.hid (HZ.out.below hx)
            replace HT := Lib.hid (HT.out.below hx)
            replace hb := bthen hb hx
            clear hx
            go_wp2_with fail
            refine (awake_of E _).mono ?_
            rintro e wz ⟨rfl, hx⟩
            go_wp2
            go_ret
            exact ⟨rfl, bthen hb hx⟩
          · have HR := Lib.hid hR
            clear hR
            go_wp2_with fail
            refine (of_bad E A B c d n m a b _ HA.out HB.out HR.out).mono ?_
            rintro e wx3 ⟨A1, c1, rfl, hx⟩
            replace HA := Lib.hid (HA.out.below hx)
            replace HB := Lib.hid (HB.out.below hx)
            replace hb := bthen hb hx
            clear hx
            go_wp2_with fail
            refine (of_bad E B A d c m n b a _ HB.out HA.out (fun h => HR.out ⟨h.2, h.1⟩)).mono ?_
            rintro e wx4 ⟨A2, c2, rfl, hx⟩
            replace HA := Lib.hid (HA.out.below hx)
            replace HB := Lib.hid (HB.out.below hx)
            replace hb := bthen hb hx
            clear hx
            go_wp2_with fail
            refine (awake_of E _).mono ?_
            rintro e wz ⟨rfl, hx⟩
            go_wp2
            go_ret
            exact ⟨rfl, bthen hb hx⟩
end Go.Proofs.YtgjnafnmdieniaaDoor
