/-
  The walk of layer 3's statement TreeExact: it returns true whatever the lines and the place are. No conditions.
-/
import Derived.Test.YtocaiojdmnfamaaTreeHead
import Derived.Test.YtocaiojdmnfamaaTreeRefSub
namespace Go.Proofs.Ytocaiojdmnfamaa
open Go.RowKit

theorem refKids_is (A : Option Addr) (c : Nat) (t : List T.Ln) (i : Int) (l : List Nat) (w : World) (hA : Seen eL w A t) (hl : t.length ≤ 1073741824) (h : T.kidsL t i = l) :
    Calls Try.prog 19 #[.slice A t.length c, .int .i64 i] w (SawG eI w l) := by rw [← h]; exact refKids_any A c t i w hA hl
theorem refPath_is (A : Option Addr) (c : Nat) (t : List T.Ln) (i : Nat) (p : List (List UInt8)) (w : World) (hA : Seen eL w A t) (hl : t.length ≤ 1073741824) (hi : i < t.length) (hR : T.RightT t) (h : T.pathL t i = p) :
    Calls Try.prog 23 #[.slice A t.length c, .int .i64 i] w (SawG eS w p) := by rw [← h]; exact refPath_any A c t i w hA hl hi hR
theorem refSub_is (A : Option Addr) (c : Nat) (t : List T.Ln) (i : Nat) (l : List T.Ln) (w : World) (hA : Seen eL w A t) (hl : t.length ≤ 1073741824) (hi : i < t.length) (hR : T.RightT t) (h : T.subL t i = l) :
    Calls Try.prog 25 #[.slice A t.length c, .int .i64 i] w (SawG eL w l) := by rw [← h]; exact refSub_any A c t i w hA hl hi hR
theorem refUnder_is (A : Option Addr) (c : Nat) (t : List T.Ln) (i : Nat) (u : Int) (w : World) (hA : Seen eL w A t) (hi : i < t.length) (hl : t.length ≤ 1073741824) (h : T.underL t i = u) :
    Calls Try.prog 20 #[.slice A t.length c, .int .i64 i] w (IntS w u) := by rw [← h]; exact refUnder_any A c t i w hA hi hl
theorem refEnd_is (A : Option Addr) (c : Nat) (t : List T.Ln) (i e : Nat) (w : World) (hA : Seen eL w A t) (hi : i < t.length) (hl : t.length ≤ 1073741824) (h : T.endL t i = e) :
    Calls Try.prog 21 #[.slice A t.length c, .int .i64 i] w (IntS w (e : Nat)) := by rw [← h]; exact refEnd_any A c t i w hA hi hl

set_option maxRecDepth 100000 in
set_option maxHeartbeats 1000000 in
theorem treeExact_walk (w : World) (A : Option Addr) (c : Nat) (t : List T.Ln) (hc : t.length ≤ c) (hA : Seen eL w A t) (hl : t.length ≤ maxLen) (i : Int) (wi : (Lit.int .i64 i).wf = true) :
    Calls Try.prog 3 #[.slice A t.length c, .int .i64 i] w (TrueS w) := by
  unfold maxLen at hl
  obtain ⟨hi1, hi2⟩ := bounds_i64 wi
  clear wi
  have HA := Lib.hid hA
  clear hA
  have hb : Below w.heap.size w w := Below.refl _ _
  go_enter Try.func3, Try.ntmps3
  go_wp2_with fail
  refine (small_is A c t _ HA.out).mono ?_
  rintro e wx1 ⟨bs, rfl, hsm, hx⟩
  replace HA := Lib.hid (HA.out.below hx)
  replace hb := bthen hb hx
  clear hx
  cases bs with
  | false =>
    clear hsm
    go_wp2_with fail
    refine (awake_any _).mono ?_
    rintro e wz ⟨rfl, hx⟩
    go_wp2
    go_ret
    exact ⟨rfl, bthen hb hx⟩
  | true =>
    replace hsm := hsm rfl
    have hll : t.length ≤ 1073741824 := by omega
    by_cases hR : T.RightT t
    · have HR := Lib.hid hR
      clear hR
      go_wp2_with fail
      refine (rightR_is A c t true _ HA.out hll (yes_iff HR.out)).mono ?_
      rintro e wx2 ⟨rfl, hx⟩
      replace HA := Lib.hid (HA.out.below hx)
      replace hb := bthen hb hx
      clear hx
      go_wp2_with fail
      refine (right_is A c t true _ HA.out hll (yes_iff HR.out)).mono ?_
      rintro e wx3 ⟨rfl, hx⟩
      replace HA := Lib.hid (HA.out.below hx)
      replace hb := bthen hb hx
      clear hx
      by_cases h1 : i < -1
      · have b1 : decide (i < (-1 : Int)) = true := decide_eq_true h1
        go_wp2_with fail
        refine (Path_no A c t i _ HA.out hll (by omega)).mono ?_
        rintro e wx4 ⟨B4, cap4, rfl, hcap4, hseen, hx⟩
        replace HA := Lib.hid (HA.out.below hx)
        clear hseen
        replace hb := bthen hb hx
        clear hx
        go_wp2_with fail
        refine (kids_no A c t i _ HA.out hll (by omega)).mono ?_
        rintro e wx5 ⟨B5, cap5, rfl, hcap5, hseen, hx⟩
        replace HA := Lib.hid (HA.out.below hx)
        clear hseen
        replace hb := bthen hb hx
        clear hx
        go_wp2_with fail
        refine (Under_no A c t i _ HA.out hll (by omega)).mono ?_
        rintro e wx6 ⟨rfl, hx⟩
        replace HA := Lib.hid (HA.out.below hx)
        replace hb := bthen hb hx
        clear hx
        go_wp2_with fail
        refine (End_no A c t i _ HA.out hll (by omega)).mono ?_
        rintro e wx7 ⟨rfl, hx⟩
        replace HA := Lib.hid (HA.out.below hx)
        replace hb := bthen hb hx
        clear hx
        go_wp2_with fail
        refine (sub_no A c t i _ HA.out hll (by omega)).mono ?_
        rintro e wx8 ⟨B8, cap8, rfl, hcap8, hseen, hx⟩
        replace HA := Lib.hid (HA.out.below hx)
        clear hseen
        replace hb := bthen hb hx
        clear hx
        go_wp2_with fail
        refine (awake_any _).mono ?_
        rintro e wz ⟨rfl, hx⟩
        go_wp2
        go_ret
        exact ⟨rfl, bthen hb hx⟩
      · have b1 : decide (i < (-1 : Int)) = false := decide_eq_false h1
        by_cases h2 : (t.length : Int) ≤ i
        · have b2 : decide ((t.length : Int) ≤ i) = true := decide_eq_true h2
          go_wp2_with fail
          refine (Path_no A c t i _ HA.out hll (by omega)).mono ?_
          rintro e wx4 ⟨B4, cap4, rfl, hcap4, hseen, hx⟩
          replace HA := Lib.hid (HA.out.below hx)
          clear hseen
          replace hb := bthen hb hx
          clear hx
          go_wp2_with fail
          refine (kids_no A c t i _ HA.out hll (by omega)).mono ?_
          rintro e wx5 ⟨B5, cap5, rfl, hcap5, hseen, hx⟩
          replace HA := Lib.hid (HA.out.below hx)
          clear hseen
          replace hb := bthen hb hx
          clear hx
          go_wp2_with fail
          refine (Under_no A c t i _ HA.out hll (by omega)).mono ?_
          rintro e wx6 ⟨rfl, hx⟩
          replace HA := Lib.hid (HA.out.below hx)
          replace hb := bthen hb hx
          clear hx
          go_wp2_with fail
          refine (End_no A c t i _ HA.out hll (by omega)).mono ?_
          rintro e wx7 ⟨rfl, hx⟩
          replace HA := Lib.hid (HA.out.below hx)
          replace hb := bthen hb hx
          clear hx
          go_wp2_with fail
          refine (sub_no A c t i _ HA.out hll (by omega)).mono ?_
          rintro e wx8 ⟨B8, cap8, rfl, hcap8, hseen, hx⟩
          replace HA := Lib.hid (HA.out.below hx)
          clear hseen
          replace hb := bthen hb hx
          clear hx
          go_wp2_with fail
          refine (awake_any _).mono ?_
          rintro e wz ⟨rfl, hx⟩
          go_wp2
          go_ret
          exact ⟨rfl, bthen hb hx⟩
        · have b2 : decide ((t.length : Int) ≤ i) = false := decide_eq_false h2
          obtain ⟨K, hK⟩ : ∃ K, T.kidsL t i = K := ⟨_, rfl⟩
          have HKl := Lib.hid (show K.length ≤ 1073741824 by rw [← hK]; exact Nat.le_trans (T.filter_len t.length _) hll)
          have HK := Lib.hid hK
          clear hK
          by_cases h3 : i = -1
          · subst h3
            go_wp2_with fail
            refine (Path_no A c t (-1) _ HA.out hll (by omega)).mono ?_
            rintro e wx4 ⟨B4, cap4, rfl, hcap4, hseen, hx⟩
            replace HA := Lib.hid (HA.out.below hx)
            clear hseen
            replace hb := bthen hb hx
            clear hx
            go_wp2_with fail
            refine (kids_is A c t (-1) K _ HA.out hll (by omega) (by omega) HR.out HK.out).mono ?_
            rintro e wx5 ⟨B5, cap5, rfl, hcap5, hseen, hx⟩
            replace HA := Lib.hid (HA.out.below hx)
            have HS := Lib.hid hseen
            clear hseen
            replace hb := bthen hb hx
            clear hx
            go_wp2_with fail
            refine (refKids_is A c t (-1) K _ HA.out hll HK.out).mono ?_
            rintro e wx6 ⟨B6, cap6, rfl, hcap6, hseen, hx⟩
            replace HA := Lib.hid (HA.out.below hx)
            replace HS := Lib.hid (HS.out.below hx)
            have HS2 := Lib.hid hseen
            clear hseen
            replace hb := bthen hb hx
            clear hx
            go_wp2_with fail
            refine (ints_yes _ _ _ _ K _ HKl.out HS.out HS2.out).mono ?_
            rintro e wx7 ⟨rfl, hx⟩
            replace HA := Lib.hid (HA.out.below hx)
            replace HS := Lib.hid (HS.out.below hx)
            replace HS2 := Lib.hid (HS2.out.below hx)
            replace hb := bthen hb hx
            clear hx
            go_wp2_with fail
            refine (Under_no A c t (-1) _ HA.out hll (by omega)).mono ?_
            rintro e wx8 ⟨rfl, hx⟩
            replace HA := Lib.hid (HA.out.below hx)
            replace HS := Lib.hid (HS.out.below hx)
            replace HS2 := Lib.hid (HS2.out.below hx)
            replace hb := bthen hb hx
            clear hx
            go_wp2_with fail
            refine (End_no A c t (-1) _ HA.out hll (by omega)).mono ?_
            rintro e wx9 ⟨rfl, hx⟩
            replace HA := Lib.hid (HA.out.below hx)
            replace HS := Lib.hid (HS.out.below hx)
            replace HS2 := Lib.hid (HS2.out.below hx)
            replace hb := bthen hb hx
            clear hx
            go_wp2_with fail
            refine (sub_no A c t (-1) _ HA.out hll (by omega)).mono ?_
            rintro e wx10 ⟨B10, cap10, rfl, hcap10, hseen, hx⟩
            replace HA := Lib.hid (HA.out.below hx)
            replace HS := Lib.hid (HS.out.below hx)
            replace HS2 := Lib.hid (HS2.out.below hx)
            clear hseen
            replace hb := bthen hb hx
            clear hx
            go_wp2_with fail
            refine (awake_any _).mono ?_
            rintro e wz ⟨rfl, hx⟩
            go_wp2
            go_ret
            exact ⟨rfl, bthen hb hx⟩
          · have b3 : (i == -1) = false := beq_eq_false_iff_ne.2 h3
            obtain ⟨k, rfl⟩ := Int.eq_ofNat_of_zero_le (show 0 ≤ i by omega)
            have hk : k < t.length := by omega
            have b4 : decide (t.length ≤ k) = false := decide_eq_false (by omega)
            obtain ⟨P, hP⟩ : ∃ P, T.pathL t k = P := ⟨_, rfl⟩
            have hPl := HR.out.path_len k k (Nat.le_refl _) hk
            have hPd := HR.out.deep k hk
            rw [hP] at hPl
            have HPl := Lib.hid (show P.length ≤ 1073741824 by omega)
            have HP := Lib.hid hP
            clear hP hPl hPd
            obtain ⟨U, hU⟩ : ∃ U, T.underL t k = U := ⟨_, rfl⟩
            have HU := Lib.hid hU
            clear hU
            obtain ⟨E, hE⟩ : ∃ E, T.endL t k = E := ⟨_, rfl⟩
            have HE := Lib.hid hE
            clear hE
            obtain ⟨X, hX⟩ : ∃ X, T.subL t k = X := ⟨_, rfl⟩
            have hXl := T.sub_len t k hk
            have hXe := (T.end_spec t k hk).2.1
            rw [hX] at hXl
            have HXl := Lib.hid (show X.length ≤ 1073741824 by omega)
            have HX := Lib.hid hX
            clear hX hXl hXe
            go_wp2_with fail
            refine (Path_is A c t k P _ HA.out hll hk HR.out HP.out).mono ?_
            rintro e wx4 ⟨B4, cap4, rfl, hcap4, hseen, hx⟩
            replace HA := Lib.hid (HA.out.below hx)
            have HS3 := Lib.hid hseen
            clear hseen
            replace hb := bthen hb hx
            clear hx
            go_wp2_with fail
            refine (kids_is A c t k K _ HA.out hll (by omega) (by omega) HR.out HK.out).mono ?_
            rintro e wx5 ⟨B5, cap5, rfl, hcap5, hseen, hx⟩
            replace HA := Lib.hid (HA.out.below hx)
            replace HS3 := Lib.hid (HS3.out.below hx)
            have HS := Lib.hid hseen
            clear hseen
            replace hb := bthen hb hx
            clear hx
            go_wp2_with fail
            refine (refKids_is A c t k K _ HA.out hll HK.out).mono ?_
            rintro e wx6 ⟨B6, cap6, rfl, hcap6, hseen, hx⟩
            replace HA := Lib.hid (HA.out.below hx)
            replace HS3 := Lib.hid (HS3.out.below hx)
            replace HS := Lib.hid (HS.out.below hx)
            have HS2 := Lib.hid hseen
            clear hseen
            replace hb := bthen hb hx
            clear hx
            go_wp2_with fail
            refine (ints_yes _ _ _ _ K _ HKl.out HS.out HS2.out).mono ?_
            rintro e wx7 ⟨rfl, hx⟩
            replace HA := Lib.hid (HA.out.below hx)
            replace HS3 := Lib.hid (HS3.out.below hx)
            replace HS := Lib.hid (HS.out.below hx)
            replace HS2 := Lib.hid (HS2.out.below hx)
            replace hb := bthen hb hx
            clear hx
            go_wp2_with fail
            refine (Under_is A c t k U _ HA.out hll hk HR.out HU.out).mono ?_
            rintro e wx8 ⟨rfl, hx⟩
            replace HA := Lib.hid (HA.out.below hx)
            replace HS3 := Lib.hid (HS3.out.below hx)
            replace hb := bthen hb hx
            clear hx
            go_wp2_with fail
            refine (refUnder_is A c t k U _ HA.out hk hll HU.out).mono ?_
            rintro e wx9 ⟨rfl, hx⟩
            replace HA := Lib.hid (HA.out.below hx)
            replace HS3 := Lib.hid (HS3.out.below hx)
            replace hb := bthen hb hx
            clear hx
            go_wp2_with fail
            refine (End_is A c t k E _ HA.out hll hk HR.out HE.out).mono ?_
            rintro e wx10 ⟨rfl, hx⟩
            replace HA := Lib.hid (HA.out.below hx)
            replace HS3 := Lib.hid (HS3.out.below hx)
            replace hb := bthen hb hx
            clear hx
            go_wp2_with fail
            refine (refEnd_is A c t k E _ HA.out hk hll HE.out).mono ?_
            rintro e wx11 ⟨rfl, hx⟩
            replace HA := Lib.hid (HA.out.below hx)
            replace HS3 := Lib.hid (HS3.out.below hx)
            replace hb := bthen hb hx
            clear hx
            go_wp2_with fail
            refine (refPath_is A c t k P _ HA.out hll hk HR.out HP.out).mono ?_
            rintro e wx12 ⟨B12, cap12, rfl, hcap12, hseen, hx⟩
            replace HA := Lib.hid (HA.out.below hx)
            replace HS3 := Lib.hid (HS3.out.below hx)
            have HS4 := Lib.hid hseen
            clear hseen
            replace hb := bthen hb hx
            clear hx
            go_wp2_with fail
            refine (equal_yes _ _ _ _ P P P.length P.length _ rfl rfl rfl HPl.out HS3.out HS4.out).mono ?_
            rintro e wx13 ⟨rfl, hx⟩
            replace HA := Lib.hid (HA.out.below hx)
            replace HS3 := Lib.hid (HS3.out.below hx)
            replace HS4 := Lib.hid (HS4.out.below hx)
            replace hb := bthen hb hx
            clear hx
            go_wp2_with fail
            refine (sub_is A c t k X _ HA.out hll hc hk HR.out HX.out).mono ?_
            rintro e wx14 ⟨B14, cap14, rfl, hcap14, hseen, hx⟩
            replace HA := Lib.hid (HA.out.below hx)
            have HS5 := Lib.hid hseen
            clear hseen
            replace hb := bthen hb hx
            clear hx
            go_wp2_with fail
            refine (refSub_is A c t k X _ HA.out hll hk HR.out HX.out).mono ?_
            rintro e wx15 ⟨B15, cap15, rfl, hcap15, hseen, hx⟩
            replace HA := Lib.hid (HA.out.below hx)
            replace HS5 := Lib.hid (HS5.out.below hx)
            have HS6 := Lib.hid hseen
            clear hseen
            replace hb := bthen hb hx
            clear hx
            go_wp2_with fail
            refine (same_yes _ _ _ _ X _ HXl.out HS5.out HS6.out).mono ?_
            rintro e wx16 ⟨rfl, hx⟩
            replace HA := Lib.hid (HA.out.below hx)
            replace HS5 := Lib.hid (HS5.out.below hx)
            replace HS6 := Lib.hid (HS6.out.below hx)
            replace hb := bthen hb hx
            clear hx
            go_wp2_with fail
            refine (awake_any _).mono ?_
            rintro e wz ⟨rfl, hx⟩
            go_wp2
            go_ret
            exact ⟨rfl, bthen hb hx⟩
    · have HR := Lib.hid hR
      clear hR
      go_wp2_with fail
      refine (rightR_is A c t false _ HA.out hll (no_iff HR.out)).mono ?_
      rintro e wx2 ⟨rfl, hx⟩
      replace HA := Lib.hid (HA.out.below hx)
      replace hb := bthen hb hx
      clear hx
      go_wp2_with fail
      refine (right_is A c t false _ HA.out hll (no_iff HR.out)).mono ?_
      rintro e wx3 ⟨rfl, hx⟩
      replace HA := Lib.hid (HA.out.below hx)
      replace hb := bthen hb hx
      clear hx
      go_wp2_with fail
      refine (Path_no A c t i _ HA.out hll (.inr (.inr HR.out))).mono ?_
      rintro e wx4 ⟨B4, cap4, rfl, hcap4, hseen, hx⟩
      replace HA := Lib.hid (HA.out.below hx)
      clear hseen
      replace hb := bthen hb hx
      clear hx
      go_wp2_with fail
      refine (kids_no A c t i _ HA.out hll (.inr (.inr HR.out))).mono ?_
      rintro e wx5 ⟨B5, cap5, rfl, hcap5, hseen, hx⟩
      replace HA := Lib.hid (HA.out.below hx)
      clear hseen
      replace hb := bthen hb hx
      clear hx
      go_wp2_with fail
      refine (Under_no A c t i _ HA.out hll (.inr (.inr HR.out))).mono ?_
      rintro e wx6 ⟨rfl, hx⟩
      replace HA := Lib.hid (HA.out.below hx)
      replace hb := bthen hb hx
      clear hx
      go_wp2_with fail
      refine (End_no A c t i _ HA.out hll (.inr (.inr HR.out))).mono ?_
      rintro e wx7 ⟨rfl, hx⟩
      replace HA := Lib.hid (HA.out.below hx)
      replace hb := bthen hb hx
      clear hx
      go_wp2_with fail
      refine (sub_no A c t i _ HA.out hll (.inr (.inr HR.out))).mono ?_
      rintro e wx8 ⟨B8, cap8, rfl, hcap8, hseen, hx⟩
      replace HA := Lib.hid (HA.out.below hx)
      clear hseen
      replace hb := bthen hb hx
      clear hx
      go_wp2_with fail
      refine (awake_any _).mono ?_
      rintro e wz ⟨rfl, hx⟩
      go_wp2
      go_ret
      exact ⟨rfl, bthen hb hx⟩
end Go.Proofs.Ytocaiojdmnfamaa
