/-
  The walk of layer 4's statement ShowTexts: it returns true whatever the lines and the place are. No conditions.
-/
import Derived.Test.YtokhflpeeibeeaaShowAwake
import Derived.Test.YtokhflpeeibeeaaShowRef
import Derived.Test.YtokhflpeeibeeaaTreeRefSub
namespace Go.Proofs.Ytokhflpeeibeeaa
open Go.RowKit

theorem refSub_is (A : Option Addr) (c : Nat) (t : List T.Ln) (i : Nat) (l : List T.Ln) (w : World) (hA : Seen eL w A t) (hl : t.length ≤ 1073741824) (hi : i < t.length) (hR : T.RightT t) (h : T.subL t i = l) :
    Calls Try.prog 15 #[.slice A t.length c, .int .i64 i] w (SawG eL w l) := by rw [← h]; exact refSub_any A c t i w hA hl hi hR
theorem refText_is (A : Option Addr) (c n : Nat) (t : List T.Ln) (l : List UInt8) (w : World) (hA : Seen eL w A t) (hn : t.length = n) (hR : T.RightT t) (h : S.textL t = l) :
    Calls Try.prog 14 #[.slice A n c] w (WroteQ w.heap.size w l) := by rw [← h, ← hn]; exact refText_yes A c t w hA hR

set_option maxRecDepth 100000 in
set_option maxHeartbeats 1000000 in
theorem showTexts_walk (w : World) (A : Option Addr) (c : Nat) (t : List T.Ln) (hc : t.length ≤ c) (hA : Seen eL w A t) (hl : t.length ≤ maxLen) (i : Int) (wi : (Lit.int .i64 i).wf = true) :
    Calls Try.prog 3 #[.slice A t.length c, .int .i64 i] w (TrueS w) := by
  unfold maxLen at hl
  obtain ⟨hi1, hi2⟩ := bounds_i64 wi
  clear wi
  have HA := Lib.hid hA
  clear hA
  have hb : Below w.heap.size w w := Below.refl _ _
  go_enter Try.func3, Try.ntmps3
  go_wp2_with fail
  refine (small_is A c t _ HA.out).mono ?_
  rintro e wx1 ⟨bs, rfl, hsm, hx⟩
  replace HA := Lib.hid (HA.out.below hx)
  replace hb := bthen hb hx
  clear hx
  cases bs with
  | false =>
    clear hsm
    go_wp2_with fail
    refine (awake_any _).mono ?_
    rintro e wz ⟨rfl, hx⟩
    go_wp2
    go_ret
    exact ⟨rfl, bthen hb hx⟩
  | true =>
    replace hsm := hsm rfl
    have hll : t.length ≤ 1073741824 := by omega
    by_cases hR : T.RightT t
    · have HR := Lib.hid hR
      clear hR
      obtain ⟨L, hL⟩ : ∃ L, S.textL t = L := ⟨_, rfl⟩
      have HL := Lib.hid hL
      clear hL
      go_wp2_with fail
      refine (text_is A c t.length t L _ HA.out rfl HR.out HL.out).mono ?_
      rintro e wx2 ⟨rfl, hx⟩
      replace HA := Lib.hid (HA.out.below hx)
      replace hb := bthen hb hx
      clear hx
      by_cases h0 : i < 0
      · have b0 : decide (i < (0 : Int)) = true := decide_eq_true h0
        go_wp2_with fail
        refine (part_no A c t i _ HA.out hll (by omega)).mono ?_
        rintro e wx3 ⟨rfl, hx⟩
        replace HA := Lib.hid (HA.out.below hx)
        replace hb := bthen hb hx
        clear hx
        go_wp2_with fail
        refine (rightR_is A c t true _ HA.out hll (yes_iff HR.out)).mono ?_
        rintro e wx4 ⟨rfl, hx⟩
        replace HA := Lib.hid (HA.out.below hx)
        replace hb := bthen hb hx
        clear hx
        go_wp2_with fail
        refine (refText_is A c t.length t L _ HA.out rfl HR.out HL.out).mono ?_
        rintro e wx5 ⟨rfl, hx⟩
        replace HA := Lib.hid (HA.out.below hx)
        replace hb := bthen hb hx
        clear hx
        go_wp2_with fail
        refine (awake_any _).mono ?_
        rintro e wz ⟨rfl, hx⟩
        go_wp2
        go_ret
        exact ⟨rfl, bthen hb hx⟩
      · have b0 : decide (i < (0 : Int)) = false := decide_eq_false h0
        by_cases h2 : (t.length : Int) ≤ i
        · have b2 : decide ((t.length : Int) ≤ i) = true := decide_eq_true h2
          go_wp2_with fail
          refine (part_no A c t i _ HA.out hll (by omega)).mono ?_
          rintro e wx3 ⟨rfl, hx⟩
          replace HA := Lib.hid (HA.out.below hx)
          replace hb := bthen hb hx
          clear hx
          go_wp2_with fail
          refine (rightR_is A c t true _ HA.out hll (yes_iff HR.out)).mono ?_
          rintro e wx4 ⟨rfl, hx⟩
          replace HA := Lib.hid (HA.out.below hx)
          replace hb := bthen hb hx
          clear hx
          go_wp2_with fail
          refine (refText_is A c t.length t L _ HA.out rfl HR.out HL.out).mono ?_
          rintro e wx5 ⟨rfl, hx⟩
          replace HA := Lib.hid (HA.out.below hx)
          replace hb := bthen hb hx
          clear hx
          go_wp2_with fail
          refine (awake_any _).mono ?_
          rintro e wz ⟨rfl, hx⟩
          go_wp2
          go_ret
          exact ⟨rfl, bthen hb hx⟩
        · obtain ⟨k, rfl⟩ := Int.eq_ofNat_of_zero_le (show 0 ≤ i by omega)
          have hk : k < t.length := by omega
          have b4 : decide (t.length ≤ k) = false := decide_eq_false (by omega)
          have hXR := HR.out.sub k hk
          obtain ⟨X, hX⟩ : ∃ X, T.subL t k = X := ⟨_, rfl⟩
          obtain ⟨P, hP⟩ : ∃ P, S.textL X = P := ⟨_, rfl⟩
          rw [hX] at hXR
          have HXR := Lib.hid hXR
          have HX := Lib.hid hX
          have HP := Lib.hid hP
          clear hX hP hXR
          go_wp2_with fail
          refine (part_yes A c t k _ HA.out hc HR.out hk P (by rw [HX.out]; exact HXR.out) (by rw [HX.out]; exact HP.out)).mono ?_
          rintro e wx3 ⟨rfl, hx⟩
          replace HA := Lib.hid (HA.out.below hx)
          replace hb := bthen hb hx
          clear hx
          go_wp2_with fail
          refine (rightR_is A c t true _ HA.out hll (yes_iff HR.out)).mono ?_
          rintro e wx4 ⟨rfl, hx⟩
          replace HA := Lib.hid (HA.out.below hx)
          replace hb := bthen hb hx
          clear hx
          go_wp2_with fail
          refine (refText_is A c t.length t L _ HA.out rfl HR.out HL.out).mono ?_
          rintro e wx5 ⟨rfl, hx⟩
          replace HA := Lib.hid (HA.out.below hx)
          replace hb := bthen hb hx
          clear hx
          go_wp2_with fail
          refine (refSub_is A c t k X _ HA.out hll hk HR.out HX.out).mono ?_
          rintro e wx6 ⟨B6, cap6, rfl, hcap6, hseen, hx⟩
          replace HA := Lib.hid (HA.out.below hx)
          have HS := Lib.hid hseen
          clear hseen
          replace hb := bthen hb hx
          clear hx
          go_wp2_with fail
          refine (refText_is _ _ X.length X P _ HS.out rfl HXR.out HP.out).mono ?_
          rintro e wx7 ⟨rfl, hx⟩
          replace HA := Lib.hid (HA.out.below hx)
          replace HS := Lib.hid (HS.out.below hx)
          replace hb := bthen hb hx
          clear hx
          go_wp2_with fail
          refine (awake_any _).mono ?_
          rintro e wz ⟨rfl, hx⟩
          go_wp2
          go_ret
          exact ⟨rfl, bthen hb hx⟩
    · have HR := Lib.hid hR
      clear hR
      go_wp2_with fail
      refine (text_no A c t _ HA.out hll HR.out).mono ?_
      rintro e wx2 ⟨rfl, hx⟩
      replace HA := Lib.hid (HA.out.below hx)
      replace hb := bthen hb hx
      clear hx
      go_wp2_with fail
      refine (part_no A c t i _ HA.out hll (.inr (.inr HR.out))).mono ?_
      rintro e wx3 ⟨rfl, hx⟩
      replace HA := Lib.hid (HA.out.below hx)
      replace hb := bthen hb hx
      clear hx
      go_wp2_with fail
      refine (rightR_is A c t false _ HA.out hll (no_iff HR.out)).mono ?_
      rintro e wx4 ⟨rfl, hx⟩
      replace HA := Lib.hid (HA.out.below hx)
      replace hb := bthen hb hx
      clear hx
      go_wp2_with fail
      refine (awake_any _).mono ?_
      rintro e wz ⟨rfl, hx⟩
      go_wp2
      go_ret
      exact ⟨rfl, bthen hb hx⟩
end Go.Proofs.Ytokhflpeeibeeaa
