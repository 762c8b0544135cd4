/-
  The walk of layer 5's statement ParseTurned: it returns true whatever the lines are. No conditions.
-/
import Derived.Test.YtjgogjamkbmcjaaParseAwake
import Derived.Test.YtjgogjamkbmcjaaTreeC
import Derived.Test.YtjgogjamkbmcjaaShowRef
import Derived.Test.YtjgogjamkbmcjaaPureU
namespace Go.Proofs.Ytjgogjamkbmcjaa
open Go.RowKit

theorem byt_data (x : List UInt8) : (⟨x.toArray⟩ : ByteArray).data.toList = x := by simp
set_option maxRecDepth 100000 in
set_option maxHeartbeats 1000000 in
theorem parseTurned_walk (w : World) (A : Option Addr) (c : Nat) (a : List T.Ln) (_hc : a.length ≤ c) (hA : Seen eL w A a) (hl : a.length ≤ maxLen) (B : Option Addr) (d : Nat) (b : List T.Ln) (_hd : b.length ≤ d) (hB : Seen eL w B b) (hl2 : b.length ≤ maxLen) :
    Calls Try.prog 6 #[.slice A a.length c, .slice B b.length d] w (TrueS w) := by
  unfold maxLen at hl hl2
  have HA := Lib.hid hA
  have HB := Lib.hid hB
  clear hA hB
  have hb : Below w.heap.size w w := Below.refl _ _
  go_enter Try.func6, Try.ntmps6
  go_wp2_with fail
  refine (small_is A c a _ HA.out).mono ?_
  rintro e wx1 ⟨bs, rfl, hsm, hx⟩
  replace HA := Lib.hid (HA.out.below hx)
  replace HB := Lib.hid (HB.out.below hx)
  replace hb := bthen hb hx
  clear hx
  cases bs with
  | false =>
    clear hsm
    go_wp2_with fail
    refine (awake_any _).mono ?_
    rintro e wz ⟨rfl, hx⟩
    go_wp2
    go_ret
    exact ⟨rfl, bthen hb hx⟩
  | true =>
    replace hsm := hsm rfl
    have hla : a.length ≤ 1073741824 := by omega
    have hla2 : a.length ≤ 220 := hsm
    clear hsm
    go_wp2_with fail
    refine (small_is B d b _ HB.out).mono ?_
    rintro e wx2 ⟨bs, rfl, hsm, hx⟩
    replace HA := Lib.hid (HA.out.below hx)
    replace HB := Lib.hid (HB.out.below hx)
    replace hb := bthen hb hx
    clear hx
    cases bs with
    | false =>
      clear hsm
      go_wp2_with fail
      refine (awake_any _).mono ?_
      rintro e wz ⟨rfl, hx⟩
      go_wp2
      go_ret
      exact ⟨rfl, bthen hb hx⟩
    | true =>
      replace hsm := hsm rfl
      have hlb : b.length ≤ 1073741824 := by omega
      have hlb2 : b.length ≤ 220 := hsm
      clear hsm
      have hwr : IntKind.i64.wrap ((a.length : Int) + (b.length : Int)) = (a.length : Int) + (b.length : Int) := wrapI _ (by omega)
      by_cases h120 : 120 < a.length + b.length
      · have b120 : decide ((120 : Int) < (a.length : Int) + (b.length : Int)) = true := decide_eq_true (by omega)
        clear h120
        go_wp2_with fail
        refine (awake_any _).mono ?_
        rintro e wz ⟨rfl, hx⟩
        go_wp2
        go_ret
        exact ⟨rfl, bthen hb hx⟩
      · have b120 : decide ((120 : Int) < (a.length : Int) + (b.length : Int)) = false := decide_eq_false (by omega)
        have h200 : a.length + b.length ≤ 200 := by omega
        clear h120
        by_cases hR : T.RightT a
        · have HR := Lib.hid hR
          clear hR
          go_wp2_with fail
          refine (rightR_is A c a true _ HA.out hla (yes_iff HR.out)).mono ?_
          rintro e wx3 ⟨rfl, hx⟩
          replace HA := Lib.hid (HA.out.below hx)
          replace HB := Lib.hid (HB.out.below hx)
          replace hb := bthen hb hx
          clear hx
          by_cases hR2 : T.RightT b
          · have HR2 := Lib.hid hR2
            clear hR2
            go_wp2_with fail
            refine (rightR_is B d b true _ HB.out hlb (yes_iff HR2.out)).mono ?_
            rintro e wx4 ⟨rfl, hx⟩
            replace HA := Lib.hid (HA.out.below hx)
            replace HB := Lib.hid (HB.out.below hx)
            replace hb := bthen hb hx
            clear hx
            obtain ⟨L, hL⟩ : ∃ L, S.textL a = L := ⟨_, rfl⟩
            have HL := Lib.hid hL
            clear hL
            obtain ⟨M, hM⟩ : ∃ M, S.textL b = M := ⟨_, rfl⟩
            have HM := Lib.hid hM
            clear hM
            have hlenL : L.length ≤ 200000 := by rw [← HL.out]; exact text_small HR.out
            have hlenM : M.length ≤ 200000 := by rw [← HM.out]; exact text_small HR2.out
            have hrt := refText_yes A c a _ HA.out HR.out
            rw [HL.out] at hrt
            go_wp2_with fail
            refine (hrt).mono ?_
            rintro e wx5 ⟨rfl, hx⟩
            replace HA := Lib.hid (HA.out.below hx)
            replace HB := Lib.hid (HB.out.below hx)
            replace hb := bthen hb hx
            clear hx
            have hrt2 := refText_yes B d b _ HB.out HR2.out
            rw [HM.out] at hrt2
            go_wp2_with fail
            refine (hrt2).mono ?_
            rintro e wx6 ⟨rfl, hx⟩
            replace HA := Lib.hid (HA.out.below hx)
            replace HB := Lib.hid (HB.out.below hx)
            replace hb := bthen hb hx
            clear hx
            clear hrt hrt2
            have htu := S.parse_turned HR.out HR2.out h200
            rw [HL.out, HM.out] at htu
            have hz : ∀ x y : List UInt8, ((⟨x.toArray⟩ : ByteArray) ++ (⟨y.toArray⟩ : ByteArray)).data.toList = x ++ y := fun x y => by rw [byt_app x y, byt_data]
            have hzs : ∀ x y : List UInt8, x.length ≤ 200000 → y.length ≤ 200000 → ((⟨x.toArray⟩ : ByteArray) ++ (⟨y.toArray⟩ : ByteArray)).size ≤ 1073741824 := fun x y h1 h2 => by rw [byt_app x y, byt_size, List.length_append]; omega
            have hsl := byt_size L
            have hsm := byt_size M
            have h1s := hzs L M hlenL hlenM
            have h2s := hzs M L hlenM hlenL
            have h1d := hz L M
            have h2d := hz M L
            clear hz hzs
            rcases htu with ⟨V, v1, v2, v3⟩ | ⟨p, q, v1, v2⟩
            · have HV1 := Lib.hid v1
              have HV2 := Lib.hid v2
              have HV3 := Lib.hid v3
              have hlv : V.length ≤ 1073741824 := by omega
              clear v1 v2 v3
              generalize hSL : (⟨L.toArray⟩ : ByteArray) = SL at *
              generalize hSM : (⟨M.toArray⟩ : ByteArray) = SM at *
              go_wp2_with fail
              refine (tree_ok (SL ++ SM) V (a.length + b.length) _ h1s (by rw [h1d]; exact HV1.out) HV3.out).mono ?_
              rintro e wx7 ⟨B7, cap7, rfl, hcap7, hseen, hx⟩
              replace HA := Lib.hid (HA.out.below hx)
              replace HB := Lib.hid (HB.out.below hx)
              have HX := Lib.hid hseen
              clear hseen
              replace hb := bthen hb hx
              clear hx
              go_wp2_with fail
              refine (tree_ok (SM ++ SL) V (a.length + b.length) _ h2s (by rw [h2d]; exact HV2.out) HV3.out).mono ?_
              rintro e wx8 ⟨B8, cap8, rfl, hcap8, hseen, hx⟩
              replace HA := Lib.hid (HA.out.below hx)
              replace HB := Lib.hid (HB.out.below hx)
              replace HX := Lib.hid (HX.out.below hx)
              have HY := Lib.hid hseen
              clear hseen
              replace hb := bthen hb hx
              clear hx
              have hsame := same_any B7 B8 cap7 cap8 V V _ true (yes_iff rfl) hlv HX.out HY.out
              rw [HV3.out] at hsame
              go_wp2_with fail
              refine (hsame).mono ?_
              rintro e wx9 ⟨rfl, hx⟩
              replace HA := Lib.hid (HA.out.below hx)
              replace HB := Lib.hid (HB.out.below hx)
              replace HX := Lib.hid (HX.out.below hx)
              replace HY := Lib.hid (HY.out.below hx)
              replace hb := bthen hb hx
              clear hx
              go_wp2_with fail
              refine (awake_any _).mono ?_
              rintro e wz ⟨rfl, hx⟩
              go_wp2
              go_ret
              exact ⟨rfl, bthen hb hx⟩
            · have HV1 := Lib.hid v1
              have HV2 := Lib.hid v2
              clear v1 v2
              generalize hSL : (⟨L.toArray⟩ : ByteArray) = SL at *
              generalize hSM : (⟨M.toArray⟩ : ByteArray) = SM at *
              go_wp2_with fail
              refine (tree_bad (SL ++ SM) p 4 _ h1s (by rw [h1d]; exact HV1.out)).mono ?_
              rintro e wx7 ⟨rfl, hx⟩
              replace HA := Lib.hid (HA.out.below hx)
              replace HB := Lib.hid (HB.out.below hx)
              replace hb := bthen hb hx
              clear hx
              go_wp2_with fail
              refine (tree_bad (SM ++ SL) q 4 _ h2s (by rw [h2d]; exact HV2.out)).mono ?_
              rintro e wx8 ⟨rfl, hx⟩
              replace HA := Lib.hid (HA.out.below hx)
              replace HB := Lib.hid (HB.out.below hx)
              replace hb := bthen hb hx
              clear hx
              go_wp2_with fail
              refine (same_any none none 0 0 [] [] _ true (yes_iff rfl) (by decide) Seen.nil Seen.nil).mono ?_
              rintro e wx9 ⟨rfl, hx⟩
              replace HA := Lib.hid (HA.out.below hx)
              replace HB := Lib.hid (HB.out.below hx)
              replace hb := bthen hb hx
              clear hx
              go_wp2_with fail
              refine (awake_any _).mono ?_
              rintro e wz ⟨rfl, hx⟩
              go_wp2
              go_ret
              exact ⟨rfl, bthen hb hx⟩
          · have HR2 := Lib.hid hR2
            clear hR2
            go_wp2_with fail
            refine (rightR_is B d b false _ HB.out hlb (no_iff HR2.out)).mono ?_
            rintro e wx4 ⟨rfl, hx⟩
            replace HA := Lib.hid (HA.out.below hx)
            replace HB := Lib.hid (HB.out.below hx)
            replace hb := bthen hb hx
            clear hx
            go_wp2_with fail
            refine (awake_any _).mono ?_
            rintro e wz ⟨rfl, hx⟩
            go_wp2
            go_ret
            exact ⟨rfl, bthen hb hx⟩
        · have HR := Lib.hid hR
          clear hR
          go_wp2_with fail
          refine (rightR_is A c a false _ HA.out hla (no_iff HR.out)).mono ?_
          rintro e wx3 ⟨rfl, hx⟩
          replace HA := Lib.hid (HA.out.below hx)
          replace HB := Lib.hid (HB.out.below hx)
          replace hb := bthen hb hx
          clear hx
          go_wp2_with fail
          refine (awake_any _).mono ?_
          rintro e wz ⟨rfl, hx⟩
          go_wp2
          go_ret
          exact ⟨rfl, bthen hb hx⟩
end Go.Proofs.Ytjgogjamkbmcjaa
