/-
  The walk of layer 3's statement TreePaths: it returns true whatever the lines are. No conditions.
-/
import Derived.Test.YtocaiojdmnfamaaTreeHead
import Derived.BigRegion
import Derived.BigQuiet
namespace Go.Proofs.Ytocaiojdmnfamaa
open Go.RowKit

theorem path_last {p q : List (List UInt8)} {s : List UInt8} {d : Nat} (h : p = q ++ [s]) (hl : p.length = d + 1) : p[d]'(by omega) = s := by
  subst h
  have : q.length = d := by simpa using hl
  subst this
  simp
set_option maxRecDepth 100000 in
set_option maxHeartbeats 1000000 in
theorem treePaths_walk (w : World) (A : Option Addr) (c : Nat) (t : List T.Ln) (_hc : t.length ≤ c) (hA : Seen eL w A t) (hl : t.length ≤ maxLen) :
    Calls Try.prog 5 #[.slice A t.length c] w (TrueS w) := by
  unfold maxLen at hl
  have HA := Lib.hid hA
  clear hA
  have hb : Below w.heap.size w w := Below.refl _ _
  go_enter Try.func5, Try.ntmps5
  go_wp2_with fail
  refine (small_is A c t _ (HA.out.below hb)).mono ?_
  rintro e wx1 ⟨bs, rfl, hsm, hx⟩
  replace hb := bthen hb hx
  clear hx
  cases bs with
  | false =>
    clear hsm
    go_wp2_with fail
    refine (awake_any _).mono ?_
    rintro e wz ⟨rfl, hx⟩
    go_wp2
    go_ret
    exact ⟨rfl, bthen hb hx⟩
  | true =>
    replace hsm := hsm rfl
    have hll : t.length ≤ 1073741824 := by omega
    by_cases h60 : t.length ≤ 60
    · have b60 : decide ((60 : Int) < (t.length : Int)) = false := decide_eq_false (by omega)
      by_cases hR : T.RightT t
      · have HR := Lib.hid hR
        clear hR
        go_wp2_with fail
        refine (rightR_is A c t true _ (HA.out.below hb) hll (yes_iff HR.out)).mono ?_
        rintro e wx2 ⟨rfl, hx⟩
        replace hb := bthen hb hx
        clear hx
        go_wp2
        go_loopg [27] t.length (fun g x wr => ∃ k : Nat, Hid (k + g = t.length) ∧ k ≤ t.length ∧ x = .int .i64 k ∧ Below w.heap.size w wr)
        case atStart => exact ⟨0, Nat.zero_add _, Nat.zero_le _, rfl, hb⟩
        case round =>
          clear hb
          obtain ⟨k, HG, hk, rfl, hb⟩ := hrel
          by_cases hlt : k < t.length
          · obtain ⟨b, o, rfl, hbw, hL⟩ := HA.out.lines (by omega)
            have HL := Lib.hid hL
            clear hL
            obtain ⟨P, hP⟩ : ∃ P, T.pathL t k = P := ⟨_, rfl⟩
            have hPl := HR.out.path_len k k (Nat.le_refl _) hlt
            have hdk := HR.out.deep k hlt
            rw [hP] at hPl
            obtain ⟨d, hd⟩ := Int.eq_ofNat_of_zero_le hdk.1
            have hPn : P.length = d + 1 := by omega
            have hPu := T.path_under t k
            rw [hP] at hPu
            have HP := Lib.hid hP
            have HD := Lib.hid hd
            have HPn := Lib.hid hPn
            have HPu := Lib.hid hPu
            have hd15 : d ≤ 15 := by omega
            have HPl := Lib.hid (show P.length ≤ 1073741824 by omega)
            clear hP hPl hdk hd hPn hPu
            go_wp2_with fail
            refine (Path_is _ c t k P _ (HA.out.below hb) hll hlt HR.out HP.out).mono ?_
            rintro e wx3 ⟨B3, cap3, rfl, hcap3, hseen, hx⟩
            have HS := Lib.hid hseen
            clear hseen
            replace hb := bthen hb hx
            clear hx
            go_wp2_with fail
            refine (find_some _ _ c _ t k P _ (HA.out.below hb) HS.out hll HPl.out HR.out hlt HP.out).mono ?_
            rintro e wx4 ⟨rfl, hx⟩
            replace HS := Lib.hid (HS.out.below hx)
            replace hb := bthen hb hx
            clear hx
            obtain ⟨c0, c1, _⟩ := (HL.out.below hb hbw).line hlt
            rw [HD.out] at c0
            obtain ⟨pb, po, hB, hpb, hPL⟩ := HS.out (by rw [HPn.out]; omega)
            subst hB
            have hlast : P[d]'(by rw [HPn.out]; omega) = T.wd t k := path_last HPu.out HPn.out
            have q1 := hPL.str (i := d) (by rw [HPn.out]; omega)
            rw [hlast] at q1
            clear hPL hlast
            rw [HPn.out] at hcap3
            simp only [HPn.out]
            have e1 : IntKind.i64.wrap ((d : Int) + 1 - 1) = (d : Int) := by rw [wrapI _ (by omega)]; omega
            have e2 : IntKind.i64.wrap ((d : Int) + 1) = (d : Int) + 1 := wrapI _ (by omega)
            go_wp2
            go_big_region
            replace HS := Lib.hid (HS.out.below (Below.refl _ _).drew)
            replace hb := hb.drew
            clear c0 c1 q1 e1 e2 hpb
            rcases HR.out.under k hlt with ⟨a1, a2⟩ | ⟨u, u1, u2, u3, _⟩
            · obtain rfl : d = 0 := by have := HD.out; omega
              have HU := Lib.hid a2
              clear a1 a2
              go_wp2_with fail
              refine (Under_is _ c t k (-1) _ (HA.out.below hb) hll hlt HR.out HU.out).mono ?_
              rintro e wx5 ⟨rfl, hx⟩
              replace HS := Lib.hid (HS.out.below hx)
              replace hb := bthen hb hx
              clear hx
              obtain ⟨c0, _, _⟩ := (HL.out.below hb hbw).line hlt
              rw [HD.out] at c0
              go_wp2
              go_roundg (t.length - (k + 1))
              case rel => exact ⟨k + 1, (by show _ = _; omega), by omega, by go_num, hb⟩
              case measure => have := HG.out; omega
            · have bu : decide ((u : Int) < 0) = false := decide_eq_false (by omega)
              have hud := (HR.out.deep u (by omega)).1
              have bd : ((d : Int) == 0) = false := beq_eq_false_iff_ne.2 (by have := HD.out; omega)
              obtain ⟨Q, hQ⟩ : ∃ Q, T.pathL t u = Q := ⟨_, rfl⟩
              have HQ := Lib.hid hQ
              have hPQ := HPu.out
              rw [u2, T.pathI_nat, hQ] at hPQ
              have hQl : Q.length = d := by have := HPn.out; rw [hPQ, List.length_append, List.length_singleton] at this; omega
              have HT := Lib.hid (show Q = P.take d by rw [hPQ, ← hQl, List.take_left])
              have HQl := Lib.hid hQl
              have HTl := Lib.hid (show (P.take d).length = d by rw [List.length_take, HPn.out]; omega)
              have HU := Lib.hid u2
              have hul : u < t.length := by omega
              clear hQ hPQ hQl u2 u3 hud
              go_wp2_with fail
              refine (Under_is _ c t k u _ (HA.out.below hb) hll hlt HR.out HU.out).mono ?_
              rintro e wx5 ⟨rfl, hx⟩
              replace HS := Lib.hid (HS.out.below hx)
              replace hb := bthen hb hx
              clear hx
              obtain ⟨c0, _, _⟩ := (HL.out.below hb hbw).line hlt
              rw [HD.out] at c0
              go_wp2_with fail
              refine (Path_is _ c t u Q _ (HA.out.below hb) hll hul HR.out HQ.out).mono ?_
              rintro e wx6 ⟨B6, cap6, rfl, hcap6, hseen, hx⟩
              replace HS := Lib.hid (HS.out.below hx)
              have HS2 := Lib.hid hseen
              clear hseen
              replace hb := bthen hb hx
              clear hx
              obtain ⟨_, _, hB, hpb, hPL⟩ := HS.out (by rw [HPn.out]; omega)
              injection hB with hB
              injection hB with hB1 hB2
              subst hB1
              subst hB2
              have HTS := Lib.hid ((hPL.take d).seen hpb)
              clear hPL
              go_wp2_with fail
              refine (equal_yes _ _ _ _ Q (P.take d) Q.length d _ HT.out rfl HTl.out (by rw [HQl.out]; omega) HS2.out HTS.out).mono ?_
              rintro e wx7 ⟨rfl, hx⟩
              replace HS := Lib.hid (HS.out.below hx)
              replace HS2 := Lib.hid (HS2.out.below hx)
              replace HTS := Lib.hid (HTS.out.below hx)
              replace hb := bthen hb hx
              clear hx
              go_wp2
              go_roundg (t.length - (k + 1))
              case rel => exact ⟨k + 1, (by show _ = _; omega), by omega, by go_num, hb⟩
              case measure => have := HG.out; omega
          · obtain rfl : k = t.length := by omega
            go_wp2_with fail
            refine (awake_any _).mono ?_
            rintro e wz ⟨rfl, hx⟩
            go_wp2
            go_ret
            exact ⟨rfl, bthen hb hx⟩
      · have HR := Lib.hid hR
        clear hR
        go_wp2_with fail
        refine (rightR_is A c t false _ (HA.out.below hb) hll (no_iff HR.out)).mono ?_
        rintro e wx2 ⟨rfl, hx⟩
        replace hb := bthen hb hx
        clear hx
        go_wp2_with fail
        refine (awake_any _).mono ?_
        rintro e wz ⟨rfl, hx⟩
        go_wp2
        go_ret
        exact ⟨rfl, bthen hb hx⟩
    · have b60 : decide ((60 : Int) < (t.length : Int)) = true := decide_eq_true (by omega)
      go_wp2_with fail
      refine (awake_any _).mono ?_
      rintro e wz ⟨rfl, hx⟩
      go_wp2
      go_ret
      exact ⟨rfl, bthen hb hx⟩
end Go.Proofs.Ytocaiojdmnfamaa
