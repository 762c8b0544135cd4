/-
  The walk of layer 3's statement TreeParts: it returns true whatever the lines and the place are. No conditions.
-/
import Derived.Test.YtocaiojdmnfamaaTreeHead
import Derived.Test.YtocaiojdmnfamaaTreePure7
namespace Go.Proofs.Ytocaiojdmnfamaa
open Go.RowKit

theorem Path_at (A : Option Addr) (c : Nat) (t : List T.Ln) (i : Nat) (x : Int) (p : List (List UInt8)) (w : World) (hA : Seen eL w A t) (hl : t.length ≤ 1073741824) (hi : i < t.length) (hR : T.RightT t) (h : T.pathL t i = p) (hx : x = i) :
    Calls Try.prog 13 #[.slice A t.length c, .int .i64 x] w (PathS w p 0) := by rw [hx]; exact Path_is A c t i p w hA hl hi hR h
/-- A line of a part is at least as deep as its first one. -/
theorem part_deep {t : List T.Ln} (h : T.RightT t) {n k d : Nat} (hn : n < t.length) (hd : T.dp t n = d) (hk : n + k < T.endL t n) (hl : n + k < t.length) : d < (T.pathL t (n + k)).length := by
  obtain ⟨_, _, g3, _⟩ := T.end_spec t n hn
  have hp := h.path_len (n + k) (n + k) (Nat.le_refl _) hl
  rcases Nat.eq_zero_or_pos k with rfl | hp0
  · rw [Nat.add_zero] at hp ⊢; omega
  · have := g3 (n + k) (by omega) hk; omega
def RelPt (t : List T.Ln) (K : List Nat) (w : World) (g : Nat) (v x : Value) (wr : World) : Prop :=
  ∃ j m : Nat, j + g = K.length ∧ T.Parts t K j m ∧ x = .int .i64 j ∧ Own eL wr w.heap.size v (t.take m) ∧ Below w.heap.size w wr
set_option maxRecDepth 100000 in
set_option maxHeartbeats 200000 in
theorem treeParts_walk (w : World) (A : Option Addr) (c : Nat) (t : List T.Ln) (hc : t.length ≤ c) (hA : Seen eL w A t) (hl : t.length ≤ maxLen) (i : Int) (wi : (Lit.int .i64 i).wf = true) :
    Calls Try.prog 6 #[.slice A t.length c, .int .i64 i] w (TrueS w) := by
  obtain ⟨hi1, hi2⟩ := bounds_i64 wi
  clear wi
  unfold maxLen at hl
  have HA := Lib.hid hA
  clear hA
  have hb : Below w.heap.size w w := Below.refl _ _
  go_enter Try.func6, Try.ntmps6
  go_wp2_with fail
  refine (small_is A c t _ (HA.out.below hb)).mono ?_
  rintro e wx1 ⟨bs, rfl, hsm, hx⟩
  replace hb := bthen hb hx
  clear hx
  cases bs with
  | false =>
    clear hsm
    go_wp2_with fail
    refine (awake_any _).mono ?_
    rintro e wz ⟨rfl, hx⟩
    go_wp2
    go_ret
    exact ⟨rfl, bthen hb hx⟩
  | true =>
    replace hsm := hsm rfl
    have hll : t.length ≤ 1073741824 := by omega
    by_cases h60 : t.length ≤ 60
    · have b60 : decide ((60 : Int) < (t.length : Int)) = false := decide_eq_false (by omega)
      by_cases hR : T.RightT t
      · have HR := Lib.hid hR
        clear hR
        go_wp2_with fail
        refine (rightR_is A c t true _ (HA.out.below hb) hll (yes_iff HR.out)).mono ?_
        rintro e wx2 ⟨rfl, hx⟩
        replace hb := bthen hb hx
        clear hx
        by_cases h1 : i < 0
        · have b1 : decide (i < (0 : Int)) = true := decide_eq_true h1
          go_wp2_with fail
          refine (awake_any _).mono ?_
          rintro e wz ⟨rfl, hx⟩
          go_wp2
          go_ret
          exact ⟨rfl, bthen hb hx⟩
        · have b1 : decide (i < (0 : Int)) = false := decide_eq_false h1
          by_cases h2 : (t.length : Int) ≤ i
          · have b2 : decide ((t.length : Int) ≤ i) = true := decide_eq_true h2
            go_wp2_with fail
            refine (awake_any _).mono ?_
            rintro e wz ⟨rfl, hx⟩
            go_wp2
            go_ret
            exact ⟨rfl, bthen hb hx⟩
          · have b2 : decide ((t.length : Int) ≤ i) = false := decide_eq_false h2
            obtain ⟨n, rfl⟩ := Int.eq_ofNat_of_zero_le (show 0 ≤ i by omega)
            have hn : n < t.length := by omega
            have b3 : decide (t.length ≤ n) = false := decide_eq_false (by omega)
            obtain ⟨b, o, rfl, hbw, hL⟩ := HA.out.lines (by omega)
            have HL := Lib.hid hL
            clear hL
            obtain ⟨X, hX⟩ : ∃ X, T.subL t n = X := ⟨_, rfl⟩
            obtain ⟨E, hE⟩ : ∃ E, T.endL t n = E := ⟨_, rfl⟩
            have hXl := T.sub_len t n hn
            have hspec := T.end_spec t n hn
            rw [hX, hE] at hXl
            rw [hE] at hspec
            have hE1 := hspec.1
            have hE2 := hspec.2.1
            have hdn := HR.out.deep n hn
            obtain ⟨d, hd⟩ := Int.eq_ofNat_of_zero_le hdn.1
            have hd15 : d ≤ 15 := by omega
            have HRX := Lib.hid (show T.RightT X by rw [← hX]; exact HR.out.sub n hn)
            have bE : ((X.length : Int) == (E : Int) - (n : Int)) = true := beq_iff_eq.2 (by omega)
            have bE2 : ((X.length : Int) != (E : Int) - (n : Int)) = false := by rw [bne, bE]; rfl
            have hXll : X.length ≤ 1073741824 := by omega
            have hXE : X.length + n ≤ t.length := by omega
            have HXP := Lib.hid (show ∀ k, k < X.length → T.pathL X k = (T.pathL t (n + k)).drop d from fun k hk => by have := HR.out.sub_path n hn k k (Nat.le_refl _) (by rw [hE]; omega); rw [hX, hd] at this; exact this)
            have HXD := Lib.hid (show ∀ k, k < X.length → d < (T.pathL t (n + k)).length from fun k hk => part_deep HR.out hn hd (by rw [hE]; omega) (by omega))
            have HX := Lib.hid hX
            have HE := Lib.hid hE
            have HD := Lib.hid hd
            clear hX hE hd hspec hdn hXl
            go_wp2_with fail
            refine (sub_is _ c t n X _ (HA.out.below hb) hll hc hn HR.out HX.out).mono ?_
            rintro e wx3 ⟨B3, cap3, rfl, hcap3, hseen, hx⟩
            have HS := Lib.hid hseen
            clear hseen
            replace hb := bthen hb hx
            clear hx
            go_wp2_with fail
            refine (right_is _ _ X true _ HS.out hXll (yes_iff HRX.out)).mono ?_
            rintro e wx4 ⟨rfl, hx⟩
            replace HS := Lib.hid (HS.out.below hx)
            replace hb := bthen hb hx
            clear hx
            go_wp2_with fail
            refine (End_is _ c t n E _ (HA.out.below hb) hll hn HR.out HE.out).mono ?_
            rintro e wx5 ⟨rfl, hx⟩
            replace HS := Lib.hid (HS.out.below hx)
            replace hb := bthen hb hx
            clear hx
            go_wp2
            go_loopg [56] X.length (fun g x wr => ∃ j : Nat, Hid (j + g = X.length) ∧ j ≤ X.length ∧ x = .int .i64 j ∧ Hid (Seen eL wr B3 X) ∧ Below w.heap.size w wr)
            case atStart => exact ⟨0, Nat.zero_add _, Nat.zero_le _, rfl, HS, hb⟩
            case round =>
              clear hb HS
              obtain ⟨j, HJ, hj, rfl, HS, hb⟩ := hrel
              by_cases hjl : j < X.length
              · obtain ⟨P, hP⟩ : ∃ P, T.pathL X j = P := ⟨_, rfl⟩
                obtain ⟨Q, hQ⟩ : ∃ Q, T.pathL t (n + j) = Q := ⟨_, rfl⟩
                have hPQ := HXP.out j hjl
                have hQd := HXD.out j hjl
                rw [hP, hQ] at hPQ
                rw [hQ] at hQd
                have hQl := HR.out.path_len (n + j) (n + j) (Nat.le_refl _) (by omega)
                have hQ15 := (HR.out.deep (n + j) (by omega)).2
                rw [hQ] at hQl
                have hPl : P.length = Q.length - d := by rw [hPQ, List.length_drop]
                have hQll : Q.length ≤ 16 := by omega
                obtain ⟨q, hq⟩ : ∃ q, Q.length = q := ⟨_, rfl⟩
                rw [hq] at hPl hQd hQll
                obtain ⟨pl, hpl⟩ : ∃ pl, P.length = pl := ⟨_, rfl⟩
                rw [hpl] at hPl
                have hp0 : 0 < pl := by omega
                have hqe : q = pl + d := by omega
                subst hqe
                have HP := Lib.hid hP
                have HQ := Lib.hid hQ
                have HPQ := Lib.hid hPQ
                have Hq := Lib.hid hq
                have Hpl := Lib.hid hpl
                have HDl := Lib.hid (show (Q.drop d).length = pl by rw [List.length_drop, hq]; omega)
                clear hP hQ hPQ hQl hQ15 hPl hq hpl hQd
                go_wp2_with fail
                refine (Path_is _ _ X j P _ HS.out hXll hjl HRX.out HP.out).mono ?_
                rintro e wx6 ⟨B6, cap6, rfl, hcap6, hseen, hx⟩
                replace HS := Lib.hid (HS.out.below hx)
                have HS1 := Lib.hid hseen
                clear hseen
                replace hb := bthen hb hx
                clear hx
                go_wp2_with fail
                refine (Path_at _ c t (n + j) ((n : Int) + (j : Int)) Q _ (HA.out.below hb) hll (by omega) HR.out HQ.out (by omega)).mono ?_
                rintro e wx7 ⟨B7, cap7, rfl, hcap7, hseen, hx⟩
                replace HS := Lib.hid (HS.out.below hx)
                replace HS1 := Lib.hid (HS1.out.below hx)
                have HS2 := Lib.hid hseen
                clear hseen
                replace hb := bthen hb hx
                clear hx
                rw [Hq.out] at hcap7
                simp only [Hq.out, Hpl.out]
                obtain ⟨c0, _, _⟩ := (HL.out.below hb hbw).line hn
                rw [HD.out] at c0
                obtain ⟨qb, qo, hB, hqb, hQL⟩ := HS2.out (by rw [Hq.out]; omega)
                subst hB
                have hdr := hQL.drop d
                rw [show qo + d * eS.sz = qo + d from congrArg (qo + ·) (Nat.mul_one d)] at hdr
                have HTS := Lib.hid (hdr.seen hqb)
                have hdcap : d < cap7 := by omega
                clear hQL hdr
                go_wp2_with fail
                refine (equal_yes _ _ _ _ P (Q.drop d) pl pl _ HPQ.out Hpl.out HDl.out (by omega) HS1.out HTS.out).mono ?_
                rintro e wx8 ⟨rfl, hx⟩
                replace HS := Lib.hid (HS.out.below hx)
                replace HS1 := Lib.hid (HS1.out.below hx)
                replace HS2 := Lib.hid (HS2.out.below hx)
                replace HTS := Lib.hid (HTS.out.below hx)
                replace hb := bthen hb hx
                clear hx
                go_wp2
                go_roundg (X.length - (j + 1))
                case rel => exact ⟨j + 1, (by show _ = _; omega), by omega, by go_num, HS, hb⟩
                case measure => have := HJ.out; omega
              · obtain rfl : j = X.length := by omega
                clear HS HXP HXD HRX HX HE bE bE2
                obtain ⟨K, hK⟩ : ∃ K, T.kidsL t (-1) = K := ⟨_, rfl⟩
                have hKl : K.length ≤ t.length := by rw [← hK]; exact T.filter_len _ _
                have HK := Lib.hid hK
                clear hK
                go_wp2_with fail
                refine (kids_is _ c t (-1) K _ (HA.out.below hb) hll (by omega) (by omega) HR.out HK.out).mono ?_
                rintro e wx9 ⟨B9, cap9, rfl, hcap9, hseen, hx⟩
                have HS := Lib.hid hseen
                clear hseen
                replace hb := bthen hb hx
                clear hx
                go_wp2
                go_loopg [11, 108] K.length (fun g v x wr => RelPt t K wx9 g v x wr)
                case atStart => exact ⟨0, 0, Nat.zero_add _, T.Parts.start t K, rfl, Own.nil _ _, Below.refl _ _⟩
                case round =>
                  obtain ⟨j, m, hg, hpt, rfl, hown, hbk⟩ := hrel
                  have HG := Lib.hid hg
                  have HT := Lib.hid hpt
                  have HO := Lib.hid hown
                  have hsz := hbk.size
                  clear hg hpt hown
                  by_cases hjl : j < K.length
                  · obtain ⟨hKm, hml, hnx, htk⟩ := HT.out.next HR.out HK.out hjl
                    obtain ⟨kb, ko, rfl, hkb, hKL⟩ := (HS.out.below hbk) (by omega)
                    have c1 := hKL.num hjl
                    rw [hKm] at c1
                    obtain ⟨Y, hY⟩ : ∃ Y, T.subL t m = Y := ⟨_, rfl⟩
                    have hYl := T.sub_len t m hml
                    have hme := T.end_spec t m hml
                    rw [hY] at hYl htk
                    have HY := Lib.hid hY
                    have HNX := Lib.hid hnx
                    have HTK := Lib.hid htk
                    have hY0 : 0 < Y.length := by omega
                    have hYt : Y.length ≤ t.length := by omega
                    have htl : (t.take m).length ≤ t.length := by rw [List.length_take]; omega
                    clear hKm hKL hY hYl hme hnx htk
                    go_wp2_with fail
                    refine (sub_is _ c t m Y _ (HA.out.below (bthen hb hbk)) hll hc hml HR.out HY.out).mono ?_
                    rintro e w2 ⟨BY, cY, rfl, hcY, hsY, hx⟩
                    obtain ⟨yb, yo, hB, hyb, hYL⟩ := hsY hY0
                    subst hB
                    have hown2 := HO.out.keep hx
                    have hs2 := hx.size
                    clear hsY
                    go_wp2_with (at_builtin; refine wpList_appSrc eL w2 rfl (.tmp 112) (.tmp 115) rfl wx9.heap.size u11 (t.take m) rfl hown2 yb yo Y Y.length cY rfl rfl hYL (by omega) (by omega) ?_; intro v3 w3 hown3 hb3)
                    go_roundg (K.length - (j + 1))
                    case rel => exact ⟨j + 1, _, by omega, HNX.out, by go_num, by rw [← HTK.out]; exact hown3, (hbk.trans (hx.mono hsz)).trans hb3⟩
                    case measure => have := HG.out; omega
                  · obtain rfl : j = K.length := by have := HG.out; omega
                    have hmn := HT.out.done HK.out
                    subst hmn
                    have hown := HO.out
                    rw [List.take_length] at hown
                    obtain ⟨A5, cap5, hv, _, hs5⟩ := hown.seen
                    subst hv
                    have HS5 := Lib.hid hs5
                    replace hb := bthen hb hbk
                    clear hown hs5 HO HS hbk HT
                    go_wp2_with fail
                    refine (same_yes _ _ _ _ t _ hll HS5.out (HA.out.below hb)).mono ?_
                    rintro e wx10 ⟨rfl, hx⟩
                    replace HS5 := Lib.hid (HS5.out.below hx)
                    replace hb := bthen hb hx
                    clear hx
                    go_wp2_with fail
                    refine (awake_any _).mono ?_
                    rintro e wz ⟨rfl, hx⟩
                    go_wp2
                    go_ret
                    exact ⟨rfl, bthen hb hx⟩
      · have HR := Lib.hid hR
        clear hR
        go_wp2_with fail
        refine (rightR_is A c t false _ (HA.out.below hb) hll (no_iff HR.out)).mono ?_
        rintro e wx2 ⟨rfl, hx⟩
        replace hb := bthen hb hx
        clear hx
        go_wp2_with fail
        refine (awake_any _).mono ?_
        rintro e wz ⟨rfl, hx⟩
        go_wp2
        go_ret
        exact ⟨rfl, bthen hb hx⟩
    · have b60 : decide ((60 : Int) < (t.length : Int)) = true := decide_eq_true (by omega)
      go_wp2_with fail
      refine (awake_any _).mono ?_
      rintro e wz ⟨rfl, hx⟩
      go_wp2
      go_ret
      exact ⟨rfl, bthen hb hx⟩
end Go.Proofs.Ytocaiojdmnfamaa
