/-
  The walk of layer 7's statement EditSets, from what edit's functions do: it returns true whatever the lines and the path are. No conditions.
-/
import Derived.Test.YtfjpeonfkhcpfaaEditK
namespace Go.Proofs.Ytfjpeonfkhcpfaa
open Go.RowKit
set_option linter.unusedVariables false

theorem shortN (A : Option Addr) (c n : Nat) (l : List (List UInt8)) (w : World) (hn : l.length = n) (hA : Seen eS w A l) :
    Calls Try.prog 11 #[.slice A n c] w (FewS w n 40) := by subst hn; exact short_any A c l w hA
set_option maxRecDepth 100000 in
set_option maxHeartbeats 4000000 in
theorem editSets_walk (E : EditOk) (w : World) (A : Option Addr) (c : Nat) (t : List T.Ln) (hc : t.length ≤ c) (hA : Seen eL w A t) (hl : t.length ≤ maxLen) (nk : NilOk A c) (B : Option Addr) (n d : Nat) (xs : List ByteArray) (g1 : HoldsS w B n xs) (gn1 : n ≤ maxLen) (gs1 : ∀ x ∈ xs, x.size ≤ maxLen) (hd : n ≤ d) :
    Calls Try.prog 9 #[.slice A t.length c, .slice B n d] w (TrueS w) := by
  obtain ⟨p, hn, hB⟩ := seen_strs g1
  unfold maxLen at hl gn1
  have HA := Lib.hid hA
  have HB := Lib.hid hB
  have HNK := Lib.hid nk
  have HNP := Lib.hid hn
  clear hA hB g1 nk gs1 hn
  have hb : Below w.heap.size w w := Below.refl _ _
  obtain ⟨u, er, hsi⟩ := set_is t p
  have HSI := Lib.hid hsi
  clear hsi
  go_enter Try.func9, Try.ntmps9
  go_wp2_with fail
  refine (small_is A c t _ HA.out).mono ?_
  rintro e wx1 ⟨bs, rfl, hsm, hx⟩
  replace HA := Lib.hid (HA.out.below hx)
  replace HB := Lib.hid (HB.out.below hx)
  replace hb := bthen hb hx
  clear hx
  cases bs with
  | false =>
    clear hsm
    go_wp2_with fail
    refine (awake_of E _).mono ?_
    rintro e wz ⟨rfl, hx⟩
    go_wp2
    go_ret
    exact ⟨rfl, bthen hb hx⟩
  | true =>
    replace hsm := hsm rfl
    have hll : t.length ≤ 1073741824 := by omega
    by_cases h60 : 60 < t.length
    · have b60 : decide ((60 : Int) < (t.length : Int)) = true := decide_eq_true (by omega)
      have b61 : decide (60 < t.length) = true := decide_eq_true h60
      go_wp2_with fail
      refine (awake_of E _).mono ?_
      rintro e wz ⟨rfl, hx⟩
      go_wp2
      go_ret
      exact ⟨rfl, bthen hb hx⟩
    · have b60 : decide ((60 : Int) < (t.length : Int)) = false := decide_eq_false (by omega)
      have b61 : decide (60 < t.length) = false := decide_eq_false h60
      replace h60 : t.length ≤ 60 := by omega
      by_cases hR : T.RightT t
      · have HR := Lib.hid hR
        clear hR
        go_wp2_with fail
        refine (rightR_is A c t true _ HA.out hll (yes_iff HR.out)).mono ?_
        rintro e wx2 ⟨rfl, hx⟩
        replace HA := Lib.hid (HA.out.below hx)
        replace HB := Lib.hid (HB.out.below hx)
        replace hb := bthen hb hx
        clear hx
        go_wp2_with fail
        refine (shortN B d n p _ HNP.out HB.out).mono ?_
        rintro e wx3 ⟨bs, rfl, hsp, hx⟩
        replace HA := Lib.hid (HA.out.below hx)
        replace HB := Lib.hid (HB.out.below hx)
        replace hb := bthen hb hx
        clear hx
        cases bs with
        | false =>
          clear hsp
          go_wp2_with fail
          refine (awake_of E _).mono ?_
          rintro e wz ⟨rfl, hx⟩
          go_wp2
          go_ret
          exact ⟨rfl, bthen hb hx⟩
        | true =>
          replace hsp := hsp rfl
          have hpl : n ≤ 1073741824 := by omega
          by_cases h0 : er = 0
          · subst h0
            obtain ⟨⟨z1, z2, z3, z4, z5, z6⟩, z7, z8⟩ := HSI.out.ok
            obtain ⟨v, f, hv⟩ := set_is u p
            obtain ⟨hf, hvu, ⟨iu, hiu, hpu⟩, hts⟩ := set_twice HSI.out hv
            rw [hvu, hf] at hv
            have HV2 := Lib.hid hv
            have HPU := Lib.hid hpu
            have HTS := Lib.hid hts
            have HRU := Lib.hid z6
            have hul : u.length ≤ 200 := z6.len
            have biu : decide ((iu : Int) < 0) = false := decide_eq_false (by omega)
            obtain ⟨q, rfl⟩ : ∃ q, n = q + 1 := ⟨n - 1, by have := HNP.out; omega⟩
            clear z1 z2 z3 z4 z5 z6 z7 z8 hv hvu hf hpu hts
            go_wp2_with fail
            refine (E.set A B c d t.length (q + 1) t u p 0 _ ⟨rfl, HNP.out, HA.out, HB.out, HNK.out, hc, hd, hll, hpl⟩ HSI.out).mono ?_
            rintro e wx4 ⟨A1, c1, rfl, hs1, hk1, hc1, hx⟩
            replace HA := Lib.hid (HA.out.below hx)
            replace HB := Lib.hid (HB.out.below hx)
            have HU := Lib.hid (hs1)
            replace hb := bthen hb hx
            clear hx
            clear hs1
            go_wp2_with fail
            refine (E.set A1 B c1 d u.length (q + 1) u u p 0 _ ⟨rfl, HNP.out, HU.out, HB.out, hk1, hc1, hd, by omega, hpl⟩ HV2.out).mono ?_
            rintro e wx5 ⟨A2, c2, rfl, hs2, hk2, hc2, hx⟩
            replace HA := Lib.hid (HA.out.below hx)
            replace HB := Lib.hid (HB.out.below hx)
            replace HU := Lib.hid (HU.out.below hx)
            have HV := Lib.hid (hs2)
            replace hb := bthen hb hx
            clear hx
            clear hs2
            go_wp2_with fail
            refine (same_any A1 A2 c1 c2 u u _ true (yes_iff rfl) (by omega) HU.out HV.out).mono ?_
            rintro e wx6 ⟨rfl, hx⟩
            replace HA := Lib.hid (HA.out.below hx)
            replace HB := Lib.hid (HB.out.below hx)
            replace HU := Lib.hid (HU.out.below hx)
            replace HV := Lib.hid (HV.out.below hx)
            replace hb := bthen hb hx
            clear hx
            go_wp2_with fail
            refine (findN_at A1 B c1 d u.length (q + 1) iu u p _ rfl HNP.out HU.out HB.out (by omega) hpl HRU.out hiu HPU.out).mono ?_
            rintro e wx7 ⟨rfl, hx⟩
            replace HA := Lib.hid (HA.out.below hx)
            replace HB := Lib.hid (HB.out.below hx)
            replace HU := Lib.hid (HU.out.below hx)
            replace HV := Lib.hid (HV.out.below hx)
            replace hb := bthen hb hx
            clear hx
            by_cases ht : thereT t p
            · obtain ⟨it, hit, hpt⟩ := ht
              have HUT := Lib.hid (HTS.out ⟨it, hit, hpt⟩)
              have HPT := Lib.hid hpt
              have bit : decide ((0 : Int) ≤ (it : Int)) = true := decide_eq_true (by omega)
              clear hpt
              go_wp2_with fail
              refine (findN_at A B c d t.length (q + 1) it t p _ rfl HNP.out HA.out HB.out hll hpl HR.out hit HPT.out).mono ?_
              rintro e wx8 ⟨rfl, hx⟩
              replace HA := Lib.hid (HA.out.below hx)
              replace HB := Lib.hid (HB.out.below hx)
              replace HU := Lib.hid (HU.out.below hx)
              replace HV := Lib.hid (HV.out.below hx)
              replace hb := bthen hb hx
              clear hx
              go_wp2_with fail
              refine (same_any A1 A c1 c u t _ true (yes_iff HUT.out) (by omega) HU.out HA.out).mono ?_
              rintro e wx9 ⟨rfl, hx⟩
              replace HA := Lib.hid (HA.out.below hx)
              replace HB := Lib.hid (HB.out.below hx)
              replace HU := Lib.hid (HU.out.below hx)
              replace HV := Lib.hid (HV.out.below hx)
              replace hb := bthen hb hx
              clear hx
              go_wp2_with fail
              refine (awake_of E _).mono ?_
              rintro e wz ⟨rfl, hx⟩
              go_wp2
              go_ret
              exact ⟨rfl, bthen hb hx⟩
            · obtain ⟨x, gx, hx1⟩ := turn_is u p 1 (by omega) (by omega) 0 []
              obtain ⟨hg0, hone, hmore⟩ := set_del HSI.out ht hx1
              subst hg0
              have HX1 := Lib.hid hx1
              have HT := Lib.hid ht
              have hxl : x.length ≤ 200 := (hx1.right HRU.out).len
              clear ht hx1
              go_wp2_with fail
              refine (findN_no A B c d t.length (q + 1) t p _ rfl HNP.out HA.out HB.out hll hpl HR.out HT.out).mono ?_
              rintro e wx8 ⟨rfl, hx⟩
              replace HA := Lib.hid (HA.out.below hx)
              replace HB := Lib.hid (HB.out.below hx)
              replace HU := Lib.hid (HU.out.below hx)
              replace HV := Lib.hid (HV.out.below hx)
              replace hb := bthen hb hx
              clear hx
              go_wp2_with fail
              refine (E.del A1 B c1 d u.length (q + 1) u x p 0 [] 0 _ ⟨rfl, HNP.out, HU.out, HB.out, hk1, hc1, hd, by omega, hpl⟩ HX1.out).mono ?_
              rintro e wx9 ⟨A3, c3, rfl, hs3, hk3, hc3, hx⟩
              replace HA := Lib.hid (HA.out.below hx)
              replace HB := Lib.hid (HB.out.below hx)
              replace HU := Lib.hid (HU.out.below hx)
              replace HV := Lib.hid (HV.out.below hx)
              have HX := Lib.hid (hs3)
              replace hb := bthen hb hx
              clear hx
              clear hs3
              by_cases hq : q = 0
              · subst hq
                have HXT := Lib.hid (hone HNP.out)
                clear hone hmore
                go_wp2_with fail
                refine (same_any A3 A c3 c x t _ true (yes_iff HXT.out) (by omega) HX.out HA.out).mono ?_
                rintro e wx10 ⟨rfl, hx⟩
                replace HA := Lib.hid (HA.out.below hx)
                replace HB := Lib.hid (HB.out.below hx)
                replace HU := Lib.hid (HU.out.below hx)
                replace HV := Lib.hid (HV.out.below hx)
                replace HX := Lib.hid (HX.out.below hx)
                replace hb := bthen hb hx
                clear hx
                go_wp2_with fail
                refine (awake_of E _).mono ?_
                rintro e wz ⟨rfl, hx⟩
                go_wp2
                go_ret
                exact ⟨rfl, bthen hb hx⟩
              · obtain ⟨y, ey, hy⟩ := set_is t p.dropLast
                obtain ⟨hey, hxy⟩ := hmore (by have := HNP.out; omega) y ey hy
                subst hey
                have HXY := Lib.hid hxy
                have HY := Lib.hid hy
                have bq : decide ((1 : Int) < (q : Int) + 1) = true := decide_eq_true (by omega)
                have bq2 : decide (1 < q + 1) = true := decide_eq_true (by omega)
                have hdq : (q : Int) ≤ (d : Int) := by omega
                have hdq2 : q ≤ d := by omega
                obtain ⟨bb, bo, rfl, hbb, hBH⟩ := HB.out (by have := HNP.out; omega)
                have HDL := Lib.hid (show p.dropLast.length = q by rw [List.length_dropLast, HNP.out]; rfl)
                have hyl : y.length ≤ 200 := (hy.right HR.out).len
                have HBD := Lib.hid (show Seen eS _ (some ⟨bb, bo, none⟩) p.dropLast by have e : p.dropLast = p.take q := by { rw [List.dropLast_eq_take, HNP.out]; rfl }; rw [e]; exact (hBH.take q).seen hbb)
                clear hone hmore hy hxy hBH
                go_wp2_with fail
                refine (E.set A (some ⟨bb, bo, none⟩) c d t.length q t y p.dropLast 0 _ ⟨rfl, HDL.out, HA.out, HBD.out, HNK.out, hc, by omega, hll, by omega⟩ HY.out).mono ?_
                rintro e wx10 ⟨A4, c4, rfl, hs4, hk4, hc4, hx⟩
                replace HA := Lib.hid (HA.out.below hx)
                replace HB := Lib.hid (HB.out.below hx)
                replace HU := Lib.hid (HU.out.below hx)
                replace HV := Lib.hid (HV.out.below hx)
                replace HX := Lib.hid (HX.out.below hx)
                replace HBD := Lib.hid (HBD.out.below hx)
                have HYS := Lib.hid (hs4)
                replace hb := bthen hb hx
                clear hx
                clear hs4
                go_wp2_with fail
                refine (same_any A3 A4 c3 c4 x y _ true (yes_iff HXY.out) (by omega) HX.out HYS.out).mono ?_
                rintro e wx11 ⟨rfl, hx⟩
                replace HA := Lib.hid (HA.out.below hx)
                replace HB := Lib.hid (HB.out.below hx)
                replace HU := Lib.hid (HU.out.below hx)
                replace HV := Lib.hid (HV.out.below hx)
                replace HX := Lib.hid (HX.out.below hx)
                replace HBD := Lib.hid (HBD.out.below hx)
                replace HYS := Lib.hid (HYS.out.below hx)
                replace hb := bthen hb hx
                clear hx
                go_wp2_with fail
                refine (awake_of E _).mono ?_
                rintro e wz ⟨rfl, hx⟩
                go_wp2
                go_ret
                exact ⟨rfl, bthen hb hx⟩
          · have b0 : (er != 0) = true := bne_iff_ne.2 h0
            have hut := HSI.out.err h0
            subst hut
            go_wp2_with fail
            refine (E.set A B c d u.length n u u p er _ ⟨rfl, HNP.out, HA.out, HB.out, HNK.out, hc, hd, hll, hpl⟩ HSI.out).mono ?_
            rintro e wx4 ⟨A1, c1, rfl, hs1, hk1, hc1, hx⟩
            replace HA := Lib.hid (HA.out.below hx)
            replace HB := Lib.hid (HB.out.below hx)
            have HU := Lib.hid (hs1)
            replace hb := bthen hb hx
            clear hx
            clear hs1
            go_wp2_with fail
            refine (same_any A1 A c1 c u u _ true (yes_iff rfl) hll HU.out HA.out).mono ?_
            rintro e wx5 ⟨rfl, hx⟩
            replace HA := Lib.hid (HA.out.below hx)
            replace HB := Lib.hid (HB.out.below hx)
            replace HU := Lib.hid (HU.out.below hx)
            replace hb := bthen hb hx
            clear hx
            go_wp2_with fail
            refine (awake_of E _).mono ?_
            rintro e wz ⟨rfl, hx⟩
            go_wp2
            go_ret
            exact ⟨rfl, bthen hb hx⟩
      · have HR := Lib.hid hR
        clear hR
        go_wp2_with fail
        refine (rightR_is A c t false _ HA.out hll (no_iff HR.out)).mono ?_
        rintro e wx2 ⟨rfl, hx⟩
        replace HA := Lib.hid (HA.out.below hx)
        replace HB := Lib.hid (HB.out.below hx)
        replace hb := bthen hb hx
        clear hx
        go_wp2_with fail
        refine (awake_of E _).mono ?_
        rintro e wz ⟨rfl, hx⟩
        go_wp2
        go_ret
        exact ⟨rfl, bthen hb hx⟩
end Go.Proofs.Ytfjpeonfkhcpfaa
