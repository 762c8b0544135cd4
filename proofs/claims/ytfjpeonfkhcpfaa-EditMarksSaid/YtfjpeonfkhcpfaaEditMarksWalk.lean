/-
  The walk of layer 7's statement EditMarks, from what edit's functions do: it returns true whatever the lines, the path and the mark are. No conditions.
-/
import Derived.Test.YtfjpeonfkhcpfaaEditSetsWalk
namespace Go.Proofs.Ytfjpeonfkhcpfaa
open Go.RowKit
set_option linter.unusedVariables false

set_option maxRecDepth 100000 in
set_option maxHeartbeats 4000000 in
theorem editMarks_false (E : EditOk) (w : World) (A : Option Addr) (c : Nat) (t : List T.Ln) (hc : t.length ≤ c) (hA : Seen eL w A t) (hl : t.length ≤ maxLen) (nk : NilOk A c) (B : Option Addr) (n d : Nat) (xs : List ByteArray) (g1 : HoldsS w B n xs) (gn1 : n ≤ maxLen) (gs1 : ∀ x ∈ xs, x.size ≤ maxLen) (hd : n ≤ d) :
    Calls Try.prog 8 #[.slice A t.length c, .slice B n d, .bool false] w (TrueS w) := by
  obtain ⟨p, hn, hB⟩ := seen_strs g1
  unfold maxLen at hl gn1
  have HA := Lib.hid hA
  have HB := Lib.hid hB
  have HNK := Lib.hid nk
  have HNP := Lib.hid hn
  clear hA hB g1 nk gs1 hn
  have hb : Below w.heap.size w w := Below.refl _ _
  obtain ⟨u, er, hsi⟩ := turn_is t p 2 (by omega) (by omega) 1 []
  have HSI := Lib.hid hsi
  clear hsi
  go_enter Try.func8, Try.ntmps8
  go_wp2_with fail
  refine (small_is A c t _ HA.out).mono ?_
  rintro e wx1 ⟨bs, rfl, hsm, hx⟩
  replace HA := Lib.hid (HA.out.below hx)
  replace HB := Lib.hid (HB.out.below hx)
  replace hb := bthen hb hx
  clear hx
  cases bs with
  | false =>
    clear hsm
    go_wp2_with fail
    refine (awake_of E _).mono ?_
    rintro e wz ⟨rfl, hx⟩
    go_wp2
    go_ret
    exact ⟨rfl, bthen hb hx⟩
  | true =>
    replace hsm := hsm rfl
    have hll : t.length ≤ 1073741824 := by omega
    by_cases h60 : 60 < t.length
    · have b60 : decide ((60 : Int) < (t.length : Int)) = true := decide_eq_true (by omega)
      have b61 : decide (60 < t.length) = true := decide_eq_true h60
      go_wp2_with fail
      refine (awake_of E _).mono ?_
      rintro e wz ⟨rfl, hx⟩
      go_wp2
      go_ret
      exact ⟨rfl, bthen hb hx⟩
    · have b60 : decide ((60 : Int) < (t.length : Int)) = false := decide_eq_false (by omega)
      have b61 : decide (60 < t.length) = false := decide_eq_false h60
      replace h60 : t.length ≤ 60 := by omega
      by_cases hR : T.RightT t
      · have HR := Lib.hid hR
        clear hR
        go_wp2_with fail
        refine (rightR_is A c t true _ HA.out hll (yes_iff HR.out)).mono ?_
        rintro e wx2 ⟨rfl, hx⟩
        replace HA := Lib.hid (HA.out.below hx)
        replace HB := Lib.hid (HB.out.below hx)
        replace hb := bthen hb hx
        clear hx
        go_wp2_with fail
        refine (shortN B d n p _ HNP.out HB.out).mono ?_
        rintro e wx3 ⟨bs, rfl, hsp, hx⟩
        replace HA := Lib.hid (HA.out.below hx)
        replace HB := Lib.hid (HB.out.below hx)
        replace hb := bthen hb hx
        clear hx
        cases bs with
        | false =>
          clear hsp
          go_wp2_with fail
          refine (awake_of E _).mono ?_
          rintro e wz ⟨rfl, hx⟩
          go_wp2
          go_ret
          exact ⟨rfl, bthen hb hx⟩
        | true =>
          replace hsp := hsp rfl
          have hpl : n ≤ 1073741824 := by omega
          by_cases h0 : er = 0
          · subst h0
            obtain ⟨v, f, hv⟩ := turn_is u p 2 (by omega) (by omega) 1 []
            obtain ⟨x, gx, hx1⟩ := turn_is u p 3 (by omega) (by omega) 1 []
            obtain ⟨hf, hg, hvu, a, m, ha, hpa, hma, hm4, hmb, hRt, hRu, hu, hx2⟩ := mark_twice HSI.out hv hx1
            rw [hvu, hf] at hv
            rw [hg] at hx1
            have HV2 := Lib.hid hv
            have HX1 := Lib.hid hx1
            have HPA := Lib.hid hpa
            have HRU := Lib.hid hRu
            have hau : a < u.length := by rw [hu, S.setM_len]; exact ha
            have hax : a < x.length := by rw [hx2, S.setM_len]; exact ha
            have hmu : (T.at_ u a).mark = turnM 2 1 m := by rw [hu, S.setM_at t a _ a ha, if_pos rfl]
            have hmx : (T.at_ x a).mark = turnM 3 1 (turnM 2 1 m) := by rw [hx2, S.setM_at t a _ a ha, if_pos rfl]
            have hul : u.length = t.length := by rw [hu, S.setM_len]
            have hxl : x.length = t.length := by rw [hx2, S.setM_len]
            have HXE := Lib.hid hx2
            have HMA := Lib.hid hma
            have ba : decide ((a : Int) < 0) = false := decide_eq_false (by omega)
            have bu : ((u.length : Int) != (t.length : Int)) = false := by rw [hul]; simp
            have bx : ((x.length : Int) != (t.length : Int)) = false := by rw [hxl]; simp
            have bu2 : (u.length != t.length) = false := by rw [hul]; simp
            have bx2 : (x.length != t.length) = false := by rw [hxl]; simp
            have hai : (a : Int) < (t.length : Int) := by omega
            have haui : (a : Int) < (u.length : Int) := by omega
            have haxi : (a : Int) < (x.length : Int) := by omega
            have hull : u.length ≤ 1073741824 := by omega
            have hxll : x.length ≤ 1073741824 := by omega
            have hm1 : m ≤ 1 := hmb rfl
            clear hmb
            have HMU := Lib.hid hmu
            have HMX := Lib.hid hmx
            clear hv hx1 hvu hpa hma hRt hRu hu hx2 hmu hmx hf hg hul hxl
            go_wp2_with fail
            refine (E.mark A B c d t.length n t u p 1 [] 0 true _ ⟨rfl, HNP.out, HA.out, HB.out, HNK.out, hc, hd, hll, hpl⟩ HSI.out).mono ?_
            rintro e wx4 ⟨A1, c1, rfl, hs1, hk1, hc1, hx⟩
            replace HA := Lib.hid (HA.out.below hx)
            replace HB := Lib.hid (HB.out.below hx)
            have HU := Lib.hid (hs1)
            replace hb := bthen hb hx
            clear hx
            clear hs1
            go_wp2_with fail
            refine (E.mark A1 B c1 d u.length n u u p 1 [] 0 true _ ⟨rfl, HNP.out, HU.out, HB.out, hk1, hc1, hd, by omega, hpl⟩ HV2.out).mono ?_
            rintro e wx5 ⟨A2, c2, rfl, hs2, hk2, hc2, hx⟩
            replace HA := Lib.hid (HA.out.below hx)
            replace HB := Lib.hid (HB.out.below hx)
            replace HU := Lib.hid (HU.out.below hx)
            have HV := Lib.hid (hs2)
            replace hb := bthen hb hx
            clear hx
            clear hs2
            go_wp2_with fail
            refine (E.mark A1 B c1 d u.length n u x p 1 [] 0 false _ ⟨rfl, HNP.out, HU.out, HB.out, hk1, hc1, hd, by omega, hpl⟩ HX1.out).mono ?_
            rintro e wx6 ⟨A3, c3, rfl, hs3, hk3, hc3, hx⟩
            replace HA := Lib.hid (HA.out.below hx)
            replace HB := Lib.hid (HB.out.below hx)
            replace HU := Lib.hid (HU.out.below hx)
            replace HV := Lib.hid (HV.out.below hx)
            have HX := Lib.hid (hs3)
            replace hb := bthen hb hx
            clear hx
            clear hs3
            go_wp2_with fail
            refine (findN_at A B c d t.length n a t p _ rfl HNP.out HA.out HB.out hll hpl HR.out ha HPA.out).mono ?_
            rintro e wx7 ⟨rfl, hx⟩
            replace HA := Lib.hid (HA.out.below hx)
            replace HB := Lib.hid (HB.out.below hx)
            replace HU := Lib.hid (HU.out.below hx)
            replace HV := Lib.hid (HV.out.below hx)
            replace HX := Lib.hid (HX.out.below hx)
            replace hb := bthen hb hx
            clear hx
            go_wp2_with fail
            refine (same_any A1 A2 c1 c2 u u _ true (yes_iff rfl) hull HU.out HV.out).mono ?_
            rintro e wx8 ⟨rfl, hx⟩
            replace HA := Lib.hid (HA.out.below hx)
            replace HB := Lib.hid (HB.out.below hx)
            replace HU := Lib.hid (HU.out.below hx)
            replace HV := Lib.hid (HV.out.below hx)
            replace HX := Lib.hid (HX.out.below hx)
            replace hb := bthen hb hx
            clear hx
            obtain rfl | rfl : m = 0 ∨ m = 1 := by omega
            · obtain ⟨bt, ot, eA, hbt, hHt⟩ := HA.out.lines (by omega)
              subst eA
              obtain ⟨b1, o1, eA, hb1, hH1⟩ := HU.out.lines (by omega)
              subst eA
              obtain ⟨b3, o3, eA, hb3, hH3⟩ := HX.out.lines (by omega)
              subst eA
              have e1 := (hHt.line ha).2.2
              have e2 := (hH1.line hau).2.2
              have e3 := (hH3.line hax).2.2
              have hmu2 : (T.at_ u a).mark = 1 := HMU.out.trans (by decide)
              have hmx2 : (T.at_ x a).mark = 0 := HMX.out.trans (by decide)
              rw [HMA.out] at e1
              rw [hmu2] at e2
              rw [hmx2] at e3
              have ba1 : bits BinOp.and IntKind.i64 1 1 = 1 := by decide +kernel
              have ba2 : bits BinOp.and IntKind.i64 0 1 = 0 := by decide +kernel
              have ba3 : bits BinOp.and IntKind.i64 0 1 = 0 := by decide +kernel
              clear hHt hH1 hH3 hmu2 hmx2
              have HXT := Lib.hid (show x = t by rw [HXE.out]; exact setM_same t a _ ha (HMA.out.trans (by decide)))
              go_wp2_with fail
              refine (same_any _ _ c3 c x t _ true (yes_iff HXT.out) hxll HX.out HA.out).mono ?_
              rintro e wx9 ⟨rfl, hx⟩
              replace HA := Lib.hid (HA.out.below hx)
              replace HB := Lib.hid (HB.out.below hx)
              replace HU := Lib.hid (HU.out.below hx)
              replace HV := Lib.hid (HV.out.below hx)
              replace HX := Lib.hid (HX.out.below hx)
              replace hb := bthen hb hx
              clear hx
              go_wp2_with fail
              refine (awake_of E _).mono ?_
              rintro e wz ⟨rfl, hx⟩
              go_wp2
              go_ret
              exact ⟨rfl, bthen hb hx⟩
            · obtain ⟨bt, ot, eA, hbt, hHt⟩ := HA.out.lines (by omega)
              subst eA
              obtain ⟨b1, o1, eA, hb1, hH1⟩ := HU.out.lines (by omega)
              subst eA
              obtain ⟨b3, o3, eA, hb3, hH3⟩ := HX.out.lines (by omega)
              subst eA
              have e1 := (hHt.line ha).2.2
              have e2 := (hH1.line hau).2.2
              have e3 := (hH3.line hax).2.2
              have hmu2 : (T.at_ u a).mark = 1 := HMU.out.trans (by decide)
              have hmx2 : (T.at_ x a).mark = 0 := HMX.out.trans (by decide)
              rw [HMA.out] at e1
              rw [hmu2] at e2
              rw [hmx2] at e3
              have ba1 : bits BinOp.and IntKind.i64 1 1 = 1 := by decide +kernel
              have ba2 : bits BinOp.and IntKind.i64 0 1 = 0 := by decide +kernel
              have ba3 : bits BinOp.and IntKind.i64 1 1 = 1 := by decide +kernel
              clear hHt hH1 hH3 hmu2 hmx2
              go_wp2_with fail
              refine (awake_of E _).mono ?_
              rintro e wz ⟨rfl, hx⟩
              go_wp2
              go_ret
              exact ⟨rfl, bthen hb hx⟩
          · have b0 : (er != 0) = true := bne_iff_ne.2 h0
            have hut := HSI.out.err h0
            subst hut
            go_wp2_with fail
            refine (E.mark A B c d u.length n u u p 1 [] er true _ ⟨rfl, HNP.out, HA.out, HB.out, HNK.out, hc, hd, hll, hpl⟩ HSI.out).mono ?_
            rintro e wx4 ⟨A1, c1, rfl, hs1, hk1, hc1, hx⟩
            replace HA := Lib.hid (HA.out.below hx)
            replace HB := Lib.hid (HB.out.below hx)
            have HU := Lib.hid (hs1)
            replace hb := bthen hb hx
            clear hx
            clear hs1
            go_wp2_with fail
            refine (same_any A1 A c1 c u u _ true (yes_iff rfl) hll HU.out HA.out).mono ?_
            rintro e wx5 ⟨rfl, hx⟩
            replace HA := Lib.hid (HA.out.below hx)
            replace HB := Lib.hid (HB.out.below hx)
            replace HU := Lib.hid (HU.out.below hx)
            replace hb := bthen hb hx
            clear hx
            go_wp2_with fail
            refine (awake_of E _).mono ?_
            rintro e wz ⟨rfl, hx⟩
            go_wp2
            go_ret
            exact ⟨rfl, bthen hb hx⟩
      · have HR := Lib.hid hR
        clear hR
        go_wp2_with fail
        refine (rightR_is A c t false _ HA.out hll (no_iff HR.out)).mono ?_
        rintro e wx2 ⟨rfl, hx⟩
        replace HA := Lib.hid (HA.out.below hx)
        replace HB := Lib.hid (HB.out.below hx)
        replace hb := bthen hb hx
        clear hx
        go_wp2_with fail
        refine (awake_of E _).mono ?_
        rintro e wz ⟨rfl, hx⟩
        go_wp2
        go_ret
        exact ⟨rfl, bthen hb hx⟩
set_option maxRecDepth 100000 in
set_option maxHeartbeats 4000000 in
theorem editMarks_true (E : EditOk) (w : World) (A : Option Addr) (c : Nat) (t : List T.Ln) (hc : t.length ≤ c) (hA : Seen eL w A t) (hl : t.length ≤ maxLen) (nk : NilOk A c) (B : Option Addr) (n d : Nat) (xs : List ByteArray) (g1 : HoldsS w B n xs) (gn1 : n ≤ maxLen) (gs1 : ∀ x ∈ xs, x.size ≤ maxLen) (hd : n ≤ d) :
    Calls Try.prog 8 #[.slice A t.length c, .slice B n d, .bool true] w (TrueS w) := by
  obtain ⟨p, hn, hB⟩ := seen_strs g1
  unfold maxLen at hl gn1
  have HA := Lib.hid hA
  have HB := Lib.hid hB
  have HNK := Lib.hid nk
  have HNP := Lib.hid hn
  clear hA hB g1 nk gs1 hn
  have hb : Below w.heap.size w w := Below.refl _ _
  obtain ⟨u, er, hsi⟩ := turn_is t p 2 (by omega) (by omega) 2 []
  have HSI := Lib.hid hsi
  clear hsi
  go_enter Try.func8, Try.ntmps8
  go_wp2_with fail
  refine (small_is A c t _ HA.out).mono ?_
  rintro e wx1 ⟨bs, rfl, hsm, hx⟩
  replace HA := Lib.hid (HA.out.below hx)
  replace HB := Lib.hid (HB.out.below hx)
  replace hb := bthen hb hx
  clear hx
  cases bs with
  | false =>
    clear hsm
    go_wp2_with fail
    refine (awake_of E _).mono ?_
    rintro e wz ⟨rfl, hx⟩
    go_wp2
    go_ret
    exact ⟨rfl, bthen hb hx⟩
  | true =>
    replace hsm := hsm rfl
    have hll : t.length ≤ 1073741824 := by omega
    by_cases h60 : 60 < t.length
    · have b60 : decide ((60 : Int) < (t.length : Int)) = true := decide_eq_true (by omega)
      have b61 : decide (60 < t.length) = true := decide_eq_true h60
      go_wp2_with fail
      refine (awake_of E _).mono ?_
      rintro e wz ⟨rfl, hx⟩
      go_wp2
      go_ret
      exact ⟨rfl, bthen hb hx⟩
    · have b60 : decide ((60 : Int) < (t.length : Int)) = false := decide_eq_false (by omega)
      have b61 : decide (60 < t.length) = false := decide_eq_false h60
      replace h60 : t.length ≤ 60 := by omega
      by_cases hR : T.RightT t
      · have HR := Lib.hid hR
        clear hR
        go_wp2_with fail
        refine (rightR_is A c t true _ HA.out hll (yes_iff HR.out)).mono ?_
        rintro e wx2 ⟨rfl, hx⟩
        replace HA := Lib.hid (HA.out.below hx)
        replace HB := Lib.hid (HB.out.below hx)
        replace hb := bthen hb hx
        clear hx
        go_wp2_with fail
        refine (shortN B d n p _ HNP.out HB.out).mono ?_
        rintro e wx3 ⟨bs, rfl, hsp, hx⟩
        replace HA := Lib.hid (HA.out.below hx)
        replace HB := Lib.hid (HB.out.below hx)
        replace hb := bthen hb hx
        clear hx
        cases bs with
        | false =>
          clear hsp
          go_wp2_with fail
          refine (awake_of E _).mono ?_
          rintro e wz ⟨rfl, hx⟩
          go_wp2
          go_ret
          exact ⟨rfl, bthen hb hx⟩
        | true =>
          replace hsp := hsp rfl
          have hpl : n ≤ 1073741824 := by omega
          by_cases h0 : er = 0
          · subst h0
            obtain ⟨v, f, hv⟩ := turn_is u p 2 (by omega) (by omega) 2 []
            obtain ⟨x, gx, hx1⟩ := turn_is u p 3 (by omega) (by omega) 2 []
            obtain ⟨hf, hg, hvu, a, m, ha, hpa, hma, hm4, hmb, hRt, hRu, hu, hx2⟩ := mark_twice HSI.out hv hx1
            rw [hvu, hf] at hv
            rw [hg] at hx1
            have HV2 := Lib.hid hv
            have HX1 := Lib.hid hx1
            have HPA := Lib.hid hpa
            have HRU := Lib.hid hRu
            have hau : a < u.length := by rw [hu, S.setM_len]; exact ha
            have hax : a < x.length := by rw [hx2, S.setM_len]; exact ha
            have hmu : (T.at_ u a).mark = turnM 2 2 m := by rw [hu, S.setM_at t a _ a ha, if_pos rfl]
            have hmx : (T.at_ x a).mark = turnM 3 2 (turnM 2 2 m) := by rw [hx2, S.setM_at t a _ a ha, if_pos rfl]
            have hul : u.length = t.length := by rw [hu, S.setM_len]
            have hxl : x.length = t.length := by rw [hx2, S.setM_len]
            have HXE := Lib.hid hx2
            have HMA := Lib.hid hma
            have ba : decide ((a : Int) < 0) = false := decide_eq_false (by omega)
            have bu : ((u.length : Int) != (t.length : Int)) = false := by rw [hul]; simp
            have bx : ((x.length : Int) != (t.length : Int)) = false := by rw [hxl]; simp
            have bu2 : (u.length != t.length) = false := by rw [hul]; simp
            have bx2 : (x.length != t.length) = false := by rw [hxl]; simp
            have hai : (a : Int) < (t.length : Int) := by omega
            have haui : (a : Int) < (u.length : Int) := by omega
            have haxi : (a : Int) < (x.length : Int) := by omega
            have hull : u.length ≤ 1073741824 := by omega
            have hxll : x.length ≤ 1073741824 := by omega
            clear hmb
            have HMU := Lib.hid hmu
            have HMX := Lib.hid hmx
            clear hv hx1 hvu hpa hma hRt hRu hu hx2 hmu hmx hf hg hul hxl
            go_wp2_with fail
            refine (E.mark A B c d t.length n t u p 2 [] 0 true _ ⟨rfl, HNP.out, HA.out, HB.out, HNK.out, hc, hd, hll, hpl⟩ HSI.out).mono ?_
            rintro e wx4 ⟨A1, c1, rfl, hs1, hk1, hc1, hx⟩
            replace HA := Lib.hid (HA.out.below hx)
            replace HB := Lib.hid (HB.out.below hx)
            have HU := Lib.hid (hs1)
            replace hb := bthen hb hx
            clear hx
            clear hs1
            go_wp2_with fail
            refine (E.mark A1 B c1 d u.length n u u p 2 [] 0 true _ ⟨rfl, HNP.out, HU.out, HB.out, hk1, hc1, hd, by omega, hpl⟩ HV2.out).mono ?_
            rintro e wx5 ⟨A2, c2, rfl, hs2, hk2, hc2, hx⟩
            replace HA := Lib.hid (HA.out.below hx)
            replace HB := Lib.hid (HB.out.below hx)
            replace HU := Lib.hid (HU.out.below hx)
            have HV := Lib.hid (hs2)
            replace hb := bthen hb hx
            clear hx
            clear hs2
            go_wp2_with fail
            refine (E.mark A1 B c1 d u.length n u x p 2 [] 0 false _ ⟨rfl, HNP.out, HU.out, HB.out, hk1, hc1, hd, by omega, hpl⟩ HX1.out).mono ?_
            rintro e wx6 ⟨A3, c3, rfl, hs3, hk3, hc3, hx⟩
            replace HA := Lib.hid (HA.out.below hx)
            replace HB := Lib.hid (HB.out.below hx)
            replace HU := Lib.hid (HU.out.below hx)
            replace HV := Lib.hid (HV.out.below hx)
            have HX := Lib.hid (hs3)
            replace hb := bthen hb hx
            clear hx
            clear hs3
            go_wp2_with fail
            refine (findN_at A B c d t.length n a t p _ rfl HNP.out HA.out HB.out hll hpl HR.out ha HPA.out).mono ?_
            rintro e wx7 ⟨rfl, hx⟩
            replace HA := Lib.hid (HA.out.below hx)
            replace HB := Lib.hid (HB.out.below hx)
            replace HU := Lib.hid (HU.out.below hx)
            replace HV := Lib.hid (HV.out.below hx)
            replace HX := Lib.hid (HX.out.below hx)
            replace hb := bthen hb hx
            clear hx
            go_wp2_with fail
            refine (same_any A1 A2 c1 c2 u u _ true (yes_iff rfl) hull HU.out HV.out).mono ?_
            rintro e wx8 ⟨rfl, hx⟩
            replace HA := Lib.hid (HA.out.below hx)
            replace HB := Lib.hid (HB.out.below hx)
            replace HU := Lib.hid (HU.out.below hx)
            replace HV := Lib.hid (HV.out.below hx)
            replace HX := Lib.hid (HX.out.below hx)
            replace hb := bthen hb hx
            clear hx
            obtain rfl | rfl | rfl | rfl : m = 0 ∨ m = 1 ∨ m = 2 ∨ m = 3 := by omega
            · obtain ⟨bt, ot, eA, hbt, hHt⟩ := HA.out.lines (by omega)
              subst eA
              obtain ⟨b1, o1, eA, hb1, hH1⟩ := HU.out.lines (by omega)
              subst eA
              obtain ⟨b3, o3, eA, hb3, hH3⟩ := HX.out.lines (by omega)
              subst eA
              have e1 := (hHt.line ha).2.2
              have e2 := (hH1.line hau).2.2
              have e3 := (hH3.line hax).2.2
              have hmu2 : (T.at_ u a).mark = 2 := HMU.out.trans (by decide)
              have hmx2 : (T.at_ x a).mark = 0 := HMX.out.trans (by decide)
              rw [HMA.out] at e1
              rw [hmu2] at e2
              rw [hmx2] at e3
              have ba1 : bits BinOp.and IntKind.i64 2 2 = 2 := by decide +kernel
              have ba2 : bits BinOp.and IntKind.i64 0 2 = 0 := by decide +kernel
              have ba3 : bits BinOp.and IntKind.i64 0 2 = 0 := by decide +kernel
              clear hHt hH1 hH3 hmu2 hmx2
              have HXT := Lib.hid (show x = t by rw [HXE.out]; exact setM_same t a _ ha (HMA.out.trans (by decide)))
              go_wp2_with fail
              refine (same_any _ _ c3 c x t _ true (yes_iff HXT.out) hxll HX.out HA.out).mono ?_
              rintro e wx9 ⟨rfl, hx⟩
              replace HA := Lib.hid (HA.out.below hx)
              replace HB := Lib.hid (HB.out.below hx)
              replace HU := Lib.hid (HU.out.below hx)
              replace HV := Lib.hid (HV.out.below hx)
              replace HX := Lib.hid (HX.out.below hx)
              replace hb := bthen hb hx
              clear hx
              go_wp2_with fail
              refine (awake_of E _).mono ?_
              rintro e wz ⟨rfl, hx⟩
              go_wp2
              go_ret
              exact ⟨rfl, bthen hb hx⟩
            · obtain ⟨bt, ot, eA, hbt, hHt⟩ := HA.out.lines (by omega)
              subst eA
              obtain ⟨b1, o1, eA, hb1, hH1⟩ := HU.out.lines (by omega)
              subst eA
              obtain ⟨b3, o3, eA, hb3, hH3⟩ := HX.out.lines (by omega)
              subst eA
              have e1 := (hHt.line ha).2.2
              have e2 := (hH1.line hau).2.2
              have e3 := (hH3.line hax).2.2
              have hmu2 : (T.at_ u a).mark = 3 := HMU.out.trans (by decide)
              have hmx2 : (T.at_ x a).mark = 1 := HMX.out.trans (by decide)
              rw [HMA.out] at e1
              rw [hmu2] at e2
              rw [hmx2] at e3
              have ba1 : bits BinOp.and IntKind.i64 3 2 = 2 := by decide +kernel
              have ba2 : bits BinOp.and IntKind.i64 1 2 = 0 := by decide +kernel
              have ba3 : bits BinOp.and IntKind.i64 1 2 = 0 := by decide +kernel
              clear hHt hH1 hH3 hmu2 hmx2
              have HXT := Lib.hid (show x = t by rw [HXE.out]; exact setM_same t a _ ha (HMA.out.trans (by decide)))
              go_wp2_with fail
              refine (same_any _ _ c3 c x t _ true (yes_iff HXT.out) hxll HX.out HA.out).mono ?_
              rintro e wx9 ⟨rfl, hx⟩
              replace HA := Lib.hid (HA.out.below hx)
              replace HB := Lib.hid (HB.out.below hx)
              replace HU := Lib.hid (HU.out.below hx)
              replace HV := Lib.hid (HV.out.below hx)
              replace HX := Lib.hid (HX.out.below hx)
              replace hb := bthen hb hx
              clear hx
              go_wp2_with fail
              refine (awake_of E _).mono ?_
              rintro e wz ⟨rfl, hx⟩
              go_wp2
              go_ret
              exact ⟨rfl, bthen hb hx⟩
            · obtain ⟨bt, ot, eA, hbt, hHt⟩ := HA.out.lines (by omega)
              subst eA
              obtain ⟨b1, o1, eA, hb1, hH1⟩ := HU.out.lines (by omega)
              subst eA
              obtain ⟨b3, o3, eA, hb3, hH3⟩ := HX.out.lines (by omega)
              subst eA
              have e1 := (hHt.line ha).2.2
              have e2 := (hH1.line hau).2.2
              have e3 := (hH3.line hax).2.2
              have hmu2 : (T.at_ u a).mark = 2 := HMU.out.trans (by decide)
              have hmx2 : (T.at_ x a).mark = 0 := HMX.out.trans (by decide)
              rw [HMA.out] at e1
              rw [hmu2] at e2
              rw [hmx2] at e3
              have ba1 : bits BinOp.and IntKind.i64 2 2 = 2 := by decide +kernel
              have ba2 : bits BinOp.and IntKind.i64 0 2 = 0 := by decide +kernel
              have ba3 : bits BinOp.and IntKind.i64 2 2 = 2 := by decide +kernel
              clear hHt hH1 hH3 hmu2 hmx2
              go_wp2_with fail
              refine (awake_of E _).mono ?_
              rintro e wz ⟨rfl, hx⟩
              go_wp2
              go_ret
              exact ⟨rfl, bthen hb hx⟩
            · obtain ⟨bt, ot, eA, hbt, hHt⟩ := HA.out.lines (by omega)
              subst eA
              obtain ⟨b1, o1, eA, hb1, hH1⟩ := HU.out.lines (by omega)
              subst eA
              obtain ⟨b3, o3, eA, hb3, hH3⟩ := HX.out.lines (by omega)
              subst eA
              have e1 := (hHt.line ha).2.2
              have e2 := (hH1.line hau).2.2
              have e3 := (hH3.line hax).2.2
              have hmu2 : (T.at_ u a).mark = 3 := HMU.out.trans (by decide)
              have hmx2 : (T.at_ x a).mark = 1 := HMX.out.trans (by decide)
              rw [HMA.out] at e1
              rw [hmu2] at e2
              rw [hmx2] at e3
              have ba1 : bits BinOp.and IntKind.i64 3 2 = 2 := by decide +kernel
              have ba2 : bits BinOp.and IntKind.i64 1 2 = 0 := by decide +kernel
              have ba3 : bits BinOp.and IntKind.i64 3 2 = 2 := by decide +kernel
              clear hHt hH1 hH3 hmu2 hmx2
              go_wp2_with fail
              refine (awake_of E _).mono ?_
              rintro e wz ⟨rfl, hx⟩
              go_wp2
              go_ret
              exact ⟨rfl, bthen hb hx⟩
          · have b0 : (er != 0) = true := bne_iff_ne.2 h0
            have hut := HSI.out.err h0
            subst hut
            go_wp2_with fail
            refine (E.mark A B c d u.length n u u p 2 [] er true _ ⟨rfl, HNP.out, HA.out, HB.out, HNK.out, hc, hd, hll, hpl⟩ HSI.out).mono ?_
            rintro e wx4 ⟨A1, c1, rfl, hs1, hk1, hc1, hx⟩
            replace HA := Lib.hid (HA.out.below hx)
            replace HB := Lib.hid (HB.out.below hx)
            have HU := Lib.hid (hs1)
            replace hb := bthen hb hx
            clear hx
            clear hs1
            go_wp2_with fail
            refine (same_any A1 A c1 c u u _ true (yes_iff rfl) hll HU.out HA.out).mono ?_
            rintro e wx5 ⟨rfl, hx⟩
            replace HA := Lib.hid (HA.out.below hx)
            replace HB := Lib.hid (HB.out.below hx)
            replace HU := Lib.hid (HU.out.below hx)
            replace hb := bthen hb hx
            clear hx
            go_wp2_with fail
            refine (awake_of E _).mono ?_
            rintro e wz ⟨rfl, hx⟩
            go_wp2
            go_ret
            exact ⟨rfl, bthen hb hx⟩
      · have HR := Lib.hid hR
        clear hR
        go_wp2_with fail
        refine (rightR_is A c t false _ HA.out hll (no_iff HR.out)).mono ?_
        rintro e wx2 ⟨rfl, hx⟩
        replace HA := Lib.hid (HA.out.below hx)
        replace HB := Lib.hid (HB.out.below hx)
        replace hb := bthen hb hx
        clear hx
        go_wp2_with fail
        refine (awake_of E _).mono ?_
        rintro e wz ⟨rfl, hx⟩
        go_wp2
        go_ret
        exact ⟨rfl, bthen hb hx⟩
theorem editMarks_walk (E : EditOk) (w : World) (A : Option Addr) (c : Nat) (t : List T.Ln) (hc : t.length ≤ c) (hA : Seen eL w A t) (hl : t.length ≤ maxLen) (nk : NilOk A c) (B : Option Addr) (n d : Nat) (xs : List ByteArray) (g1 : HoldsS w B n xs) (gn1 : n ≤ maxLen) (gs1 : ∀ x ∈ xs, x.size ≤ maxLen) (hd : n ≤ d) (b : Bool) :
    Calls Try.prog 8 #[.slice A t.length c, .slice B n d, .bool b] w (TrueS w) := by
  cases b with
  | false => exact editMarks_false E w A c t hc hA hl nk B n d xs g1 gn1 gs1 hd
  | true => exact editMarks_true E w A c t hc hA hl nk B n d xs g1 gn1 gs1 hd
end Go.Proofs.Ytfjpeonfkhcpfaa
