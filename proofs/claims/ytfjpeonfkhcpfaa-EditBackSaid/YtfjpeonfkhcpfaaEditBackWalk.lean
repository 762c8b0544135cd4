/-
  The walk of layer 7's statement EditBack, from what edit's functions do: it returns true whatever the lines, the path and the word are. No conditions.
-/
import Derived.Test.YtfjpeonfkhcpfaaEditSetsWalk
namespace Go.Proofs.Ytfjpeonfkhcpfaa
open Go.RowKit
set_option linter.unusedVariables false

theorem seen_last {w : World} {bb bo q : Nat} {p : T.Pth} {la : List UInt8} (h : Seen eS w (some ⟨bb, bo, none⟩) p) (hm : p.length = q + 1) (hl : p.getLastD [] = la) : w.cell? ⟨bb, bo + q, none⟩ = some (.string (sB la)) := by
  obtain ⟨b, o, e, _, hH⟩ := h (by omega)
  injection e with e
  injection e with e1 e2
  subst e1; subst e2
  have := hH.str (show q < p.length by omega)
  obtain ⟨r, x, er⟩ := T.snoc_of (p := p) (by intro e; subst e; simp at hm)
  subst er
  rw [T.last_snoc] at hl
  subst hl
  rw [List.length_append, List.length_singleton] at hm
  obtain rfl : r.length = q := by omega
  simpa using this
set_option maxRecDepth 100000 in
set_option maxHeartbeats 4000000 in
theorem editBack_walk (E : EditOk) (w : World) (A : Option Addr) (c : Nat) (t : List T.Ln) (hc : t.length ≤ c) (hA : Seen eL w A t) (hl : t.length ≤ maxLen) (nk : NilOk A c) (B : Option Addr) (n d : Nat) (xs : List ByteArray) (g1 : HoldsS w B n xs) (gn1 : n ≤ maxLen) (gs1 : ∀ x ∈ xs, x.size ≤ maxLen) (hd : n ≤ d) (s : ByteArray) (ws : s.size ≤ maxLen) :
    Calls Try.prog 6 #[.slice A t.length c, .slice B n d, .string s] w (TrueS w) := by
  obtain ⟨p, hn, hB⟩ := seen_strs g1
  unfold maxLen at hl gn1
  have HA := Lib.hid hA
  have HB := Lib.hid hB
  have HNK := Lib.hid nk
  have HNP := Lib.hid hn
  clear hA hB g1 nk gs1 hn
  have hb : Below w.heap.size w w := Below.refl _ _
  obtain ⟨wd, rfl⟩ : ∃ wd, s = sB wd := ⟨s.data.toList, by simp [sB]⟩
  clear ws
  go_enter Try.func6, Try.ntmps6
  go_wp2_with fail
  refine (small_is A c t _ HA.out).mono ?_
  rintro e wx1 ⟨bs, rfl, hsm, hx⟩
  replace HA := Lib.hid (HA.out.below hx)
  replace HB := Lib.hid (HB.out.below hx)
  replace hb := bthen hb hx
  clear hx
  cases bs with
  | false =>
    clear hsm
    go_wp2_with fail
    refine (awake_of E _).mono ?_
    rintro e wz ⟨rfl, hx⟩
    go_wp2
    go_ret
    exact ⟨rfl, bthen hb hx⟩
  | true =>
    replace hsm := hsm rfl
    have hll : t.length ≤ 1073741824 := by omega
    by_cases h60 : 60 < t.length
    · have b60 : decide ((60 : Int) < (t.length : Int)) = true := decide_eq_true (by omega)
      have b61 : decide (60 < t.length) = true := decide_eq_true h60
      go_wp2_with fail
      refine (awake_of E _).mono ?_
      rintro e wz ⟨rfl, hx⟩
      go_wp2
      go_ret
      exact ⟨rfl, bthen hb hx⟩
    · have b60 : decide ((60 : Int) < (t.length : Int)) = false := decide_eq_false (by omega)
      have b61 : decide (60 < t.length) = false := decide_eq_false h60
      replace h60 : t.length ≤ 60 := by omega
      by_cases hR : T.RightT t
      · have HR := Lib.hid hR
        clear hR
        go_wp2_with fail
        refine (rightR_is A c t true _ HA.out hll (yes_iff HR.out)).mono ?_
        rintro e wx2 ⟨rfl, hx⟩
        replace HA := Lib.hid (HA.out.below hx)
        replace HB := Lib.hid (HB.out.below hx)
        replace hb := bthen hb hx
        clear hx
        go_wp2_with fail
        refine (shortN B d n p _ HNP.out HB.out).mono ?_
        rintro e wx3 ⟨bs, rfl, hsp, hx⟩
        replace HA := Lib.hid (HA.out.below hx)
        replace HB := Lib.hid (HB.out.below hx)
        replace hb := bthen hb hx
        clear hx
        cases bs with
        | false =>
          clear hsp
          go_wp2_with fail
          refine (awake_of E _).mono ?_
          rintro e wz ⟨rfl, hx⟩
          go_wp2
          go_ret
          exact ⟨rfl, bthen hb hx⟩
        | true =>
          replace hsp := hsp rfl
          have hpl : n ≤ 1073741824 := by omega
          by_cases h100 : 100 < (sB wd).size
          · have b100 : decide ((100 : Int) < ((sB wd).size : Int)) = true := decide_eq_true (by omega)
            go_wp2_with fail
            refine (awake_of E _).mono ?_
            rintro e wz ⟨rfl, hx⟩
            go_wp2
            go_ret
            exact ⟨rfl, bthen hb hx⟩
          · have b100 : decide ((100 : Int) < ((sB wd).size : Int)) = false := decide_eq_false (by omega)
            clear h100
            by_cases hn0 : n = 0
            · subst hn0
              go_wp2_with fail
              refine (awake_of E _).mono ?_
              rintro e wz ⟨rfl, hx⟩
              go_wp2
              go_ret
              exact ⟨rfl, bthen hb hx⟩
            · obtain ⟨q, rfl⟩ : ∃ q, n = q + 1 := ⟨n - 1, by omega⟩
              clear hn0
              have bq0 : (((q : Int) + 1) == 0) = false := beq_eq_false_iff_ne.2 (by omega)
              have bq1 : (q + 1 == 0) = false := beq_eq_false_iff_ne.2 (by omega)
              obtain ⟨bb, bo, rfl, hbb, hBH⟩ := HB.out (by have := HNP.out; omega)
              have hdq : (q : Int) ≤ (d : Int) := by omega
              have hdq2 : q ≤ d := by omega
              have HBB := Lib.hid hBH
              have HTL := Lib.hid (show (p.dropLast ++ [wd]).length = q + 1 by rw [List.length_append, List.length_dropLast, HNP.out]; rfl)
              clear hBH
              go_wp2_with fail
              refine (withN bb bo q d p wd _ hbb HBB.out HNP.out hd (by omega)).mono ?_
              rintro e wx4 ⟨B2, c2, rfl, hcap2, hs2, hx⟩
              replace HA := Lib.hid (HA.out.below hx)
              replace HB := Lib.hid (HB.out.below hx)
              have HTO := Lib.hid (hs2)
              replace hb := bthen hb hx
              clear hx
              clear hs2 HBB hbb
              obtain ⟨u, er, hu⟩ := turn_is t p 4 (by omega) (by omega) 0 wd
              have HU4 := Lib.hid hu
              have hul : u.length ≤ 200 := (hu.right HR.out).len
              have hul2 : u.length ≤ 1073741824 := by omega
              clear hu
              go_wp2_with fail
              refine (E.rename A (some ⟨bb, bo, none⟩) c d t.length (q + 1) t u p 0 wd er _ ⟨rfl, HNP.out, HA.out, HB.out, HNK.out, hc, hd, hll, hpl⟩ HU4.out).mono ?_
              rintro e wx5 ⟨A1, c1, rfl, hs1, hk1, hc1, hx⟩
              replace HA := Lib.hid (HA.out.below hx)
              replace HB := Lib.hid (HB.out.below hx)
              replace HTO := Lib.hid (HTO.out.below hx)
              have HU := Lib.hid (hs1)
              replace hb := bthen hb hx
              clear hx
              clear hs1
              by_cases h0 : er = 0
              · subst h0
                obtain ⟨la, hla⟩ : ∃ la, p.getLastD [] = la := ⟨_, rfl⟩
                obtain ⟨v, fv, hv⟩ := turn_is u (p.dropLast ++ [wd]) 4 (by omega) (by omega) 0 la
                obtain ⟨hf0, hvt, hlen⟩ := rename_back HU4.out (by rw [hla]; exact hv)
                subst hf0
                have HV4 := Lib.hid hv
                have HVT := Lib.hid hvt.symm
                have bu : ((u.length : Int) != (t.length : Int)) = false := by rw [hlen]; simp
                have bu2 : (u.length != t.length) = false := by rw [hlen]; simp
                have cq := seen_last HB.out HNP.out hla
                have hqi : (q : Int) < (q : Int) + 1 := by omega
                clear hv hvt hlen hla
                go_wp2_with fail
                refine (E.rename A1 B2 c1 c2 u.length (q + 1) u v (p.dropLast ++ [wd]) 0 la 0 _ ⟨rfl, HTL.out, HU.out, HTO.out, hk1, hc1, hcap2, hul2, by omega⟩ HV4.out).mono ?_
                rintro e wx6 ⟨A3, c3, rfl, hs3, hk3, hc3, hx⟩
                replace HA := Lib.hid (HA.out.below hx)
                replace HB := Lib.hid (HB.out.below hx)
                replace HTO := Lib.hid (HTO.out.below hx)
                replace HU := Lib.hid (HU.out.below hx)
                have HV := Lib.hid (hs3)
                replace hb := bthen hb hx
                clear hx
                clear hs3 cq
                go_wp2_with fail
                refine (same_any A A3 c c3 t v _ true (yes_iff HVT.out) hll HA.out HV.out).mono ?_
                rintro e wx7 ⟨rfl, hx⟩
                replace HA := Lib.hid (HA.out.below hx)
                replace HB := Lib.hid (HB.out.below hx)
                replace HTO := Lib.hid (HTO.out.below hx)
                replace HU := Lib.hid (HU.out.below hx)
                replace HV := Lib.hid (HV.out.below hx)
                replace hb := bthen hb hx
                clear hx
                obtain ⟨cc, gc, hcc⟩ := turn_is t p 5 (by omega) (by omega) 0 wd
                have HCC := Lib.hid hcc
                have hcl : cc.length ≤ 200 := (hcc.right HR.out).len
                have hcl2 : cc.length ≤ 1073741824 := by omega
                clear hcc
                go_wp2_with fail
                refine (E.copy A (some ⟨bb, bo, none⟩) c d t.length (q + 1) t cc p 0 wd gc _ ⟨rfl, HNP.out, HA.out, HB.out, HNK.out, hc, hd, hll, hpl⟩ HCC.out).mono ?_
                rintro e wx8 ⟨A5, c5, rfl, hs5, hk5, hc5, hx⟩
                replace HA := Lib.hid (HA.out.below hx)
                replace HB := Lib.hid (HB.out.below hx)
                replace HTO := Lib.hid (HTO.out.below hx)
                replace HU := Lib.hid (HU.out.below hx)
                replace HV := Lib.hid (HV.out.below hx)
                have HC := Lib.hid (hs5)
                replace hb := bthen hb hx
                clear hx
                clear hs5
                by_cases hg0 : gc = 0
                · subst hg0
                  obtain ⟨dd, hh, hdd⟩ := turn_is cc (p.dropLast ++ [wd]) 1 (by omega) (by omega) 0 []
                  have hbk := copy_back HCC.out hdd
                  have HDD := Lib.hid hdd
                  have hdl : dd.length ≤ 200 := (hdd.right (HCC.out.right HR.out)).len
                  have hdl2 : dd.length ≤ 1073741824 := by omega
                  clear hdd
                  go_wp2_with fail
                  refine (E.del A5 B2 c5 c2 cc.length (q + 1) cc dd (p.dropLast ++ [wd]) 0 [] hh _ ⟨rfl, HTL.out, HC.out, HTO.out, hk5, hc5, hcap2, hcl2, by omega⟩ HDD.out).mono ?_
                  rintro e wx9 ⟨A6, c6, rfl, hs6, hk6, hc6, hx⟩
                  replace HA := Lib.hid (HA.out.below hx)
                  replace HB := Lib.hid (HB.out.below hx)
                  replace HTO := Lib.hid (HTO.out.below hx)
                  replace HU := Lib.hid (HU.out.below hx)
                  replace HV := Lib.hid (HV.out.below hx)
                  replace HC := Lib.hid (HC.out.below hx)
                  have HD := Lib.hid (hs6)
                  replace hb := bthen hb hx
                  clear hx
                  clear hs6
                  rcases hbk with ⟨hh0, hdt⟩ | hh0
                  · subst hh0
                    have HDT := Lib.hid hdt
                    clear hdt
                    go_wp2_with fail
                    refine (same_any A6 A c6 c dd t _ true (yes_iff HDT.out) hdl2 HD.out HA.out).mono ?_
                    rintro e wx10 ⟨rfl, hx⟩
                    replace HA := Lib.hid (HA.out.below hx)
                    replace HB := Lib.hid (HB.out.below hx)
                    replace HTO := Lib.hid (HTO.out.below hx)
                    replace HU := Lib.hid (HU.out.below hx)
                    replace HV := Lib.hid (HV.out.below hx)
                    replace HC := Lib.hid (HC.out.below hx)
                    replace HD := Lib.hid (HD.out.below hx)
                    replace hb := bthen hb hx
                    clear hx
                    go_wp2_with fail
                    refine (awake_of E _).mono ?_
                    rintro e wz ⟨rfl, hx⟩
                    go_wp2
                    go_ret
                    exact ⟨rfl, bthen hb hx⟩
                  · subst hh0
                    go_wp2_with fail
                    refine (awake_of E _).mono ?_
                    rintro e wz ⟨rfl, hx⟩
                    go_wp2
                    go_ret
                    exact ⟨rfl, bthen hb hx⟩
                · have b0 : (gc != 0) = true := bne_iff_ne.2 hg0
                  have HCT := Lib.hid (HCC.out.err hg0)
                  go_wp2_with fail
                  refine (same_any A5 A c5 c cc t _ true (yes_iff HCT.out) hcl2 HC.out HA.out).mono ?_
                  rintro e wx9 ⟨rfl, hx⟩
                  replace HA := Lib.hid (HA.out.below hx)
                  replace HB := Lib.hid (HB.out.below hx)
                  replace HTO := Lib.hid (HTO.out.below hx)
                  replace HU := Lib.hid (HU.out.below hx)
                  replace HV := Lib.hid (HV.out.below hx)
                  replace HC := Lib.hid (HC.out.below hx)
                  replace hb := bthen hb hx
                  clear hx
                  go_wp2_with fail
                  refine (awake_of E _).mono ?_
                  rintro e wz ⟨rfl, hx⟩
                  go_wp2
                  go_ret
                  exact ⟨rfl, bthen hb hx⟩
              · have b0 : (er == 0) = false := beq_eq_false_iff_ne.2 h0
                clear h0
                obtain ⟨cc, gc, hcc⟩ := turn_is t p 5 (by omega) (by omega) 0 wd
                have HCC := Lib.hid hcc
                have hcl : cc.length ≤ 200 := (hcc.right HR.out).len
                have hcl2 : cc.length ≤ 1073741824 := by omega
                clear hcc
                go_wp2_with fail
                refine (E.copy A (some ⟨bb, bo, none⟩) c d t.length (q + 1) t cc p 0 wd gc _ ⟨rfl, HNP.out, HA.out, HB.out, HNK.out, hc, hd, hll, hpl⟩ HCC.out).mono ?_
                rintro e wx6 ⟨A5, c5, rfl, hs5, hk5, hc5, hx⟩
                replace HA := Lib.hid (HA.out.below hx)
                replace HB := Lib.hid (HB.out.below hx)
                replace HTO := Lib.hid (HTO.out.below hx)
                replace HU := Lib.hid (HU.out.below hx)
                have HC := Lib.hid (hs5)
                replace hb := bthen hb hx
                clear hx
                clear hs5
                by_cases hg0 : gc = 0
                · subst hg0
                  obtain ⟨dd, hh, hdd⟩ := turn_is cc (p.dropLast ++ [wd]) 1 (by omega) (by omega) 0 []
                  have hbk := copy_back HCC.out hdd
                  have HDD := Lib.hid hdd
                  have hdl : dd.length ≤ 200 := (hdd.right (HCC.out.right HR.out)).len
                  have hdl2 : dd.length ≤ 1073741824 := by omega
                  clear hdd
                  go_wp2_with fail
                  refine (E.del A5 B2 c5 c2 cc.length (q + 1) cc dd (p.dropLast ++ [wd]) 0 [] hh _ ⟨rfl, HTL.out, HC.out, HTO.out, hk5, hc5, hcap2, hcl2, by omega⟩ HDD.out).mono ?_
                  rintro e wx7 ⟨A6, c6, rfl, hs6, hk6, hc6, hx⟩
                  replace HA := Lib.hid (HA.out.below hx)
                  replace HB := Lib.hid (HB.out.below hx)
                  replace HTO := Lib.hid (HTO.out.below hx)
                  replace HU := Lib.hid (HU.out.below hx)
                  replace HC := Lib.hid (HC.out.below hx)
                  have HD := Lib.hid (hs6)
                  replace hb := bthen hb hx
                  clear hx
                  clear hs6
                  rcases hbk with ⟨hh0, hdt⟩ | hh0
                  · subst hh0
                    have HDT := Lib.hid hdt
                    clear hdt
                    go_wp2_with fail
                    refine (same_any A6 A c6 c dd t _ true (yes_iff HDT.out) hdl2 HD.out HA.out).mono ?_
                    rintro e wx8 ⟨rfl, hx⟩
                    replace HA := Lib.hid (HA.out.below hx)
                    replace HB := Lib.hid (HB.out.below hx)
                    replace HTO := Lib.hid (HTO.out.below hx)
                    replace HU := Lib.hid (HU.out.below hx)
                    replace HC := Lib.hid (HC.out.below hx)
                    replace HD := Lib.hid (HD.out.below hx)
                    replace hb := bthen hb hx
                    clear hx
                    go_wp2_with fail
                    refine (awake_of E _).mono ?_
                    rintro e wz ⟨rfl, hx⟩
                    go_wp2
                    go_ret
                    exact ⟨rfl, bthen hb hx⟩
                  · subst hh0
                    go_wp2_with fail
                    refine (awake_of E _).mono ?_
                    rintro e wz ⟨rfl, hx⟩
                    go_wp2
                    go_ret
                    exact ⟨rfl, bthen hb hx⟩
                · have b0 : (gc != 0) = true := bne_iff_ne.2 hg0
                  have HCT := Lib.hid (HCC.out.err hg0)
                  go_wp2_with fail
                  refine (same_any A5 A c5 c cc t _ true (yes_iff HCT.out) hcl2 HC.out HA.out).mono ?_
                  rintro e wx7 ⟨rfl, hx⟩
                  replace HA := Lib.hid (HA.out.below hx)
                  replace HB := Lib.hid (HB.out.below hx)
                  replace HTO := Lib.hid (HTO.out.below hx)
                  replace HU := Lib.hid (HU.out.below hx)
                  replace HC := Lib.hid (HC.out.below hx)
                  replace hb := bthen hb hx
                  clear hx
                  go_wp2_with fail
                  refine (awake_of E _).mono ?_
                  rintro e wz ⟨rfl, hx⟩
                  go_wp2
                  go_ret
                  exact ⟨rfl, bthen hb hx⟩
      · have HR := Lib.hid hR
        clear hR
        go_wp2_with fail
        refine (rightR_is A c t false _ HA.out hll (no_iff HR.out)).mono ?_
        rintro e wx2 ⟨rfl, hx⟩
        replace HA := Lib.hid (HA.out.below hx)
        replace HB := Lib.hid (HB.out.below hx)
        replace hb := bthen hb hx
        clear hx
        go_wp2_with fail
        refine (awake_of E _).mono ?_
        rintro e wz ⟨rfl, hx⟩
        go_wp2
        go_ret
        exact ⟨rfl, bthen hb hx⟩
end Go.Proofs.Ytfjpeonfkhcpfaa
