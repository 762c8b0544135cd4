/-
  The walk of layer 7's statement EditGone, from what edit's functions do: it returns true whatever the lines and the path are. No conditions.
-/
import Derived.Test.YtfjpeonfkhcpfaaEditSetsWalk
import Derived.Test.YtfjpeonfkhcpfaaLineO
namespace Go.Proofs.Ytfjpeonfkhcpfaa
open Go.RowKit
set_option linter.unusedVariables false

theorem same_line {t u : List T.Ln} (h : T.RightT t) (hu : T.RightT u) {k j : Nat} (hk : k < t.length) (hj : j < u.length) (e1 : T.pathL u j = T.pathL t k) : T.dp u j = T.dp t k ∧ T.wd u j = T.wd t k := by
  have l1 := hu.path_len j j (Nat.le_refl _) hj
  have l2 := h.path_len k k (Nat.le_refl _) hk
  rw [e1] at l1
  refine ⟨by omega, ?_⟩
  have e3 := e1
  rw [T.path_under u j, T.path_under t k] at e3
  obtain ⟨_, e4⟩ := List.append_inj' e3 rfl
  simpa using e4
theorem gone_line {t u : List T.Ln} {p : T.Pth} (h : ∀ x, x ∈ T.entries u ↔ x ∈ T.entries t ∧ ¬ T.pre p x.1) : ∀ k, k < t.length → (¬ T.pre p (T.pathL t k) → ∃ j, j < u.length ∧ T.pathL u j = T.pathL t k ∧ (T.at_ u j).mark = (T.at_ t k).mark) ∧ (T.pre p (T.pathL t k) → ∀ j, j < u.length → T.pathL u j ≠ T.pathL t k) := by
  intro k hk
  refine ⟨fun hn => ?_, fun hp j hj e => ?_⟩
  · exact (T.mem_entries u _ _).1 ((h (T.pathL t k, (T.at_ t k).mark)).2 ⟨(T.mem_entries t _ _).2 ⟨k, hk, rfl, rfl⟩, hn⟩)
  · exact ((h (T.pathL t k, (T.at_ u j).mark)).1 ((T.mem_entries u _ _).2 ⟨j, hj, e, rfl⟩)).2 hp
theorem findT_no (A B : Option Addr) (c d m : Nat) (t : List T.Ln) (p : T.Pth) (w : World) (hm : p.length = m) (hA : Seen eL w A t) (hB : Seen eS w B p) (hl : t.length ≤ 1073741824) (hp : m ≤ 1073741824) (hR : T.RightT t) (h : ∀ i, i < t.length → T.pathL t i ≠ p) :
    Calls Try.prog 22 #[.slice A t.length c, .slice B m d] w (fun e w' => e = .returned (.tuple #[.int .i64 0, .bool false]) ∧ Below w.heap.size w w') := by subst hm; exact find_not A B c d t p w hA hB hl hp hR h
theorem findT_at (A B : Option Addr) (c d m i : Nat) (t : List T.Ln) (p : T.Pth) (w : World) (hm : p.length = m) (hA : Seen eL w A t) (hB : Seen eS w B p) (hl : t.length ≤ 1073741824) (hp : m ≤ 1073741824) (hR : T.RightT t) (hi : i < t.length) (h : T.pathL t i = p) :
    Calls Try.prog 22 #[.slice A t.length c, .slice B m d] w (fun e w' => e = .returned (.tuple #[.int .i64 (i : Int), .bool true]) ∧ Below w.heap.size w w') := by subst hm; exact find_some A B c d t i p w hA hB hl hp hR hi h
set_option maxRecDepth 100000 in
set_option maxHeartbeats 4000000 in
theorem editGone_walk (E : EditOk) (w : World) (A : Option Addr) (c : Nat) (t : List T.Ln) (hc : t.length ≤ c) (hA : Seen eL w A t) (hl : t.length ≤ maxLen) (nk : NilOk A c) (B : Option Addr) (n d : Nat) (xs : List ByteArray) (g1 : HoldsS w B n xs) (gn1 : n ≤ maxLen) (gs1 : ∀ x ∈ xs, x.size ≤ maxLen) (hd : n ≤ d) :
    Calls Try.prog 7 #[.slice A t.length c, .slice B n d] w (TrueS w) := by
  obtain ⟨p, hn, hB⟩ := seen_strs g1
  unfold maxLen at hl gn1
  have HA := Lib.hid hA
  have HB := Lib.hid hB
  have HNK := Lib.hid nk
  have HNP := Lib.hid hn
  clear hA hB g1 nk gs1 hn
  have hb : Below w.heap.size w w := Below.refl _ _
  obtain ⟨u, er, hsi⟩ := turn_is t p 1 (by omega) (by omega) 0 []
  have HSI := Lib.hid hsi
  clear hsi
  go_enter Try.func7, Try.ntmps7
  go_wp2_with fail
  refine (small_is A c t _ HA.out).mono ?_
  rintro e wx1 ⟨bs, rfl, hsm, hx⟩
  replace HA := Lib.hid (HA.out.below hx)
  replace HB := Lib.hid (HB.out.below hx)
  replace hb := bthen hb hx
  clear hx
  cases bs with
  | false =>
    clear hsm
    go_wp2_with fail
    refine (awake_of E _).mono ?_
    rintro e wz ⟨rfl, hx⟩
    go_wp2
    go_ret
    exact ⟨rfl, bthen hb hx⟩
  | true =>
    replace hsm := hsm rfl
    have hll : t.length ≤ 1073741824 := by omega
    by_cases h60 : 60 < t.length
    · have b60 : decide ((60 : Int) < (t.length : Int)) = true := decide_eq_true (by omega)
      have b61 : decide (60 < t.length) = true := decide_eq_true h60
      go_wp2_with fail
      refine (awake_of E _).mono ?_
      rintro e wz ⟨rfl, hx⟩
      go_wp2
      go_ret
      exact ⟨rfl, bthen hb hx⟩
    · have b60 : decide ((60 : Int) < (t.length : Int)) = false := decide_eq_false (by omega)
      have b61 : decide (60 < t.length) = false := decide_eq_false h60
      replace h60 : t.length ≤ 60 := by omega
      by_cases hR : T.RightT t
      · have HR := Lib.hid hR
        clear hR
        go_wp2_with fail
        refine (rightR_is A c t true _ HA.out hll (yes_iff HR.out)).mono ?_
        rintro e wx2 ⟨rfl, hx⟩
        replace HA := Lib.hid (HA.out.below hx)
        replace HB := Lib.hid (HB.out.below hx)
        replace hb := bthen hb hx
        clear hx
        go_wp2_with fail
        refine (shortN B d n p _ HNP.out HB.out).mono ?_
        rintro e wx3 ⟨bs, rfl, hsp, hx⟩
        replace HA := Lib.hid (HA.out.below hx)
        replace HB := Lib.hid (HB.out.below hx)
        replace hb := bthen hb hx
        clear hx
        cases bs with
        | false =>
          clear hsp
          go_wp2_with fail
          refine (awake_of E _).mono ?_
          rintro e wz ⟨rfl, hx⟩
          go_wp2
          go_ret
          exact ⟨rfl, bthen hb hx⟩
        | true =>
          replace hsp := hsp rfl
          have hpl : n ≤ 1073741824 := by omega
          by_cases h0 : er = 0
          · subst h0
            obtain ⟨_, hru, _, hmem⟩ := HSI.out.gone
            have HRU := Lib.hid hru
            have hul : u.length ≤ 200 := hru.len
            have hull : u.length ≤ 1073741824 := by omega
            have HGN := Lib.hid (gone_line hmem)
            clear hru hmem
            go_wp2_with fail
            refine (E.del A B c d t.length n t u p 0 [] 0 _ ⟨rfl, HNP.out, HA.out, HB.out, HNK.out, hc, hd, hll, hpl⟩ HSI.out).mono ?_
            rintro e wx4 ⟨A1, c1, rfl, hs1, hk1, hc1, hx⟩
            replace HA := Lib.hid (HA.out.below hx)
            replace HB := Lib.hid (HB.out.below hx)
            have HU := Lib.hid (hs1)
            replace hb := bthen hb hx
            clear hx
            clear hs1
            go_wp2
            go_loopg [48] t.length (fun gk x wr => ∃ k : Nat, Hid (k + gk = t.length) ∧ k ≤ t.length ∧ x = .int .i64 k ∧ Below w.heap.size w wr ∧ Hid (Seen eL wr A t) ∧ Hid (Seen eS wr B p) ∧ Hid (Seen eL wr A1 u))
            case atStart => exact ⟨0, Nat.zero_add _, Nat.zero_le _, rfl, hb, HA, HB, HU⟩
            case round =>
              obtain ⟨k, HG, hk, rfl, hb, HA, HB, HU⟩ := hrel
              by_cases hlt : k < t.length
              · have blt : decide (k < t.length) = true := decide_eq_true hlt
                obtain ⟨b, o, rfl, hbw, hH⟩ := HA.out.lines (by omega)
                obtain ⟨c0, c1', c2'⟩ := hH.line hlt
                obtain ⟨dd, hd'⟩ : ∃ dd, T.dp t k = dd := ⟨_, rfl⟩
                obtain ⟨y, hy⟩ : ∃ y, T.wd t k = y := ⟨_, rfl⟩
                obtain ⟨m2, hm2⟩ : ∃ m2, (T.at_ t k).mark = m2 := ⟨_, rfl⟩
                obtain ⟨P, hP⟩ : ∃ P, T.pathL t k = P := ⟨_, rfl⟩
                have hPl : P.length ≤ 16 := by rw [← hP]; exact (S.RightN.path_deep HR.out hlt).2
                have hPne : 0 < P.length := by rw [← hP]; exact List.length_pos_iff.2 T.path_ne
                have hgone := HGN.out k hlt
                rw [hP] at hgone
                have hln : ∀ j, j < u.length → T.pathL u j = P → (T.at_ u j).mark = m2 → T.dp u j = dd ∧ T.wd u j = y := fun j hj e1 e2 => by
                  have e3 := same_line HR.out HRU.out hlt hj (by rw [e1, hP])
                  exact ⟨by rw [← hd']; exact e3.1, by rw [← hy]; exact e3.2⟩
                rw [hm2] at hgone
                rw [hd'] at c0
                rw [hy] at c1'
                rw [hm2] at c2'
                have HP := Lib.hid hP
                have HX := Lib.hid (LineAt.new wr ⟨dd, y, m2⟩)
                have HBA := Lib.hid (hb.alloc hb.size (lnO ⟨dd, y, m2⟩))
                have HAA := Lib.hid (HA.out.below (up wr (lnO ⟨dd, y, m2⟩)))
                have HSA := Lib.hid (HB.out.below (up wr (lnO ⟨dd, y, m2⟩)))
                have HUA := Lib.hid (HU.out.below (up wr (lnO ⟨dd, y, m2⟩)))
                have hgk := HG.out
                simp only [lnO] at HX HBA HAA HSA HUA
                have HLN := Lib.hid hln
                have HGO := Lib.hid hgone
                obtain ⟨NP, hNP⟩ : ∃ NP, P.length = NP := ⟨_, rfl⟩
                rw [hNP] at hPl hPne
                have HPN := Lib.hid hNP
                clear hH hd' hy hm2 hP hgone hln hb hNP
                go_wp2_with fail
                refine (refPathN_is _ c t.length k t _ rfl HAA.out hll hlt HR.out P NP HP.out HPN.out).mono ?_
                rintro e w5 ⟨B5, c5, rfl, hc5, hs5, hx⟩
                obtain ⟨b5, o5, rfl, hb5, hH5⟩ := hs5 (by rw [HPN.out]; exact hPne)
                have HX5 := Lib.hid (HX.out.below hx)
                have HB5 := Lib.hid (bthen HBA.out hx)
                have HA5 := Lib.hid (HAA.out.below hx)
                have HS5 := Lib.hid (HSA.out.below hx)
                have HU5 := Lib.hid (HUA.out.below hx)
                have HP5 := Lib.hid (hH5.seen hb5)
                have HT5 := Lib.hid ((hH5.take n).seen hb5)
                clear hx hs5 hH5
                by_cases hpre : T.pre p P
                · have hnp : n ≤ NP := by have := T.pre_len hpre; have := HNP.out; have := HPN.out; omega
                  have bge : decide ((n : Int) ≤ (NP : Int)) = true := decide_eq_true (by omega)
                  have bge2 : decide (n ≤ NP) = true := decide_eq_true hnp
                  have hnc : n ≤ c5 := by omega
                  have hnci : (n : Int) ≤ (c5 : Int) := by omega
                  have HEQ := Lib.hid (show P.take n = p by rw [← HNP.out]; exact hpre)
                  have HTN := Lib.hid (show (P.take n).length = n by rw [List.length_take, HPN.out]; omega)
                  have HNO := Lib.hid (HGO.out.2 hpre)
                  clear hpre
                  go_wp2_with fail
                  refine (equal_yes _ B c5 d (P.take n) p n n _ HEQ.out HTN.out HNP.out hpl HT5.out HS5.out).mono ?_
                  rintro e w6 ⟨rfl, hx⟩
                  have HX6 := Lib.hid (HX5.out.below hx)
                  have HB6 := Lib.hid (bthen HB5.out hx)
                  have HA6 := Lib.hid (HA5.out.below hx)
                  have HS6 := Lib.hid (HS5.out.below hx)
                  have HU6 := Lib.hid (HU5.out.below hx)
                  have HP6 := Lib.hid (HP5.out.below hx)
                  clear hx
                  go_wp2_with fail
                  refine (findT_no A1 _ c1 c5 NP u P _ HPN.out HU6.out HP6.out hull (by omega) HRU.out HNO.out).mono ?_
                  rintro e w7 ⟨rfl, hx⟩
                  have HB7 := Lib.hid (bthen HB6.out hx)
                  have HA7 := Lib.hid (HA6.out.below hx)
                  have HS7 := Lib.hid (HS6.out.below hx)
                  have HU7 := Lib.hid (HU6.out.below hx)
                  clear hx c0 c1' c2'
                  go_wp2
                  go_region
                  go_wp2
                  go_roundg (t.length - (k + 1))
                  case rel => exact ⟨k + 1, (by show _ = _; omega), by omega, by go_num, HB7.out.drew, Lib.hid (HA7.out.below ((Below.refl _ _).drew)), Lib.hid (HS7.out.below ((Below.refl _ _).drew)), Lib.hid (HU7.out.below ((Below.refl _ _).drew))⟩
                  case measure => omega
                · obtain ⟨j, hj, hjp, hjm⟩ := HGO.out.1 hpre
                  obtain ⟨hjd, hjw⟩ := HLN.out j hj hjp hjm
                  have HJP := Lib.hid hjp
                  have HJD := Lib.hid hjd
                  have HJW := Lib.hid hjw
                  have HJM := Lib.hid hjm
                  have hju : (j : Int) < (u.length : Int) := by omega
                  clear hjp hjd hjw hjm
                  by_cases hnp : n ≤ NP
                  · have bge : decide ((n : Int) ≤ (NP : Int)) = true := decide_eq_true (by omega)
                    have bge2 : decide (n ≤ NP) = true := decide_eq_true hnp
                    have hnc : n ≤ c5 := by omega
                    have hnci : (n : Int) ≤ (c5 : Int) := by omega
                    have HTN := Lib.hid (show (P.take n).length = n by rw [List.length_take, HPN.out]; omega)
                    have HNE := Lib.hid (show decide (P.take n = p) = false from decide_eq_false fun e => hpre (by unfold T.pre; rw [HNP.out]; exact e))
                    clear hpre
                    go_wp2_with fail
                    refine (equal_long _ B c5 d (P.take n) p n _ hpl HT5.out HS5.out HTN.out HNP.out).mono ?_
                    rw [HNE.out]
                    rintro e w6 ⟨rfl, hx⟩
                    have HX6 := Lib.hid (HX5.out.below hx)
                    have HB6 := Lib.hid (bthen HB5.out hx)
                    have HA6 := Lib.hid (HA5.out.below hx)
                    have HS6 := Lib.hid (HS5.out.below hx)
                    have HU6 := Lib.hid (HU5.out.below hx)
                    have HP6 := Lib.hid (HP5.out.below hx)
                    clear hx
                    go_wp2_with fail
                    refine (findT_at A1 _ c1 c5 NP j u P _ HPN.out HU6.out HP6.out hull (by omega) HRU.out hj HJP.out).mono ?_
                    rintro e w7 ⟨rfl, hx⟩
                    have HX7 := Lib.hid (HX6.out.below hx)
                    have HB7 := Lib.hid (bthen HB6.out hx)
                    have HA7 := Lib.hid (HA6.out.below hx)
                    have HS7 := Lib.hid (HS6.out.below hx)
                    have HU7 := Lib.hid (HU6.out.below hx)
                    clear hx c0 c1' c2'
                    obtain ⟨c0, c1', c2'⟩ := HX7.out.cells
                    simp only [] at c0 c1' c2'
                    obtain ⟨bu, ou, rfl, hbu, hHu⟩ := HU7.out.lines (by omega)
                    obtain ⟨u0, u1, u2⟩ := hHu.line hj
                    rw [HJD.out] at u0
                    rw [HJW.out] at u1
                    rw [HJM.out] at u2
                    clear hHu
                    go_wp2
                    go_region
                    go_wp2
                    go_roundg (t.length - (k + 1))
                    case rel => exact ⟨k + 1, (by show _ = _; omega), by omega, by go_num, HB7.out.drew, Lib.hid (HA7.out.below ((Below.refl _ _).drew)), Lib.hid (HS7.out.below ((Below.refl _ _).drew)), Lib.hid (HU7.out.below ((Below.refl _ _).drew))⟩
                    case measure => omega
                  · have bge : decide ((n : Int) ≤ (NP : Int)) = false := decide_eq_false (by omega)
                    have bge2 : decide (n ≤ NP) = false := decide_eq_false hnp
                    have HX6 := HX5
                    have HB6 := HB5
                    have HA6 := HA5
                    have HS6 := HS5
                    have HU6 := HU5
                    have HP6 := HP5
                    clear hpre
                    go_wp2_with fail
                    refine (findT_at A1 _ c1 c5 NP j u P _ HPN.out HU6.out HP6.out hull (by omega) HRU.out hj HJP.out).mono ?_
                    rintro e w7 ⟨rfl, hx⟩
                    have HX7 := Lib.hid (HX6.out.below hx)
                    have HB7 := Lib.hid (bthen HB6.out hx)
                    have HA7 := Lib.hid (HA6.out.below hx)
                    have HS7 := Lib.hid (HS6.out.below hx)
                    have HU7 := Lib.hid (HU6.out.below hx)
                    clear hx c0 c1' c2'
                    obtain ⟨c0, c1', c2'⟩ := HX7.out.cells
                    simp only [] at c0 c1' c2'
                    obtain ⟨bu, ou, rfl, hbu, hHu⟩ := HU7.out.lines (by omega)
                    obtain ⟨u0, u1, u2⟩ := hHu.line hj
                    rw [HJD.out] at u0
                    rw [HJW.out] at u1
                    rw [HJM.out] at u2
                    clear hHu
                    go_wp2
                    go_region
                    go_wp2
                    go_roundg (t.length - (k + 1))
                    case rel => exact ⟨k + 1, (by show _ = _; omega), by omega, by go_num, HB7.out.drew, Lib.hid (HA7.out.below ((Below.refl _ _).drew)), Lib.hid (HS7.out.below ((Below.refl _ _).drew)), Lib.hid (HU7.out.below ((Below.refl _ _).drew))⟩
                    case measure => omega
              · have blt : decide (k < t.length) = false := decide_eq_false hlt
                go_wp2_with fail
                refine (awake_of E _).mono ?_
                rintro e wz ⟨rfl, hx⟩
                go_wp2
                go_ret
                exact ⟨rfl, bthen hb hx⟩
          · have b0 : (er != 0) = true := bne_iff_ne.2 h0
            have hut := HSI.out.err h0
            subst hut
            go_wp2_with fail
            refine (E.del A B c d u.length n u u p 0 [] er _ ⟨rfl, HNP.out, HA.out, HB.out, HNK.out, hc, hd, hll, hpl⟩ HSI.out).mono ?_
            rintro e wx4 ⟨A1, c1, rfl, hs1, hk1, hc1, hx⟩
            replace HA := Lib.hid (HA.out.below hx)
            replace HB := Lib.hid (HB.out.below hx)
            have HU := Lib.hid (hs1)
            replace hb := bthen hb hx
            clear hx
            clear hs1
            go_wp2_with fail
            refine (same_any A1 A c1 c u u _ true (yes_iff rfl) hll HU.out HA.out).mono ?_
            rintro e wx5 ⟨rfl, hx⟩
            replace HA := Lib.hid (HA.out.below hx)
            replace HB := Lib.hid (HB.out.below hx)
            replace HU := Lib.hid (HU.out.below hx)
            replace hb := bthen hb hx
            clear hx
            go_wp2_with fail
            refine (awake_of E _).mono ?_
            rintro e wz ⟨rfl, hx⟩
            go_wp2
            go_ret
            exact ⟨rfl, bthen hb hx⟩
      · have HR := Lib.hid hR
        clear hR
        go_wp2_with fail
        refine (rightR_is A c t false _ HA.out hll (no_iff HR.out)).mono ?_
        rintro e wx2 ⟨rfl, hx⟩
        replace HA := Lib.hid (HA.out.below hx)
        replace HB := Lib.hid (HB.out.below hx)
        replace hb := bthen hb hx
        clear hx
        go_wp2_with fail
        refine (awake_of E _).mono ?_
        rintro e wz ⟨rfl, hx⟩
        go_wp2
        go_ret
        exact ⟨rfl, bthen hb hx⟩
end Go.Proofs.Ytfjpeonfkhcpfaa
