/-
  The document's Of of layer 9 (ferryslipref09): what three trees make, or which paths conflict. Condition: at most 2^30 lines.
-/
import Derived.Test.YtfajfjocpgbmeaaMergeR
import Derived.Test.YtfajfjocpgbmeaaMergeA
import Derived.Test.YtfajfjocpgbmeaaPureK
import Derived.Test.YtfajfjocpgbmeaaParsePut
import Derived.StillTailTactics
namespace Go.Proofs.Ytfajfjocpgbmeaa
open Go.RowKit
set_option linter.unusedVariables false

/-- One of them, in the world at hand and in those behind it. -/
theorem SeenQ.atQ {w : World} {A : Option Addr} {L : List T.Pth} (h : SeenQ eQ w A L) {i : Nat} (hi : i < L.length) : ∃ b o B n c, A = some ⟨b, o, none⟩ ∧ (L[i]).length = n ∧ n ≤ c ∧ Seen eS w B L[i] ∧ ∀ w', Below w.heap.size w w' → w'.cell? ⟨b, o + i, none⟩ = some (.slice B n c) ∧ Seen eS w' B L[i] := by
  obtain ⟨M, h1, h2, h3⟩ := h
  obtain ⟨b, o, rfl, hb, hH⟩ := h2 (by omega)
  have hc := h3 i (by omega) hi
  refine ⟨b, o, (M[i]'(by omega)).A, (M[i]'(by omega)).n, (M[i]'(by omega)).c, rfl, hc.len, hc.cap, hc.seen, fun w' hw => ?_⟩
  exact ⟨(hH.below hw hb).ptQ (i := i) (by omega), hc.seen.below hw⟩
theorem wrapQ (x : Int) (h : -9223372036854775808 ≤ x ∧ x ≤ 9223372036854775807) : IntKind.i64.wrap x = x := by rw [IntKind.wrap_i64]; omega
set_option maxRecDepth 100000 in
set_option maxHeartbeats 2000000 in
theorem ofR_bad (A B C : Option Addr) (c d f n m k : Nat) (b s t : List T.Ln) (w : World) (hA : TArg w A c n b) (hB : TArg w B d m s) (hC : TArg w C f k t) (h : ¬ (T.RightT b ∧ T.RightT s ∧ T.RightT t)) :
    Calls Try.prog 12 #[.slice A n c, .slice B m d, .slice C k f] w (MergeS w [] [] 1) := by
  have HA := Lib.hid hA
  have HB := Lib.hid hB
  have HC := Lib.hid hC
  clear hA hB hC
  have hb : Below w.heap.size w w := Below.refl _ _
  by_cases h1 : T.RightT b
  · have H1 := Lib.hid h1
    by_cases h2 : T.RightT s
    · have H2 := Lib.hid h2
      have H3 := Lib.hid (show ¬ T.RightT t from fun h3 => h ⟨h1, h2, h3⟩)
      clear h h1 h2
      go_enter Try.func12, Try.ntmps12
      go_wp2_with fail
      refine (rightRQ A c n b true _ HA.out (yes_iff H1.out)).mono ?_
      rintro e w1 ⟨rfl, hx⟩
      replace hb := bthen hb hx
      clear hx
      go_wp2_with fail
      refine (rightRQ B d m s true _ (HB.out.below hb) (yes_iff H2.out)).mono ?_
      rintro e w2 ⟨rfl, hx⟩
      replace hb := bthen hb hx
      clear hx
      go_wp2_with fail
      refine (rightRQ C f k t false _ (HC.out.below hb) (no_iff H3.out)).mono ?_
      rintro e w3 ⟨rfl, hx⟩
      replace hb := bthen hb hx
      clear hx
      go_wp2
      go_ret3
      exact ⟨none, 0, none, 0, rfl, Seen.nil, Nat.le_refl _, fun _ => rfl, fun hl => absurd hl (Nat.lt_irrefl 0), Nat.le_refl _, hb⟩
    · have H2 := Lib.hid h2
      clear h h1 h2
      go_enter Try.func12, Try.ntmps12
      go_wp2_with fail
      refine (rightRQ A c n b true _ HA.out (yes_iff H1.out)).mono ?_
      rintro e w1 ⟨rfl, hx⟩
      replace hb := bthen hb hx
      clear hx
      go_wp2_with fail
      refine (rightRQ B d m s false _ (HB.out.below hb) (no_iff H2.out)).mono ?_
      rintro e w2 ⟨rfl, hx⟩
      replace hb := bthen hb hx
      clear hx
      go_wp2
      go_ret3
      exact ⟨none, 0, none, 0, rfl, Seen.nil, Nat.le_refl _, fun _ => rfl, fun hl => absurd hl (Nat.lt_irrefl 0), Nat.le_refl _, hb⟩
  · have H1 := Lib.hid h1
    clear h h1
    go_enter Try.func12, Try.ntmps12
    go_wp2_with fail
    refine (rightRQ A c n b false _ HA.out (no_iff H1.out)).mono ?_
    rintro e w1 ⟨rfl, hx⟩
    replace hb := bthen hb hx
    clear hx
    go_wp2
    go_ret3
    exact ⟨none, 0, none, 0, rfl, Seen.nil, Nat.le_refl _, fun _ => rfl, fun hl => absurd hl (Nat.lt_irrefl 0), Nat.le_refl _, hb⟩
set_option maxRecDepth 100000 in
set_option maxHeartbeats 8000000 in
theorem ofR_good (A B C : Option Addr) (c d f n m k : Nat) (b s t u : List T.Ln) (l : List T.Pth) (er : Int) (w : World) (hA : TArg w A c n b) (hB : TArg w B d m s) (hC : TArg w C f k t) (h1 : T.RightT b) (h2 : T.RightT s) (h3 : T.RightT t)
    (h : (T.confL b s t ≠ [] ∧ u = [] ∧ l = T.confL b s t ∧ er = 8) ∨ (T.confL b s t = [] ∧ 200 < (T.decE b s t).length ∧ u = [] ∧ l = [] ∧ er = 5) ∨ (T.confL b s t = [] ∧ (T.decE b s t).length ≤ 200 ∧ u = T.ofP (T.decE b s t) ∧ l = [] ∧ er = 0)) :
    Calls Try.prog 12 #[.slice A n c, .slice B m d, .slice C k f] w (MergeS w u l er) := by
  have hn200 : n ≤ 200 := by rw [← hA.hn]; exact h1.len
  have hm200 : m ≤ 200 := by rw [← hB.hn]; exact h2.len
  have hk200 : k ≤ 200 := by rw [← hC.hn]; exact h3.len
  obtain ⟨L, hL⟩ : ∃ L, T.allP b s t = L := ⟨_, rfl⟩
  have HEACH := Lib.hid (show ∀ x ∈ L, 1 ≤ x.length ∧ x.length ≤ 16 from fun x hx => by
    rw [← hL] at hx
    rcases T.mem_all.1 hx with ⟨i, hi, e⟩ | ⟨i, hi, e⟩ | ⟨i, hi, e⟩
    · rw [← e]; exact S.RightN.path_deep h1 hi
    · rw [← e]; exact S.RightN.path_deep h2 hi
    · rw [← e]; exact S.RightN.path_deep h3 hi)
  obtain ⟨np, hnp⟩ : ∃ np, L.length = np := ⟨_, rfl⟩
  have hnp600 : np ≤ 600 := by
    have h4 := T.all_len b s t
    rw [hL, hnp, hA.hn, hB.hn, hC.hn] at h4
    omega
  have HA := Lib.hid hA
  have HB := Lib.hid hB
  have HC := Lib.hid hC
  have H1 := Lib.hid h1
  have H2 := Lib.hid h2
  have H3 := Lib.hid h3
  have HL := Lib.hid hL
  have HNP := Lib.hid hnp
  have HH := Lib.hid h
  have hpaths := pathsR A B C c d f n m k b s t
  rw [hL] at hpaths
  have HPA := Lib.hid (fun (W : World) (hx : Below w.heap.size w W) => hpaths W (HA.out.below hx) (HB.out.below hx) (HC.out.below hx) h1 h2 h3)
  have hb : Below w.heap.size w w := Below.refl _ _
  clear hA hB hC h1 h2 h3 hL hnp h hpaths
  go_enter Try.func12, Try.ntmps12
  go_wp2_with fail
  refine (rightRQ A c n b true _ HA.out (yes_iff H1.out)).mono ?_
  rintro e w1 ⟨rfl, hx⟩
  replace hb := bthen hb hx
  clear hx
  go_wp2_with fail
  refine (rightRQ B d m s true _ (HB.out.below hb) (yes_iff H2.out)).mono ?_
  rintro e w2 ⟨rfl, hx⟩
  replace hb := bthen hb hx
  clear hx
  go_wp2_with fail
  refine (rightRQ C f k t true _ (HC.out.below hb) (yes_iff H3.out)).mono ?_
  rintro e w3 ⟨rfl, hx⟩
  replace hb := bthen hb hx
  clear hx
  go_wp2_with fail
  refine (HPA.out w3 hb).mono ?_
  rintro e w4 ⟨Ap, cp, rfl, hsq, hx⟩
  rw [HNP.out]
  replace hb := bthen hb hx
  have HSQ := Lib.hid hsq
  have HB4 := Lib.hid hb
  clear hx hsq hb
  go_wp2
  go_loopg [9, 11, 13] np (fun gk v9 v11 vi wr => ∃ i mc : Nat, Hid (i + gk = np) ∧ i ≤ np ∧ vi = .int .i64 (i : Int) ∧ v11 = .int .i64 (mc : Int) ∧ Hid (T.cntM b s t (L.take i) = mc) ∧ Hid (OwnQ eQ wr w4.heap.size v9 ((L.take i).filter (T.badB b s t))) ∧ Below w4.heap.size w4 wr)
  case atStart => exact ⟨0, 0, Nat.zero_add _, Nat.zero_le _, rfl, rfl, rfl, OwnQ.nil _ _ _, Below.refl _ _⟩
  case round =>
    obtain ⟨i, mc, HG, hi, rfl, rfl, HMC, HO, hbr⟩ := hrel
    obtain ⟨wo, hwo⟩ : ∃ wo, wo = wr := ⟨_, rfl⟩
    subst hwo
    by_cases hlt : i < np
    · have blt : decide ((i : Int) < (np : Int)) = true := decide_eq_true (by omega)
      have blt2 : decide (i < np) = true := decide_eq_true hlt
      have hiL : i < L.length := by have := HNP.out; omega
      have hpl := HEACH.out L[i] (List.getElem_mem hiL)
      have hnx := List.take_succ_eq_append_getElem hiL
      obtain ⟨bp, op, Bp, nn, cc, rfl, hpn, hnc, hps4, hat⟩ := HSQ.out.atQ hiL
      obtain ⟨P, hP⟩ : ∃ P, L[i] = P := ⟨_, rfl⟩
      rw [hP] at hpl hpn hps4 hat hnx
      obtain ⟨q, rfl⟩ : ∃ q, nn = q + 1 := ⟨nn - 1, by omega⟩
      have hq15 : q ≤ 15 := by omega
      obtain ⟨x0, hPs⟩ := hat _ hbr
      have HAT := Lib.hid hat
      have HPN := Lib.hid hpn
      have HPS4 := Lib.hid hps4
      have HNX := Lib.hid hnx
      have HBW := Lib.hid (bthen HB4.out hbr)
      obtain ⟨r, hr⟩ : ∃ r, T.decO b s t P = r := ⟨_, rfl⟩
      have hrc := T.dec_cases (b := b) H2.out H3.out P
      rw [hr] at hrc
      have HR := Lib.hid hr
      have hlen : ((L.take i).filter (T.badB b s t)).length + 1 ≤ 1099511627776 := by
        have h4 := List.length_filter_le (T.badB b s t) (L.take i)
        rw [List.length_take] at h4
        omega
      have HLEN := Lib.hid hlen
      have hmc : mc ≤ 600 := by
        have h4 := T.cntM_le b s t (L.take i)
        rw [HMC.out, List.length_take] at h4
        omega
      have hii : (i : Int) < (np : Int) := by omega
      have hgk := HG.out
      have HPSO := Lib.hid hPs
      clear hP hpl hpn hps4 hat hnx hr hlen hPs
      go_wp2_with fail
      refine (decidedR A B C Bp c d f cc n m k (q + 1) b s t P r _ (HA.out.below HBW.out) (HB.out.below HBW.out) (HC.out.below HBW.out) HPN.out (by omega) HPSO.out H1.out H2.out H3.out HR.out).mono ?_
      rintro e w5 ⟨rfl, hx⟩
      have HB5 := Lib.hid (hbr.trans (hx.mono hbr.size))
      have HBW5 := Lib.hid (bthen HBW.out hx)
      have HO5 := Lib.hid (HO.out.keep hx)
      have HPS5 := Lib.hid (HPSO.out.below hx)
      clear hx x0
      rcases hrc with rfl | rfl | ⟨hr0, hr3⟩
      · have HBAD := Lib.hid (show (L.take (i + 1)).filter (T.badB b s t) = (L.take i).filter (T.badB b s t) ++ [P] by rw [HNX.out, T.bad_next, if_pos (T.bad_torn HR.out)])
        have HMC2 := Lib.hid (show T.cntM b s t (L.take (i + 1)) = mc by rw [HNX.out, T.cntM_next, if_neg (by rw [T.bad_torn HR.out]; simp), HMC.out]; rfl)
        have HY := Lib.hid (show PtS w5 ⟨Bp, q + 1, cc⟩ P from ⟨HPN.out, hnc, HPS5.out⟩)
        have HFR := Lib.hid (show FreeQ u9 ⟨Bp, q + 1, cc⟩ P from FreeQ.elder HO.out (m := ⟨Bp, q + 1, cc⟩) HPS4.out (Nat.le_refl _))
        have hsz := HB5.out.size
        go_wp2_with (at_builtin; refine wpList_appQ eQ w5 rfl (.tmp 74) (.tmp 76) rfl w4.heap.size u9 ((L.take i).filter (T.badB b s t)) rfl HO5.out P ⟨Bp, q + 1, cc⟩ HY.out HFR.out 1 _ rfl w5.heap.size rfl rfl HLEN.out hsz ?_; intro v3 w6 hown3 hb3)
        go_roundg (np - (i + 1))
        case rel => exact ⟨i + 1, mc, (by show _ = _; omega), by omega, by go_num, rfl, HMC2, Lib.hid (by rw [HBAD.out]; exact hown3), HB5.out.trans hb3⟩
        case measure => omega
      · have HBAD := Lib.hid (show (L.take (i + 1)).filter (T.badB b s t) = (L.take i).filter (T.badB b s t) by rw [HNX.out, T.bad_next, if_neg (by rw [T.bad_absent HR.out]; simp), List.append_nil])
        have HMC2 := Lib.hid (show T.cntM b s t (L.take (i + 1)) = mc by rw [HNX.out, T.cntM_next, if_neg (by rw [T.there_no HR.out (by omega)]; simp), HMC.out]; rfl)
        go_wp2
        go_roundg (np - (i + 1))
        case rel => exact ⟨i + 1, mc, (by show _ = _; omega), by omega, by go_num, rfl, HMC2, Lib.hid (by rw [HBAD.out]; exact HO5.out), HB5.out⟩
        case measure => omega
      · have br1 : (r == -2) = false := beq_eq_false_iff_ne.2 (by omega)
        have br2 : decide (0 ≤ r) = true := decide_eq_true hr0
        have hbt := T.bad_there HR.out hr0
        rw [HPN.out] at hbt
        by_cases h0 : q = 0
        · subst h0
          have HBN := Lib.hid (show T.badB b s t P = false by rw [hbt]; rfl)
          have HBAD := Lib.hid (show (L.take (i + 1)).filter (T.badB b s t) = (L.take i).filter (T.badB b s t) by rw [HNX.out, T.bad_next, if_neg (by rw [HBN.out]; simp), List.append_nil])
          have HMC2 := Lib.hid (show T.cntM b s t (L.take (i + 1)) = mc + 1 by rw [HNX.out, T.cntM_next, if_pos (by rw [T.there_yes HR.out hr0, HBN.out]; rfl), HMC.out])
          clear hbt
          go_wp2
          go_roundg (np - (i + 1))
          case rel => exact ⟨i + 1, mc + 1, (by show _ = _; omega), by omega, by go_num, by go_num, HMC2, Lib.hid (by rw [HBAD.out]; exact HO5.out), HB5.out⟩
          case measure => omega
        · have bq1 : decide ((1 : Int) < (q : Int) + 1) = true := decide_eq_true (by omega)
          have bq2 : decide (1 < q + 1) = true := decide_eq_true (by omega)
          have bq3 : decide (0 < q) = true := decide_eq_true (by omega)
          have bq4 : decide ((0 : Int) < (q : Int)) = true := decide_eq_true (by omega)
          have hqc : q ≤ cc := by omega
          obtain ⟨r2, hr2⟩ : ∃ r2, T.decO b s t P.dropLast = r2 := ⟨_, rfl⟩
          rw [hr2, decide_eq_true (show 1 < q + 1 by omega), Bool.true_and] at hbt
          have HBT := Lib.hid hbt
          have htk : P.take q = P.dropLast := by rw [List.dropLast_eq_take, HPN.out]; rfl
          have HR2 := Lib.hid (show T.decO b s t (P.take q) = r2 by rw [htk]; exact hr2)
          have HTL := Lib.hid (show (P.take q).length = q by rw [List.length_take, HPN.out]; omega)
          obtain ⟨pb, po, rfl, hpb, hPH⟩ := HPS5.out (by rw [HPN.out]; omega)
          have HPT := Lib.hid (show Seen eS w5 (some ⟨pb, po, none⟩) (P.take q) from (hPH.take q).seen hpb)
          clear hbt hr2 htk hPH
          go_wp2_with fail
          refine (decidedR A B C (some ⟨pb, po, none⟩) c d f cc n m k q b s t (P.take q) r2 _ (HA.out.below HBW5.out) (HB.out.below HBW5.out) (HC.out.below HBW5.out) HTL.out (by omega) HPT.out H1.out H2.out H3.out HR2.out).mono ?_
          rintro e w6 ⟨rfl, hx⟩
          have HB6 := Lib.hid (HB5.out.trans (hx.mono HB5.out.size))
          have HO6 := Lib.hid (HO5.out.keep hx)
          have HPS6 := Lib.hid (HPS5.out.below hx)
          clear hx
          by_cases h2 : r2 = -1
          · subst h2
            have HBN := Lib.hid (show T.badB b s t P = true by rw [HBT.out]; rfl)
            have HBAD := Lib.hid (show (L.take (i + 1)).filter (T.badB b s t) = (L.take i).filter (T.badB b s t) ++ [P] by rw [HNX.out, T.bad_next, if_pos HBN.out])
            have HMC2 := Lib.hid (show T.cntM b s t (L.take (i + 1)) = mc by rw [HNX.out, T.cntM_next, if_neg (by rw [HBN.out]; simp), HMC.out]; rfl)
            have HY := Lib.hid (show PtS w6 ⟨some ⟨pb, po, none⟩, q + 1, cc⟩ P from ⟨HPN.out, hnc, HPS6.out⟩)
            have HFR := Lib.hid (show FreeQ u9 ⟨some ⟨pb, po, none⟩, q + 1, cc⟩ P from FreeQ.elder HO.out (m := ⟨some ⟨pb, po, none⟩, q + 1, cc⟩) HPS4.out (Nat.le_refl _))
            have hsz := HB6.out.size
            go_wp2_with (at_builtin; refine wpList_appQ eQ w6 rfl (.tmp 74) (.tmp 76) rfl w4.heap.size u9 ((L.take i).filter (T.badB b s t)) rfl HO6.out P ⟨some ⟨pb, po, none⟩, q + 1, cc⟩ HY.out HFR.out 1 _ rfl w6.heap.size rfl rfl HLEN.out hsz ?_; intro v3 w7 hown3 hb3)
            go_roundg (np - (i + 1))
            case rel => exact ⟨i + 1, mc, (by show _ = _; omega), by omega, by go_num, rfl, HMC2, Lib.hid (by rw [HBAD.out]; exact hown3), HB6.out.trans hb3⟩
            case measure => omega
          · have br3 : (r2 == -1) = false := beq_eq_false_iff_ne.2 h2
            have HBN := Lib.hid (show T.badB b s t P = false by rw [HBT.out]; exact decide_eq_false h2)
            have HBAD := Lib.hid (show (L.take (i + 1)).filter (T.badB b s t) = (L.take i).filter (T.badB b s t) by rw [HNX.out, T.bad_next, if_neg (by rw [HBN.out]; simp), List.append_nil])
            have HMC2 := Lib.hid (show T.cntM b s t (L.take (i + 1)) = mc + 1 by rw [HNX.out, T.cntM_next, if_pos (by rw [T.there_yes HR.out hr0, HBN.out]; rfl), HMC.out])
            clear h2
            go_wp2
            go_roundg (np - (i + 1))
            case rel => exact ⟨i + 1, mc + 1, (by show _ = _; omega), by omega, by go_num, by go_num, HMC2, Lib.hid (by rw [HBAD.out]; exact HO6.out), HB6.out⟩
            case measure => omega
    · have blt : decide ((i : Int) < (np : Int)) = false := decide_eq_false (by omega)
      have blt2 : decide (i < np) = false := decide_eq_false hlt
      obtain rfl : np = i := by omega
      have htk : L.take np = T.allP b s t := by rw [HL.out]; exact List.take_of_length_le (by rw [HNP.out]; exact Nat.le_refl _)
      have hO := HO.out
      have hMC := HMC.out
      rw [htk] at hO hMC
      obtain ⟨K, hK⟩ : ∃ K, T.confL b s t = K := ⟨_, rfl⟩
      have hO2 : OwnQ eQ wo w4.heap.size u9 K := by rw [← hK]; exact hO
      obtain ⟨A9, c9, hv9, hc9, hs9⟩ := hO2.seen
      obtain ⟨n9, hn9⟩ : ∃ n9, K.length = n9 := ⟨_, rfl⟩
      rw [hn9] at hv9 hc9
      subst hv9
      have HS9 := Lib.hid hs9
      have HN9 := Lib.hid hn9
      have HBW := Lib.hid (bthen HB4.out hbr)
      have HBR := Lib.hid hbr
      have hh := HH.out
      rw [hK] at hh
      rcases hh with ⟨e1, e2, e3, e4⟩ | ⟨e1, e2, e3, e4, e5⟩ | ⟨e1, e2, e3, e4, e5⟩
      · have hpos : 0 < n9 := by rw [← hn9]; exact List.length_pos_iff.2 e1
        have bp1 : decide ((0 : Int) < (n9 : Int)) = true := decide_eq_true (by omega)
        have bp2 : decide (0 < n9) = true := decide_eq_true hpos
        subst e2; subst e3; subst e4
        clear htk hO hMC hK hO2 hs9 hn9 hbr e1 HO HMC
        go_wp2
        go_ret3
        exact ⟨none, 0, A9, c9, by rw [HN9.out]; rfl, Seen.nil, Nat.le_refl _, fun _ => rfl, HS9.out.seenP, by rw [HN9.out]; exact hc9, HBW.out⟩
      · have h09 : n9 = 0 := by rw [← hn9, e1]; rfl
        subst h09
        have hmc : (T.decE b s t).length = mc := by rw [← T.cntM_all (by rw [hK]; exact e1)]; exact hMC
        rw [hmc] at e2
        have bm1 : decide ((200 : Int) < (mc : Int)) = true := decide_eq_true (by omega)
        have bm2 : decide (200 < mc) = true := decide_eq_true e2
        subst e3; subst e4; subst e5
        clear htk hO hMC hK hO2 hs9 hn9 hbr e1 HO HMC hmc e2
        go_wp2
        go_ret3
        exact ⟨none, 0, none, 0, rfl, Seen.nil, Nat.le_refl _, fun _ => rfl, fun hl => absurd hl (Nat.lt_irrefl 0), Nat.le_refl _, HBW.out⟩
      · have h09 : n9 = 0 := by rw [← hn9, e1]; rfl
        subst h09
        have hcf : T.confL b s t = [] := by rw [hK]; exact e1
        have hmc : (T.decE b s t).length = mc := by rw [← T.cntM_all hcf]; exact hMC
        have HGP := Lib.hid (T.merge_good H1.out H2.out H3.out hcf e2)
        rw [hmc] at e2
        have bm1 : decide ((200 : Int) < (mc : Int)) = false := decide_eq_false (by omega)
        have bm2 : decide (200 < mc) = false := decide_eq_false (by omega)
        subst e4; subst e5
        have HU := Lib.hid e3
        clear htk hO hMC hK hO2 hs9 hn9 hbr e1 HO HMC hmc e2 e3 hcf
        go_wp2
        go_loopg [10, 16] np (fun gk v10 vi wr => ∃ (i : Nat) (z : List T.Ln), Hid (i + gk = np) ∧ i ≤ np ∧ vi = .int .i64 (i : Int) ∧ Hid (VecAt eL wr v10 z) ∧ Hid (T.ofP (T.decTo b s t (L.take i)) = z) ∧ Below w4.heap.size w4 wr)
        case atStart => exact ⟨0, [], Nat.zero_add _, Nat.zero_le _, rfl, VecAt.nil _ _, rfl, HBR.out⟩
        case round =>
          obtain ⟨i, z, HG, hi, rfl, HV, HZ, hbr⟩ := hrel
          by_cases hlt : i < np
          · have blt : decide ((i : Int) < (np : Int)) = true := decide_eq_true (by omega)
            have blt2 : decide (i < np) = true := decide_eq_true hlt
            have hiL : i < L.length := by have := HNP.out; omega
            have hpl := HEACH.out L[i] (List.getElem_mem hiL)
            obtain ⟨bp, op, Bp, nn, cc, rfl, hpn, hnc, hps4, hat⟩ := HSQ.out.atQ hiL
            obtain ⟨P, hP⟩ : ∃ P, L[i] = P := ⟨_, rfl⟩
            have HP := Lib.hid hP
            rw [hP] at hpl hpn hps4 hat
            obtain ⟨q, rfl⟩ : ∃ q, nn = q + 1 := ⟨nn - 1, by omega⟩
            have hq15 : q ≤ 15 := by omega
            obtain ⟨x0, hPs⟩ := hat _ hbr
            have HPN := Lib.hid hpn
            have HBW2 := Lib.hid (bthen HB4.out hbr)
            obtain ⟨r, hr⟩ : ∃ r, T.decO b s t P = r := ⟨_, rfl⟩
            have HR := Lib.hid hr
            have hii : (i : Int) < (np : Int) := by omega
            have hgk := HG.out
            have HPSO := Lib.hid hPs
            clear hP hpl hpn hps4 hat hr hPs
            go_wp2_with fail
            refine (decidedR A B C Bp c d f cc n m k (q + 1) b s t P r _ (HA.out.below HBW2.out) (HB.out.below HBW2.out) (HC.out.below HBW2.out) HPN.out (by omega) HPSO.out H1.out H2.out H3.out HR.out).mono ?_
            rintro e w5 ⟨rfl, hx⟩
            have HB5 := Lib.hid (hbr.trans (hx.mono hbr.size))
            have HPS5 := Lib.hid (HPSO.out.below hx)
            have HV5 := Lib.hid (HV.out.below hx)
            clear hx x0
            by_cases hr0 : 0 ≤ r
            · have br2 : decide (0 ≤ r) = true := decide_eq_true hr0
              obtain ⟨pb, po, rfl, hpb, hPH⟩ := HPS5.out (by rw [HPN.out]; omega)
              have hqP : q < P.length := by rw [HPN.out]; omega
              have z1 := hPH.str hqP
              obtain ⟨x, hx⟩ : ∃ x, P[q] = x := ⟨_, rfl⟩
              rw [hx] at z1
              have hup : P = P.take q ++ [x] := by rw [← hx, ← List.take_succ_eq_append_getElem hqP, List.take_of_length_le (by rw [HPN.out]; exact Nat.le_refl _)]
              obtain ⟨g1, g2⟩ := T.decTo_put HGP.out HL.out.symm hiL HP.out hup HR.out hr0
              have g3 := T.decTo_right HGP.out HL.out.symm i
              rw [HZ.out] at g1 g2 g3
              have HOP := Lib.hid g1
              have HNZ := Lib.hid g2.symm
              have HRZ := Lib.hid g3
              have HTL := Lib.hid (show (P.take q).length = q by rw [List.length_take, HPN.out]; omega)
              have HVP := Lib.hid (show VecAt eS w5 (.slice (some ⟨pb, po, none⟩) q cc) (P.take q) from .inr ⟨pb, po, cc, by rw [HTL.out], by rw [HTL.out]; omega, hpb, hPH.take q⟩)
              have hqc : q ≤ cc := by omega
              have hw1 : IntKind.i64.wrap ((q : Int) + 1 - 1) = (q : Int) := by rw [wrapQ _ (by omega)]; omega
              have hw2 : IntKind.i64.wrap (q : Int) = (q : Int) := wrapQ _ (by omega)
              have hqi : (q : Int) < (q : Int) + 1 := by omega
              clear hx hup g1 g2 g3 hPH
              go_wp2
              go_still_tail 13, (by kernel_rfl)
              change wpList _ _ _ _ _ w5.drew
              go_wp2_with fail
              refine (put_any (N := 200) (by decide) _ _ z (P.take q) x r _ (HV5.out.below ((Below.refl _ _).drew)) (HVP.out.below ((Below.refl _ _).drew)) HRZ.out HOP.out (by rw [HTL.out]; omega)).mono ?_
              rintro e w6 ⟨v6, rfl, hv6, hx6⟩
              have HV6 := Lib.hid hv6
              have HB6 := Lib.hid (HB5.out.trans (((Below.refl _ _).drew.trans hx6).mono HB5.out.size))
              clear hv6 hx6 z1
              go_wp2
              go_roundg (np - (i + 1))
              case rel => exact ⟨i + 1, T.putL z (P.take q) x r, (by show _ = _; omega), by omega, by go_num, HV6, HNZ, HB6.out⟩
              case measure => omega
            · have br2 : decide (0 ≤ r) = false := decide_eq_false hr0
              have HNZ := Lib.hid (show T.ofP (T.decTo b s t (L.take (i + 1))) = z by rw [T.decTo_skip hiL HP.out HR.out (by omega)]; exact HZ.out)
              clear hr0
              go_wp2
              go_roundg (np - (i + 1))
              case rel => exact ⟨i + 1, z, (by show _ = _; omega), by omega, by go_num, HV5, HNZ, HB5.out⟩
              case measure => omega
          · have blt : decide ((i : Int) < (np : Int)) = false := decide_eq_false (by omega)
            have blt2 : decide (i < np) = false := decide_eq_false hlt
            obtain rfl : np = i := by omega
            have hz : u = z := by
              rw [HU.out, ← HZ.out, List.take_of_length_le (by rw [HNP.out]; exact Nat.le_refl _), ← HL.out]; rfl
            subst hz
            have hv := HV.out
            obtain ⟨A7, c7, e7, hc7, hs7⟩ := hv.seen
            have hN7 : NilOk A7 c7 := by
              intro hA7
              subst hA7
              rcases hv with ⟨h, _⟩ | ⟨b2, o2, c2, h, _⟩
              · rw [h] at e7; injection e7 with _ _ e; exact e.symm
              · rw [h] at e7; injection e7 with e; cases e
            obtain ⟨n7, hn7⟩ : ∃ n7, u.length = n7 := ⟨_, rfl⟩
            rw [hn7] at e7 hc7
            subst e7
            have HN7 := Lib.hid hn7
            have HS7 := Lib.hid hs7
            have HNO := Lib.hid hN7
            clear hv hs7 hN7 hn7 HV
            go_wp2
            go_ret3
            exact ⟨A7, c7, none, 0, by rw [HN7.out]; rfl, HS7.out, by rw [HN7.out]; exact hc7, HNO.out, fun hl => absurd hl (Nat.lt_irrefl 0), Nat.le_refl _, bthen HB4.out hbr⟩
theorem ofR (A B C : Option Addr) (c d f n m k : Nat) (b s t u : List T.Ln) (l : List T.Pth) (er : Int) (w : World) (hA : TArg w A c n b) (hB : TArg w B d m s) (hC : TArg w C f k t) (h : T.MergeIs b s t u l er) :
    Calls Try.prog 12 #[.slice A n c, .slice B m d, .slice C k f] w (MergeS w u l er) := by
  rcases h with ⟨h1, rfl, rfl, rfl⟩ | ⟨⟨h1, h2, h3⟩, h4⟩
  · exact ofR_bad A B C c d f n m k b s t w hA hB hC h1
  · exact ofR_good A B C c d f n m k b s t u l er w hA hB hC h1 h2 h3 h4
/-- The same, its answer as variables. -/
theorem ofRq (A B C : Option Addr) (c d f n m k nu nl : Nat) (b s t u : List T.Ln) (l : List T.Pth) (er : Int) (w : World) (hA : TArg w A c n b) (hB : TArg w B d m s) (hC : TArg w C f k t) (h : T.MergeIs b s t u l er) (hu : u.length = nu) (hl : l.length = nl) :
    Calls Try.prog 12 #[.slice A n c, .slice B m d, .slice C k f] w (fun e w' => ∃ A1 c1 B1 d1, e = .returned (.tuple #[.slice A1 nu c1, .slice B1 nl d1, .int .i64 er]) ∧ TArg w' A1 c1 nu u ∧ SeenP w' B1 l ∧ Below w.heap.size w w') := by
  refine (ofR A B C c d f n m k b s t u l er w hA hB hC h).mono ?_
  rintro e w' ⟨A1, c1, B1, d1, rfl, hs, hc, hN, hp, hd, hx⟩
  have := merge_len h
  rw [hu] at hc this ⊢
  rw [hl]
  exact ⟨A1, c1, B1, d1, rfl, ⟨hu, by omega, hc, hs, hN⟩, hp, hx⟩
end Go.Proofs.Ytfajfjocpgbmeaa
