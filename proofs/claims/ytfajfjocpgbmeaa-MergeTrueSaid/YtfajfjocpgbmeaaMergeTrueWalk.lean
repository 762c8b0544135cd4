/-
  The walk of layer 9's statement MergeTrue, from what merge.Of does: it returns true whatever the lines are. No conditions.
-/
import Derived.Test.YtfajfjocpgbmeaaMergeA
import Derived.Test.YtfajfjocpgbmeaaLineO
import Derived.Deep.QuietTactic
import Derived.BigQuiet
namespace Go.Proofs.Ytfajfjocpgbmeaa
open Go.RowKit
set_option linter.unusedVariables false

theorem pathQ (A : Option Addr) (c n i q : Nat) (t : List T.Ln) (p : T.Pth) (w : World) (hA : TArg w A c n t) (hi : i < n) (hR : T.RightT t) (hp : T.pathL t i = p) (hq : p.length = q + 1) :
    Calls Try.prog 17 #[.slice A n c, .int .i64 i] w (fun e w' => ∃ b o cap, e = .returned (.tuple #[.slice (some ⟨b, o, none⟩) (q + 1) cap, .int .i64 0]) ∧ q + 1 ≤ cap ∧ b < w'.heap.size ∧ Holds eS w' b o p ∧ Below w.heap.size w w') := by
  obtain ⟨rfl, hl, hc, hs, hN⟩ := hA
  refine (Path_new A c t i w hs hl hi hR).mono ?_
  rintro e w1 ⟨B, cap, rfl, h2, h3, h4, h5⟩
  rw [hp] at h2 h3
  rw [hp]
  obtain ⟨b, o, rfl, hb, hH⟩ := h3 (by omega)
  exact ⟨b, o, cap, by rw [hq], by omega, hb, hH, h5⟩
/-- Find, whatever it answers. -/
theorem findAny (A B : Option Addr) (c d n m : Nat) (t : List T.Ln) (p : T.Pth) (w : World) (hA : TArg w A c n t) (hm : p.length = m) (hB : Seen eS w B p) (hp : m ≤ 1073741824) (hR : T.RightT t) :
    Calls Try.prog 18 #[.slice A n c, .slice B m d] w (fun e w' => ∃ (x : Int) (r : Bool), e = .returned (.tuple #[.int .i64 x, .bool r]) ∧ Below w.heap.size w w') := by
  obtain ⟨rfl, hl, hc, hs, hN⟩ := hA
  subst hm
  refine (find_any A B c d t p w hs hB hl hp hR).mono ?_
  rintro e w1 ⟨⟨i, _, _, rfl⟩ | ⟨_, rfl⟩, hx⟩
  · exact ⟨_, _, rfl, hx⟩
  · exact ⟨_, _, rfl, hx⟩
theorem findYes (A B : Option Addr) (c d n m i : Nat) (t : List T.Ln) (p : T.Pth) (w : World) (hA : TArg w A c n t) (hm : p.length = m) (hB : Seen eS w B p) (hp : m ≤ 1073741824) (hR : T.RightT t) (hi : i < t.length) (h : T.pathL t i = p) :
    Calls Try.prog 18 #[.slice A n c, .slice B m d] w (fun e w' => e = .returned (.tuple #[.int .i64 (i : Int), .bool true]) ∧ Below w.heap.size w w') := by
  obtain ⟨rfl, hl, hc, hs, hN⟩ := hA
  subst hm
  exact find_some A B c d t i p w hs hB hl hp hR hi h
theorem findNo (A B : Option Addr) (c d n m : Nat) (t : List T.Ln) (p : T.Pth) (w : World) (hA : TArg w A c n t) (hm : p.length = m) (hB : Seen eS w B p) (hp : m ≤ 1073741824) (hR : T.RightT t) (h : ∀ i, i < t.length → T.pathL t i ≠ p) :
    Calls Try.prog 18 #[.slice A n c, .slice B m d] w (fun e w' => e = .returned (.tuple #[.int .i64 0, .bool false]) ∧ Below w.heap.size w w') := by
  obtain ⟨rfl, hl, hc, hs, hN⟩ := hA
  subst hm
  exact find_not A B c d t p w hs hB hl hp hR h
theorem found_path {t : List T.Ln} {p : T.Pth} {j : Nat} (h : T.findI t p = j) : T.pathL t j = p := by
  rcases T.findI_cases t p with ⟨e, _⟩ | ⟨x, _, e, hx⟩
  · rw [e] at h; omega
  · have : x = j := by rw [e] at h; omega
    rw [← this]; exact hx
theorem ln_apart {t : List T.Ln} {j : Nat} {X : T.Ln} (h : T.at_ t j ≠ X) : T.dp t j ≠ X.depth ∨ (T.dp t j = X.depth ∧ T.wd t j ≠ X.word) ∨ (T.dp t j = X.depth ∧ T.wd t j = X.word ∧ (T.at_ t j).mark ≠ X.mark) := by
  by_cases h0 : T.dp t j = X.depth
  · by_cases h1 : T.wd t j = X.word
    · refine .inr (.inr ⟨h0, h1, fun h2 => h ?_⟩)
      cases X
      unfold T.dp at h0
      unfold T.wd at h1
      cases hh : T.at_ t j
      rw [hh] at h0 h1 h2
      simp only at h0 h1 h2
      rw [h0, h1, h2]
    · exact .inr (.inl ⟨h0, h1⟩)
  · exact .inl h0
/-- The cells of a line that is that one. -/
theorem ln_cells {w w1 : World} {b o j : Nat} {t : List T.Ln} {X : T.Ln} (h : Holds eL w b o t) (hj : j < t.length) (e : T.at_ t j = X) (hx : Below w.heap.size w w1) (hb : b < w.heap.size) : w1.cell? ⟨b, o + j * 3, none⟩ = some (.int .i64 X.depth) ∧ w1.cell? ⟨b, o + j * 3 + 1, none⟩ = some (.string (sB X.word)) ∧ w1.cell? ⟨b, o + j * 3 + 2, none⟩ = some (.int .i64 X.mark) := by
  subst e; exact (h.below hx hb).line hj
theorem ln_cellsA {w w1 : World} {A : Option Addr} {c n j : Nat} {t : List T.Ln} (h : TArg w A c n t) (hj : j < t.length) (hx : Below w.heap.size w w1) : ∃ b o, A = some ⟨b, o, none⟩ ∧ w1.cell? ⟨b, o + j * 3, none⟩ = some (.int .i64 (T.dp t j)) ∧ w1.cell? ⟨b, o + j * 3 + 1, none⟩ = some (.string (sB (T.wd t j))) ∧ w1.cell? ⟨b, o + j * 3 + 2, none⟩ = some (.int .i64 (T.at_ t j).mark) := by
  obtain ⟨b, o, rfl, hb, hH⟩ := h.hA.lines (by omega)
  exact ⟨b, o, rfl, (hH.below hx hb).line hj⟩
set_option maxRecDepth 100000 in
set_option maxHeartbeats 4000000 in
theorem mergeTrue_walk (E : MergeOk) (AW : ∀ w, Calls Try.prog 10 #[] w (TrueS w)) (w : World) (A : Option Addr) (c : Nat) (a : List T.Ln) (hc : a.length ≤ c) (hA : Seen eL w A a) (hlA : a.length ≤ maxLen) (hNA : NilOk A c) (B : Option Addr) (d : Nat) (b : List T.Ln) (hd : b.length ≤ d) (hB : Seen eL w B b) (hlB : b.length ≤ maxLen) (hNB : NilOk B d) (C : Option Addr) (f : Nat) (t : List T.Ln) (hf : t.length ≤ f) (hC : Seen eL w C t) (hlC : t.length ≤ maxLen) (hNC : NilOk C f) :
    Calls Try.prog 6 #[.slice A a.length c, .slice B b.length d, .slice C t.length f] w (TrueS w) := by
  unfold maxLen at hlA
  obtain ⟨n, hnA⟩ : ∃ n, a.length = n := ⟨_, rfl⟩
  rw [hnA] at hc hlA ⊢
  have HNA := Lib.hid hnA
  have HA := Lib.hid hA
  have HOA := Lib.hid hNA
  clear hA hnA hNA
  unfold maxLen at hlB
  obtain ⟨m, hnB⟩ : ∃ m, b.length = m := ⟨_, rfl⟩
  rw [hnB] at hd hlB ⊢
  have HNB := Lib.hid hnB
  have HB := Lib.hid hB
  have HOB := Lib.hid hNB
  clear hB hnB hNB
  unfold maxLen at hlC
  obtain ⟨k, hnC⟩ : ∃ k, t.length = k := ⟨_, rfl⟩
  rw [hnC] at hf hlC ⊢
  have HNC := Lib.hid hnC
  have HC := Lib.hid hC
  have HOC := Lib.hid hNC
  clear hC hnC hNC
  have hb : Below w.heap.size w w := Below.refl _ _
  go_enter Try.func6, Try.ntmps6
  go_wp2_with fail
  refine (few_any A B C c d f n m k a b t _ HNA.out HNB.out HNC.out HA.out HB.out HC.out).mono ?_
  rintro e wx1 ⟨bs, rfl, hsm, hx⟩
  replace HA := Lib.hid (HA.out.below hx)
  replace HB := Lib.hid (HB.out.below hx)
  replace HC := Lib.hid (HC.out.below hx)
  replace hb := bthen hb hx
  clear hx
  cases bs with
  | false =>
    clear hsm
    go_wp2_with fail
    refine (AW _).mono ?_
    rintro e wz ⟨rfl, hx⟩
    go_wp2
    go_ret
    exact ⟨rfl, bthen hb hx⟩
  | true =>
    have hsm2 := hsm rfl
    clear hsm
    have hn30 : n ≤ 30 := hsm2.1
    have hm30 : m ≤ 30 := hsm2.2.1
    have hk30 : k ≤ 30 := hsm2.2.2
    clear hsm2
    replace HA := Lib.hid (TArg.mk HNA.out (by omega) hc HA.out HOA.out)
    replace HB := Lib.hid (TArg.mk HNB.out (by omega) hd HB.out HOB.out)
    replace HC := Lib.hid (TArg.mk HNC.out (by omega) hf HC.out HOC.out)
    obtain ⟨u, l, er, hmi⟩ := T.merge_is a b t
    have HMI := Lib.hid hmi
    obtain ⟨nu, hnu⟩ : ∃ nu, u.length = nu := ⟨_, rfl⟩
    obtain ⟨nl, hnl⟩ : ∃ nl, l.length = nl := ⟨_, rfl⟩
    have HNU := Lib.hid hnu
    have HNL := Lib.hid hnl
    have hnu200 : nu ≤ 200 := by rw [← hnu]; exact merge_len hmi
    clear hmi hnu hnl
    go_wp2_with fail
    refine (merge_q E A B C c d f n m k nu nl a b t u l er _ HA.out HB.out HC.out (by omega) (by omega) (by omega) HMI.out HNU.out HNL.out).mono ?_
    rintro e wx2 ⟨A1, c1, B1, d1, rfl, hs2, hp2, hx⟩
    replace HA := Lib.hid (HA.out.below hx)
    replace HB := Lib.hid (HB.out.below hx)
    replace HC := Lib.hid (HC.out.below hx)
    have HU := Lib.hid hs2
    have HL := Lib.hid hp2
    clear hs2 hp2
    replace hb := bthen hb hx
    clear hx
    by_cases h0 : er = 0
    · subst h0
      have HZ := Lib.hid HMI.out.zero.1
      have H1 := Lib.hid HZ.out.1
      have H2 := Lib.hid HZ.out.2.1
      have H3 := Lib.hid HZ.out.2.2
      have HRU := Lib.hid HMI.out.right
      go_wp2_with fail
      refine (right_n A1 c1 u nu _ HU.out.hA HNU.out (by omega) HRU.out).mono ?_
      rintro e wy ⟨rfl, hx⟩
      replace HA := Lib.hid (HA.out.below hx)
      replace HB := Lib.hid (HB.out.below hx)
      replace HC := Lib.hid (HC.out.below hx)
      replace HU := Lib.hid (HU.out.below hx)
      replace hb := bthen hb hx
      have HBY := Lib.hid hb
      clear hx hb
      go_wp2
      go_loopg [55] nu (fun gk vi wr => ∃ i : Nat, Hid (i + gk = nu) ∧ i ≤ nu ∧ vi = .int .i64 (i : Int) ∧ Below wy.heap.size wy wr)
      case atStart => exact ⟨0, Nat.zero_add _, Nat.zero_le _, rfl, Below.refl _ _⟩
      case round =>
        obtain ⟨i, HG, hi, rfl, hbr⟩ := hrel
        obtain ⟨wo, hwo⟩ : ∃ wo, wo = wr := ⟨_, rfl⟩
        subst hwo
        by_cases hlt : i < nu
        · have blt : decide ((i : Int) < (nu : Int)) = true := decide_eq_true (by omega)
          have blt2 : decide (i < nu) = true := decide_eq_true hlt
          have hkb : i < u.length := by have := HU.out.hn; omega
          obtain ⟨X, hX⟩ : ∃ X, T.at_ u i = X := ⟨_, rfl⟩
          obtain ⟨P, hP⟩ : ∃ P, T.pathL u i = P := ⟨_, rfl⟩
          have hdeep := S.RightN.path_deep HRU.out hkb
          rw [hP] at hdeep
          obtain ⟨q, hq⟩ : ∃ q, P.length = q + 1 := ⟨P.length - 1, by omega⟩
          have hq15 : q ≤ 15 := by omega
          obtain ⟨lb, lo, eA, hlb, hlH⟩ := HU.out.hA.lines (by omega)
          obtain ⟨l0, l1, l2⟩ := ln_cells hlH hkb hX hbr hlb
          have HX := Lib.hid hX
          have HP := Lib.hid hP
          have HQ := Lib.hid hq
          have HLA := Lib.hid (LineAt.laid wo X)
          have HBR := Lib.hid (bthen hbr (up wo (lnO X)))
          have hki : (i : Int) < (nu : Int) := by omega
          have hgk := HG.out
          subst eA
          simp only [lnO] at HLA HBR
          clear hX hP hdeep hq hlH
          go_wp2_with fail
          refine (pathQ _ c1 nu i q u P _ (HU.out.below HBR.out) hlt HRU.out HP.out HQ.out).mono ?_
          rintro e w2 ⟨pb, po, pc, rfl, hqc, hpb, hPH, hx⟩
          have HPS := Lib.hid (hPH.seen hpb)
          have HLA2 := Lib.hid (LineAt.below HLA.out hx)
          have HBR2 := Lib.hid (bthen HBR.out hx)
          clear hx hPH hpb l0 l1 l2
          have HLINE := Lib.hid (HMI.out.line (show i < u.length from hkb))
          by_cases hm : ∃ j, j < b.length ∧ T.pathL b j = P ∧ T.at_ b j = X
          · obtain ⟨j, hlj, hpj, hej⟩ := hm
            have HPJ := Lib.hid hpj
            have HEJ := Lib.hid hej
            clear hpj hej
            go_wp2_with fail
            refine (findYes _ _ d pc m (q + 1) j b P _ (HB.out.below HBR2.out) HQ.out HPS.out (by omega) H2.out hlj HPJ.out).mono ?_
            rintro e w3 ⟨rfl, hx⟩
            replace HPS := Lib.hid (HPS.out.below hx)
            replace HLA2 := Lib.hid (LineAt.below HLA2.out hx)
            replace HBR2 := Lib.hid (bthen HBR2.out hx)
            clear hx
            go_wp2_with fail
            refine (findAny _ _ f pc k (q + 1) t P _ (HC.out.below HBR2.out) HQ.out HPS.out (by omega) H3.out).mono ?_
            rintro e w4 ⟨y2, s2, rfl, hx⟩
            replace HPS := Lib.hid (HPS.out.below hx)
            replace HLA2 := Lib.hid (LineAt.below HLA2.out hx)
            replace HBR2 := Lib.hid (bthen HBR2.out hx)
            clear hx
            obtain ⟨y0, y1, y2⟩ := LineAt.cells HLA2.out
            obtain ⟨eb, eo, ee, ew, eH⟩ := HB.out.hA.lines (by omega)
            obtain ⟨e0, e1, e2⟩ := ln_cells eH hlj HEJ.out HBR2.out ew
            have hji : (j : Int) < (m : Int) := by have := HB.out.hn; omega
            subst ee
            clear eH
            go_wp2
            go_quiet (fail)
            all_goals go_wp2
            all_goals
              go_roundg (nu - (i + 1))
              case rel => exact ⟨i + 1, (by show _ = _; omega), by omega, by go_num, below_draws HBR2.out _⟩
              case measure => omega
          · have HT := Lib.hid (show ∃ j, j < t.length ∧ T.pathL t j = P ∧ T.at_ t j = X from by
              rcases HLINE.out with ⟨j, hj, e1, e2⟩ | ⟨j, hj, e1, e2⟩
              · exact absurd ⟨j, hj, (found_path e1).trans HP.out, e2.trans HX.out⟩ hm
              · exact ⟨j, hj, (found_path e1).trans HP.out, e2.trans HX.out⟩)
            have HM := Lib.hid hm
            clear hm
            obtain ⟨j, hlj, hpj, hej⟩ := HT.out
            have HPJ := Lib.hid hpj
            have HEJ := Lib.hid hej
            clear hpj hej
            by_cases ha : ∃ a0, a0 < b.length ∧ T.pathL b a0 = P
            · obtain ⟨a0, hla0, hpa⟩ := ha
              have HPA := Lib.hid hpa
              have HNE := Lib.hid (show T.at_ b a0 ≠ X from fun e => HM.out ⟨a0, hla0, hpa, e⟩)
              clear hpa
              go_wp2_with fail
              refine (findYes _ _ d pc m (q + 1) a0 b P _ (HB.out.below HBR2.out) HQ.out HPS.out (by omega) H2.out hla0 HPA.out).mono ?_
              rintro e w3 ⟨rfl, hx⟩
              replace HPS := Lib.hid (HPS.out.below hx)
              replace HLA2 := Lib.hid (LineAt.below HLA2.out hx)
              replace HBR2 := Lib.hid (bthen HBR2.out hx)
              clear hx
              go_wp2_with fail
              refine (findYes _ _ f pc k (q + 1) j t P _ (HC.out.below HBR2.out) HQ.out HPS.out (by omega) H3.out hlj HPJ.out).mono ?_
              rintro e w4 ⟨rfl, hx⟩
              replace HPS := Lib.hid (HPS.out.below hx)
              replace HLA2 := Lib.hid (LineAt.below HLA2.out hx)
              replace HBR2 := Lib.hid (bthen HBR2.out hx)
              clear hx
              obtain ⟨y0, y1, y2⟩ := LineAt.cells HLA2.out
              obtain ⟨eb, eo, ee, ew, eH⟩ := HC.out.hA.lines (by omega)
              obtain ⟨e0, e1, e2⟩ := ln_cells eH hlj HEJ.out HBR2.out ew
              have hji : (j : Int) < (k : Int) := by have := HC.out.hn; omega
              subst ee
              clear eH
              have ha0i : (a0 : Int) < (m : Int) := by have := HB.out.hn; omega
              rcases ln_apart HNE.out with h0 | ⟨h0, h1⟩ | ⟨h0, h1, h2⟩
              · obtain ⟨vb, vo, ev, v0, v1, v2⟩ := ln_cellsA HB.out hla0 HBR2.out
                obtain ⟨d9, hd9⟩ : ∃ z, T.dp b a0 = z := ⟨_, rfl⟩
                obtain ⟨x9, hx9⟩ : ∃ z, T.wd b a0 = z := ⟨_, rfl⟩
                obtain ⟨m9, hm9⟩ : ∃ z, (T.at_ b a0).mark = z := ⟨_, rfl⟩
                rw [hd9] at h0 v0
                rw [hx9] at v1
                rw [hm9] at v2
                have b9 : (d9 == X.depth) = false := beq_eq_false_iff_ne.2 h0
                subst ev
                clear h0 hd9 hx9 hm9
                go_wp2
                go_quiet (fail)
                all_goals go_wp2
                all_goals
                  go_roundg (nu - (i + 1))
                  case rel => exact ⟨i + 1, (by show _ = _; omega), by omega, by go_num, below_draws HBR2.out _⟩
                  case measure => omega
              · obtain ⟨vb, vo, ev, v0, v1, v2⟩ := ln_cellsA HB.out hla0 HBR2.out
                obtain ⟨d9, hd9⟩ : ∃ z, T.dp b a0 = z := ⟨_, rfl⟩
                obtain ⟨x9, hx9⟩ : ∃ z, T.wd b a0 = z := ⟨_, rfl⟩
                obtain ⟨m9, hm9⟩ : ∃ z, (T.at_ b a0).mark = z := ⟨_, rfl⟩
                rw [hd9] at h0 v0
                rw [hx9] at h1 v1
                rw [hm9] at v2
                have b9 := sB_ne h1
                rw [h0] at v0
                subst ev
                clear h0 h1 hd9 hx9 hm9
                go_wp2
                go_quiet (fail)
                all_goals go_wp2
                all_goals
                  go_roundg (nu - (i + 1))
                  case rel => exact ⟨i + 1, (by show _ = _; omega), by omega, by go_num, below_draws HBR2.out _⟩
                  case measure => omega
              · obtain ⟨vb, vo, ev, v0, v1, v2⟩ := ln_cellsA HB.out hla0 HBR2.out
                obtain ⟨d9, hd9⟩ : ∃ z, T.dp b a0 = z := ⟨_, rfl⟩
                obtain ⟨x9, hx9⟩ : ∃ z, T.wd b a0 = z := ⟨_, rfl⟩
                obtain ⟨m9, hm9⟩ : ∃ z, (T.at_ b a0).mark = z := ⟨_, rfl⟩
                rw [hd9] at h0 v0
                rw [hx9] at h1 v1
                rw [hm9] at h2 v2
                have b9 : (m9 == X.mark) = false := beq_eq_false_iff_ne.2 h2
                rw [h0] at v0
                rw [h1] at v1
                subst ev
                clear h0 h1 h2 hd9 hx9 hm9
                go_wp2
                go_quiet (fail)
                all_goals go_wp2
                all_goals
                  go_roundg (nu - (i + 1))
                  case rel => exact ⟨i + 1, (by show _ = _; omega), by omega, by go_num, below_draws HBR2.out _⟩
                  case measure => omega
            · have HNO := Lib.hid (show ∀ i, i < b.length → T.pathL b i ≠ P from fun i hi e => ha ⟨i, hi, e⟩)
              clear ha
              go_wp2_with fail
              refine (findNo _ _ d pc m (q + 1) b P _ (HB.out.below HBR2.out) HQ.out HPS.out (by omega) H2.out HNO.out).mono ?_
              rintro e w3 ⟨rfl, hx⟩
              replace HPS := Lib.hid (HPS.out.below hx)
              replace HLA2 := Lib.hid (LineAt.below HLA2.out hx)
              replace HBR2 := Lib.hid (bthen HBR2.out hx)
              clear hx
              go_wp2_with fail
              refine (findYes _ _ f pc k (q + 1) j t P _ (HC.out.below HBR2.out) HQ.out HPS.out (by omega) H3.out hlj HPJ.out).mono ?_
              rintro e w4 ⟨rfl, hx⟩
              replace HPS := Lib.hid (HPS.out.below hx)
              replace HLA2 := Lib.hid (LineAt.below HLA2.out hx)
              replace HBR2 := Lib.hid (bthen HBR2.out hx)
              clear hx
              obtain ⟨y0, y1, y2⟩ := LineAt.cells HLA2.out
              obtain ⟨eb, eo, ee, ew, eH⟩ := HC.out.hA.lines (by omega)
              obtain ⟨e0, e1, e2⟩ := ln_cells eH hlj HEJ.out HBR2.out ew
              have hji : (j : Int) < (k : Int) := by have := HC.out.hn; omega
              subst ee
              clear eH
              go_wp2
              go_quiet (fail)
              all_goals go_wp2
              all_goals
                go_roundg (nu - (i + 1))
                case rel => exact ⟨i + 1, (by show _ = _; omega), by omega, by go_num, below_draws HBR2.out _⟩
                case measure => omega
        · have blt : decide ((i : Int) < (nu : Int)) = false := decide_eq_false (by omega)
          have blt2 : decide (i < nu) = false := decide_eq_false hlt
          have HB1 := Lib.hid hbr
          clear hlt hbr HG hi
          go_wp2
          go_loopg [107] n (fun gk vi wr => ∃ i : Nat, Hid (i + gk = n) ∧ i ≤ n ∧ vi = .int .i64 (i : Int) ∧ Below wy.heap.size wy wr)
          case atStart => exact ⟨0, Nat.zero_add _, Nat.zero_le _, rfl, HB1.out⟩
          case round =>
            obtain ⟨i, HG, hi, rfl, hbr⟩ := hrel
            obtain ⟨wo, hwo⟩ : ∃ wo, wo = wr := ⟨_, rfl⟩
            subst hwo
            by_cases hlt : i < n
            · have blt : decide ((i : Int) < (n : Int)) = true := decide_eq_true (by omega)
              have blt2 : decide (i < n) = true := decide_eq_true hlt
              have hkb : i < a.length := by have := HA.out.hn; omega
              obtain ⟨X, hX⟩ : ∃ X, T.at_ a i = X := ⟨_, rfl⟩
              obtain ⟨P, hP⟩ : ∃ P, T.pathL a i = P := ⟨_, rfl⟩
              have hdeep := S.RightN.path_deep H1.out hkb
              rw [hP] at hdeep
              obtain ⟨q, hq⟩ : ∃ q, P.length = q + 1 := ⟨P.length - 1, by omega⟩
              have hq15 : q ≤ 15 := by omega
              obtain ⟨lb, lo, eA, hlb, hlH⟩ := HA.out.hA.lines (by omega)
              obtain ⟨l0, l1, l2⟩ := ln_cells hlH hkb hX hbr hlb
              have HX := Lib.hid hX
              have HP := Lib.hid hP
              have HQ := Lib.hid hq
              have HLA := Lib.hid (LineAt.laid wo X)
              have HBR := Lib.hid (bthen hbr (up wo (lnO X)))
              have hki : (i : Int) < (n : Int) := by omega
              have hgk := HG.out
              subst eA
              simp only [lnO] at HLA HBR
              clear hX hP hdeep hq hlH
              go_wp2_with fail
              refine (pathQ _ c n i q a P _ (HA.out.below HBR.out) hlt H1.out HP.out HQ.out).mono ?_
              rintro e w2 ⟨pb, po, pc, rfl, hqc, hpb, hPH, hx⟩
              have HPS := Lib.hid (hPH.seen hpb)
              have HLA2 := Lib.hid (LineAt.below HLA.out hx)
              have HBR2 := Lib.hid (bthen HBR.out hx)
              clear hx hPH hpb l0 l1 l2
              by_cases ha : ∃ a0, a0 < b.length ∧ T.pathL b a0 = P
              · obtain ⟨a0, hla0, hpa⟩ := ha
                have HPA := Lib.hid hpa
                clear hpa
                by_cases hc0 : ∃ j, j < t.length ∧ T.pathL t j = P
                · obtain ⟨j, hlj, hpj⟩ := hc0
                  have HPJ := Lib.hid hpj
                  clear hpj
                  by_cases hea : T.at_ b a0 = X
                  · have HEA := Lib.hid hea
                    clear hea
                    by_cases hej : T.at_ t j = X
                    · have HEJ := Lib.hid hej
                      clear hej
                      have HK := Lib.hid (HMI.out.kept (show i < a.length from hkb) hla0 hlj (by rw [HP.out]; exact T.findI_some H2.out hla0 HPA.out) (by rw [HP.out]; exact T.findI_some H3.out hlj HPJ.out) (HEA.out.trans HX.out.symm) (HEJ.out.trans HX.out.symm))
                      obtain ⟨r0, hlr0, hr1, hr2⟩ := HK.out
                      have HPR := Lib.hid ((found_path hr1).trans HP.out)
                      have HER := Lib.hid (hr2.trans HX.out)
                      clear hr1 hr2
                      go_wp2_with fail
                      refine (findYes _ _ d pc m (q + 1) a0 b P _ (HB.out.below HBR2.out) HQ.out HPS.out (by omega) H2.out hla0 HPA.out).mono ?_
                      rintro e w3 ⟨rfl, hx⟩
                      replace HPS := Lib.hid (HPS.out.below hx)
                      replace HLA2 := Lib.hid (LineAt.below HLA2.out hx)
                      replace HBR2 := Lib.hid (bthen HBR2.out hx)
                      clear hx
                      go_wp2_with fail
                      refine (findYes _ _ f pc k (q + 1) j t P _ (HC.out.below HBR2.out) HQ.out HPS.out (by omega) H3.out hlj HPJ.out).mono ?_
                      rintro e w4 ⟨rfl, hx⟩
                      replace HPS := Lib.hid (HPS.out.below hx)
                      replace HLA2 := Lib.hid (LineAt.below HLA2.out hx)
                      replace HBR2 := Lib.hid (bthen HBR2.out hx)
                      clear hx
                      go_wp2_with fail
                      refine (findYes _ _ c1 pc nu (q + 1) r0 u P _ (HU.out.below HBR2.out) HQ.out HPS.out (by omega) HRU.out hlr0 HPR.out).mono ?_
                      rintro e w5 ⟨rfl, hx⟩
                      replace HPS := Lib.hid (HPS.out.below hx)
                      replace HLA2 := Lib.hid (LineAt.below HLA2.out hx)
                      replace HBR2 := Lib.hid (bthen HBR2.out hx)
                      clear hx
                      obtain ⟨y0, y1, y2⟩ := LineAt.cells HLA2.out
                      obtain ⟨eb, eo, ee, ew, eH⟩ := HB.out.hA.lines (by omega)
                      obtain ⟨e0, e1, e2⟩ := ln_cells eH hla0 HEA.out HBR2.out ew
                      have ha0i : (a0 : Int) < (m : Int) := by have := HB.out.hn; omega
                      subst ee
                      clear eH
                      obtain ⟨vb, vo, ev, vw, vH⟩ := HC.out.hA.lines (by omega)
                      obtain ⟨v0, v1, v2⟩ := ln_cells vH hlj HEJ.out HBR2.out vw
                      have hji : (j : Int) < (k : Int) := by have := HC.out.hn; omega
                      subst ev
                      clear vH
                      obtain ⟨zb, zo, ez, zw, zH⟩ := HU.out.hA.lines (by omega)
                      obtain ⟨z0, z1, z2⟩ := ln_cells zH hlr0 HER.out HBR2.out zw
                      have hr0i : (r0 : Int) < (nu : Int) := by have := HU.out.hn; omega
                      subst ez
                      clear zH
                      have bmm : (X.mark != X.mark) = false := by simp
                      go_wp2
                      go_quiet (fail)
                      all_goals go_wp2
                      all_goals
                        go_roundg (n - (i + 1))
                        case rel => exact ⟨i + 1, (by show _ = _; omega), by omega, by go_num, below_draws HBR2.out _⟩
                        case measure => omega
                    · have HNE := Lib.hid hej
                      clear hej
                      go_wp2_with fail
                      refine (findYes _ _ d pc m (q + 1) a0 b P _ (HB.out.below HBR2.out) HQ.out HPS.out (by omega) H2.out hla0 HPA.out).mono ?_
                      rintro e w3 ⟨rfl, hx⟩
                      replace HPS := Lib.hid (HPS.out.below hx)
                      replace HLA2 := Lib.hid (LineAt.below HLA2.out hx)
                      replace HBR2 := Lib.hid (bthen HBR2.out hx)
                      clear hx
                      go_wp2_with fail
                      refine (findYes _ _ f pc k (q + 1) j t P _ (HC.out.below HBR2.out) HQ.out HPS.out (by omega) H3.out hlj HPJ.out).mono ?_
                      rintro e w4 ⟨rfl, hx⟩
                      replace HPS := Lib.hid (HPS.out.below hx)
                      replace HLA2 := Lib.hid (LineAt.below HLA2.out hx)
                      replace HBR2 := Lib.hid (bthen HBR2.out hx)
                      clear hx
                      go_wp2_with fail
                      refine (findAny _ _ c1 pc nu (q + 1) u P _ (HU.out.below HBR2.out) HQ.out HPS.out (by omega) HRU.out).mono ?_
                      rintro e w5 ⟨y3, s3, rfl, hx⟩
                      replace HPS := Lib.hid (HPS.out.below hx)
                      replace HLA2 := Lib.hid (LineAt.below HLA2.out hx)
                      replace HBR2 := Lib.hid (bthen HBR2.out hx)
                      clear hx
                      obtain ⟨y0, y1, y2⟩ := LineAt.cells HLA2.out
                      obtain ⟨eb, eo, ee, ew, eH⟩ := HB.out.hA.lines (by omega)
                      obtain ⟨e0, e1, e2⟩ := ln_cells eH hla0 HEA.out HBR2.out ew
                      have ha0i : (a0 : Int) < (m : Int) := by have := HB.out.hn; omega
                      subst ee
                      clear eH
                      have hji : (j : Int) < (k : Int) := by have := HC.out.hn; omega
                      rcases ln_apart HNE.out with h0 | ⟨h0, h1⟩ | ⟨h0, h1, h2⟩
                      · obtain ⟨vb, vo, ev, v0, v1, v2⟩ := ln_cellsA HC.out hlj HBR2.out
                        obtain ⟨d9, hd9⟩ : ∃ z, T.dp t j = z := ⟨_, rfl⟩
                        obtain ⟨x9, hx9⟩ : ∃ z, T.wd t j = z := ⟨_, rfl⟩
                        obtain ⟨m9, hm9⟩ : ∃ z, (T.at_ t j).mark = z := ⟨_, rfl⟩
                        rw [hd9] at h0 v0
                        rw [hx9] at v1
                        rw [hm9] at v2
                        have b9 : (d9 == X.depth) = false := beq_eq_false_iff_ne.2 h0
                        subst ev
                        clear h0 hd9 hx9 hm9
                        go_wp2
                        go_quiet (fail)
                        all_goals go_wp2
                        all_goals
                          go_roundg (n - (i + 1))
                          case rel => exact ⟨i + 1, (by show _ = _; omega), by omega, by go_num, below_draws HBR2.out _⟩
                          case measure => omega
                      · obtain ⟨vb, vo, ev, v0, v1, v2⟩ := ln_cellsA HC.out hlj HBR2.out
                        obtain ⟨d9, hd9⟩ : ∃ z, T.dp t j = z := ⟨_, rfl⟩
                        obtain ⟨x9, hx9⟩ : ∃ z, T.wd t j = z := ⟨_, rfl⟩
                        obtain ⟨m9, hm9⟩ : ∃ z, (T.at_ t j).mark = z := ⟨_, rfl⟩
                        rw [hd9] at h0 v0
                        rw [hx9] at h1 v1
                        rw [hm9] at v2
                        have b9 := sB_ne h1
                        rw [h0] at v0
                        subst ev
                        clear h0 h1 hd9 hx9 hm9
                        go_wp2
                        go_quiet (fail)
                        all_goals go_wp2
                        all_goals
                          go_roundg (n - (i + 1))
                          case rel => exact ⟨i + 1, (by show _ = _; omega), by omega, by go_num, below_draws HBR2.out _⟩
                          case measure => omega
                      · obtain ⟨vb, vo, ev, v0, v1, v2⟩ := ln_cellsA HC.out hlj HBR2.out
                        obtain ⟨d9, hd9⟩ : ∃ z, T.dp t j = z := ⟨_, rfl⟩
                        obtain ⟨x9, hx9⟩ : ∃ z, T.wd t j = z := ⟨_, rfl⟩
                        obtain ⟨m9, hm9⟩ : ∃ z, (T.at_ t j).mark = z := ⟨_, rfl⟩
                        rw [hd9] at h0 v0
                        rw [hx9] at h1 v1
                        rw [hm9] at h2 v2
                        have b9 : (m9 == X.mark) = false := beq_eq_false_iff_ne.2 h2
                        rw [h0] at v0
                        rw [h1] at v1
                        subst ev
                        clear h0 h1 h2 hd9 hx9 hm9
                        go_wp2
                        go_quiet (fail)
                        all_goals go_wp2
                        all_goals
                          go_roundg (n - (i + 1))
                          case rel => exact ⟨i + 1, (by show _ = _; omega), by omega, by go_num, below_draws HBR2.out _⟩
                          case measure => omega
                  · have HNE := Lib.hid hea
                    clear hea
                    go_wp2_with fail
                    refine (findYes _ _ d pc m (q + 1) a0 b P _ (HB.out.below HBR2.out) HQ.out HPS.out (by omega) H2.out hla0 HPA.out).mono ?_
                    rintro e w3 ⟨rfl, hx⟩
                    replace HPS := Lib.hid (HPS.out.below hx)
                    replace HLA2 := Lib.hid (LineAt.below HLA2.out hx)
                    replace HBR2 := Lib.hid (bthen HBR2.out hx)
                    clear hx
                    go_wp2_with fail
                    refine (findYes _ _ f pc k (q + 1) j t P _ (HC.out.below HBR2.out) HQ.out HPS.out (by omega) H3.out hlj HPJ.out).mono ?_
                    rintro e w4 ⟨rfl, hx⟩
                    replace HPS := Lib.hid (HPS.out.below hx)
                    replace HLA2 := Lib.hid (LineAt.below HLA2.out hx)
                    replace HBR2 := Lib.hid (bthen HBR2.out hx)
                    clear hx
                    go_wp2_with fail
                    refine (findAny _ _ c1 pc nu (q + 1) u P _ (HU.out.below HBR2.out) HQ.out HPS.out (by omega) HRU.out).mono ?_
                    rintro e w5 ⟨y3, s3, rfl, hx⟩
                    replace HPS := Lib.hid (HPS.out.below hx)
                    replace HLA2 := Lib.hid (LineAt.below HLA2.out hx)
                    replace HBR2 := Lib.hid (bthen HBR2.out hx)
                    clear hx
                    obtain ⟨y0, y1, y2⟩ := LineAt.cells HLA2.out
                    have ha0i : (a0 : Int) < (m : Int) := by have := HB.out.hn; omega
                    rcases ln_apart HNE.out with h0 | ⟨h0, h1⟩ | ⟨h0, h1, h2⟩
                    · obtain ⟨vb, vo, ev, v0, v1, v2⟩ := ln_cellsA HB.out hla0 HBR2.out
                      obtain ⟨d9, hd9⟩ : ∃ z, T.dp b a0 = z := ⟨_, rfl⟩
                      obtain ⟨x9, hx9⟩ : ∃ z, T.wd b a0 = z := ⟨_, rfl⟩
                      obtain ⟨m9, hm9⟩ : ∃ z, (T.at_ b a0).mark = z := ⟨_, rfl⟩
                      rw [hd9] at h0 v0
                      rw [hx9] at v1
                      rw [hm9] at v2
                      have b9 : (d9 == X.depth) = false := beq_eq_false_iff_ne.2 h0
                      subst ev
                      clear h0 hd9 hx9 hm9
                      go_wp2
                      go_quiet (fail)
                      all_goals go_wp2
                      all_goals
                        go_roundg (n - (i + 1))
                        case rel => exact ⟨i + 1, (by show _ = _; omega), by omega, by go_num, below_draws HBR2.out _⟩
                        case measure => omega
                    · obtain ⟨vb, vo, ev, v0, v1, v2⟩ := ln_cellsA HB.out hla0 HBR2.out
                      obtain ⟨d9, hd9⟩ : ∃ z, T.dp b a0 = z := ⟨_, rfl⟩
                      obtain ⟨x9, hx9⟩ : ∃ z, T.wd b a0 = z := ⟨_, rfl⟩
                      obtain ⟨m9, hm9⟩ : ∃ z, (T.at_ b a0).mark = z := ⟨_, rfl⟩
                      rw [hd9] at h0 v0
                      rw [hx9] at h1 v1
                      rw [hm9] at v2
                      have b9 := sB_ne h1
                      rw [h0] at v0
                      subst ev
                      clear h0 h1 hd9 hx9 hm9
                      go_wp2
                      go_quiet (fail)
                      all_goals go_wp2
                      all_goals
                        go_roundg (n - (i + 1))
                        case rel => exact ⟨i + 1, (by show _ = _; omega), by omega, by go_num, below_draws HBR2.out _⟩
                        case measure => omega
                    · obtain ⟨vb, vo, ev, v0, v1, v2⟩ := ln_cellsA HB.out hla0 HBR2.out
                      obtain ⟨d9, hd9⟩ : ∃ z, T.dp b a0 = z := ⟨_, rfl⟩
                      obtain ⟨x9, hx9⟩ : ∃ z, T.wd b a0 = z := ⟨_, rfl⟩
                      obtain ⟨m9, hm9⟩ : ∃ z, (T.at_ b a0).mark = z := ⟨_, rfl⟩
                      rw [hd9] at h0 v0
                      rw [hx9] at h1 v1
                      rw [hm9] at h2 v2
                      have b9 : (m9 == X.mark) = false := beq_eq_false_iff_ne.2 h2
                      rw [h0] at v0
                      rw [h1] at v1
                      subst ev
                      clear h0 h1 h2 hd9 hx9 hm9
                      go_wp2
                      go_quiet (fail)
                      all_goals go_wp2
                      all_goals
                        go_roundg (n - (i + 1))
                        case rel => exact ⟨i + 1, (by show _ = _; omega), by omega, by go_num, below_draws HBR2.out _⟩
                        case measure => omega
                · have HNO := Lib.hid (show ∀ i, i < t.length → T.pathL t i ≠ P from fun i hi e => hc0 ⟨i, hi, e⟩)
                  clear hc0
                  go_wp2_with fail
                  refine (findYes _ _ d pc m (q + 1) a0 b P _ (HB.out.below HBR2.out) HQ.out HPS.out (by omega) H2.out hla0 HPA.out).mono ?_
                  rintro e w3 ⟨rfl, hx⟩
                  replace HPS := Lib.hid (HPS.out.below hx)
                  replace HLA2 := Lib.hid (LineAt.below HLA2.out hx)
                  replace HBR2 := Lib.hid (bthen HBR2.out hx)
                  clear hx
                  go_wp2_with fail
                  refine (findNo _ _ f pc k (q + 1) t P _ (HC.out.below HBR2.out) HQ.out HPS.out (by omega) H3.out HNO.out).mono ?_
                  rintro e w4 ⟨rfl, hx⟩
                  replace HPS := Lib.hid (HPS.out.below hx)
                  replace HLA2 := Lib.hid (LineAt.below HLA2.out hx)
                  replace HBR2 := Lib.hid (bthen HBR2.out hx)
                  clear hx
                  go_wp2_with fail
                  refine (findAny _ _ c1 pc nu (q + 1) u P _ (HU.out.below HBR2.out) HQ.out HPS.out (by omega) HRU.out).mono ?_
                  rintro e w5 ⟨y3, s3, rfl, hx⟩
                  replace HPS := Lib.hid (HPS.out.below hx)
                  replace HLA2 := Lib.hid (LineAt.below HLA2.out hx)
                  replace HBR2 := Lib.hid (bthen HBR2.out hx)
                  clear hx
                  obtain ⟨y0, y1, y2⟩ := LineAt.cells HLA2.out
                  go_wp2
                  go_quiet (fail)
                  all_goals go_wp2
                  all_goals
                    go_roundg (n - (i + 1))
                    case rel => exact ⟨i + 1, (by show _ = _; omega), by omega, by go_num, below_draws HBR2.out _⟩
                    case measure => omega
              · have HNO := Lib.hid (show ∀ i, i < b.length → T.pathL b i ≠ P from fun i hi e => ha ⟨i, hi, e⟩)
                clear ha
                go_wp2_with fail
                refine (findNo _ _ d pc m (q + 1) b P _ (HB.out.below HBR2.out) HQ.out HPS.out (by omega) H2.out HNO.out).mono ?_
                rintro e w3 ⟨rfl, hx⟩
                replace HPS := Lib.hid (HPS.out.below hx)
                replace HLA2 := Lib.hid (LineAt.below HLA2.out hx)
                replace HBR2 := Lib.hid (bthen HBR2.out hx)
                clear hx
                go_wp2_with fail
                refine (findAny _ _ f pc k (q + 1) t P _ (HC.out.below HBR2.out) HQ.out HPS.out (by omega) H3.out).mono ?_
                rintro e w4 ⟨y2, s2, rfl, hx⟩
                replace HPS := Lib.hid (HPS.out.below hx)
                replace HLA2 := Lib.hid (LineAt.below HLA2.out hx)
                replace HBR2 := Lib.hid (bthen HBR2.out hx)
                clear hx
                go_wp2_with fail
                refine (findAny _ _ c1 pc nu (q + 1) u P _ (HU.out.below HBR2.out) HQ.out HPS.out (by omega) HRU.out).mono ?_
                rintro e w5 ⟨y3, s3, rfl, hx⟩
                replace HPS := Lib.hid (HPS.out.below hx)
                replace HLA2 := Lib.hid (LineAt.below HLA2.out hx)
                replace HBR2 := Lib.hid (bthen HBR2.out hx)
                clear hx
                obtain ⟨y0, y1, y2⟩ := LineAt.cells HLA2.out
                go_wp2
                go_quiet (fail)
                all_goals go_wp2
                all_goals
                  go_roundg (n - (i + 1))
                  case rel => exact ⟨i + 1, (by show _ = _; omega), by omega, by go_num, below_draws HBR2.out _⟩
                  case measure => omega
            · have blt : decide ((i : Int) < (n : Int)) = false := decide_eq_false (by omega)
              have blt2 : decide (i < n) = false := decide_eq_false hlt
              have hb := bthen HBY.out hbr
              clear hlt hbr HG hi
              go_wp2_with fail
              refine (AW _).mono ?_
              rintro e wz ⟨rfl, hx⟩
              go_wp2
              go_ret
              exact ⟨rfl, bthen hb hx⟩
    · have be : (er != 0) = true := bne_iff_ne.2 h0
      have be2 : (er == 0) = false := beq_eq_false_iff_ne.2 h0
      have hn0 : nu = 0 := by rw [← HNU.out, HMI.out.err h0]; rfl
      subst hn0
      clear h0
      go_wp2_with fail
      refine (AW _).mono ?_
      rintro e wz ⟨rfl, hx⟩
      go_wp2
      go_ret
      exact ⟨rfl, bthen hb hx⟩
end Go.Proofs.Ytfajfjocpgbmeaa
