/-
  The document's Expand of layer 12 (ferryslipref12). Condition: trees.
-/
import Derived.Test.YtkifapbiimlafaaGroupT
import Derived.Test.YtkifapbiimlafaaLinesC
namespace Go.Proofs.Ytkifapbiimlafaa.T
set_option linter.unusedVariables false
/-- What is inherited of the first groups. -/
def headL (t : List Ln) (i : Nat) : List Pth := (((appL t).take i).flatMap (pathsA t)).filter (inhB (expL t))
/-- What is inherited of the first paths. -/
def partL (t : List Ln) (g : List UInt8) (k : Nat) : List Pth := ((pathsA t g).take k).filter (inhB (expL t))
theorem headL_all (t : List Ln) : headL t (appL t).length = inhL t := by unfold headL inhL; rw [List.take_length]
theorem headL_next {t : List Ln} {i : Nat} (hi : i < (appL t).length) : headL t (i + 1) = headL t i ++ partL t (appL t)[i] (pathsA t (appL t)[i]).length := by
  unfold headL partL
  rw [List.take_succ_eq_append_getElem hi, List.flatMap_append, List.filter_append, List.take_length]
  simp
theorem partL_in {t : List Ln} {g : List UInt8} {k : Nat} (hk : k < (pathsA t g).length) (h : inhB (expL t) (pathsA t g)[k] = true) : partL t g (k + 1) = partL t g k ++ [(pathsA t g)[k]] := by
  unfold partL
  rw [List.take_succ_eq_append_getElem hk, List.filter_append, List.filter_cons_of_pos h]
  rfl
theorem partL_out {t : List Ln} {g : List UInt8} {k : Nat} (hk : k < (pathsA t g).length) (h : inhB (expL t) (pathsA t g)[k] = false) : partL t g (k + 1) = partL t g k := by
  unfold partL
  rw [List.take_succ_eq_append_getElem hk, List.filter_append, List.filter_cons_of_neg (by rw [h]; decide)]
  show _ ++ [] = _
  rw [List.append_nil]
theorem head_fit {t : List Ln} (h : RightT t) {i : Nat} {p : Pth} (hp : p ∈ headL t i) : FitP p := by
  unfold headL at hp
  obtain ⟨g, _, h2⟩ := List.mem_flatMap.1 (List.mem_filter.1 hp).1
  exact paths_fit h h2
theorem part_fit {t : List Ln} (h : RightT t) {g : List UInt8} {k : Nat} {p : Pth} (hp : p ∈ partL t g k) : FitP p :=
  paths_fit h (List.mem_of_mem_take (List.mem_filter.1 hp).1)
/-- The tree so far. -/
structure SoFar (t : List Ln) (L : List Pth) (u : List Ln) : Prop where
  allEq : addAll (expL t) L = some u
  right : RightT u
theorem SoFar.start {t : List Ln} (h : RightT t) : SoFar t (headL t 0) (expL t) := ⟨rfl, exp_right h⟩
theorem SoFar.add {t u : List Ln} {L : List Pth} (s : SoFar t L u) {p : Pth} (hp : FitP p) (h : (addL u p).length ≤ 200) : SoFar t (L ++ [p]) (addL u p) := by
  refine ⟨?_, add_right s.right (by have := hp.deep; omega) hp.long h⟩
  rw [addAll_app, s.allEq]
  show addAll u [p] = _
  rw [addAll_step h]
  rfl
theorem SoFar.stop {t u : List Ln} {L : List Pth} (s : SoFar t L u) {p : Pth} (h : ¬ (addL u p).length ≤ 200) (R : List Pth) : addAll (expL t) (L ++ p :: R) = none := by
  rw [addAll_app, s.allEq]
  exact addAll_stop h
theorem inh_split {t : List Ln} {i k : Nat} (hi : i < (appL t).length) (hk : k < (pathsA t (appL t)[i]).length) (h : inhB (expL t) (pathsA t (appL t)[i])[k] = true) : ∃ R, inhL t = headL t i ++ partL t (appL t)[i] k ++ (pathsA t (appL t)[i])[k] :: R := by
  refine ⟨((pathsA t (appL t)[i]).drop (k + 1)).filter (inhB (expL t)) ++ (((appL t).drop (i + 1)).flatMap (pathsA t)).filter (inhB (expL t)), ?_⟩
  unfold inhL headL partL
  conv => lhs; rw [← List.take_append_drop i (appL t), List.drop_eq_getElem_cons hi]
  rw [List.flatMap_append, List.filter_append, List.flatMap_cons, List.filter_append]
  conv => lhs; rw [← List.take_append_drop k (pathsA t (appL t)[i]), List.drop_eq_getElem_cons hk]
  rw [List.filter_append, List.filter_cons_of_pos h]
  simp only [List.append_assoc, List.cons_append]
theorem SoFar.fail {t u : List Ln} {i k : Nat} (hi : i < (appL t).length) (hk : k < (pathsA t (appL t)[i]).length) (h : inhB (expL t) (pathsA t (appL t)[i])[k] = true) (s : SoFar t (headL t i ++ partL t (appL t)[i] k) u) (h2 : ¬ (addL u (pathsA t (appL t)[i])[k]).length ≤ 200) (hm : missB t = false) : expandL t = ([], 5) := by
  obtain ⟨R, hR⟩ := inh_split hi hk h
  unfold expandL
  rw [hm, if_neg (by decide), hR, s.stop h2 R]
theorem SoFar.done {t u : List Ln} (s : SoFar t (headL t (appL t).length) u) (hm : missB t = false) : expandL t = (u, 0) := by
  unfold expandL
  rw [hm, if_neg (by decide), ← headL_all, s.allEq]
theorem miss_at {t : List Ln} {i : Nat} (hi : i < (appL t).length) (h : inB (actL t) [wGroups, (appL t)[i]] = false) : missB t = true := by
  unfold missB
  rw [List.any_eq_true]
  exact ⟨_, List.getElem_mem hi, by rw [h]; rfl⟩
theorem miss_none {t : List Ln} (h : ∀ i (hi : i < (appL t).length), inB (actL t) [wGroups, (appL t)[i]] = true) : missB t = false := by
  cases e : missB t with
  | false => rfl
  | true =>
    unfold missB at e
    obtain ⟨g, hg, h2⟩ := List.any_eq_true.1 e
    obtain ⟨i, hi, rfl⟩ := List.getElem_of_mem hg
    rw [h i hi] at h2
    cases h2
theorem expand_miss {t : List Ln} (h : missB t = true) : expandL t = ([], 3) := by unfold expandL; rw [if_pos h]
end Go.Proofs.Ytkifapbiimlafaa.T
namespace Go.Proofs.Ytkifapbiimlafaa
open Go.RowKit
set_option linter.unusedVariables false
theorem fit_short {p : T.Pth} (h : T.FitP p) : longB p = false := by
  unfold longB
  rw [List.any_eq_false]
  intro w hw
  have := h.long w hw
  simp
  omega
theorem fit_add {u : List T.Ln} (hR : T.RightT u) {p : T.Pth} (h : T.FitP p) : ((T.addL u p).length ≤ 200 ∧ AddIs u p (T.addL u p) 0) ∨ (¬ (T.addL u p).length ≤ 200 ∧ AddIs u p u 5) := by
  have hd : p.length ≤ 16 := by have := h.deep; omega
  by_cases h2 : (T.addL u p).length ≤ 200
  · exact .inl ⟨h2, .inr ⟨⟨h.pos, fit_short h, hR⟩, .inr ⟨hd, .inr ⟨h2, rfl, rfl⟩⟩⟩⟩
  · exact .inr ⟨h2, .inr ⟨⟨h.pos, fit_short h, hR⟩, .inr ⟨hd, .inl ⟨by omega, rfl, rfl⟩⟩⟩⟩
theorem inh_is (x : List T.Ln) {p : T.Pth} (h : 0 < p.length) : T.inhB x p = (!(p[0] == T.wGroups) && !(p[0] == T.wApply) && !(decide (1 < p.length) && !(T.underW x p.dropLast).isEmpty)) := by
  unfold T.inhB
  rw [own_head h]
-- EXPAND
set_option maxRecDepth 100000 in
set_option maxHeartbeats 32000000 in
theorem expandR12 (A : Option Addr) (c n : Nat) (t u : List T.Ln) (er : Int) (w : World) (hn : t.length = n) (hA : Seen eL w A t) (hl : n ≤ 1073741824) (hR : T.RightT t) (hE : T.expandL t = (u, er)) :
    Calls Try.prog 21 #[.slice A n c] w (fun e w' => ∃ B d, e = .returned (.tuple #[.slice B u.length d, .int .i64 er]) ∧ u.length ≤ d ∧ NilOk B d ∧ Seen eL w' B u ∧ Below w.heap.size w w') := by
  have HA := Lib.hid hA
  have HN := Lib.hid hn
  have HR := Lib.hid hR
  have HE := Lib.hid hE
  clear hA hn hR hE
  go_enter Try.func21, Try.ntmps21
  go_wp2_with fail
  refine (explicitR12 A c n t _ HN.out HA.out hl HR.out).mono ?_
  rintro e w1 ⟨A1, c1, rfl, hc1, hn1, hs1, hb1⟩
  obtain ⟨x, hx⟩ : ∃ x, T.expL t = x := ⟨_, rfl⟩
  have HX := Lib.hid hx
  have HRX := Lib.hid (show T.RightN 200 x by rw [← hx]; exact T.exp_right HR.out)
  rw [hx] at hs1 hc1 ⊢
  obtain ⟨lx, hlx⟩ : ∃ k, x.length = k := ⟨_, rfl⟩
  rw [hlx] at hc1 ⊢
  have HLX := Lib.hid hlx
  have hlx2 : lx ≤ 200 := by rw [← hlx]; exact HRX.out.len
  have HS1 := Lib.hid hs1
  have HC1 := Lib.hid hc1
  have HN1 := Lib.hid hn1
  have HB1 := Lib.hid hb1
  clear hx hlx hs1 hb1 hc1 hn1
  go_wp2_with fail
  refine (activeR12 A c n t _ HN.out (HA.out.below HB1.out) hl HR.out).mono ?_
  rintro e w2 ⟨A2, c2, rfl, hc2, hn2, hs2, hb2⟩
  obtain ⟨a, ha⟩ : ∃ a, T.actL t = a := ⟨_, rfl⟩
  have HAC := Lib.hid ha
  have HRA := Lib.hid (show T.RightN 200 a by rw [← ha]; exact T.act_right HR.out)
  rw [ha] at hs2 ⊢
  obtain ⟨la, hla⟩ : ∃ k, a.length = k := ⟨_, rfl⟩
  rw [hla]
  have HLA := Lib.hid hla
  have hla2 : la ≤ 200 := by rw [← hla]; exact HRA.out.len
  have HS2 := Lib.hid hs2
  have HB2 := Lib.hid (HB1.out.trans (hb2.mono HB1.out.size))
  have HB2x := Lib.hid hb2
  clear ha hla hs2 hb2 hc2 hn2
  go_wp2_with fail
  refine (underR12 A2 c2 la a (some ⟨w2.heap.size, 0, none⟩) 1 1 [T.wApply] _ HLA.out rfl (HS2.out.below (up _ _)) (lit_seen eS w2 [T.wApply] _ rfl (by simp)) (by omega) (by decide) HRA.out).mono ?_
  rintro e w3 ⟨A3, c3, rfl, hc3, hs3, hb3⟩
  obtain ⟨Ls, hLs⟩ : ∃ L, T.underW a [T.wApply] = L := ⟨_, rfl⟩
  have HLS := Lib.hid (show T.appL t = Ls by unfold T.appL; rw [HAC.out]; exact hLs)
  rw [hLs] at hc3 hs3 ⊢
  obtain ⟨ln, hln⟩ : ∃ k, Ls.length = k := ⟨_, rfl⟩
  rw [hln] at hc3 ⊢
  have HLN := Lib.hid hln
  have hln2 : ln ≤ 200 := by rw [← hln, ← hLs]; exact Nat.le_trans (T.underW_len HRA.out _) HRA.out.len
  have HS3 := Lib.hid hs3
  have HB3 := Lib.hid (HB2.out.trans ((bthen (up _ _) hb3 : Below w2.heap.size w2 w3).mono HB2.out.size))
  have HX3 := Lib.hid (HS1.out.below (HB2x.out.trans ((bthen (up _ _) hb3 : Below w2.heap.size w2 w3).mono HB2x.out.size)))
  clear hLs hln hs3 hc3 hb3
  go_wp2
  go_loopg [6, 7, 8] ln (fun g0 vi v7 v8 wr => ∃ i : Nat, Hid (i + g0 = ln) ∧ vi = .int .i64 (i : Int) ∧ Hid (∀ j (hj : j < Ls.length), j < i → T.inB a [T.wGroups, Ls[j]] = true) ∧ Hid (Below w3.heap.size w3 wr))
  case atStart => exact ⟨0, Nat.zero_add _, rfl, (fun j _ h => absurd h (Nat.not_lt_zero j)), Below.refl _ _⟩
  case round =>
    obtain ⟨i, HG, rfl, HALL, HB⟩ := hrel
    have hgk := HG.out
    have HBW := Lib.hid (HB3.out.trans (HB.out.mono HB3.out.size))
    by_cases hlt : i < ln
    · have blt : decide ((i : Int) < (ln : Int)) = true := decide_eq_true (by omega)
      have blt2 : decide (i < ln) = true := decide_eq_true hlt
      have hiL : i < Ls.length := by rw [HLN.out]; exact hlt
      have hiz : (i : Int) < (ln : Int) := by omega
      obtain ⟨b3, o3, rfl, hw3, hL3⟩ := HS3.out (by omega)
      have k3 := (hL3.below HB.out hw3).str hiL
      obtain ⟨g, hg⟩ : ∃ g, Ls[i] = g := ⟨_, rfl⟩
      rw [hg] at k3
      have HGI := Lib.hid hg
      clear hL3 hg
      cases hin : T.inB a [T.wGroups, g] with
      | true =>
        have HI := Lib.hid (show PathsIs t g (T.pathsA t g) 0 from .inl ⟨by rw [HAC.out]; exact hin, rfl, rfl⟩)
        have HAL2 := Lib.hid (show ∀ j (hj : j < Ls.length), j < i + 1 → T.inB a [T.wGroups, Ls[j]] = true by
          intro j hj hji
          by_cases h : j < i
          · exact HALL.out j hj h
          · obtain rfl : j = i := by omega
            rw [HGI.out]; exact hin)
        clear hin
        go_wp2_with fail
        refine (pathsR12 A c n t g _ 0 _ HN.out (HA.out.below HBW.out) hl HR.out HI.out).mono ?_
        rintro e w5 ⟨v5, rfl, _, hb5⟩
        have HB5 := Lib.hid (HB.out.trans (hb5.mono HB.out.size))
        clear hb5
        go_wp2
        go_roundg (ln - (i + 1))
        case rel => exact ⟨i + 1, (by show _ = _; omega), by go_num, HAL2.out, HB5.out⟩
        case measure => omega
      | false =>
        have HI := Lib.hid (show PathsIs t g [] 3 from .inr ⟨by rw [HAC.out]; exact hin, rfl, rfl⟩)
        have HEX := Lib.hid (show u = [] ∧ er = 3 by
          have hi2 : i < (T.appL t).length := by rw [HLS.out]; exact hiL
          have h3 := T.expand_miss (T.miss_at (t := t) hi2 (by
            have e1 : (T.appL t)[i] = g := by
              have := HGI.out
              simp only [HLS.out]
              exact this
            rw [e1, HAC.out]; exact hin))
          rw [HE.out] at h3
          exact ⟨congrArg Prod.fst h3, congrArg Prod.snd h3⟩)
        obtain ⟨rfl, rfl⟩ := HEX.out
        clear hin
        go_wp2_with fail
        refine (pathsR12 A c n t g _ 3 _ HN.out (HA.out.below HBW.out) hl HR.out HI.out).mono ?_
        rintro e w5 ⟨v5, rfl, _, hb5⟩
        have HB5 := Lib.hid (HBW.out.trans (hb5.mono HBW.out.size))
        clear hb5
        go_wp2
        go_ret2
        exact ⟨none, 0, rfl, Nat.le_refl _, (fun _ => rfl), Seen.nil, HB5.out⟩
    · have blt : decide ((i : Int) < (ln : Int)) = false := decide_eq_false (by omega)
      have blt2 : decide (i < ln) = false := decide_eq_false hlt
      have HMI := Lib.hid (show T.missB t = false from T.miss_none (t := t) fun j hj => by
        have hj2 : j < Ls.length := by rw [← HLS.out]; exact hj
        have h := HALL.out j hj2 (by rw [HLN.out] at hj2; omega)
        have e1 : (T.appL t)[j] = Ls[j] := by simp only [HLS.out]
        rw [e1, HAC.out]; exact h)
      have HAL := Lib.hid (show ∀ j (hj : j < Ls.length), T.inB a [T.wGroups, Ls[j]] = true from fun j hj => HALL.out j hj (by rw [HLN.out] at hj; omega))
      have HX4 := Lib.hid (HX3.out.below HB.out)
      obtain ⟨wo, hwo⟩ : ∃ wo, wo = wr := ⟨_, rfl⟩
      subst hwo
      have HS4 := Lib.hid (HS3.out.below HB.out)
      clear blt blt2
      go_wp2
      go_loopg [9, 10, 11, 12, 13, 14, 15, 16] ln (fun g0 vo vi v11 v12 v13 v14 v15 v16 wr => ∃ (i : Nat) (y : List T.Ln) (ly : Nat) (A9 : Option Addr) (c9 : Nat), Hid (i + g0 = ln) ∧ vi = .int .i64 (i : Int) ∧ vo = .slice A9 ly c9 ∧ Hid (y.length = ly) ∧ Hid (NilOk A9 c9) ∧ Hid (ly ≤ c9) ∧ Hid (Seen eL wr A9 y) ∧ Hid (T.SoFar t (T.headL t i) y) ∧ Hid (Below wo.heap.size wo wr))
      case atStart => exact ⟨0, x, lx, A1, c1, Nat.zero_add _, rfl, rfl, HLX.out, HN1.out, HC1.out, HX4.out, (by have := T.SoFar.start HR.out; rw [HX.out] at this; exact this), Below.refl _ _⟩
      case round =>
        obtain ⟨i, y, ly, A9, c9, HG, rfl, rfl, HY, HN9, HC9, HS9S, HS9, HB9⟩ := hrel
        have hgk := HG.out
        have HBZ := Lib.hid (HBW.out.trans (HB9.out.mono HBW.out.size))
        by_cases hlt : i < ln
        · have blt : decide ((i : Int) < (ln : Int)) = true := decide_eq_true (by omega)
          have blt2 : decide (i < ln) = true := decide_eq_true hlt
          have hiL : i < Ls.length := by rw [HLN.out]; exact hlt
          have hiz : (i : Int) < (ln : Int) := by omega
          obtain ⟨b3, o3, rfl, hw3, hL3⟩ := HS4.out (by omega)
          have k3 := (hL3.below HB9.out hw3).str hiL
          obtain ⟨g, hg⟩ : ∃ g, Ls[i] = g := ⟨_, rfl⟩
          rw [hg] at k3
          have hi2 : i < (T.appL t).length := by rw [HLS.out]; exact hiL
          have e1 : (T.appL t)[i] = g := by simp only [HLS.out]; exact hg
          have HI := Lib.hid (show PathsIs t g (T.pathsA t g) 0 from .inl ⟨by rw [HAC.out, ← hg]; exact HAL.out i hiL, rfl, rfl⟩)
          have HHN := Lib.hid (show T.headL t (i + 1) = T.headL t i ++ T.partL t g (T.pathsA t g).length by have := T.headL_next hi2; rw [e1] at this; exact this)
          have HFA := Lib.hid (show ∀ k (hk : k < (T.pathsA t g).length), T.inhB (T.expL t) (T.pathsA t g)[k] = true → ∀ y, T.SoFar t (T.headL t i ++ T.partL t g k) y → ¬ (T.addL y (T.pathsA t g)[k]).length ≤ 200 → T.expandL t = ([], 5) by
            subst e1
            intro k hk h y s h2
            exact T.SoFar.fail hi2 hk h s h2 HMI.out)
          clear hL3 hg e1 hi2
          go_wp2_with fail
          refine (pathsR12 A c n t g _ 0 _ HN.out (HA.out.below HBZ.out) hl HR.out HI.out).mono ?_
          rintro e w5 ⟨v5, rfl, hm5, hb5⟩
          obtain ⟨A5, c5, e5, hc5, M, hM1, hM2, hM3⟩ := hm5.seen
          subst e5
          obtain ⟨lp, hlp⟩ : ∃ k, (T.pathsA t g).length = k := ⟨_, rfl⟩
          rw [hlp] at hc5 hM1 ⊢
          have HLP := Lib.hid hlp
          have hlp2 : lp ≤ 40200 := by rw [← hlp]; exact T.paths_len HR.out g
          have HM1 := Lib.hid hM1
          have HM2 := Lib.hid hM2
          have HM3 := Lib.hid hM3
          have HB5 := Lib.hid (HB9.out.trans (hb5.mono HB9.out.size))
          have HS5 := Lib.hid (HS9S.out.below hb5)
          have HX5 := Lib.hid (HX4.out.below HB5.out)
          have HBP := Lib.hid (HBZ.out.trans (hb5.mono HBZ.out.size))
          clear hm5 hb5 hc5 hM1 hM2 hM3 hlp HS9S HB9
          go_wp2
          go_loopg [9, 13, 14, 15, 16] lp (fun g1 vo vk v14 v15 v16 wr => ∃ (k : Nat) (y : List T.Ln) (ly : Nat) (A9 : Option Addr) (c9 : Nat), Hid (k + g1 = lp) ∧ vk = .int .i64 (k : Int) ∧ vo = .slice A9 ly c9 ∧ Hid (y.length = ly) ∧ Hid (NilOk A9 c9) ∧ Hid (ly ≤ c9) ∧ Hid (Seen eL wr A9 y) ∧ Hid (T.SoFar t (T.headL t i ++ T.partL t g k) y) ∧ Hid (Below w5.heap.size w5 wr))
          case atStart => exact ⟨0, y, ly, A9, c9, Nat.zero_add _, rfl, rfl, HY.out, HN9.out, HC9.out, HS5.out, (by show T.SoFar t (T.headL t i ++ []) y; rw [List.append_nil]; exact HS9.out), Below.refl _ _⟩
          case round =>
            clear HS5 HS9 HY HN9 HC9
            obtain ⟨k, y, ly, A9, c9, HG1, rfl, rfl, HY, HN9, HC9, HS9S, HS9, HB9⟩ := hrel
            have hgk1 := HG1.out
            by_cases hk : k < lp
            · have bk : decide ((k : Int) < (lp : Int)) = true := decide_eq_true (by omega)
              have bk2 : decide (k < lp) = true := decide_eq_true hk
              have hkL : k < (T.pathsA t g).length := by rw [HLP.out]; exact hk
              have hkM : k < M.length := by rw [HM1.out]; exact hk
              have hkz : (k : Int) < (lp : Int) := by omega
              obtain ⟨bq, oq, rfl, hwq, hLq⟩ := HM2.out (by omega)
              have kq := (hLq.below HB9.out hwq).ptQ hkM
              have hps := (HM3.out k hkM hkL).below HB9.out
              obtain ⟨p, hp⟩ : ∃ p, (T.pathsA t g)[k] = p := ⟨_, rfl⟩
              obtain ⟨mk, hmk⟩ : ∃ m, M[k] = m := ⟨_, rfl⟩
              rw [hmk] at kq
              rw [hp, hmk] at hps
              obtain ⟨PA, pn, pc⟩ := mk
              have HFIT := Lib.hid (show T.FitP p from T.paths_fit HR.out (by rw [← hp]; exact List.getElem_mem hkL))
              have HPIN := Lib.hid (show T.inhB (T.expL t) p = true → T.partL t g (k + 1) = T.partL t g k ++ [p] by intro h; have := T.partL_in hkL (by rw [hp]; exact h); rw [hp] at this; exact this)
              have HPOUT := Lib.hid (show T.inhB (T.expL t) p = false → T.partL t g (k + 1) = T.partL t g k by intro h; exact T.partL_out hkL (by rw [hp]; exact h))
              have HFAIL := Lib.hid (show T.inhB (T.expL t) p = true → T.SoFar t (T.headL t i ++ T.partL t g k) y → ¬ (T.addL y p).length ≤ 200 → T.expandL t = ([], 5) by
                intro h s h2
                exact HFA.out k hkL (by rw [hp]; exact h) y s (by rw [hp]; exact h2))
              have HPS := Lib.hid hps
              have hpn : p.length = pn := hps.len
              have hpc : pn ≤ pc := hps.cap
              have HPN := Lib.hid hpn
              have hpn0 : 0 < pn := by rw [← hpn]; exact HFIT.out.pos
              have hpn14 : pn ≤ 14 := by rw [← hpn]; exact HFIT.out.deep
              obtain ⟨bp, op, ep, hwp, hLp⟩ := hps.seen (by omega)
              have ep : PA = some ⟨bp, op, none⟩ := ep
              subst ep
              have hz0 : (0 : Int) < (pn : Int) := by omega
              have k0 := hLp.str (show 0 < p.length by omega)
              obtain ⟨p0, hp0⟩ : ∃ q, p[0]'(by omega) = q := ⟨_, rfl⟩
              rw [hp0, Nat.add_zero] at k0
              have HIN := Lib.hid (show T.inhB (T.expL t) p = (!(p0 == T.wGroups) && !(p0 == T.wApply) && !(decide (1 < pn) && !(T.underW x p.dropLast).isEmpty)) by rw [inh_is _ HFIT.out.pos, hp0, HX.out, hpn])
              clear hLp hp0 hps hp hmk hLq
              cases e0 : (p0 == T.wGroups) with
              | true =>
                have q0 : ((sB p0).toList == [103, 114, 111, 117, 112, 115]) = true := by rw [sB_toList]; exact e0
                have HNX := Lib.hid (show T.partL t g (k + 1) = T.partL t g k from HPOUT.out (by rw [HIN.out, e0]; rfl))
                clear e0
                go_wp2
                go_roundg (lp - (k + 1))
                case rel => exact ⟨k + 1, y, ly, A9, c9, (by show _ = _; omega), by go_num, rfl, HY.out, HN9.out, HC9.out, (by exact HS9S.out), (by rw [HNX.out]; exact HS9.out), HB9.out⟩
                case measure => omega
              | false =>
                have q0 : ((sB p0).toList == [103, 114, 111, 117, 112, 115]) = false := by rw [sB_toList]; exact e0
                cases e1 : (p0 == T.wApply) with
                | true =>
                  have q1 : ((sB p0).toList == [97, 112, 112, 108, 121]) = true := by rw [sB_toList]; exact e1
                  have HNX := Lib.hid (show T.partL t g (k + 1) = T.partL t g k from HPOUT.out (by rw [HIN.out, e0, e1]; rfl))
                  clear e0 e1
                  go_wp2
                  go_roundg (lp - (k + 1))
                  case rel => exact ⟨k + 1, y, ly, A9, c9, (by show _ = _; omega), by go_num, rfl, HY.out, HN9.out, HC9.out, (by exact HS9S.out), (by rw [HNX.out]; exact HS9.out), HB9.out⟩
                  case measure => omega
                | false =>
                  have q1 : ((sB p0).toList == [97, 112, 112, 108, 121]) = false := by rw [sB_toList]; exact e1
                  have HIN2 := Lib.hid (show T.inhB (T.expL t) p = !(decide (1 < pn) && !(T.underW x p.dropLast).isEmpty) by rw [HIN.out, e0, e1]; rfl)
                  clear e0 e1
                  by_cases h1 : 1 < pn
                  · obtain ⟨q, rfl⟩ : ∃ q, pn = q + 1 := ⟨pn - 1, by omega⟩
                    have d1 : decide ((1 : Int) < (q : Int) + 1) = true := decide_eq_true (by omega)
                    have d1b : decide (1 < q + 1) = true := decide_eq_true h1
                    have HTK := Lib.hid (show (p.take q).length = q by rw [List.length_take, HPN.out]; omega)
                    have HST := Lib.hid (show Seen eS wr (some ⟨bp, op, none⟩) (p.take q) from ((PtK.take (k := 0) (A := some ⟨bp, op, none⟩) (n := q + 1) (c := pc) ⟨HPS.out, fun _ _ => Nat.zero_le _⟩ q (by omega)).pt.seen))
                    have HIN3 := Lib.hid (show T.inhB (T.expL t) p = (T.underW x (p.take q)).isEmpty by
                      rw [HIN2.out, decide_eq_true h1, Bool.true_and, Bool.not_not, List.dropLast_eq_take, HPN.out, Nat.add_sub_cancel])
                    obtain ⟨uw, huw⟩ : ∃ l, T.underW x (p.take q) = l := ⟨_, rfl⟩
                    obtain ⟨lu, hlu⟩ : ∃ k, uw.length = k := ⟨_, rfl⟩
                    have HUW := Lib.hid huw
                    have HLU := Lib.hid hlu
                    have hqc : (q : Int) ≤ (pc : Int) := by omega
                    have hwq1 : wrap64 ((q : Int) + 1 - 1) = (q : Int) := by rw [show (q : Int) + 1 - 1 = (q : Int) by omega]; exact Go.IntWalk.wrap64_in _ (by omega)
                    clear huw hlu h1
                    go_wp2_with fail
                    refine (underR12 A1 c1 lx x (some ⟨bp, op, none⟩) pc q (p.take q) _ HLX.out HTK.out (HX5.out.below HB9.out) HST.out (by omega) (by omega) HRX.out).mono ?_
                    rintro e w8 ⟨A8, c8, rfl, hc8, hs8, hb8⟩
                    rw [HUW.out, HLU.out]
                    have HB8 := Lib.hid hb8
                    have HB98 := Lib.hid (HB9.out.trans (hb8.mono HB9.out.size))
                    clear hc8 hs8 hb8
                    by_cases h0 : 0 < lu
                    · have d0 : decide ((0 : Int) < (lu : Int)) = true := decide_eq_true (by omega)
                      have d0b : decide (0 < lu) = true := decide_eq_true h0
                      have HNX := Lib.hid (show T.partL t g (k + 1) = T.partL t g k from HPOUT.out (by
                        rw [HIN3.out, HUW.out]
                        cases hq : uw.isEmpty with
                        | false => rfl
                        | true => rw [List.isEmpty_iff] at hq; have := HLU.out; rw [hq] at this; simp at this; omega))
                      clear h0
                      go_wp2
                      go_roundg (lp - (k + 1))
                      case rel => exact ⟨k + 1, y, ly, A9, c9, (by show _ = _; omega), by go_num, rfl, HY.out, HN9.out, HC9.out, (by exact HS9S.out.below HB8.out), (by rw [HNX.out]; exact HS9.out), HB98.out⟩
                      case measure => omega
                    · have d0 : decide ((0 : Int) < (lu : Int)) = false := decide_eq_false (by omega)
                      have d0b : decide (0 < lu) = false := decide_eq_false h0
                      have HINH := Lib.hid (show T.inhB (T.expL t) p = true by
                        rw [HIN3.out, HUW.out, List.isEmpty_iff]
                        exact List.eq_nil_of_length_eq_zero (by rw [HLU.out]; omega))
                      clear h0
                      rcases fit_add HS9.out.right HFIT.out with ⟨h2, hadd⟩ | ⟨h2, hadd⟩
                      · have HADD := Lib.hid hadd
                        have HNX := Lib.hid (show T.SoFar t (T.headL t i ++ T.partL t g (k + 1)) (T.addL y p) by
                          rw [HPIN.out HINH.out, ← List.append_assoc]
                          exact HS9.out.add HFIT.out h2)
                        clear h2 hadd
                        go_wp2_with fail
                        refine (ref_addN A9 (some ⟨bp, op, none⟩) c9 pc ly (q + 1) y (T.addL y p) p 0 _ HY.out HPN.out (HS9S.out.below HB8.out) (HPS.out.seen.below HB8.out) HN9.out HC9.out hpc (by have := HY.out; have := HS9.out.right.len; omega) (by omega) HADD.out).mono ?_
                        rintro e wz ⟨Az, cz, rfl, hsz, hbz, hcz, hnz⟩
                        obtain ⟨lz, hlz⟩ : ∃ j, (T.addL y p).length = j := ⟨_, rfl⟩
                        rw [hlz] at hcz ⊢
                        have HZL := Lib.hid hlz
                        have HZS := Lib.hid hsz
                        have HZC := Lib.hid hcz
                        have HZN := Lib.hid hnz
                        have HZB := Lib.hid (HB98.out.trans (hbz.mono HB98.out.size))
                        clear hlz hsz hbz hcz hnz
                        go_wp2
                        go_roundg (lp - (k + 1))
                        case rel => exact ⟨k + 1, T.addL y p, lz, Az, cz, (by show _ = _; omega), by go_num, rfl, HZL.out, HZN.out, HZC.out, HZS.out, HNX.out, HZB.out⟩
                        case measure => omega
                      · have HADD := Lib.hid hadd
                        have HEX := Lib.hid (show u = [] ∧ er = 5 by
                          have h3 := HFAIL.out HINH.out HS9.out h2
                          rw [HE.out] at h3
                          exact ⟨congrArg Prod.fst h3, congrArg Prod.snd h3⟩)
                        obtain ⟨rfl, rfl⟩ := HEX.out
                        clear h2 hadd
                        go_wp2_with fail
                        refine (ref_addN A9 (some ⟨bp, op, none⟩) c9 pc ly (q + 1) y y p 5 _ HY.out HPN.out (HS9S.out.below HB8.out) (HPS.out.seen.below HB8.out) HN9.out HC9.out hpc (by have := HY.out; have := HS9.out.right.len; omega) (by omega) HADD.out).mono ?_
                        rintro e wz ⟨Az, cz, rfl, hsz, hbz, hcz, hnz⟩
                        have HZB := Lib.hid (HB98.out.trans (hbz.mono HB98.out.size))
                        obtain ⟨lz, hlz⟩ : ∃ j, y.length = j := ⟨_, rfl⟩
                        rw [hlz]
                        clear hsz hbz hcz hnz hlz
                        go_wp2
                        go_ret2
                        exact ⟨none, 0, rfl, Nat.le_refl _, (fun _ => rfl), Seen.nil, HBP.out.trans (HZB.out.mono HBP.out.size)⟩
                  · have d1 : decide ((1 : Int) < (pn : Int)) = false := decide_eq_false (by omega)
                    have d1b : decide (1 < pn) = false := decide_eq_false h1
                    have HINH := Lib.hid (show T.inhB (T.expL t) p = true by rw [HIN2.out, d1b]; rfl)
                    clear h1
                    rcases fit_add HS9.out.right HFIT.out with ⟨h2, hadd⟩ | ⟨h2, hadd⟩
                    · have HADD := Lib.hid hadd
                      have HNX := Lib.hid (show T.SoFar t (T.headL t i ++ T.partL t g (k + 1)) (T.addL y p) by
                        rw [HPIN.out HINH.out, ← List.append_assoc]
                        exact HS9.out.add HFIT.out h2)
                      clear h2 hadd
                      go_wp2_with fail
                      refine (ref_addN A9 (some ⟨bp, op, none⟩) c9 pc ly pn y (T.addL y p) p 0 _ HY.out HPN.out HS9S.out HPS.out.seen HN9.out HC9.out hpc (by have := HY.out; have := HS9.out.right.len; omega) (by omega) HADD.out).mono ?_
                      rintro e wz ⟨Az, cz, rfl, hsz, hbz, hcz, hnz⟩
                      obtain ⟨lz, hlz⟩ : ∃ j, (T.addL y p).length = j := ⟨_, rfl⟩
                      rw [hlz] at hcz ⊢
                      have HZL := Lib.hid hlz
                      have HZS := Lib.hid hsz
                      have HZC := Lib.hid hcz
                      have HZN := Lib.hid hnz
                      have HZB := Lib.hid (HB9.out.trans (hbz.mono HB9.out.size))
                      clear hlz hsz hbz hcz hnz
                      go_wp2
                      go_roundg (lp - (k + 1))
                      case rel => exact ⟨k + 1, T.addL y p, lz, Az, cz, (by show _ = _; omega), by go_num, rfl, HZL.out, HZN.out, HZC.out, HZS.out, HNX.out, HZB.out⟩
                      case measure => omega
                    · have HADD := Lib.hid hadd
                      have HEX := Lib.hid (show u = [] ∧ er = 5 by
                        have h3 := HFAIL.out HINH.out HS9.out h2
                        rw [HE.out] at h3
                        exact ⟨congrArg Prod.fst h3, congrArg Prod.snd h3⟩)
                      obtain ⟨rfl, rfl⟩ := HEX.out
                      clear h2 hadd
                      go_wp2_with fail
                      refine (ref_addN A9 (some ⟨bp, op, none⟩) c9 pc ly pn y y p 5 _ HY.out HPN.out HS9S.out HPS.out.seen HN9.out HC9.out hpc (by have := HY.out; have := HS9.out.right.len; omega) (by omega) HADD.out).mono ?_
                      rintro e wz ⟨Az, cz, rfl, hsz, hbz, hcz, hnz⟩
                      have HZB := Lib.hid (HB9.out.trans (hbz.mono HB9.out.size))
                      obtain ⟨lz, hlz⟩ : ∃ j, y.length = j := ⟨_, rfl⟩
                      rw [hlz]
                      clear hsz hbz hcz hnz hlz
                      go_wp2
                      go_ret2
                      exact ⟨none, 0, rfl, Nat.le_refl _, (fun _ => rfl), Seen.nil, HBP.out.trans (HZB.out.mono HBP.out.size)⟩
            · have bk : decide ((k : Int) < (lp : Int)) = false := decide_eq_false (by omega)
              have bk2 : decide (k < lp) = false := decide_eq_false hk
              have HNX := Lib.hid (show T.SoFar t (T.headL t (i + 1)) y by
                rw [HHN.out, show (T.pathsA t g).length = k by rw [HLP.out]; omega]; exact HS9.out)
              have HBN := Lib.hid (HB5.out.trans (HB9.out.mono HB5.out.size))
              go_wp2
              go_roundg (ln - (i + 1))
              case rel => exact ⟨i + 1, y, ly, A9, c9, (by show _ = _; omega), by go_num, rfl, HY.out, HN9.out, HC9.out, HS9S.out, HNX.out, HBN.out⟩
              case measure => omega
        · have blt : decide ((i : Int) < (ln : Int)) = false := decide_eq_false (by omega)
          have blt2 : decide (i < ln) = false := decide_eq_false hlt
          have HEX := Lib.hid (show u = y ∧ er = 0 by
            have h := HS9.out
            rw [show i = (T.appL t).length by rw [HLS.out, HLN.out]; omega] at h
            have h3 := h.done HMI.out
            rw [HE.out] at h3
            exact ⟨congrArg Prod.fst h3, congrArg Prod.snd h3⟩)
          obtain ⟨rfl, rfl⟩ := HEX.out
          go_wp2
          go_ret2
          exact ⟨A9, c9, by rw [HY.out]; rfl, by rw [HY.out]; exact HC9.out, HN9.out, HS9S.out, HBZ.out⟩
end Go.Proofs.Ytkifapbiimlafaa
