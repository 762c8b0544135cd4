/-
  Layer 12's code does what the document says (GroupsOk): Active, Explicit, Paths, Expand. Condition: at most 200 lines.
-/
import Derived.Test.YtkifapbiimlafaaGroupH
namespace Go.Proofs.Ytkifapbiimlafaa
open Go.RowKit
set_option linter.unusedVariables false

theorem own_arg12 {w : World} {base m : Nat} {v : Value} {u : List T.Ln} (h : Own eL w base v u) (hm : u.length = m) (hl : m ≤ 200) : ∃ B d, v = .slice B m d ∧ LArg w B d m u := by
  obtain ⟨A, c, rfl, hc, hn, hs⟩ := Own.made h
  subst hm
  exact ⟨A, c, rfl, rfl, hl, hc, hn, hs⟩
theorem active_made (A : Option Addr) (c n m : Nat) (t u : List T.Ln) (er : Int) (w : World) (h : LArg w A c n t) (hu : ActiveIs t u er) (hm : u.length = m) : Calls Try.prog 12 #[.slice A n c] w (MadeE w m u er) := by
  have hl := active_len hu
  rw [hm] at hl
  refine (active_ok A c n m t u er w h hu hm).mono ?_
  rintro e w' ⟨v, rfl, ho, hb⟩
  obtain ⟨B, d, rfl, hL⟩ := own_arg12 ho hm hl
  exact ⟨B, d, rfl, hL, hb⟩
theorem explicitOf_made (A : Option Addr) (c n m : Nat) (a x : List T.Ln) (w : World) (h : LArg w A c n a) (hR : T.RightT a) (hx : T.leftTo a T.grpF a.length = x) (hm : x.length = m) (hl : m ≤ 200) :
    Calls Try.prog 35 #[.slice A n c] w (fun e w' => ∃ B d, e = .returned (.slice B m d) ∧ LArg w' B d m x ∧ Below w.heap.size w w') := by
  refine (explicitOf_any A c n a x w h.len h.seen h.small hR hx).mono ?_
  rintro e w' ⟨v, rfl, ho, hb⟩
  obtain ⟨B, d, rfl, hL⟩ := own_arg12 ho hm hl
  exact ⟨B, d, rfl, hL, hb⟩
set_option maxRecDepth 100000 in
set_option maxHeartbeats 4000000 in
theorem explicit_made (A : Option Addr) (c n m : Nat) (t u : List T.Ln) (er : Int) (w : World) (h : LArg w A c n t) (hu : ExplicitIs t u er) (hm : u.length = m) : Calls Try.prog 13 #[.slice A n c] w (MadeE w m u er) := by
  have hl := explicit_len hu
  rw [hm] at hl
  have HA := Lib.hid h
  have HM := Lib.hid hm
  clear h hm
  by_cases hR : T.RightT t
  · obtain ⟨rfl, rfl⟩ : u = T.expL t ∧ er = 0 := by
      rcases hu with ⟨_, h1, h2⟩ | ⟨h0, _, _⟩
      · exact ⟨h1, h2⟩
      · exact absurd hR h0
    obtain ⟨a, ha⟩ : ∃ z, T.actL t = z := ⟨_, rfl⟩
    obtain ⟨x, hx⟩ : ∃ z, T.expL t = z := ⟨_, rfl⟩
    have HAI := Lib.hid (show ActiveIs t a 0 from .inl ⟨hR, ha.symm, rfl⟩)
    have HRA := Lib.hid (show T.RightT a by rw [← ha]; exact T.act_right hR)
    have HXI := Lib.hid (show T.leftTo a T.grpF a.length = x by rw [← ha, ← hx]; exact T.explicit_left hR)
    rw [hx] at HM ⊢
    obtain ⟨an, han⟩ : ∃ z, a.length = z := ⟨_, rfl⟩
    have HAN := Lib.hid han
    clear hu hR ha hx han
    go_enter Try.func13, Try.ntmps13
    go_wp2_with fail
    refine (active_made A c n an t a 0 _ HA.out HAI.out HAN.out).mono ?_
    rintro e w1 ⟨B1, d1, rfl, h1, hb1⟩
    have H1 := Lib.hid h1
    have HB1 := Lib.hid hb1
    clear h1 hb1
    go_wp2_with fail
    refine (explicitOf_made B1 d1 an m a x _ H1.out HRA.out HXI.out HM.out hl).mono ?_
    rintro e w2 ⟨B2, d2, rfl, h2, hb2⟩
    have H2 := Lib.hid h2
    have HB2 := Lib.hid (HB1.out.trans (hb2.mono HB1.out.size))
    clear h2 hb2
    go_wp2
    go_ret2
    exact ⟨B2, d2, rfl, H2.out, HB2.out⟩
  · obtain ⟨rfl, rfl⟩ : u = [] ∧ er = 1 := by
      rcases hu with ⟨h0, _, _⟩ | ⟨_, h1, h2⟩
      · exact absurd h0 hR
      · exact ⟨h1, h2⟩
    have HAI := Lib.hid (show ActiveIs t [] 1 from .inr ⟨hR, rfl, rfl⟩)
    obtain rfl : m = 0 := HM.out.symm
    clear hu hR
    go_enter Try.func13, Try.ntmps13
    go_wp2_with fail
    refine (active_made A c n 0 t [] 1 _ HA.out HAI.out rfl).mono ?_
    rintro e w1 ⟨B1, d1, rfl, h1, hb1⟩
    have HB1 := Lib.hid hb1
    clear h1 hb1
    go_wp2
    go_ret2
    exact ⟨none, 0, rfl, ⟨rfl, by omega, Nat.le_refl _, fun _ => rfl, Seen.nil⟩, HB1.out⟩
set_option maxRecDepth 100000 in
set_option maxHeartbeats 4000000 in
theorem paths_made (A : Option Addr) (c n m : Nat) (t : List T.Ln) (g : List UInt8) (L : List T.Pth) (er : Int) (w : World) (h : LArg w A c n t) (hg : g.length ≤ 100) (hP : PathsAre t g L er) (hm : L.length = m) : Calls Try.prog 19 #[.slice A n c, .string (sB g)] w (fun e w' => ∃ B d, e = .returned (.tuple #[.slice B m d, .int .i64 er]) ∧ ManyQ w' w.heap.size (.slice B m d) L ∧ Below w.heap.size w w') := by
  have HA := Lib.hid h
  have HM := Lib.hid hm
  have HG := Lib.hid hg
  clear h hm hg
  by_cases hR : T.RightT t
  · have hP : PathsIs t g L er := by
      rcases hP with ⟨_, h⟩ | ⟨h0, _, _⟩
      · exact h
      · exact absurd hR h0
    obtain ⟨a, ha⟩ : ∃ z, T.actL t = z := ⟨_, rfl⟩
    obtain ⟨x, hx⟩ : ∃ z, T.expL t = z := ⟨_, rfl⟩
    have HPI := Lib.hid (show (T.isIn a [T.wGroups, g] ∧ T.pathsL a x g = L ∧ er = 0) ∨ (¬ T.isIn a [T.wGroups, g] ∧ L = [] ∧ er = 3) by
      rcases hP with ⟨h1, h2, h3⟩ | ⟨h1, h2, h3⟩
      · exact .inl ⟨by rw [← ha]; exact T.inB_yes.1 h1, by rw [h2, ← ha, ← hx]; rfl, h3⟩
      · exact .inr ⟨(fun h => by rw [← ha] at h; rw [T.inB_yes.2 h] at h1; cases h1), h2, h3⟩)
    have HAI := Lib.hid (show ActiveIs t a 0 from .inl ⟨hR, ha.symm, rfl⟩)
    have hRA : T.RightT a := by rw [← ha]; exact T.act_right hR
    have hRX : T.RightT x := by rw [← hx]; exact T.exp_right hR
    have HRA := Lib.hid hRA
    have HRX := Lib.hid hRX
    have HXI := Lib.hid (show T.leftTo a T.grpF a.length = x by rw [← ha, ← hx]; exact T.explicit_left hR)
    obtain ⟨an, han⟩ : ∃ z, a.length = z := ⟨_, rfl⟩
    obtain ⟨xn, hxn⟩ : ∃ z, x.length = z := ⟨_, rfl⟩
    have HAN := Lib.hid han
    have HXN := Lib.hid hxn
    have han2 : an ≤ 200 := by rw [← han]; exact hRA.len
    have hxn2 : xn ≤ 200 := by rw [← hxn]; exact hRX.len
    clear hP hR ha hx han hxn hRA hRX
    go_enter Try.func19, Try.ntmps19
    go_wp2_with fail
    refine (active_made A c n an t a 0 _ HA.out HAI.out HAN.out).mono ?_
    rintro e w1 ⟨B1, d1, rfl, h1, hb1⟩
    have H1 := Lib.hid h1
    have HB1 := Lib.hid hb1
    clear h1 hb1
    go_wp2_with fail
    refine (explicitOf_made B1 d1 an xn a x _ H1.out HRA.out HXI.out HXN.out hxn2).mono ?_
    rintro e w2 ⟨B2, d2, rfl, h2, hb2⟩
    have H2 := Lib.hid h2
    have HB2 := Lib.hid (HB1.out.trans (hb2.mono HB1.out.size))
    replace H1 := Lib.hid (H1.out.below hb2)
    clear h2 hb2
    go_wp2_with fail
    refine (codePaths12 B1 B2 d1 d2 an xn m a x g L er _ HAN.out H1.out.seen han2 HRA.out HXN.out H2.out.seen hxn2 HRX.out HG.out HPI.out HM.out).mono ?_
    rintro e w3 ⟨B3, d3, rfl, h3, hb3⟩
    have H3 := Lib.hid (h3.less HB2.out.size)
    have HB3 := Lib.hid (HB2.out.trans (hb3.mono HB2.out.size))
    clear h3 hb3
    go_wp2
    go_ret2
    exact ⟨B3, d3, rfl, H3.out, HB3.out⟩
  · obtain ⟨rfl, rfl⟩ : L = [] ∧ er = 1 := by
      rcases hP with ⟨h0, _⟩ | ⟨_, h1, h2⟩
      · exact absurd h0 hR
      · exact ⟨h1, h2⟩
    have HAI := Lib.hid (show ActiveIs t [] 1 from .inr ⟨hR, rfl, rfl⟩)
    obtain rfl : m = 0 := HM.out.symm
    clear hP hR
    go_enter Try.func19, Try.ntmps19
    go_wp2_with fail
    refine (active_made A c n 0 t [] 1 _ HA.out HAI.out rfl).mono ?_
    rintro e w1 ⟨B1, d1, rfl, h1, hb1⟩
    have HB1 := Lib.hid hb1
    clear h1 hb1
    go_wp2
    go_ret2
    exact ⟨none, 0, rfl, ManyQ.nil _ _, HB1.out⟩
theorem nil_made {w : World} : LArg w none 0 0 [] := ⟨rfl, by omega, Nat.le_refl _, fun _ => rfl, Seen.nil⟩
theorem add_is_long {t : List T.Ln} {p : T.Pth} (h1 : T.FitP p) (h3 : T.RightT t) (h5 : ¬ (T.addL t p).length ≤ 200) : AddIs t p t 5 :=
  .inr ⟨⟨h1.pos, longB_of h1.long, h3⟩, .inr ⟨by have := h1.deep; omega, .inl ⟨by omega, rfl, rfl⟩⟩⟩
set_option maxRecDepth 100000 in
set_option maxHeartbeats 16000000 in
theorem expand_made (A : Option Addr) (c n m : Nat) (t u : List T.Ln) (er : Int) (w : World) (h : LArg w A c n t) (hu : ExpandIs t u er) (hm : u.length = m) : Calls Try.prog 18 #[.slice A n c] w (MadeE w m u er) := by
  have hl := expand_len hu
  rw [hm] at hl
  have HA := Lib.hid h
  have HM := Lib.hid hm
  clear h hm
  by_cases hR : T.RightT t
  · have hu : T.expandL t = (u, er) := by
      rcases hu with ⟨_, h⟩ | ⟨h0, _, _⟩
      · exact h
      · exact absurd hR h0
    have HU := Lib.hid hu
    obtain ⟨a, ha⟩ : ∃ z, T.actL t = z := ⟨_, rfl⟩
    obtain ⟨x, hx⟩ : ∃ z, T.expL t = z := ⟨_, rfl⟩
    have HAE := Lib.hid ha
    have HXE := Lib.hid hx
    have HAI := Lib.hid (show ActiveIs t a 0 from .inl ⟨hR, ha.symm, rfl⟩)
    have hRA : T.RightT a := by rw [← ha]; exact T.act_right hR
    have hRX : T.RightT x := by rw [← hx]; exact T.exp_right hR
    have HR := Lib.hid hR
    have HRA := Lib.hid hRA
    have HRX := Lib.hid hRX
    have HXI := Lib.hid (show T.leftTo a T.grpF a.length = x by rw [← ha, ← hx]; exact T.explicit_left hR)
    obtain ⟨an, han⟩ : ∃ z, a.length = z := ⟨_, rfl⟩
    obtain ⟨xn, hxn⟩ : ∃ z, x.length = z := ⟨_, rfl⟩
    have HAN := Lib.hid han
    have HXN := Lib.hid hxn
    have hxn2 : xn ≤ 200 := by rw [← hxn]; exact hRX.len
    cases hms : T.missB t with
    | true =>
      have HMS := Lib.hid hms
      have HE := Lib.hid (show u = [] ∧ er = 3 by
        have := T.expand_miss hms
        rw [hu] at this
        cases this
        exact ⟨rfl, rfl⟩)
      obtain ⟨rfl, rfl⟩ := HE.out
      obtain rfl : m = 0 := HM.out.symm
      clear hu hR ha hx han hxn hRA hRX hms
      go_enter Try.func18, Try.ntmps18
      go_wp2_with fail
      refine (active_made A c n an t a 0 _ HA.out HAI.out HAN.out).mono ?_
      rintro e w1 ⟨B1, d1, rfl, h1, hb1⟩
      have H1 := Lib.hid h1
      have HB1 := Lib.hid hb1
      clear h1 hb1
      go_wp2_with fail
      refine (explicitOf_made B1 d1 an xn a x _ H1.out HRA.out HXI.out HXN.out hxn2).mono ?_
      rintro e w2 ⟨B2, d2, rfl, h2, hb2⟩
      have H2 := Lib.hid h2
      have HB2 := Lib.hid (HB1.out.trans (hb2.mono HB1.out.size))
      replace H1 := Lib.hid (H1.out.below hb2)
      clear h2 hb2
      go_wp2_with fail
      refine (codeApplied12 B1 B2 d1 d2 an xn 0 t a x [] 3 _ HR.out HAE.out HXE.out HAN.out H1.out.seen HXN.out H2.out.seen (.inr ⟨HMS.out, rfl, rfl⟩) rfl).mono ?_
      rintro e w3 ⟨B3, d3, rfl, h3, hb3⟩
      have HB3 := Lib.hid (HB2.out.trans (hb3.mono HB2.out.size))
      clear h3 hb3
      go_wp2
      go_ret2
      exact ⟨none, 0, rfl, nil_made, HB3.out⟩
    | false =>
      have HMS := Lib.hid hms
      obtain ⟨L, hL⟩ : ∃ z, (T.appL t).flatMap (T.pathsA t) = z := ⟨_, rfl⟩
      have HLE := Lib.hid hL
      have HFL := Lib.hid (show ∀ p ∈ L, T.FitP p by
        intro p hp
        rw [← hL] at hp
        obtain ⟨g, _, hg⟩ := List.mem_flatMap.1 hp
        exact T.paths_fit hR hg)
      obtain ⟨ln, hln⟩ : ∃ z, L.length = z := ⟨_, rfl⟩
      have HLN := Lib.hid hln
      have hln2 : ln ≤ 8040000 := by
        rw [← hln, ← hL, ← T.appTo_all]
        refine T.appTo_len hR _ ?_
        unfold T.appL
        rw [ha]
        exact Nat.le_trans (T.underW_len hRA _) hRA.len
      have HIN := Lib.hid (show T.inhL t = L.filter (T.inhB x) by rw [← hL, ← hx]; rfl)
      clear hu hR ha hx han hxn hRA hRX hms hL hln
      go_enter Try.func18, Try.ntmps18
      go_wp2_with fail
      refine (active_made A c n an t a 0 _ HA.out HAI.out HAN.out).mono ?_
      rintro e w1 ⟨B1, d1, rfl, h1, hb1⟩
      have H1 := Lib.hid h1
      have HB1 := Lib.hid hb1
      clear h1 hb1
      go_wp2_with fail
      refine (explicitOf_made B1 d1 an xn a x _ H1.out HRA.out HXI.out HXN.out hxn2).mono ?_
      rintro e w2 ⟨B2, d2, rfl, h2, hb2⟩
      have H2 := Lib.hid h2
      have HB2 := Lib.hid (HB1.out.trans (hb2.mono HB1.out.size))
      replace H1 := Lib.hid (H1.out.below hb2)
      clear h2 hb2
      go_wp2_with fail
      refine (codeApplied12 B1 B2 d1 d2 an xn ln t a x L 0 _ HR.out HAE.out HXE.out HAN.out H1.out.seen HXN.out H2.out.seen (.inl ⟨HMS.out, HLE.out, rfl⟩) HLN.out).mono ?_
      rintro e w3 ⟨B3, d3, rfl, h3, hb3⟩
      have H3 := Lib.hid h3
      have HB3 := Lib.hid (HB2.out.trans (hb3.mono HB2.out.size))
      replace H2 := Lib.hid (H2.out.below hb3)
      clear h3 hb3
      go_wp2
      go_loopg [5, 8, 10, 33] ln (fun g v5 vo v10 vj wr => ∃ (j : Nat) (y : List T.Ln) (yn yc : Nat) (Y : Option Addr), Hid (j + g = ln) ∧ vj = .int .i64 (j : Int) ∧ v5 = .int .i64 0 ∧ vo = .slice Y yn yc ∧ Hid (T.addTo12 x L j = some y) ∧ Hid (LArg wr Y yc yn y) ∧ Hid (Below w3.heap.size w3 wr))
      case atStart => exact ⟨0, x, xn, d2, B2, Nat.zero_add _, rfl, rfl, rfl, T.addTo_start x L, H2.out, Below.refl _ _⟩
      case round =>
        obtain ⟨j, y, yn, yc, Y, HG, rfl, rfl, rfl, HY, HYA, HBR⟩ := hrel
        have hgk := HG.out
        by_cases hlt : j < ln
        · have blt : decide ((j : Int) < (ln : Int)) = true := decide_eq_true (by omega)
          have blt2 : decide (j < ln) = true := decide_eq_true hlt
          have hjL : j < L.length := by rw [HLN.out]; exact hlt
          have hjz : (j : Int) < (ln : Int) := by omega
          obtain ⟨bq, oq, rfl, hbq, ⟨mA, mn, mc⟩, hcell, hpt⟩ := H3.out.at_ hjL
          have kq := hcell _ HBR.out
          have HRY := Lib.hid (show T.RightT y by
            have h1 := HY.out
            rw [← HXE.out] at h1
            exact T.addTo_right HR.out HFL.out h1)
          have HFP := Lib.hid (HFL.out L[j] (List.getElem_mem hjL))
          have HOF := Lib.hid (fun (h : T.inhB x L[j] = false) => T.addTo_off hjL h)
          have HON := Lib.hid (fun (h : T.inhB x L[j] = true) (hl : (T.addL y L[j]).length ≤ 200) => T.addTo_on hjL h HY.out hl)
          have HFU := Lib.hid (fun (h : T.inhB x L[j] = true) (hl : ¬ (T.addL y L[j]).length ≤ 200) => T.addTo_full hjL h HY.out hl)
          obtain ⟨p, hp⟩ : ∃ z, L[j] = z := ⟨_, rfl⟩
          rw [hp] at hpt HFP HOF HON HFU
          have HPT := Lib.hid (hpt.pt.below HBR.out)
          have hmn0 : 0 < mn := by have := HFP.out.pos; have : p.length = mn := hpt.pt.len; omega
          have hmn14 : mn ≤ 14 := by have := HFP.out.deep; have : p.length = mn := hpt.pt.len; omega
          have hmc : mn ≤ mc := hpt.pt.cap
          have hyn := HYA.out.most
          clear hp hpt hcell hjL
          cases hi : T.inhB x p with
          | false =>
            have HNX := Lib.hid (HOF.out hi)
            have HI := Lib.hid hi
            clear hi
            go_wp2_with fail
            refine (inherited_any B2 mA d2 mc xn mn x p false _ HXN.out (H2.out.seen.below HBR.out) hxn2 HRX.out HPT.out.len HPT.out.seen hmn0 (by omega) hmc HI.out).mono ?_
            rintro e w4 ⟨rfl, hb4⟩
            have HB4 := Lib.hid (HBR.out.trans (hb4.mono HBR.out.size))
            have HY4 := Lib.hid (HYA.out.below hb4)
            clear hb4
            go_wp2
            go_roundg (ln - (j + 1))
            case rel => exact ⟨j + 1, y, yn, yc, Y, (by show _ = _; omega), by go_num, rfl, rfl, HNX.out.trans HY.out, HY4.out, HB4.out⟩
            case measure => omega
          | true =>
            have HI := Lib.hid hi
            by_cases h200 : (T.addL y p).length ≤ 200
            · have HNX := Lib.hid (HON.out hi h200)
              have HAD := Lib.hid (show AddIs y p (T.addL y p) 0 from AddIs.ok HFP.out.pos HFP.out.long HRY.out (by have := HFP.out.deep; omega) h200)
              obtain ⟨z, hz⟩ : ∃ z, T.addL y p = z := ⟨_, rfl⟩
              rw [hz] at HNX HAD h200
              obtain ⟨zn, hzn⟩ : ∃ k, z.length = k := ⟨_, rfl⟩
              have HZN := Lib.hid hzn
              rw [hzn] at h200
              clear hi hz hzn
              go_wp2_with fail
              refine (inherited_any B2 mA d2 mc xn mn x p true _ HXN.out (H2.out.seen.below HBR.out) hxn2 HRX.out HPT.out.len HPT.out.seen hmn0 (by omega) hmc HI.out).mono ?_
              rintro e w4 ⟨rfl, hb4⟩
              have HB4 := Lib.hid (HBR.out.trans (hb4.mono HBR.out.size))
              have HY4 := Lib.hid (HYA.out.below hb4)
              have HP4 := Lib.hid (HPT.out.below hb4)
              clear hb4
              go_wp2_with fail
              refine (lines_add Y mA yc mc yn mn y z p 0 _ HY4.out.len HP4.out.len HY4.out.seen HP4.out.seen HY4.out.nil HY4.out.cap hmc (by omega) (by omega) HAD.out).mono ?_
              rintro e w5 ⟨v5, rfl, ho5, hb5⟩
              obtain ⟨B5, d5, rfl, h5⟩ := own_arg12 ho5 HZN.out h200
              have H5 := Lib.hid h5
              have HB5 := Lib.hid (HB4.out.trans (hb5.mono HB4.out.size))
              clear ho5 hb5 h5
              go_wp2
              go_roundg (ln - (j + 1))
              case rel => exact ⟨j + 1, z, zn, d5, B5, (by show _ = _; omega), by go_num, rfl, rfl, HNX.out, H5.out, HB5.out⟩
              case measure => omega
            · have HE := Lib.hid (show u = [] ∧ er = 5 by
                have h1 := T.expand_long HMS.out (by rw [HIN.out, HXE.out]; exact HFU.out hi h200)
                rw [HU.out] at h1
                cases h1
                exact ⟨rfl, rfl⟩)
              obtain ⟨rfl, rfl⟩ := HE.out
              obtain rfl : m = 0 := HM.out.symm
              have HAD := Lib.hid (add_is_long HFP.out HRY.out h200)
              clear hi h200
              go_wp2_with fail
              refine (inherited_any B2 mA d2 mc xn mn x p true _ HXN.out (H2.out.seen.below HBR.out) hxn2 HRX.out HPT.out.len HPT.out.seen hmn0 (by omega) hmc HI.out).mono ?_
              rintro e w4 ⟨rfl, hb4⟩
              have HB4 := Lib.hid (HBR.out.trans (hb4.mono HBR.out.size))
              have HY4 := Lib.hid (HYA.out.below hb4)
              have HP4 := Lib.hid (HPT.out.below hb4)
              clear hb4
              go_wp2_with fail
              refine (lines_add Y mA yc mc yn mn y y p 5 _ HY4.out.len HP4.out.len HY4.out.seen HP4.out.seen HY4.out.nil HY4.out.cap hmc (by omega) (by omega) HAD.out).mono ?_
              rintro e w5 ⟨v5, rfl, ho5, hb5⟩
              have HB5 := Lib.hid (HB3.out.trans ((HB4.out.trans (hb5.mono HB4.out.size)).mono HB3.out.size))
              clear ho5 hb5
              go_wp2
              go_ret2
              exact ⟨none, 0, rfl, nil_made, HB5.out⟩
        · have blt : decide ((j : Int) < (ln : Int)) = false := decide_eq_false (by omega)
          have blt2 : decide (j < ln) = false := decide_eq_false hlt
          have HE := Lib.hid (show u = y ∧ er = 0 by
            have h0 := HY.out
            rw [show j = L.length by rw [HLN.out]; omega, T.addTo_all, ← HIN.out, ← HXE.out] at h0
            have h1 := T.expand_fine HMS.out h0
            rw [HU.out] at h1
            cases h1
            exact ⟨rfl, rfl⟩)
          obtain ⟨rfl, rfl⟩ := HE.out
          have hyn : yn = m := by rw [← HYA.out.len, HM.out]
          subst hyn
          go_wp2
          go_ret2
          exact ⟨Y, yc, rfl, HYA.out, HB3.out.trans (HBR.out.mono HB3.out.size)⟩
  · obtain ⟨rfl, rfl⟩ : u = [] ∧ er = 1 := by
      rcases hu with ⟨h0, _⟩ | ⟨_, h1, h2⟩
      · exact absurd h0 hR
      · exact ⟨h1, h2⟩
    have HAI := Lib.hid (show ActiveIs t [] 1 from .inr ⟨hR, rfl, rfl⟩)
    obtain rfl : m = 0 := HM.out.symm
    clear hu hR
    go_enter Try.func18, Try.ntmps18
    go_wp2_with fail
    refine (active_made A c n 0 t [] 1 _ HA.out HAI.out rfl).mono ?_
    rintro e w1 ⟨B1, d1, rfl, h1, hb1⟩
    have HB1 := Lib.hid hb1
    clear h1 hb1
    go_wp2
    go_ret2
    exact ⟨none, 0, rfl, nil_made, HB1.out⟩
theorem groups_ok : GroupsOk := ⟨active_made, explicit_made, expand_made, paths_made⟩
end Go.Proofs.Ytkifapbiimlafaa
