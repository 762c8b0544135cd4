/-
  Contract of the code's Apply (layer 8), where all goes well. Condition: at most 2^30 lines, 1024 changes.
-/
import Derived.Test.YtgjnafnmdieniaaDoorDiffN
import Derived.Test.YtgjnafnmdieniaaDoorDiffF
namespace Go.Proofs.YtgjnafnmdieniaaDoor
open Go.RowKit
set_option linter.unusedVariables false

theorem one_path {t u : List T.Ln} {c : T.Chg} (h : T.OneOk t c u) (hR : T.RightT t) : 0 < c.path.length ∧ c.path.length ≤ 16 := by
  obtain ⟨_, ⟨_, i, hi, e, _⟩ | ⟨_, _, up, wd, e, _, _, _, h16, _⟩ | ⟨_, i, hi, e, _⟩⟩ := h
  · rw [← e]; exact S.RightN.path_deep hR hi
  · rw [e]; exact ⟨by simp, h16⟩
  · rw [← e]; exact S.RightN.path_deep hR hi
theorem codeDo (base : Nat) (A : Option Addr) (b o c d n q : Nat) (t u : List T.Ln) (kd mk : Int) (P : T.Pth) (w : World) (hn : t.length = n) (hown : Own eL w base (.slice A n c) t) (hbase : base ≤ w.heap.size) (hR : T.RightT t)
    (hq : P.length = q + 1) (hb : b < w.heap.size) (hB : Holds eS w b o P) (hd : q + 1 ≤ d) (hok : T.OneOk t ⟨kd, P, mk⟩ u) :
    Calls Tryd.prog 40 #[.slice A n c, .agg #[.int .i64 kd, .slice (some ⟨b, o, none⟩) (q + 1) d, .int .i64 mk]] w (DoneS base w u) := by
  have h16 : q ≤ 15 := by
    have h := (one_path hok hR).2
    have h2 : P.length ≤ 16 := h
    omega
  obtain ⟨hm, ⟨hk, i, hi, e, hu⟩ | ⟨hk, h200, up, wd, e, ho, hno, hw, hd16, hu⟩ | ⟨hk, i, hi, e, hu⟩⟩ := hok
  · have hk1 : kd = 1 := hk
    subst hk1; subst hu
    exact codeDoGone base A b o c d n q i t P mk w hn hown hbase hR hq hb hB h16 hm hi e
  · have hk1 : kd = 2 := hk
    have e1 : P = up ++ [wd] := e
    subst hk1; subst hu; subst e1
    exact codeDoAdd base A b o c d n q t up wd mk w hn hown hbase hR (by omega) hq hb hB hd ho hno hw h16 hm
  · have hk1 : kd = 3 := hk
    subst hk1; subst hu
    exact codeDoMarked base A b o c d n q i t P mk w hn hown hbase hR hq hb hB h16 hm hi e
set_option maxRecDepth 100000 in
set_option maxHeartbeats 4000000 in
theorem diff_apply (A B : Option Addr) (c d n m : Nat) (t u : List T.Ln) (L : List T.Chg) (w : World) (hA : TArg w A c n t) (hB : CArg w B d m L) (ht : T.RightT t) (hr : T.RunOk t L u) :
    Calls Tryd.prog 18 #[.slice A n c, .slice B m d] w (ApplyS w u m) := by
  obtain ⟨hn, hl, hc, hsA, hNA⟩ := hA
  obtain ⟨hm, hl2, hc2, hsB⟩ := hB
  have hcl := cloneLn_any A c n t
  have HCL := Lib.hid (fun (W : World) (hx : Below w.heap.size w W) => hcl W hn hl (hsA.below hx) hNA)
  have HA := Lib.hid hsA
  have HB := Lib.hid hsB
  have HN := Lib.hid hn
  have HM := Lib.hid hm
  have HR := Lib.hid ht
  have HRUN := Lib.hid hr
  clear hsA hsB hn hm ht hr hNA hcl
  go_enter Tryd.func18, Tryd.ntmps18
  go_wp2_with fail
  refine (right_n A c t n _ HA.out HN.out hl HR.out).mono ?_
  rintro e w1 ⟨rfl, hx1⟩
  have HX1 := Lib.hid hx1
  clear hx1
  go_wp2_with fail
  refine (HCL.out w1 HX1.out).mono ?_
  rintro e w2 ⟨v2, rfl, hown2, hx2⟩
  have HO2 := Lib.hid (hown2.base HX1.out.size)
  have HX2 := Lib.hid (bthen HX1.out hx2)
  clear hown2 hx2
  go_wp2
  go_loopg [7, 19] m (fun gk x y wr => ∃ (k : Nat) (z : List T.Ln), Hid (k + gk = m) ∧ k ≤ m ∧ Hid (Own eL wr w.heap.size x z) ∧ Hid (T.RightT z) ∧ Hid (T.RunOk z (L.drop k) u) ∧ y = .int .i64 (k : Int) ∧ Below w.heap.size w wr)
  case atStart => exact ⟨0, t, Nat.zero_add _, Nat.zero_le _, HO2, HR, HRUN, rfl, HX2.out⟩
  case round =>
    obtain ⟨k, z, HG, hk, HO, HRZ, HRZN, rfl, hbr⟩ := hrel
    by_cases hlt : k < m
    · have blt : decide ((k : Int) < (m : Int)) = true := decide_eq_true (by omega)
      have blt2 : decide (k < m) = true := decide_eq_true hlt
      have hkL : k < L.length := by have := HM.out; omega
      have hrun := HRZN.out
      rw [List.drop_eq_getElem_cons hkL] at hrun
      obtain ⟨z2, hone, hrest⟩ := hrun
      obtain ⟨p1, p2⟩ := one_path hone HRZ.out
      obtain ⟨b, o, B2, c3, nn, rfl, hpn, hnc, hat⟩ := HB.out.atD hkL
      obtain ⟨x, hx⟩ : ∃ x, L[k] = x := ⟨_, rfl⟩
      rw [hx] at hone p1 p2 hpn hat
      obtain ⟨kd, P, mk⟩ := x
      simp only at p1 p2 hpn hat
      obtain ⟨x0, x1, x2, hPs0⟩ := hat _ hbr
      obtain ⟨pb, po, rfl, hpb, hPH⟩ := hPs0 p1
      obtain ⟨q, rfl⟩ : ∃ q, nn = q + 1 := ⟨nn - 1, by omega⟩
      have HRZ2 := Lib.hid (hone.right HRZ.out)
      have HREST := Lib.hid hrest
      obtain ⟨A1, cz, e1, hcz, _⟩ := HO.out.seen
      obtain ⟨nz, hnz⟩ : ∃ nz, z.length = nz := ⟨_, rfl⟩
      rw [hnz] at e1 hcz
      subst e1
      have hxa := (Below.refl wr.heap.size wr).alloc (Nat.le_refl _) (.cells #[.int .i64 kd, .slice (some ⟨pb, po, none⟩) (q + 1) c3, .int .i64 mk] 41)
      have HXA := Lib.hid (bthen hbr hxa)
      have hdo := codeDo w.heap.size A1 pb po cz c3 nz q z z2 kd mk P (wr.alloc (.cells #[.int .i64 kd, .slice (some ⟨pb, po, none⟩) (q + 1) c3, .int .i64 mk] 41)) hnz (HO.out.keep hxa) HXA.out.size HRZ.out hpn (Nat.lt_of_lt_of_le hpb hxa.size) (hPH.below hxa hpb) hnc hone
      have HDO := Lib.hid hdo
      have hki : (k : Int) < (m : Int) := by omega
      have hgk := HG.out
      clear hx hat hPH hpn hone hrest hdo hxa hPs0 p1 p2 hnz HO
      go_wp2_with fail
      refine HDO.out.mono ?_
      rintro e w4 ⟨v4, rfl, hown4, hx4⟩
      have HO4 := Lib.hid hown4
      have HX4 := Lib.hid (HXA.out.trans hx4)
      clear hown4 hx4
      go_wp2
      go_roundg (m - (k + 1))
      case rel => exact ⟨k + 1, z2, (by show _ = _; omega), by omega, HO4, HRZ2, HREST, by go_num, HX4.out⟩
      case measure => omega
    · have blt : decide ((k : Int) < (m : Int)) = false := decide_eq_false (by omega)
      have blt2 : decide (k < m) = false := decide_eq_false hlt
      obtain rfl : m = k := by omega
      have hend := HRZN.out
      rw [List.drop_eq_nil_of_le (by rw [HM.out]; exact Nat.le_refl _)] at hend
      have hzu : z = u := hend
      subst hzu
      obtain ⟨A1, cz, e1, hcz, hs1⟩ := HO.out.seen
      have hN1 : NilOk A1 cz := by
        have h := HO.out
        rw [e1] at h
        exact Own.nilOk h
      obtain ⟨nz, hnz⟩ : ∃ nz, z.length = nz := ⟨_, rfl⟩
      rw [hnz] at e1 hcz
      subst e1
      have HNZ := Lib.hid hnz
      have HS1 := Lib.hid hs1
      have HN1 := Lib.hid hN1
      clear hs1 hN1 hend hnz HO
      go_wp2
      go_ret3
      exact ⟨A1, cz, by rw [HNZ.out]; rfl, HS1.out, by rw [HNZ.out]; exact hcz, HN1.out, hbr⟩
end Go.Proofs.YtgjnafnmdieniaaDoor
