/-
  The walk of layer 16's statement PatchChain, from what patch does: it returns true whatever comes in. No conditions.
-/
import Derived.Test.YtpkhnchbamjgjaaBase5
namespace Go.Proofs.Ytpkhnchbamjgjaa
open Go.RowKit
set_option linter.unusedVariables false

set_option maxRecDepth 100000 in
set_option maxHeartbeats 8000000 in
theorem patchChain_walk (E : PatchOk) (AW : ∀ w, Calls Try.prog 11 #[] w (TrueS w)) (w : World) (A : Option Addr) (c : Nat) (a : List H.En) (hc : a.length ≤ c) (hA : Seen eEc w A a) (hlA : a.length ≤ maxLen) (B : Option Addr) (d : Nat) (b : List H.En) (hd : b.length ≤ d) (hB : Seen eEc w B b) (hlB : b.length ≤ maxLen) (F : Option Addr) (f : Nat) (z : List H.En) (hf : z.length ≤ f) (hF : Seen eEc w F z) (hlF : z.length ≤ maxLen) :
    Calls Try.prog 8 #[.slice A a.length c, .slice B b.length d, .slice F z.length f] w (TrueS w) := by
  unfold maxLen at hlA hlB hlF
  obtain ⟨n, hnn⟩ : ∃ n, a.length = n := ⟨_, rfl⟩
  obtain ⟨m, hnm⟩ : ∃ n, b.length = n := ⟨_, rfl⟩
  obtain ⟨k, hnk⟩ : ∃ n, z.length = n := ⟨_, rfl⟩
  rw [hnn] at hc hlA ⊢
  rw [hnm] at hd hlB ⊢
  rw [hnk] at hf hlF ⊢
  have HNn := Lib.hid hnn
  have HNm := Lib.hid hnm
  have HNk := Lib.hid hnk
  have hb : Below w.heap.size w w := Below.refl _ _
  have HA := Lib.hid (hA.below hb)
  have HB := Lib.hid (hB.below hb)
  have HF := Lib.hid (hF.below hb)
  clear hnn hnm hnk hA hB hF
  go_enter Try.func8, Try.ntmps8
  go_wp2_with fail
  refine (few16 A c n a _ HNn.out HA.out (by omega)).mono ?_
  rintro e w1 ⟨f1, rfl, hf1, hx⟩
  replace HA := Lib.hid (HA.out.below hx)
  replace HB := Lib.hid (HB.out.below hx)
  replace HF := Lib.hid (HF.out.below hx)
  replace hb := bthen hb hx
  clear hx
  cases f1 with
  | false =>
    go_wp2_with fail
    refine (AW _).mono ?_
    rintro e wz ⟨rfl, hx⟩
    go_wp2
    go_ret
    exact ⟨rfl, bthen hb hx⟩
  | true =>
  obtain ⟨h601, hl1⟩ := hf1 rfl
  have HF1 := Lib.hid hl1
  clear hf1 hl1
  go_wp2_with fail
  refine (few16 B d m b _ HNm.out HB.out (by omega)).mono ?_
  rintro e w2 ⟨f2, rfl, hf2, hx⟩
  replace HA := Lib.hid (HA.out.below hx)
  replace HB := Lib.hid (HB.out.below hx)
  replace HF := Lib.hid (HF.out.below hx)
  replace hb := bthen hb hx
  clear hx
  cases f2 with
  | false =>
    go_wp2_with fail
    refine (AW _).mono ?_
    rintro e wz ⟨rfl, hx⟩
    go_wp2
    go_ret
    exact ⟨rfl, bthen hb hx⟩
  | true =>
  obtain ⟨h602, hl2⟩ := hf2 rfl
  have HF2 := Lib.hid hl2
  clear hf2 hl2
  go_wp2_with fail
  refine (few16 F f k z _ HNk.out HF.out (by omega)).mono ?_
  rintro e w3 ⟨f3, rfl, hf3, hx⟩
  replace HA := Lib.hid (HA.out.below hx)
  replace HB := Lib.hid (HB.out.below hx)
  replace HF := Lib.hid (HF.out.below hx)
  replace hb := bthen hb hx
  clear hx
  cases f3 with
  | false =>
    go_wp2_with fail
    refine (AW _).mono ?_
    rintro e wz ⟨rfl, hx⟩
    go_wp2
    go_ret
    exact ⟨rfl, bthen hb hx⟩
  | true =>
  obtain ⟨h603, hl3⟩ := hf3 rfl
  have HF3 := Lib.hid hl3
  clear hf3 hl3
  have GA := Lib.hid (earg16 HNn.out h601 HF1.out hc HA.out)
  have GB := Lib.hid (earg16 HNm.out h602 HF2.out hd HB.out)
  have GF := Lib.hid (earg16 HNk.out h603 HF3.out hf HF.out)
  have HCH := Lib.hid (Pt.chain a b z)
  obtain ⟨x1x, hx1x⟩ : ∃ x, Pt.lessE a b = x := ⟨_, rfl⟩
  obtain ⟨y1x, hy1x⟩ : ∃ x, Pt.lessE b a = x := ⟨_, rfl⟩
  obtain ⟨p1x, hp1x⟩ : ∃ m, x1x.length = m := ⟨_, rfl⟩
  obtain ⟨q1x, hq1x⟩ : ∃ m, y1x.length = m := ⟨_, rfl⟩
  have HX1x := Lib.hid hx1x
  have HY1x := Lib.hid hy1x
  have HP1x := Lib.hid hp1x
  have HQ1x := Lib.hid hq1x
  have hp1xb : p1x ≤ n := by have := Pt.less_len a b; rw [hx1x, hp1x, GA.out.len] at this; exact this
  have hq1xb : q1x ≤ m := by have := Pt.less_len b a; rw [hy1x, hq1x, GB.out.len] at this; exact this
  have HFX1x := Lib.hid (show ∀ y ∈ x1x, Fit16 y by rw [← hx1x]; exact less_fit GA.out.fits)
  have HFY1x := Lib.hid (show ∀ y ∈ y1x, Fit16 y by rw [← hy1x]; exact less_fit GB.out.fits)
  clear hx1x hy1x hp1x hq1x
  go_wp2_with fail
  refine (E.ofOf A B c d n m p1x q1x a b x1x y1x _ GA.out GB.out HX1x.out HY1x.out HP1x.out HQ1x.out).mono ?_
  rintro e w4 ⟨D1x, dc1x, P1x, pc1x, rfl, hdc1x, hpc1x, hsd1x, hsp1x, hx⟩
  have hmx1x := GA.out.most
  have hmy1x := GB.out.most
  have GD1x := Lib.hid (show EArg16 w4 D1x dc1x p1x x1x from ⟨HP1x.out, by omega, HFX1x.out, hdc1x, hsd1x⟩)
  have GP1x := Lib.hid (show EArg16 w4 P1x pc1x q1x y1x from ⟨HQ1x.out, by omega, HFY1x.out, hpc1x, hsp1x⟩)
  clear hsd1x hsp1x hmx1x hmy1x
  replace GA := Lib.hid (earg16_below GA.out hx)
  replace GB := Lib.hid (earg16_below GB.out hx)
  replace GF := Lib.hid (earg16_below GF.out hx)
  replace hb := bthen hb hx
  clear hx
  obtain ⟨s1s, hs1s⟩ : ∃ x, Pt.applyE a x1x y1x = x := ⟨_, rfl⟩
  have HS1s := Lib.hid hs1s
  have HFS1s := Lib.hid (show ∀ y ∈ s1s, Fit16 y by rw [← hs1s]; exact apply_fit GA.out.fits GP1x.out.fits)
  obtain ⟨m1s, hm1s⟩ : ∃ m, s1s.length = m := ⟨_, rfl⟩
  have HM1s := Lib.hid hm1s
  have hm1sb : m1s ≤ n + q1x := by have := apply_is (d := x1x) GA.out.len GP1x.out.len; rw [hs1s, hm1s] at this; exact this
  clear hs1s hm1s
  go_wp2_with fail
  refine (E.applyOf A D1x P1x c dc1x pc1x n p1x q1x m1s a x1x y1x s1s _ GA.out GD1x.out GP1x.out HS1s.out HM1s.out).mono ?_
  rintro e w5 ⟨B1s, b1s, rfl, hb1s, hsb1s, hx⟩
  have G1s := Lib.hid (show EArg16 w5 B1s b1s m1s s1s from ⟨HM1s.out, by omega, HFS1s.out, hb1s, hsb1s⟩)
  clear hsb1s
  replace GA := Lib.hid (earg16_below GA.out hx)
  replace GB := Lib.hid (earg16_below GB.out hx)
  replace GF := Lib.hid (earg16_below GF.out hx)
  replace GD1x := Lib.hid (earg16_below GD1x.out hx)
  replace GP1x := Lib.hid (earg16_below GP1x.out hx)
  replace hb := bthen hb hx
  clear hx
  obtain ⟨x2x, hx2x⟩ : ∃ x, Pt.lessE b z = x := ⟨_, rfl⟩
  obtain ⟨y2x, hy2x⟩ : ∃ x, Pt.lessE z b = x := ⟨_, rfl⟩
  obtain ⟨p2x, hp2x⟩ : ∃ m, x2x.length = m := ⟨_, rfl⟩
  obtain ⟨q2x, hq2x⟩ : ∃ m, y2x.length = m := ⟨_, rfl⟩
  have HX2x := Lib.hid hx2x
  have HY2x := Lib.hid hy2x
  have HP2x := Lib.hid hp2x
  have HQ2x := Lib.hid hq2x
  have hp2xb : p2x ≤ m := by have := Pt.less_len b z; rw [hx2x, hp2x, GB.out.len] at this; exact this
  have hq2xb : q2x ≤ k := by have := Pt.less_len z b; rw [hy2x, hq2x, GF.out.len] at this; exact this
  have HFX2x := Lib.hid (show ∀ y ∈ x2x, Fit16 y by rw [← hx2x]; exact less_fit GB.out.fits)
  have HFY2x := Lib.hid (show ∀ y ∈ y2x, Fit16 y by rw [← hy2x]; exact less_fit GF.out.fits)
  clear hx2x hy2x hp2x hq2x
  go_wp2_with fail
  refine (E.ofOf B F d f m k p2x q2x b z x2x y2x _ GB.out GF.out HX2x.out HY2x.out HP2x.out HQ2x.out).mono ?_
  rintro e w6 ⟨D2x, dc2x, P2x, pc2x, rfl, hdc2x, hpc2x, hsd2x, hsp2x, hx⟩
  have hmx2x := GB.out.most
  have hmy2x := GF.out.most
  have GD2x := Lib.hid (show EArg16 w6 D2x dc2x p2x x2x from ⟨HP2x.out, by omega, HFX2x.out, hdc2x, hsd2x⟩)
  have GP2x := Lib.hid (show EArg16 w6 P2x pc2x q2x y2x from ⟨HQ2x.out, by omega, HFY2x.out, hpc2x, hsp2x⟩)
  clear hsd2x hsp2x hmx2x hmy2x
  replace GA := Lib.hid (earg16_below GA.out hx)
  replace GB := Lib.hid (earg16_below GB.out hx)
  replace GF := Lib.hid (earg16_below GF.out hx)
  replace GD1x := Lib.hid (earg16_below GD1x.out hx)
  replace GP1x := Lib.hid (earg16_below GP1x.out hx)
  replace G1s := Lib.hid (earg16_below G1s.out hx)
  replace hb := bthen hb hx
  clear hx
  obtain ⟨s, hs⟩ : ∃ x, Pt.applyE s1s x2x y2x = x := ⟨_, rfl⟩
  have HS := Lib.hid hs
  have HFS := Lib.hid (show ∀ y ∈ s, Fit16 y by rw [← hs]; exact apply_fit G1s.out.fits GP2x.out.fits)
  obtain ⟨ms, hm⟩ : ∃ m, s.length = m := ⟨_, rfl⟩
  have HM := Lib.hid hm
  have hmb : ms ≤ m1s + q2x := by have := apply_is (d := x2x) G1s.out.len GP2x.out.len; rw [hs, hm] at this; exact this
  clear hs hm
  go_wp2_with fail
  refine (E.applyOf B1s D2x P2x b1s dc2x pc2x m1s p2x q2x ms s1s x2x y2x s _ G1s.out GD2x.out GP2x.out HS.out HM.out).mono ?_
  rintro e w7 ⟨B2s, b2s, rfl, hb2s, hsb2s, hx⟩
  have G2s := Lib.hid (show EArg16 w7 B2s b2s ms s from ⟨HM.out, by omega, HFS.out, hb2s, hsb2s⟩)
  clear hsb2s
  replace GA := Lib.hid (earg16_below GA.out hx)
  replace GB := Lib.hid (earg16_below GB.out hx)
  replace GF := Lib.hid (earg16_below GF.out hx)
  replace GD1x := Lib.hid (earg16_below GD1x.out hx)
  replace GP1x := Lib.hid (earg16_below GP1x.out hx)
  replace G1s := Lib.hid (earg16_below G1s.out hx)
  replace GD2x := Lib.hid (earg16_below GD2x.out hx)
  replace GP2x := Lib.hid (earg16_below GP2x.out hx)
  replace hb := bthen hb hx
  clear hx
  obtain ⟨x3x, hx3x⟩ : ∃ x, Pt.lessE a z = x := ⟨_, rfl⟩
  obtain ⟨y3x, hy3x⟩ : ∃ x, Pt.lessE z a = x := ⟨_, rfl⟩
  obtain ⟨p3x, hp3x⟩ : ∃ m, x3x.length = m := ⟨_, rfl⟩
  obtain ⟨q3x, hq3x⟩ : ∃ m, y3x.length = m := ⟨_, rfl⟩
  have HX3x := Lib.hid hx3x
  have HY3x := Lib.hid hy3x
  have HP3x := Lib.hid hp3x
  have HQ3x := Lib.hid hq3x
  have hp3xb : p3x ≤ n := by have := Pt.less_len a z; rw [hx3x, hp3x, GA.out.len] at this; exact this
  have hq3xb : q3x ≤ k := by have := Pt.less_len z a; rw [hy3x, hq3x, GF.out.len] at this; exact this
  have HFX3x := Lib.hid (show ∀ y ∈ x3x, Fit16 y by rw [← hx3x]; exact less_fit GA.out.fits)
  have HFY3x := Lib.hid (show ∀ y ∈ y3x, Fit16 y by rw [← hy3x]; exact less_fit GF.out.fits)
  clear hx3x hy3x hp3x hq3x
  go_wp2_with fail
  refine (E.ofOf A F c f n k p3x q3x a z x3x y3x _ GA.out GF.out HX3x.out HY3x.out HP3x.out HQ3x.out).mono ?_
  rintro e w8 ⟨D3x, dc3x, P3x, pc3x, rfl, hdc3x, hpc3x, hsd3x, hsp3x, hx⟩
  have hmx3x := GA.out.most
  have hmy3x := GF.out.most
  have GD3x := Lib.hid (show EArg16 w8 D3x dc3x p3x x3x from ⟨HP3x.out, by omega, HFX3x.out, hdc3x, hsd3x⟩)
  have GP3x := Lib.hid (show EArg16 w8 P3x pc3x q3x y3x from ⟨HQ3x.out, by omega, HFY3x.out, hpc3x, hsp3x⟩)
  clear hsd3x hsp3x hmx3x hmy3x
  replace GA := Lib.hid (earg16_below GA.out hx)
  replace GB := Lib.hid (earg16_below GB.out hx)
  replace GF := Lib.hid (earg16_below GF.out hx)
  replace GD1x := Lib.hid (earg16_below GD1x.out hx)
  replace GP1x := Lib.hid (earg16_below GP1x.out hx)
  replace G1s := Lib.hid (earg16_below G1s.out hx)
  replace GD2x := Lib.hid (earg16_below GD2x.out hx)
  replace GP2x := Lib.hid (earg16_below GP2x.out hx)
  replace G2s := Lib.hid (earg16_below G2s.out hx)
  replace hb := bthen hb hx
  clear hx
  have HS3 := Lib.hid (show Pt.applyE a x3x y3x = s by have := HCH.out; rw [HX1x.out, HY1x.out, HS1s.out, HX2x.out, HY2x.out, HS.out, HX3x.out, HY3x.out] at this; exact this.symm)
  go_wp2_with fail
  refine (E.applyOf A D3x P3x c dc3x pc3x n p3x q3x ms a x3x y3x s _ GA.out GD3x.out GP3x.out HS3.out HM.out).mono ?_
  rintro e w9 ⟨B3s, b3s, rfl, hb3s, hsb3s, hx⟩
  have G3s := Lib.hid (show EArg16 w9 B3s b3s ms s from ⟨HM.out, by omega, HFS.out, hb3s, hsb3s⟩)
  clear hsb3s
  replace GA := Lib.hid (earg16_below GA.out hx)
  replace GB := Lib.hid (earg16_below GB.out hx)
  replace GF := Lib.hid (earg16_below GF.out hx)
  replace GD1x := Lib.hid (earg16_below GD1x.out hx)
  replace GP1x := Lib.hid (earg16_below GP1x.out hx)
  replace G1s := Lib.hid (earg16_below G1s.out hx)
  replace GD2x := Lib.hid (earg16_below GD2x.out hx)
  replace GP2x := Lib.hid (earg16_below GP2x.out hx)
  replace G2s := Lib.hid (earg16_below G2s.out hx)
  replace GD3x := Lib.hid (earg16_below GD3x.out hx)
  replace GP3x := Lib.hid (earg16_below GP3x.out hx)
  replace hb := bthen hb hx
  clear hx
  go_wp2_with fail
  refine (refs16 B2s b2s ms s _ G2s.out).mono ?_
  rintro e w10 ⟨R1, r1, rfl, hr1, hs3, hx⟩
  have HR1 := Lib.hid hs3
  clear hs3
  replace G3s := Lib.hid (earg16_below G3s.out hx)
  replace hb := bthen hb hx
  clear hx
  go_wp2_with fail
  refine (refs16 B3s b3s ms s _ G3s.out).mono ?_
  rintro e w11 ⟨R2, r2, rfl, hr2, hs4, hx⟩
  have HR2 := Lib.hid hs4
  clear hs4
  replace HR1 := Lib.hid (HR1.out.below hx)
  replace hb := bthen hb hx
  clear hx
  go_wp2_with fail
  refine (sameR14 R1 R2 r1 r2 ms s _ HM.out (by omega) HR1.out HR2.out).mono ?_
  rintro e w12 ⟨rfl, hx⟩
  replace hb := bthen hb hx
  clear hx
  go_wp2_with fail
  refine (AW _).mono ?_
  rintro e wz ⟨rfl, hx⟩
  go_wp2
  go_ret
  exact ⟨rfl, bthen hb hx⟩
end Go.Proofs.Ytpkhnchbamjgjaa
