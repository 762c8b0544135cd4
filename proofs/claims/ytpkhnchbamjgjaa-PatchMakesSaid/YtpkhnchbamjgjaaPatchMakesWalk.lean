/-
  The walk of layer 16's statement PatchMakes, from what patch does: it returns true whatever comes in. No conditions.
-/
import Derived.Test.YtpkhnchbamjgjaaBase5
namespace Go.Proofs.Ytpkhnchbamjgjaa
open Go.RowKit
set_option linter.unusedVariables false

set_option maxRecDepth 100000 in
set_option maxHeartbeats 8000000 in
theorem patchMakes_walk (E : PatchOk) (AW : ∀ w, Calls Try.prog 11 #[] w (TrueS w)) (w : World) (A : Option Addr) (c : Nat) (a : List H.En) (hc : a.length ≤ c) (hA : Seen eEc w A a) (hlA : a.length ≤ maxLen) (B : Option Addr) (d : Nat) (b : List H.En) (hd : b.length ≤ d) (hB : Seen eEc w B b) (hlB : b.length ≤ maxLen) :
    Calls Try.prog 4 #[.slice A a.length c, .slice B b.length d] w (TrueS w) := by
  unfold maxLen at hlA hlB
  obtain ⟨n, hnn⟩ : ∃ n, a.length = n := ⟨_, rfl⟩
  obtain ⟨m, hnm⟩ : ∃ n, b.length = n := ⟨_, rfl⟩
  rw [hnn] at hc hlA ⊢
  rw [hnm] at hd hlB ⊢
  have HNn := Lib.hid hnn
  have HNm := Lib.hid hnm
  have hb : Below w.heap.size w w := Below.refl _ _
  have HA := Lib.hid (hA.below hb)
  have HB := Lib.hid (hB.below hb)
  clear hnn hnm hA hB
  go_enter Try.func4, Try.ntmps4
  go_wp2_with fail
  refine (few16 A c n a _ HNn.out HA.out (by omega)).mono ?_
  rintro e w1 ⟨f1, rfl, hf1, hx⟩
  replace HA := Lib.hid (HA.out.below hx)
  replace HB := Lib.hid (HB.out.below hx)
  replace hb := bthen hb hx
  clear hx
  cases f1 with
  | false =>
    go_wp2_with fail
    refine (AW _).mono ?_
    rintro e wz ⟨rfl, hx⟩
    go_wp2
    go_ret
    exact ⟨rfl, bthen hb hx⟩
  | true =>
  obtain ⟨h601, hl1⟩ := hf1 rfl
  have HF1 := Lib.hid hl1
  clear hf1 hl1
  go_wp2_with fail
  refine (few16 B d m b _ HNm.out HB.out (by omega)).mono ?_
  rintro e w2 ⟨f2, rfl, hf2, hx⟩
  replace HA := Lib.hid (HA.out.below hx)
  replace HB := Lib.hid (HB.out.below hx)
  replace hb := bthen hb hx
  clear hx
  cases f2 with
  | false =>
    go_wp2_with fail
    refine (AW _).mono ?_
    rintro e wz ⟨rfl, hx⟩
    go_wp2
    go_ret
    exact ⟨rfl, bthen hb hx⟩
  | true =>
  obtain ⟨h602, hl2⟩ := hf2 rfl
  have HF2 := Lib.hid hl2
  clear hf2 hl2
  have GA := Lib.hid (earg16 HNn.out h601 HF1.out hc HA.out)
  have GB := Lib.hid (earg16 HNm.out h602 HF2.out hd HB.out)
  obtain ⟨x1x, hx1x⟩ : ∃ x, Pt.lessE a b = x := ⟨_, rfl⟩
  obtain ⟨y1x, hy1x⟩ : ∃ x, Pt.lessE b a = x := ⟨_, rfl⟩
  obtain ⟨p1x, hp1x⟩ : ∃ m, x1x.length = m := ⟨_, rfl⟩
  obtain ⟨q1x, hq1x⟩ : ∃ m, y1x.length = m := ⟨_, rfl⟩
  have HX1x := Lib.hid hx1x
  have HY1x := Lib.hid hy1x
  have HP1x := Lib.hid hp1x
  have HQ1x := Lib.hid hq1x
  have hp1xb : p1x ≤ n := by have := Pt.less_len a b; rw [hx1x, hp1x, GA.out.len] at this; exact this
  have hq1xb : q1x ≤ m := by have := Pt.less_len b a; rw [hy1x, hq1x, GB.out.len] at this; exact this
  have HFX1x := Lib.hid (show ∀ y ∈ x1x, Fit16 y by rw [← hx1x]; exact less_fit GA.out.fits)
  have HFY1x := Lib.hid (show ∀ y ∈ y1x, Fit16 y by rw [← hy1x]; exact less_fit GB.out.fits)
  clear hx1x hy1x hp1x hq1x
  go_wp2_with fail
  refine (E.ofOf A B c d n m p1x q1x a b x1x y1x _ GA.out GB.out HX1x.out HY1x.out HP1x.out HQ1x.out).mono ?_
  rintro e w3 ⟨D1x, dc1x, P1x, pc1x, rfl, hdc1x, hpc1x, hsd1x, hsp1x, hx⟩
  have hmx1x := GA.out.most
  have hmy1x := GB.out.most
  have GD1x := Lib.hid (show EArg16 w3 D1x dc1x p1x x1x from ⟨HP1x.out, by omega, HFX1x.out, hdc1x, hsd1x⟩)
  have GP1x := Lib.hid (show EArg16 w3 P1x pc1x q1x y1x from ⟨HQ1x.out, by omega, HFY1x.out, hpc1x, hsp1x⟩)
  clear hsd1x hsp1x hmx1x hmy1x
  replace GA := Lib.hid (earg16_below GA.out hx)
  replace GB := Lib.hid (earg16_below GB.out hx)
  replace hb := bthen hb hx
  clear hx
  obtain ⟨x2x, hx2x⟩ : ∃ x, Pt.lessE b a = x := ⟨_, rfl⟩
  obtain ⟨y2x, hy2x⟩ : ∃ x, Pt.lessE a b = x := ⟨_, rfl⟩
  obtain ⟨p2x, hp2x⟩ : ∃ m, x2x.length = m := ⟨_, rfl⟩
  obtain ⟨q2x, hq2x⟩ : ∃ m, y2x.length = m := ⟨_, rfl⟩
  have HX2x := Lib.hid hx2x
  have HY2x := Lib.hid hy2x
  have HP2x := Lib.hid hp2x
  have HQ2x := Lib.hid hq2x
  have hp2xb : p2x ≤ m := by have := Pt.less_len b a; rw [hx2x, hp2x, GB.out.len] at this; exact this
  have hq2xb : q2x ≤ n := by have := Pt.less_len a b; rw [hy2x, hq2x, GA.out.len] at this; exact this
  have HFX2x := Lib.hid (show ∀ y ∈ x2x, Fit16 y by rw [← hx2x]; exact less_fit GB.out.fits)
  have HFY2x := Lib.hid (show ∀ y ∈ y2x, Fit16 y by rw [← hy2x]; exact less_fit GA.out.fits)
  clear hx2x hy2x hp2x hq2x
  go_wp2_with fail
  refine (E.ofOf B A d c m n p2x q2x b a x2x y2x _ GB.out GA.out HX2x.out HY2x.out HP2x.out HQ2x.out).mono ?_
  rintro e w4 ⟨D2x, dc2x, P2x, pc2x, rfl, hdc2x, hpc2x, hsd2x, hsp2x, hx⟩
  have hmx2x := GB.out.most
  have hmy2x := GA.out.most
  have GD2x := Lib.hid (show EArg16 w4 D2x dc2x p2x x2x from ⟨HP2x.out, by omega, HFX2x.out, hdc2x, hsd2x⟩)
  have GP2x := Lib.hid (show EArg16 w4 P2x pc2x q2x y2x from ⟨HQ2x.out, by omega, HFY2x.out, hpc2x, hsp2x⟩)
  clear hsd2x hsp2x hmx2x hmy2x
  replace GA := Lib.hid (earg16_below GA.out hx)
  replace GB := Lib.hid (earg16_below GB.out hx)
  replace GD1x := Lib.hid (earg16_below GD1x.out hx)
  replace GP1x := Lib.hid (earg16_below GP1x.out hx)
  replace hb := bthen hb hx
  clear hx
  have HSB := Lib.hid (show Pt.applyE a x1x y1x = H.setE b by have := Pt.makes a b; rw [HX1x.out, HY1x.out] at this; exact this)
  have HSA := Lib.hid (show Pt.applyE b x2x y2x = H.setE a by have := Pt.makes b a; rw [HX2x.out, HY2x.out] at this; exact this)
  obtain ⟨sb, hsb⟩ : ∃ x, H.setE b = x := ⟨_, rfl⟩
  obtain ⟨sa, hsa⟩ : ∃ x, H.setE a = x := ⟨_, rfl⟩
  obtain ⟨mb, hmb⟩ : ∃ m, sb.length = m := ⟨_, rfl⟩
  obtain ⟨ma, hma⟩ : ∃ m, sa.length = m := ⟨_, rfl⟩
  have HSB2 := Lib.hid hsb
  have HSA2 := Lib.hid hsa
  have HMB := Lib.hid hmb
  have HMA := Lib.hid hma
  have hmbb : mb ≤ 60 := by have := H.set_len b; rw [hsb, hmb, HNm.out] at this; omega
  have hmab : ma ≤ 60 := by have := H.set_len a; rw [hsa, hma, HNn.out] at this; omega
  have HFB := Lib.hid (show ∀ y ∈ sb, Fit16 y by rw [← hsb]; exact fun y hy => HF2.out y (H.mem_set.1 hy))
  have HFA := Lib.hid (show ∀ y ∈ sa, Fit16 y by rw [← hsa]; exact fun y hy => HF1.out y (H.mem_set.1 hy))
  rw [hsb] at HSB
  rw [hsa] at HSA
  clear hsb hsa hmb hma
  obtain ⟨g, hg⟩ : ∃ g, w4.heap.size = g := ⟨_, rfl⟩
  have hu1 := up w4 (.cells #[.slice D1x p1x dc1x, .slice P1x q1x pc1x] 24)
  have hZ1 := PatAt.new16 w4 D1x P1x p1x dc1x q1x pc1x
  obtain ⟨W1, hW1⟩ : ∃ W, w4.alloc (.cells #[.slice D1x p1x dc1x, .slice P1x q1x pc1x] 24) = W := ⟨_, rfl⟩
  have hs1 : W1.heap.size = g + 1 := by rw [← hW1, ← hg]; simp
  rw [hW1] at hu1 hZ1
  rw [hg] at hZ1
  have hu2 := up W1 (.cells #[.slice D2x p2x dc2x, .slice P2x q2x pc2x] 24)
  have hZ2 := PatAt.new16 W1 D2x P2x p2x dc2x q2x pc2x
  obtain ⟨W2, hW2⟩ : ∃ W, W1.alloc (.cells #[.slice D2x p2x dc2x, .slice P2x q2x pc2x] 24) = W := ⟨_, rfl⟩
  rw [hW2] at hu2 hZ2
  rw [hs1] at hZ2
  have HZ1 := Lib.hid (hZ1.on16 hu2)
  have HZ2 := Lib.hid hZ2
  have hu := bthen hu1 hu2
  have HW2 := Lib.hid (show (w4.alloc (.cells #[.slice D1x p1x dc1x, .slice P1x q1x pc1x] 24)).alloc (.cells #[.slice D2x p2x dc2x, .slice P2x q2x pc2x] 24) = W2 by rw [hW1, hW2])
  have HG := Lib.hid hg
  replace GA := Lib.hid (earg16_below GA.out hu)
  replace GB := Lib.hid (earg16_below GB.out hu)
  replace GD1x := Lib.hid (earg16_below GD1x.out hu)
  replace GP1x := Lib.hid (earg16_below GP1x.out hu)
  replace GD2x := Lib.hid (earg16_below GD2x.out hu)
  replace GP2x := Lib.hid (earg16_below GP2x.out hu)
  replace hb := bthen hb hu
  clear hg hW1 hW2 hs1 hu1 hu2 hu hZ1 hZ2
  go_wp2
  rw [HW2.out, HG.out]
  refine wp_region_held_drew (S := fun w' => PatAt w' g D1x p1x dc1x P1x q1x pc1x ∧ PatAt w' (g + 1) D2x p2x dc2x P2x q2x pc2x) (by kernel_rfl) ⟨HZ1.out, HZ2.out⟩ (fun hHeld => ?_)
  refine takeD16 (i := 0) (v := ?vm0) (d := some 24) rfl rfl (by kernel_rfl) (by kernel_rfl) (by kernel_rfl) (fun _ _ _ h => h) (Or.inl ⟨by rfl, ?hym0⟩) (by assumption) ?restm0
  case hym0 => intro w hSw; obtain ⟨h1, h2⟩ := hSw; obtain ⟨z0, z1⟩ := h1.cells16; obtain ⟨y0, y1⟩ := h2.cells16; go_simp; try (with_reducible rfl)
  try simp only [Act.put, List.setIfInBounds_toArray, List.set_cons_zero, List.set_cons_succ]
  refine takeD16 (i := 1) (v := ?vm1) (d := some 25) rfl rfl (by kernel_rfl) (by kernel_rfl) (by kernel_rfl) (fun _ _ _ h => h) (Or.inl ⟨by rfl, ?hym1⟩) (by assumption) ?restm1
  case hym1 => intro w hSw; obtain ⟨h1, h2⟩ := hSw; obtain ⟨z0, z1⟩ := h1.cells16; obtain ⟨y0, y1⟩ := h2.cells16; go_simp; try (with_reducible rfl)
  try simp only [Act.put, List.setIfInBounds_toArray, List.set_cons_zero, List.set_cons_succ]
  refine takeD16 (i := 3) (v := ?vm3) (d := some 27) rfl rfl (by kernel_rfl) (by kernel_rfl) (by kernel_rfl) (fun _ _ _ h => h) (Or.inl ⟨by rfl, ?hym3⟩) (by assumption) ?restm3
  case hym3 => intro w hSw; obtain ⟨h1, h2⟩ := hSw; obtain ⟨z0, z1⟩ := h1.cells16; obtain ⟨y0, y1⟩ := h2.cells16; go_simp; try (with_reducible rfl)
  try simp only [Act.put, List.setIfInBounds_toArray, List.set_cons_zero, List.set_cons_succ]
  refine takeD16 (i := 4) (v := ?vm4) (d := some 28) rfl rfl (by kernel_rfl) (by kernel_rfl) (by kernel_rfl) (fun _ _ _ h => h) (Or.inl ⟨by rfl, ?hym4⟩) (by assumption) ?restm4
  case hym4 => intro w hSw; obtain ⟨h1, h2⟩ := hSw; obtain ⟨z0, z1⟩ := h1.cells16; obtain ⟨y0, y1⟩ := h2.cells16; go_simp; try (with_reducible rfl)
  try simp only [Act.put, List.setIfInBounds_toArray, List.set_cons_zero, List.set_cons_succ]
  have hdr : Below W2.heap.size W2 W2.drew := (Below.refl _ _).drew
  replace GA := Lib.hid (earg16_below GA.out hdr)
  replace GB := Lib.hid (earg16_below GB.out hdr)
  replace GD1x := Lib.hid (earg16_below GD1x.out hdr)
  replace GP1x := Lib.hid (earg16_below GP1x.out hdr)
  replace GD2x := Lib.hid (earg16_below GD2x.out hdr)
  replace GP2x := Lib.hid (earg16_below GP2x.out hdr)
  replace HZ1 := Lib.hid (HZ1.out.on16 hdr)
  replace HZ2 := Lib.hid (HZ2.out.on16 hdr)
  replace hb := bthen hb hdr
  clear hdr
  refine wpAnyH_ready (rs := [2]) (by kernel_rfl) (by simp) ?_
  refine AllReadyH.cons rfl (fun K hK => ?_) AllReadyH.nil
  go_simp
  go_at_call 18
  refine (E.applyOf A D1x P1x c dc1x pc1x n p1x q1x mb a x1x y1x sb _ GA.out GD1x.out GP1x.out HSB.out HMB.out).mono ?_
  rintro e w5 ⟨B1, b1, rfl, hb1, hsb1, hx⟩
  have G1 := Lib.hid (show EArg16 w5 B1 b1 mb sb from ⟨HMB.out, by omega, HFB.out, hb1, hsb1⟩)
  clear hsb1
  replace GA := Lib.hid (earg16_below GA.out hx)
  replace GB := Lib.hid (earg16_below GB.out hx)
  replace GD1x := Lib.hid (earg16_below GD1x.out hx)
  replace GP1x := Lib.hid (earg16_below GP1x.out hx)
  replace GD2x := Lib.hid (earg16_below GD2x.out hx)
  replace GP2x := Lib.hid (earg16_below GP2x.out hx)
  replace HZ1 := Lib.hid (HZ1.out.on16 hx)
  replace HZ2 := Lib.hid (HZ2.out.on16 hx)
  replace hb := bthen hb hx
  clear hx
  clear hHeld
  refine hK.out _ _ ⟨HZ1.out, HZ2.out⟩ (fun hHeld => ?_)
  clear hK K
  try simp only [Act.put, List.setIfInBounds_toArray, List.set_cons_zero, List.set_cons_succ]
  refine wpAnyH_ready (rs := [5]) (by kernel_rfl) (by simp) ?_
  refine AllReadyH.cons rfl (fun K hK => ?_) AllReadyH.nil
  go_simp
  go_at_call 18
  refine (E.applyOf B D2x P2x d dc2x pc2x m p2x q2x ma b x2x y2x sa _ GB.out GD2x.out GP2x.out HSA.out HMA.out).mono ?_
  rintro e w6 ⟨B2, b2, rfl, hb2, hsb2, hx⟩
  have G2 := Lib.hid (show EArg16 w6 B2 b2 ma sa from ⟨HMA.out, by omega, HFA.out, hb2, hsb2⟩)
  clear hsb2
  replace GA := Lib.hid (earg16_below GA.out hx)
  replace GB := Lib.hid (earg16_below GB.out hx)
  replace GD1x := Lib.hid (earg16_below GD1x.out hx)
  replace GP1x := Lib.hid (earg16_below GP1x.out hx)
  replace GD2x := Lib.hid (earg16_below GD2x.out hx)
  replace GP2x := Lib.hid (earg16_below GP2x.out hx)
  replace HZ1 := Lib.hid (HZ1.out.on16 hx)
  replace HZ2 := Lib.hid (HZ2.out.on16 hx)
  replace G1 := Lib.hid (earg16_below G1.out hx)
  replace hb := bthen hb hx
  clear hx
  clear hHeld
  refine hK.out _ _ ⟨HZ1.out, HZ2.out⟩ (fun hHeld => ?_)
  clear hK K
  try simp only [Act.put, List.setIfInBounds_toArray, List.set_cons_zero, List.set_cons_succ]
  refine takeD16 (i := 6) (v := ?vm6) (d := some 7) rfl rfl (by kernel_rfl) (by kernel_rfl) (by kernel_rfl) (fun _ _ _ h => h) (Or.inl ⟨by rfl, ?hym6⟩) (by assumption) ?restm6
  case hym6 => intro w hSw; obtain ⟨h1, h2⟩ := hSw; obtain ⟨z0, z1⟩ := h1.cells16; obtain ⟨y0, y1⟩ := h2.cells16; go_simp; try (with_reducible rfl)
  try simp only [Act.put, List.setIfInBounds_toArray, List.set_cons_zero, List.set_cons_succ]
  refine takeD16 (i := 7) (v := ?vm7) (d := some 8) rfl rfl (by kernel_rfl) (by kernel_rfl) (by kernel_rfl) (fun _ _ _ h => h) (Or.inl ⟨by rfl, ?hym7⟩) (by assumption) ?restm7
  case hym7 => intro w hSw; obtain ⟨h1, h2⟩ := hSw; obtain ⟨z0, z1⟩ := h1.cells16; obtain ⟨y0, y1⟩ := h2.cells16; go_simp; try (with_reducible rfl)
  try simp only [Act.put, List.setIfInBounds_toArray, List.set_cons_zero, List.set_cons_succ]
  refine wpAnyH_done (by kernel_rfl) ?_ _
  go_wp2_with fail
  refine (refs16 B1 b1 mb sb _ G1.out).mono ?_
  rintro e w7 ⟨R1, r1, rfl, hr1, hs3, hx⟩
  have HR1 := Lib.hid hs3
  clear hs3
  replace GA := Lib.hid (earg16_below GA.out hx)
  replace GB := Lib.hid (earg16_below GB.out hx)
  replace G2 := Lib.hid (earg16_below G2.out hx)
  replace hb := bthen hb hx
  clear hx
  go_wp2_with fail
  refine (refs16 B d m b _ GB.out).mono ?_
  rintro e w8 ⟨R2, r2, rfl, hr2, hs4, hx⟩
  have HR2 := Lib.hid hs4
  clear hs4
  replace GA := Lib.hid (earg16_below GA.out hx)
  replace GB := Lib.hid (earg16_below GB.out hx)
  replace G2 := Lib.hid (earg16_below G2.out hx)
  replace HR1 := Lib.hid (HR1.out.below hx)
  replace hb := bthen hb hx
  clear hx
  go_wp2_with fail
  refine (setR R2 r2 m mb b _ HNm.out (by omega) HR2.out (by rw [HSB2.out]; exact HMB.out)).mono ?_
  rintro e w9 ⟨R3, r3, rfl, hr3, hs5, hx⟩
  rw [HSB2.out] at hs5
  have HR3 := Lib.hid hs5
  clear hs5
  replace GA := Lib.hid (earg16_below GA.out hx)
  replace GB := Lib.hid (earg16_below GB.out hx)
  replace G2 := Lib.hid (earg16_below G2.out hx)
  replace HR1 := Lib.hid (HR1.out.below hx)
  replace hb := bthen hb hx
  clear hx
  go_wp2_with fail
  refine (sameR14 R1 R3 r1 r3 mb sb _ HMB.out (by omega) HR1.out HR3.out).mono ?_
  rintro e w10 ⟨rfl, hx⟩
  replace GA := Lib.hid (earg16_below GA.out hx)
  replace G2 := Lib.hid (earg16_below G2.out hx)
  replace hb := bthen hb hx
  clear hx
  go_wp2_with fail
  refine (refs16 B2 b2 ma sa _ G2.out).mono ?_
  rintro e w11 ⟨R4, r4, rfl, hr4, hs6, hx⟩
  have HR4 := Lib.hid hs6
  clear hs6
  replace GA := Lib.hid (earg16_below GA.out hx)
  replace G2 := Lib.hid (earg16_below G2.out hx)
  replace hb := bthen hb hx
  clear hx
  go_wp2_with fail
  refine (refs16 A c n a _ GA.out).mono ?_
  rintro e w12 ⟨R5, r5, rfl, hr5, hs7, hx⟩
  have HR5 := Lib.hid hs7
  clear hs7
  replace GA := Lib.hid (earg16_below GA.out hx)
  replace HR4 := Lib.hid (HR4.out.below hx)
  replace hb := bthen hb hx
  clear hx
  go_wp2_with fail
  refine (setR R5 r5 n ma a _ HNn.out (by omega) HR5.out (by rw [HSA2.out]; exact HMA.out)).mono ?_
  rintro e w13 ⟨R6, r6, rfl, hr6, hs8, hx⟩
  rw [HSA2.out] at hs8
  have HR6 := Lib.hid hs8
  clear hs8
  replace GA := Lib.hid (earg16_below GA.out hx)
  replace HR4 := Lib.hid (HR4.out.below hx)
  replace hb := bthen hb hx
  clear hx
  go_wp2_with fail
  refine (sameR14 R4 R6 r4 r6 ma sa _ HMA.out (by omega) HR4.out HR6.out).mono ?_
  rintro e w14 ⟨rfl, hx⟩
  replace hb := bthen hb hx
  clear hx
  go_wp2_with fail
  refine (AW _).mono ?_
  rintro e wz ⟨rfl, hx⟩
  go_wp2
  go_ret
  exact ⟨rfl, bthen hb hx⟩
end Go.Proofs.Ytpkhnchbamjgjaa
