/-
  The walk of layer 16's statement PatchExact, from what patch does: it returns true whatever comes in. No conditions.
-/
import Derived.Test.YtpkhnchbamjgjaaBase5
namespace Go.Proofs.Ytpkhnchbamjgjaa
open Go.RowKit
set_option linter.unusedVariables false

set_option maxRecDepth 100000 in
set_option maxHeartbeats 8000000 in
theorem patchExact_walk (E : PatchOk) (AW : ∀ w, Calls Try.prog 11 #[] w (TrueS w)) (w : World) (A : Option Addr) (c : Nat) (a : List H.En) (hc : a.length ≤ c) (hA : Seen eEc w A a) (hlA : a.length ≤ maxLen) (B : Option Addr) (d : Nat) (b : List H.En) (hd : b.length ≤ d) (hB : Seen eEc w B b) (hlB : b.length ≤ maxLen) (D : Option Addr) (dc : Nat) (e : List H.En) (hdc : e.length ≤ dc) (hD : Seen eEc w D e) (hlD : e.length ≤ maxLen) (P : Option Addr) (pc : Nat) (u : List H.En) (hpc : u.length ≤ pc) (hP : Seen eEc w P u) (hlP : u.length ≤ maxLen) (hs : ByteArray) (hhs : hs.size ≤ maxLen) :
    Calls Try.prog 3 #[.slice A a.length c, .slice B b.length d, patV D e.length dc P u.length pc, .string hs] w (TrueS w) := by
  obtain ⟨h, rfl⟩ : ∃ h, hs = sB h := ⟨hs.data.toList, ByteArray.ext (Array.ext' (by simp [sB]))⟩
  clear hhs
  unfold maxLen at hlA hlB hlD hlP
  unfold patV
  obtain ⟨n, hnn⟩ : ∃ n, a.length = n := ⟨_, rfl⟩
  obtain ⟨m, hnm⟩ : ∃ n, b.length = n := ⟨_, rfl⟩
  obtain ⟨p, hnp⟩ : ∃ n, e.length = n := ⟨_, rfl⟩
  obtain ⟨q, hnq⟩ : ∃ n, u.length = n := ⟨_, rfl⟩
  rw [hnn] at hc hlA ⊢
  rw [hnm] at hd hlB ⊢
  rw [hnp] at hdc hlD ⊢
  rw [hnq] at hpc hlP ⊢
  have HNn := Lib.hid hnn
  have HNm := Lib.hid hnm
  have HNp := Lib.hid hnp
  have HNq := Lib.hid hnq
  have hb := up w (.cells #[.slice D p dc, .slice P q pc] 24)
  have HA := Lib.hid (hA.below hb)
  have HB := Lib.hid (hB.below hb)
  have HD := Lib.hid (hD.below hb)
  have HP := Lib.hid (hP.below hb)
  have HB0 := Lib.hid (PatAt.new16 w D P p dc q pc)
  obtain ⟨c0, c1⟩ := HB0.out.cells16
  clear hnn hnm hnp hnq hA hB hD hP
  go_enter Try.func3, Try.ntmps3
  go_wp2_with fail
  refine (few16 A c n a _ HNn.out HA.out (by omega)).mono ?_
  rintro e w1 ⟨f1, rfl, hf1, hx⟩
  replace HA := Lib.hid (HA.out.below hx)
  replace HB := Lib.hid (HB.out.below hx)
  replace HD := Lib.hid (HD.out.below hx)
  replace HP := Lib.hid (HP.out.below hx)
  replace HB0 := Lib.hid (HB0.out.on16 hx)
  replace hb := bthen hb hx
  clear hx
  clear c0 c1
  cases f1 with
  | false =>
    go_wp2_with fail
    refine (AW _).mono ?_
    rintro e wz ⟨rfl, hx⟩
    go_wp2
    go_ret
    exact ⟨rfl, bthen hb hx⟩
  | true =>
  obtain ⟨h601, hl1⟩ := hf1 rfl
  have HF1 := Lib.hid hl1
  clear hf1 hl1
  go_wp2_with fail
  refine (few16 B d m b _ HNm.out HB.out (by omega)).mono ?_
  rintro e w2 ⟨f2, rfl, hf2, hx⟩
  replace HA := Lib.hid (HA.out.below hx)
  replace HB := Lib.hid (HB.out.below hx)
  replace HD := Lib.hid (HD.out.below hx)
  replace HP := Lib.hid (HP.out.below hx)
  replace HB0 := Lib.hid (HB0.out.on16 hx)
  replace hb := bthen hb hx
  clear hx
  cases f2 with
  | false =>
    go_wp2_with fail
    refine (AW _).mono ?_
    rintro e wz ⟨rfl, hx⟩
    go_wp2
    go_ret
    exact ⟨rfl, bthen hb hx⟩
  | true =>
  obtain ⟨h602, hl2⟩ := hf2 rfl
  have HF2 := Lib.hid hl2
  clear hf2 hl2
  obtain ⟨c0, c1⟩ := HB0.out.cells16
  go_wp2_with fail
  refine (few16 D dc p e _ HNp.out HD.out (by omega)).mono ?_
  rintro e w3 ⟨f3, rfl, hf3, hx⟩
  replace HA := Lib.hid (HA.out.below hx)
  replace HB := Lib.hid (HB.out.below hx)
  replace HD := Lib.hid (HD.out.below hx)
  replace HP := Lib.hid (HP.out.below hx)
  replace HB0 := Lib.hid (HB0.out.on16 hx)
  replace hb := bthen hb hx
  clear hx
  clear c0 c1
  cases f3 with
  | false =>
    go_wp2_with fail
    refine (AW _).mono ?_
    rintro e wz ⟨rfl, hx⟩
    go_wp2
    go_ret
    exact ⟨rfl, bthen hb hx⟩
  | true =>
  obtain ⟨h603, hl3⟩ := hf3 rfl
  have HF3 := Lib.hid hl3
  clear hf3 hl3
  obtain ⟨c0, c1⟩ := HB0.out.cells16
  go_wp2_with fail
  refine (few16 P pc q u _ HNq.out HP.out (by omega)).mono ?_
  rintro e w4 ⟨f4, rfl, hf4, hx⟩
  replace HA := Lib.hid (HA.out.below hx)
  replace HB := Lib.hid (HB.out.below hx)
  replace HD := Lib.hid (HD.out.below hx)
  replace HP := Lib.hid (HP.out.below hx)
  replace HB0 := Lib.hid (HB0.out.on16 hx)
  replace hb := bthen hb hx
  clear hx
  clear c0 c1
  cases f4 with
  | false =>
    go_wp2_with fail
    refine (AW _).mono ?_
    rintro e wz ⟨rfl, hx⟩
    go_wp2
    go_ret
    exact ⟨rfl, bthen hb hx⟩
  | true =>
  obtain ⟨h604, hl4⟩ := hf4 rfl
  have HF4 := Lib.hid hl4
  clear hf4 hl4
  by_cases hl100 : h.length ≤ 100
  case neg =>
    have g1 := long_yes hl100
    clear hl100
    go_wp2_with fail
    refine (AW _).mono ?_
    rintro e wz ⟨rfl, hx⟩
    go_wp2
    go_ret
    exact ⟨rfl, bthen hb hx⟩
  have g1 := long_no hl100
  have HHL := Lib.hid hl100
  clear hl100
  have GA := Lib.hid (earg16 HNn.out h601 HF1.out hc HA.out)
  have GB := Lib.hid (earg16 HNm.out h602 HF2.out hd HB.out)
  have GD := Lib.hid (earg16 HNp.out h603 HF3.out hdc HD.out)
  have GP := Lib.hid (earg16 HNq.out h604 HF4.out hpc HP.out)
  go_wp2_with fail
  refine (refsV16 A c n a _ GA.out).mono ?_
  rintro e w5 ⟨R1, r1, rfl, hr1, hs1, hv1, hx⟩
  have HR1 := Lib.hid hs1
  have HV1 := Lib.hid hv1
  clear hs1 hv1
  replace HB0 := Lib.hid (HB0.out.on16 hx)
  replace GA := Lib.hid (earg16_below GA.out hx)
  replace GB := Lib.hid (earg16_below GB.out hx)
  replace GD := Lib.hid (earg16_below GD.out hx)
  replace GP := Lib.hid (earg16_below GP.out hx)
  replace hb := bthen hb hx
  clear hx
  go_wp2_with fail
  refine (refsV16 B d m b _ GB.out).mono ?_
  rintro e w6 ⟨R2, r2, rfl, hr2, hs2, hv2, hx⟩
  have HR2 := Lib.hid hs2
  have HV2 := Lib.hid hv2
  clear hs2 hv2
  replace HB0 := Lib.hid (HB0.out.on16 hx)
  replace GA := Lib.hid (earg16_below GA.out hx)
  replace GB := Lib.hid (earg16_below GB.out hx)
  replace GD := Lib.hid (earg16_below GD.out hx)
  replace GP := Lib.hid (earg16_below GP.out hx)
  replace HR1 := Lib.hid (HR1.out.below hx)
  replace hb := bthen hb hx
  clear hx
  go_wp2
  refine wp_region_held_drew (S := fun w' => PatAt w' w.heap.size D p dc P q pc) (by kernel_rfl) HB0.out (fun hHeld => ?_)
  refine takeD16 (i := 0) (v := ?vr0) (d := some 46) rfl rfl (by kernel_rfl) (by kernel_rfl) (by kernel_rfl) (fun _ _ _ h => h) (Or.inl ⟨by rfl, ?hyr0⟩) (by assumption) ?restr0
  case hyr0 => intro w hSw; obtain ⟨v0, v1⟩ := hSw.cells16; go_simp; try (with_reducible rfl)
  try simp only [Act.put, List.setIfInBounds_toArray, List.set_cons_zero, List.set_cons_succ]
  refine takeD16 (i := 1) (v := ?vr1) (d := some 47) rfl rfl (by kernel_rfl) (by kernel_rfl) (by kernel_rfl) (fun _ _ _ h => h) (Or.inl ⟨by rfl, ?hyr1⟩) (by assumption) ?restr1
  case hyr1 => intro w hSw; obtain ⟨v0, v1⟩ := hSw.cells16; go_simp; try (with_reducible rfl)
  try simp only [Act.put, List.setIfInBounds_toArray, List.set_cons_zero, List.set_cons_succ]
  refine takeD16 (i := 3) (v := ?vr3) (d := some 49) rfl rfl (by kernel_rfl) (by kernel_rfl) (by kernel_rfl) (fun _ _ _ h => h) (Or.inl ⟨by rfl, ?hyr3⟩) (by assumption) ?restr3
  case hyr3 => intro w hSw; obtain ⟨v0, v1⟩ := hSw.cells16; go_simp; try (with_reducible rfl)
  try simp only [Act.put, List.setIfInBounds_toArray, List.set_cons_zero, List.set_cons_succ]
  refine takeD16 (i := 4) (v := ?vr4) (d := some 50) rfl rfl (by kernel_rfl) (by kernel_rfl) (by kernel_rfl) (fun _ _ _ h => h) (Or.inl ⟨by rfl, ?hyr4⟩) (by assumption) ?restr4
  case hyr4 => intro w hSw; obtain ⟨v0, v1⟩ := hSw.cells16; go_simp; try (with_reducible rfl)
  try simp only [Act.put, List.setIfInBounds_toArray, List.set_cons_zero, List.set_cons_succ]
  have hdr : Below w6.heap.size w6 w6.drew := (Below.refl _ _).drew
  replace HB0 := Lib.hid (HB0.out.on16 hdr)
  replace GA := Lib.hid (earg16_below GA.out hdr)
  replace GB := Lib.hid (earg16_below GB.out hdr)
  replace GD := Lib.hid (earg16_below GD.out hdr)
  replace GP := Lib.hid (earg16_below GP.out hdr)
  replace HR1 := Lib.hid (HR1.out.below hdr)
  replace HR2 := Lib.hid (HR2.out.below hdr)
  replace hb := bthen hb hdr
  clear hdr
  refine wpAnyH_ready (rs := [2]) (by kernel_rfl) (by simp) ?_
  refine AllReadyH.cons rfl (fun K hK => ?_) AllReadyH.nil
  go_simp
  go_at_call 12
  refine (refsV16 D dc p e _ GD.out).mono ?_
  rintro e7 w7 ⟨R3, r3, rfl, hr3, hs3, hv3, hx⟩
  have HR3 := Lib.hid hs3
  have HV3 := Lib.hid hv3
  clear hs3 hv3
  replace HB0 := Lib.hid (HB0.out.on16 hx)
  replace GA := Lib.hid (earg16_below GA.out hx)
  replace GB := Lib.hid (earg16_below GB.out hx)
  replace GD := Lib.hid (earg16_below GD.out hx)
  replace GP := Lib.hid (earg16_below GP.out hx)
  replace HR1 := Lib.hid (HR1.out.below hx)
  replace HR2 := Lib.hid (HR2.out.below hx)
  replace hb := bthen hb hx
  clear hx
  clear hHeld
  refine hK.out _ _ HB0.out (fun hHeld => ?_)
  clear hK K
  try simp only [Act.put, List.setIfInBounds_toArray, List.set_cons_zero, List.set_cons_succ]
  refine wpAnyH_ready (rs := [5]) (by kernel_rfl) (by simp) ?_
  refine AllReadyH.cons rfl (fun K hK => ?_) AllReadyH.nil
  go_simp
  go_at_call 12
  refine (refsV16 P pc q u _ GP.out).mono ?_
  rintro e8 w8 ⟨R4, r4, rfl, hr4, hs4, hv4, hx⟩
  have HR4 := Lib.hid hs4
  have HV4 := Lib.hid hv4
  clear hs4 hv4
  replace HB0 := Lib.hid (HB0.out.on16 hx)
  replace GA := Lib.hid (earg16_below GA.out hx)
  replace GB := Lib.hid (earg16_below GB.out hx)
  replace GD := Lib.hid (earg16_below GD.out hx)
  replace GP := Lib.hid (earg16_below GP.out hx)
  replace HR1 := Lib.hid (HR1.out.below hx)
  replace HR2 := Lib.hid (HR2.out.below hx)
  replace HR3 := Lib.hid (HR3.out.below hx)
  replace HV3 := Lib.hid (HV3.out.below hx)
  replace hb := bthen hb hx
  clear hx
  clear hHeld
  refine hK.out _ _ HB0.out (fun hHeld => ?_)
  clear hK K
  try simp only [Act.put, List.setIfInBounds_toArray, List.set_cons_zero, List.set_cons_succ]
  refine takeD16 (i := 6) (v := ?vr6) (d := some 11) rfl rfl (by kernel_rfl) (by kernel_rfl) (by kernel_rfl) (fun _ _ _ h => h) (Or.inl ⟨by rfl, ?hyr6⟩) (by assumption) ?restr6
  case hyr6 => intro w hSw; obtain ⟨v0, v1⟩ := hSw.cells16; go_simp; try (with_reducible rfl)
  try simp only [Act.put, List.setIfInBounds_toArray, List.set_cons_zero, List.set_cons_succ]
  refine takeD16 (i := 7) (v := ?vr7) (d := some 12) rfl rfl (by kernel_rfl) (by kernel_rfl) (by kernel_rfl) (fun _ _ _ h => h) (Or.inl ⟨by rfl, ?hyr7⟩) (by assumption) ?restr7
  case hyr7 => intro w hSw; obtain ⟨v0, v1⟩ := hSw.cells16; go_simp; try (with_reducible rfl)
  try simp only [Act.put, List.setIfInBounds_toArray, List.set_cons_zero, List.set_cons_succ]
  refine wpAnyH_done (by kernel_rfl) ?_ _
  obtain ⟨x1x, hx1x⟩ : ∃ x, Pt.lessE a b = x := ⟨_, rfl⟩
  obtain ⟨y1x, hy1x⟩ : ∃ x, Pt.lessE b a = x := ⟨_, rfl⟩
  obtain ⟨p1x, hp1x⟩ : ∃ m, x1x.length = m := ⟨_, rfl⟩
  obtain ⟨q1x, hq1x⟩ : ∃ m, y1x.length = m := ⟨_, rfl⟩
  have HX1x := Lib.hid hx1x
  have HY1x := Lib.hid hy1x
  have HP1x := Lib.hid hp1x
  have HQ1x := Lib.hid hq1x
  have hp1xb : p1x ≤ n := by have := Pt.less_len a b; rw [hx1x, hp1x, GA.out.len] at this; exact this
  have hq1xb : q1x ≤ m := by have := Pt.less_len b a; rw [hy1x, hq1x, GB.out.len] at this; exact this
  have HFX1x := Lib.hid (show ∀ y ∈ x1x, Fit16 y by rw [← hx1x]; exact less_fit GA.out.fits)
  have HFY1x := Lib.hid (show ∀ y ∈ y1x, Fit16 y by rw [← hy1x]; exact less_fit GB.out.fits)
  clear hx1x hy1x hp1x hq1x
  go_wp2_with fail
  refine (E.ofOf A B c d n m p1x q1x a b x1x y1x _ GA.out GB.out HX1x.out HY1x.out HP1x.out HQ1x.out).mono ?_
  rintro e w9 ⟨D1x, dc1x, P1x, pc1x, rfl, hdc1x, hpc1x, hsd1x, hsp1x, hx⟩
  have hmx1x := GA.out.most
  have hmy1x := GB.out.most
  have GD1x := Lib.hid (show EArg16 w9 D1x dc1x p1x x1x from ⟨HP1x.out, by omega, HFX1x.out, hdc1x, hsd1x⟩)
  have GP1x := Lib.hid (show EArg16 w9 P1x pc1x q1x y1x from ⟨HQ1x.out, by omega, HFY1x.out, hpc1x, hsp1x⟩)
  clear hsd1x hsp1x hmx1x hmy1x
  replace HB0 := Lib.hid (HB0.out.on16 hx)
  replace GA := Lib.hid (earg16_below GA.out hx)
  replace GB := Lib.hid (earg16_below GB.out hx)
  replace GD := Lib.hid (earg16_below GD.out hx)
  replace GP := Lib.hid (earg16_below GP.out hx)
  replace HR1 := Lib.hid (HR1.out.below hx)
  replace HR2 := Lib.hid (HR2.out.below hx)
  replace HR3 := Lib.hid (HR3.out.below hx)
  replace HV3 := Lib.hid (HV3.out.below hx)
  replace HR4 := Lib.hid (HR4.out.below hx)
  replace HV4 := Lib.hid (HV4.out.below hx)
  replace hb := bthen hb hx
  clear hx
  obtain ⟨c0, c1⟩ : True ∧ True := ⟨trivial, trivial⟩
  clear c0 c1
  have hu := up w9 (.cells #[.slice D1x p1x dc1x, .slice P1x q1x pc1x] 24)
  have HZ1 := Lib.hid (PatAt.new16 w9 D1x P1x p1x dc1x q1x pc1x)
  replace HB0 := Lib.hid (HB0.out.on16 hu)
  replace GA := Lib.hid (earg16_below GA.out hu)
  replace GB := Lib.hid (earg16_below GB.out hu)
  replace GD := Lib.hid (earg16_below GD.out hu)
  replace GP := Lib.hid (earg16_below GP.out hu)
  replace HR1 := Lib.hid (HR1.out.below hu)
  replace HR2 := Lib.hid (HR2.out.below hu)
  replace HR3 := Lib.hid (HR3.out.below hu)
  replace HV3 := Lib.hid (HV3.out.below hu)
  replace HR4 := Lib.hid (HR4.out.below hu)
  replace HV4 := Lib.hid (HV4.out.below hu)
  replace GD1x := Lib.hid (earg16_below GD1x.out hu)
  replace GP1x := Lib.hid (earg16_below GP1x.out hu)
  replace hb := bthen hb hu
  clear hu
  obtain ⟨c0, c1⟩ := HB0.out.cells16
  obtain ⟨xo, hxo⟩ : ∃ z, Pt.onlyE e h = z := ⟨_, rfl⟩
  obtain ⟨yo, hyo⟩ : ∃ z, Pt.onlyE u h = z := ⟨_, rfl⟩
  obtain ⟨po, hpo⟩ : ∃ z, xo.length = z := ⟨_, rfl⟩
  obtain ⟨qo, hqo⟩ : ∃ z, yo.length = z := ⟨_, rfl⟩
  have HXO := Lib.hid hxo
  have HYO := Lib.hid hyo
  have HPO := Lib.hid hpo
  have HQO := Lib.hid hqo
  have hpo60 : po ≤ 60 := by have h2 : po ≤ p := (by rw [← hpo, ← hxo, ← HNp.out]; exact List.length_filter_le _ _); omega
  have hqo60 : qo ≤ 60 := by have h2 : qo ≤ q := (by rw [← hqo, ← hyo, ← HNq.out]; exact List.length_filter_le _ _); omega
  have HFXO := Lib.hid (show ∀ y ∈ xo, Fit16 y by rw [← hxo]; exact only_fit HF3.out)
  have HFYO := Lib.hid (show ∀ y ∈ yo, Fit16 y by rw [← hyo]; exact only_fit HF4.out)
  clear hxo hyo hpo hqo
  go_wp2_with fail
  refine (E.onlyOf D P dc pc p q po qo e u xo yo h _ GD.out GP.out HHL.out HXO.out HYO.out HPO.out HQO.out).mono ?_
  rintro e w10 ⟨X, xc, Y, yc, rfl, hxc, hyc, hsx, hsy, hx⟩
  have GX := Lib.hid (show EArg16 w10 X xc po xo from ⟨HPO.out, by omega, HFXO.out, hxc, hsx⟩)
  have GY := Lib.hid (show EArg16 w10 Y yc qo yo from ⟨HQO.out, by omega, HFYO.out, hyc, hsy⟩)
  clear hsx hsy c0 c1
  replace HB0 := Lib.hid (HB0.out.on16 hx)
  replace GA := Lib.hid (earg16_below GA.out hx)
  replace GB := Lib.hid (earg16_below GB.out hx)
  replace GD := Lib.hid (earg16_below GD.out hx)
  replace GP := Lib.hid (earg16_below GP.out hx)
  replace HR1 := Lib.hid (HR1.out.below hx)
  replace HR2 := Lib.hid (HR2.out.below hx)
  replace HR3 := Lib.hid (HR3.out.below hx)
  replace HV3 := Lib.hid (HV3.out.below hx)
  replace HR4 := Lib.hid (HR4.out.below hx)
  replace HV4 := Lib.hid (HV4.out.below hx)
  replace GD1x := Lib.hid (earg16_below GD1x.out hx)
  replace GP1x := Lib.hid (earg16_below GP1x.out hx)
  replace HZ1 := Lib.hid (HZ1.out.on16 hx)
  replace hb := bthen hb hx
  clear hx
  have hu := up w10 (.cells #[.slice X po xc, .slice Y qo yc] 24)
  have HZ2 := Lib.hid (PatAt.new16 w10 X Y po xc qo yc)
  replace HB0 := Lib.hid (HB0.out.on16 hu)
  replace GA := Lib.hid (earg16_below GA.out hu)
  replace GB := Lib.hid (earg16_below GB.out hu)
  replace GD := Lib.hid (earg16_below GD.out hu)
  replace GP := Lib.hid (earg16_below GP.out hu)
  replace HR1 := Lib.hid (HR1.out.below hu)
  replace HR2 := Lib.hid (HR2.out.below hu)
  replace HR3 := Lib.hid (HR3.out.below hu)
  replace HV3 := Lib.hid (HV3.out.below hu)
  replace HR4 := Lib.hid (HR4.out.below hu)
  replace HV4 := Lib.hid (HV4.out.below hu)
  replace GD1x := Lib.hid (earg16_below GD1x.out hu)
  replace GP1x := Lib.hid (earg16_below GP1x.out hu)
  replace HZ1 := Lib.hid (HZ1.out.on16 hu)
  replace GX := Lib.hid (earg16_below GX.out hu)
  replace GY := Lib.hid (earg16_below GY.out hu)
  replace hb := bthen hb hu
  clear hu
  obtain ⟨c0, c1⟩ := HZ1.out.cells16
  go_wp2_with fail
  refine (refsV16 D1x dc1x p1x x1x _ GD1x.out).mono ?_
  rintro e w11 ⟨R5, r5, rfl, hr5, hs5, hv5, hx⟩
  have HR5 := Lib.hid hs5
  have HV5 := Lib.hid hv5
  clear hs5 hv5
  replace HB0 := Lib.hid (HB0.out.on16 hx)
  replace GA := Lib.hid (earg16_below GA.out hx)
  replace GB := Lib.hid (earg16_below GB.out hx)
  replace GD := Lib.hid (earg16_below GD.out hx)
  replace GP := Lib.hid (earg16_below GP.out hx)
  replace HR1 := Lib.hid (HR1.out.below hx)
  replace HR2 := Lib.hid (HR2.out.below hx)
  replace HR3 := Lib.hid (HR3.out.below hx)
  replace HV3 := Lib.hid (HV3.out.below hx)
  replace HR4 := Lib.hid (HR4.out.below hx)
  replace HV4 := Lib.hid (HV4.out.below hx)
  replace GD1x := Lib.hid (earg16_below GD1x.out hx)
  replace GP1x := Lib.hid (earg16_below GP1x.out hx)
  replace HZ1 := Lib.hid (HZ1.out.on16 hx)
  replace GX := Lib.hid (earg16_below GX.out hx)
  replace GY := Lib.hid (earg16_below GY.out hx)
  replace HZ2 := Lib.hid (HZ2.out.on16 hx)
  replace hb := bthen hb hx
  clear hx
  clear c0 c1
  go_wp2_with fail
  refine (lessR16 R1 R2 r1 n r2 m p1x a b _ HNn.out HNm.out (by omega) (by omega) HR1.out HR2.out (by rw [HX1x.out]; exact HP1x.out)).mono ?_
  rintro e w12 ⟨R6, r6, rfl, hr6, hs6, hx⟩
  rw [HX1x.out] at hs6
  have HR6 := Lib.hid hs6
  clear hs6
  replace HB0 := Lib.hid (HB0.out.on16 hx)
  replace GA := Lib.hid (earg16_below GA.out hx)
  replace GB := Lib.hid (earg16_below GB.out hx)
  replace GD := Lib.hid (earg16_below GD.out hx)
  replace GP := Lib.hid (earg16_below GP.out hx)
  replace HR1 := Lib.hid (HR1.out.below hx)
  replace HR2 := Lib.hid (HR2.out.below hx)
  replace HR3 := Lib.hid (HR3.out.below hx)
  replace HV3 := Lib.hid (HV3.out.below hx)
  replace HR4 := Lib.hid (HR4.out.below hx)
  replace HV4 := Lib.hid (HV4.out.below hx)
  replace GD1x := Lib.hid (earg16_below GD1x.out hx)
  replace GP1x := Lib.hid (earg16_below GP1x.out hx)
  replace HZ1 := Lib.hid (HZ1.out.on16 hx)
  replace GX := Lib.hid (earg16_below GX.out hx)
  replace GY := Lib.hid (earg16_below GY.out hx)
  replace HZ2 := Lib.hid (HZ2.out.on16 hx)
  replace HR5 := Lib.hid (HR5.out.below hx)
  replace hb := bthen hb hx
  clear hx
  go_wp2_with fail
  refine (sameR14 R5 R6 r5 r6 p1x x1x _ HP1x.out (by omega) HR5.out HR6.out).mono ?_
  rintro e w13 ⟨rfl, hx⟩
  replace HB0 := Lib.hid (HB0.out.on16 hx)
  replace GA := Lib.hid (earg16_below GA.out hx)
  replace GB := Lib.hid (earg16_below GB.out hx)
  replace GD := Lib.hid (earg16_below GD.out hx)
  replace GP := Lib.hid (earg16_below GP.out hx)
  replace HR1 := Lib.hid (HR1.out.below hx)
  replace HR2 := Lib.hid (HR2.out.below hx)
  replace HR3 := Lib.hid (HR3.out.below hx)
  replace HV3 := Lib.hid (HV3.out.below hx)
  replace HR4 := Lib.hid (HR4.out.below hx)
  replace HV4 := Lib.hid (HV4.out.below hx)
  replace GD1x := Lib.hid (earg16_below GD1x.out hx)
  replace GP1x := Lib.hid (earg16_below GP1x.out hx)
  replace HZ1 := Lib.hid (HZ1.out.on16 hx)
  replace GX := Lib.hid (earg16_below GX.out hx)
  replace GY := Lib.hid (earg16_below GY.out hx)
  replace HZ2 := Lib.hid (HZ2.out.on16 hx)
  replace hb := bthen hb hx
  clear hx
  obtain ⟨c0, c1⟩ := HZ1.out.cells16
  go_wp2_with fail
  refine (refsV16 P1x pc1x q1x y1x _ GP1x.out).mono ?_
  rintro e w14 ⟨R7, r7, rfl, hr7, hs7, hv7, hx⟩
  have HR7 := Lib.hid hs7
  have HV7 := Lib.hid hv7
  clear hs7 hv7
  replace HB0 := Lib.hid (HB0.out.on16 hx)
  replace GA := Lib.hid (earg16_below GA.out hx)
  replace GB := Lib.hid (earg16_below GB.out hx)
  replace GD := Lib.hid (earg16_below GD.out hx)
  replace GP := Lib.hid (earg16_below GP.out hx)
  replace HR1 := Lib.hid (HR1.out.below hx)
  replace HR2 := Lib.hid (HR2.out.below hx)
  replace HR3 := Lib.hid (HR3.out.below hx)
  replace HV3 := Lib.hid (HV3.out.below hx)
  replace HR4 := Lib.hid (HR4.out.below hx)
  replace HV4 := Lib.hid (HV4.out.below hx)
  replace GD1x := Lib.hid (earg16_below GD1x.out hx)
  replace GP1x := Lib.hid (earg16_below GP1x.out hx)
  replace HZ1 := Lib.hid (HZ1.out.on16 hx)
  replace GX := Lib.hid (earg16_below GX.out hx)
  replace GY := Lib.hid (earg16_below GY.out hx)
  replace HZ2 := Lib.hid (HZ2.out.on16 hx)
  replace hb := bthen hb hx
  clear hx
  clear c0 c1
  go_wp2_with fail
  refine (lessR16 R2 R1 r2 m r1 n q1x b a _ HNm.out HNn.out (by omega) (by omega) HR2.out HR1.out (by rw [HY1x.out]; exact HQ1x.out)).mono ?_
  rintro e w15 ⟨R8, r8, rfl, hr8, hs8, hx⟩
  rw [HY1x.out] at hs8
  have HR8 := Lib.hid hs8
  clear hs8
  replace HB0 := Lib.hid (HB0.out.on16 hx)
  replace GA := Lib.hid (earg16_below GA.out hx)
  replace GB := Lib.hid (earg16_below GB.out hx)
  replace GD := Lib.hid (earg16_below GD.out hx)
  replace GP := Lib.hid (earg16_below GP.out hx)
  replace HR1 := Lib.hid (HR1.out.below hx)
  replace HR2 := Lib.hid (HR2.out.below hx)
  replace HR3 := Lib.hid (HR3.out.below hx)
  replace HV3 := Lib.hid (HV3.out.below hx)
  replace HR4 := Lib.hid (HR4.out.below hx)
  replace HV4 := Lib.hid (HV4.out.below hx)
  replace GD1x := Lib.hid (earg16_below GD1x.out hx)
  replace GP1x := Lib.hid (earg16_below GP1x.out hx)
  replace HZ1 := Lib.hid (HZ1.out.on16 hx)
  replace GX := Lib.hid (earg16_below GX.out hx)
  replace GY := Lib.hid (earg16_below GY.out hx)
  replace HZ2 := Lib.hid (HZ2.out.on16 hx)
  replace HR7 := Lib.hid (HR7.out.below hx)
  replace hb := bthen hb hx
  clear hx
  go_wp2_with fail
  refine (sameR14 R7 R8 r7 r8 q1x y1x _ HQ1x.out (by omega) HR7.out HR8.out).mono ?_
  rintro e w16 ⟨rfl, hx⟩
  replace HB0 := Lib.hid (HB0.out.on16 hx)
  replace GA := Lib.hid (earg16_below GA.out hx)
  replace GB := Lib.hid (earg16_below GB.out hx)
  replace GD := Lib.hid (earg16_below GD.out hx)
  replace GP := Lib.hid (earg16_below GP.out hx)
  replace HR1 := Lib.hid (HR1.out.below hx)
  replace HR2 := Lib.hid (HR2.out.below hx)
  replace HR3 := Lib.hid (HR3.out.below hx)
  replace HV3 := Lib.hid (HV3.out.below hx)
  replace HR4 := Lib.hid (HR4.out.below hx)
  replace HV4 := Lib.hid (HV4.out.below hx)
  replace GX := Lib.hid (earg16_below GX.out hx)
  replace GY := Lib.hid (earg16_below GY.out hx)
  replace HZ2 := Lib.hid (HZ2.out.on16 hx)
  replace hb := bthen hb hx
  clear hx
  obtain ⟨c0, c1⟩ := HZ2.out.cells16
  go_wp2_with fail
  refine (refsV16 X xc po xo _ GX.out).mono ?_
  rintro e w17 ⟨R9, r9, rfl, hr9, hs9, hv9, hx⟩
  have HR9 := Lib.hid hs9
  have HV9 := Lib.hid hv9
  clear hs9 hv9
  replace HB0 := Lib.hid (HB0.out.on16 hx)
  replace GA := Lib.hid (earg16_below GA.out hx)
  replace GB := Lib.hid (earg16_below GB.out hx)
  replace GD := Lib.hid (earg16_below GD.out hx)
  replace GP := Lib.hid (earg16_below GP.out hx)
  replace HR1 := Lib.hid (HR1.out.below hx)
  replace HR2 := Lib.hid (HR2.out.below hx)
  replace HR3 := Lib.hid (HR3.out.below hx)
  replace HV3 := Lib.hid (HV3.out.below hx)
  replace HR4 := Lib.hid (HR4.out.below hx)
  replace HV4 := Lib.hid (HV4.out.below hx)
  replace GX := Lib.hid (earg16_below GX.out hx)
  replace GY := Lib.hid (earg16_below GY.out hx)
  replace HZ2 := Lib.hid (HZ2.out.on16 hx)
  replace hb := bthen hb hx
  clear hx
  clear c0 c1
  go_wp2_with fail
  refine (onlyR16 R3 r3 p po e h _ HNp.out (by omega) HR3.out (by rw [HXO.out]; exact HPO.out)).mono ?_
  rintro e w18 ⟨Ra, ra, rfl, hra, hsa, hx⟩
  rw [HXO.out] at hsa
  have HRa := Lib.hid hsa
  clear hsa
  replace HB0 := Lib.hid (HB0.out.on16 hx)
  replace GA := Lib.hid (earg16_below GA.out hx)
  replace GB := Lib.hid (earg16_below GB.out hx)
  replace GD := Lib.hid (earg16_below GD.out hx)
  replace GP := Lib.hid (earg16_below GP.out hx)
  replace HR1 := Lib.hid (HR1.out.below hx)
  replace HR2 := Lib.hid (HR2.out.below hx)
  replace HR3 := Lib.hid (HR3.out.below hx)
  replace HV3 := Lib.hid (HV3.out.below hx)
  replace HR4 := Lib.hid (HR4.out.below hx)
  replace HV4 := Lib.hid (HV4.out.below hx)
  replace GX := Lib.hid (earg16_below GX.out hx)
  replace GY := Lib.hid (earg16_below GY.out hx)
  replace HZ2 := Lib.hid (HZ2.out.on16 hx)
  replace HR9 := Lib.hid (HR9.out.below hx)
  replace hb := bthen hb hx
  clear hx
  go_wp2_with fail
  refine (sameR14 R9 Ra r9 ra po xo _ HPO.out (by omega) HR9.out HRa.out).mono ?_
  rintro e w19 ⟨rfl, hx⟩
  replace HB0 := Lib.hid (HB0.out.on16 hx)
  replace GA := Lib.hid (earg16_below GA.out hx)
  replace GB := Lib.hid (earg16_below GB.out hx)
  replace GD := Lib.hid (earg16_below GD.out hx)
  replace GP := Lib.hid (earg16_below GP.out hx)
  replace HR1 := Lib.hid (HR1.out.below hx)
  replace HR2 := Lib.hid (HR2.out.below hx)
  replace HR3 := Lib.hid (HR3.out.below hx)
  replace HV3 := Lib.hid (HV3.out.below hx)
  replace HR4 := Lib.hid (HR4.out.below hx)
  replace HV4 := Lib.hid (HV4.out.below hx)
  replace GX := Lib.hid (earg16_below GX.out hx)
  replace GY := Lib.hid (earg16_below GY.out hx)
  replace HZ2 := Lib.hid (HZ2.out.on16 hx)
  replace hb := bthen hb hx
  clear hx
  obtain ⟨c0, c1⟩ := HZ2.out.cells16
  go_wp2_with fail
  refine (refsV16 Y yc qo yo _ GY.out).mono ?_
  rintro e w20 ⟨Rb, rb, rfl, hrb, hsb, hvb, hx⟩
  have HRb := Lib.hid hsb
  have HVb := Lib.hid hvb
  clear hsb hvb
  replace HB0 := Lib.hid (HB0.out.on16 hx)
  replace GA := Lib.hid (earg16_below GA.out hx)
  replace GB := Lib.hid (earg16_below GB.out hx)
  replace GD := Lib.hid (earg16_below GD.out hx)
  replace GP := Lib.hid (earg16_below GP.out hx)
  replace HR1 := Lib.hid (HR1.out.below hx)
  replace HR2 := Lib.hid (HR2.out.below hx)
  replace HR3 := Lib.hid (HR3.out.below hx)
  replace HV3 := Lib.hid (HV3.out.below hx)
  replace HR4 := Lib.hid (HR4.out.below hx)
  replace HV4 := Lib.hid (HV4.out.below hx)
  replace GX := Lib.hid (earg16_below GX.out hx)
  replace GY := Lib.hid (earg16_below GY.out hx)
  replace HZ2 := Lib.hid (HZ2.out.on16 hx)
  replace hb := bthen hb hx
  clear hx
  clear c0 c1
  go_wp2_with fail
  refine (onlyR16 R4 r4 q qo u h _ HNq.out (by omega) HR4.out (by rw [HYO.out]; exact HQO.out)).mono ?_
  rintro e w21 ⟨Rc, rc, rfl, hrc, hsc, hx⟩
  rw [HYO.out] at hsc
  have HRc := Lib.hid hsc
  clear hsc
  replace HB0 := Lib.hid (HB0.out.on16 hx)
  replace GA := Lib.hid (earg16_below GA.out hx)
  replace GB := Lib.hid (earg16_below GB.out hx)
  replace GD := Lib.hid (earg16_below GD.out hx)
  replace GP := Lib.hid (earg16_below GP.out hx)
  replace HR1 := Lib.hid (HR1.out.below hx)
  replace HR2 := Lib.hid (HR2.out.below hx)
  replace HR3 := Lib.hid (HR3.out.below hx)
  replace HV3 := Lib.hid (HV3.out.below hx)
  replace HR4 := Lib.hid (HR4.out.below hx)
  replace HV4 := Lib.hid (HV4.out.below hx)
  replace GX := Lib.hid (earg16_below GX.out hx)
  replace GY := Lib.hid (earg16_below GY.out hx)
  replace HZ2 := Lib.hid (HZ2.out.on16 hx)
  replace HRb := Lib.hid (HRb.out.below hx)
  replace hb := bthen hb hx
  clear hx
  go_wp2_with fail
  refine (sameR14 Rb Rc rb rc qo yo _ HQO.out (by omega) HRb.out HRc.out).mono ?_
  rintro e w22 ⟨rfl, hx⟩
  replace HB0 := Lib.hid (HB0.out.on16 hx)
  replace GA := Lib.hid (earg16_below GA.out hx)
  replace GB := Lib.hid (earg16_below GB.out hx)
  replace GD := Lib.hid (earg16_below GD.out hx)
  replace GP := Lib.hid (earg16_below GP.out hx)
  replace HR1 := Lib.hid (HR1.out.below hx)
  replace HR2 := Lib.hid (HR2.out.below hx)
  replace HR3 := Lib.hid (HR3.out.below hx)
  replace HV3 := Lib.hid (HV3.out.below hx)
  replace HR4 := Lib.hid (HR4.out.below hx)
  replace HV4 := Lib.hid (HV4.out.below hx)
  replace hb := bthen hb hx
  clear hx
  have hu := up w22 (.cells #[] eEd.T)
  have HOE := Lib.hid (Own.empty eEd w22)
  have hsz : w22.heap.size ≤ (w22.alloc (.cells #[] eEd.T)).heap.size := hu.size
  have HV3a := Lib.hid (HV3.out.below hu)
  have HLN1 := Lib.hid (show ([] : List H.En).length + e.length ≤ 1099511627776 by rw [HNp.out]; simp; omega)
  have HLN2 := Lib.hid (show ([] ++ e : List H.En).length + u.length ≤ 1099511627776 by rw [List.nil_append, HNp.out, HNq.out]; omega)
  have HZL := Lib.hid (show ([] ++ e ++ u : List H.En).length = p + q by rw [List.nil_append, List.length_append, HNp.out, HNq.out])
  obtain ⟨sx, hsx⟩ : ∃ x, Pt.applyE a e u = x := ⟨_, rfl⟩
  obtain ⟨ms, hms⟩ : ∃ m, sx.length = m := ⟨_, rfl⟩
  have HSX := Lib.hid hsx
  have HMS := Lib.hid hms
  have hms120 : ms ≤ 120 := by have := apply_is (d := e) HNn.out HNq.out; rw [hsx, hms] at this; omega
  have HFS := Lib.hid (show ∀ y ∈ sx, Fit16 y by rw [← hsx]; exact apply_fit HF1.out HF4.out)
  obtain ⟨hx0, hhx⟩ : ∃ x, Pt.hostsE (e ++ u) = x := ⟨_, rfl⟩
  obtain ⟨mh, hmh⟩ : ∃ m, hx0.length = m := ⟨_, rfl⟩
  have HHX := Lib.hid hhx
  have HMH := Lib.hid hmh
  have hmh120 : mh ≤ 120 := by have := Pt.hosts_len (e ++ u); rw [hhx, hmh, List.length_append, HNp.out, HNq.out] at this; omega
  clear hsx hms hhx hmh
  go_wp2_with (first | (at_builtin; refine wpList_appM eEd (w22.alloc (.cells #[] eEd.T)) rfl (.tmp 94) (.tmp 95) rfl w22.heap.size _ [] rfl HOE.out (.slice R3 p r3) e rfl HV3a.out HLN1.out hsz ?_; intro va wa hoa hba hga; have HOA2 := Lib.hid hoa; have hua := hu.trans hba; have HV4a := Lib.hid (HV4.out.below hua); have hszb := hua.size; clear hoa hba hga) | (at_builtin; refine wpList_appM eEd wa rfl (.tmp 96) (.tmp 97) rfl w22.heap.size va ([] ++ e) rfl HOA2.out (.slice R4 q r4) u rfl HV4a.out HLN2.out hszb ?_; intro vb wb hob hbb hgb; have HOB := Lib.hid hob; have hub := hua.trans hbb; obtain ⟨c0, c1⟩ := (HB0.out.on16 hub).cells16; clear hob hbb hgb))
  replace HB0 := Lib.hid (HB0.out.on16 hub)
  replace GA := Lib.hid (earg16_below GA.out hub)
  replace GB := Lib.hid (earg16_below GB.out hub)
  replace GD := Lib.hid (earg16_below GD.out hub)
  replace GP := Lib.hid (earg16_below GP.out hub)
  replace HR1 := Lib.hid (HR1.out.below hub)
  replace HR2 := Lib.hid (HR2.out.below hub)
  replace HR3 := Lib.hid (HR3.out.below hub)
  replace HR4 := Lib.hid (HR4.out.below hub)
  replace hb := bthen hb hub
  obtain ⟨Rz, rz, rfl, hrz, hsz2⟩ := HOB.out.seenN HZL.out
  have HRZ := Lib.hid (show Seen eEd wb Rz (e ++ u) from hsz2)
  clear hsz2
  go_wp2_with fail
  refine (E.applyOf A D P c dc pc n p q ms a e u sx _ GA.out GD.out GP.out HSX.out HMS.out).mono ?_
  rintro e w23 ⟨Bs, bs, rfl, hbs, hsbs, hx⟩
  have GS := Lib.hid (show EArg16 w23 Bs bs ms sx from ⟨HMS.out, by omega, HFS.out, hbs, hsbs⟩)
  clear hsbs c0 c1
  replace HB0 := Lib.hid (HB0.out.on16 hx)
  replace GA := Lib.hid (earg16_below GA.out hx)
  replace GB := Lib.hid (earg16_below GB.out hx)
  replace GD := Lib.hid (earg16_below GD.out hx)
  replace GP := Lib.hid (earg16_below GP.out hx)
  replace HR1 := Lib.hid (HR1.out.below hx)
  replace HR2 := Lib.hid (HR2.out.below hx)
  replace HR3 := Lib.hid (HR3.out.below hx)
  replace HR4 := Lib.hid (HR4.out.below hx)
  replace HRZ := Lib.hid (HRZ.out.below hx)
  replace hb := bthen hb hx
  clear hx
  go_wp2_with fail
  refine (refsV16 Bs bs ms sx _ GS.out).mono ?_
  rintro e w24 ⟨Rs, rs, rfl, hrs, hss, hvs, hx⟩
  have HRs := Lib.hid hss
  have HVs := Lib.hid hvs
  clear hss hvs
  replace HB0 := Lib.hid (HB0.out.on16 hx)
  replace GA := Lib.hid (earg16_below GA.out hx)
  replace GB := Lib.hid (earg16_below GB.out hx)
  replace GD := Lib.hid (earg16_below GD.out hx)
  replace GP := Lib.hid (earg16_below GP.out hx)
  replace HR1 := Lib.hid (HR1.out.below hx)
  replace HR2 := Lib.hid (HR2.out.below hx)
  replace HR3 := Lib.hid (HR3.out.below hx)
  replace HR4 := Lib.hid (HR4.out.below hx)
  replace HRZ := Lib.hid (HRZ.out.below hx)
  replace GS := Lib.hid (earg16_below GS.out hx)
  replace hb := bthen hb hx
  clear hx
  go_wp2_with fail
  refine (applyR16 R1 R3 R4 r1 n r3 p r4 q ms a e u _ HNn.out HNp.out HNq.out (by omega) (by omega) (by omega) HR1.out HR3.out HR4.out (by rw [HSX.out]; exact HMS.out)).mono ?_
  rintro e w25 ⟨Rt, rt, rfl, hrt, hst, hx⟩
  rw [HSX.out] at hst
  have HRt := Lib.hid hst
  clear hst
  replace HB0 := Lib.hid (HB0.out.on16 hx)
  replace GA := Lib.hid (earg16_below GA.out hx)
  replace GB := Lib.hid (earg16_below GB.out hx)
  replace GD := Lib.hid (earg16_below GD.out hx)
  replace GP := Lib.hid (earg16_below GP.out hx)
  replace HR1 := Lib.hid (HR1.out.below hx)
  replace HR2 := Lib.hid (HR2.out.below hx)
  replace HR3 := Lib.hid (HR3.out.below hx)
  replace HR4 := Lib.hid (HR4.out.below hx)
  replace HRZ := Lib.hid (HRZ.out.below hx)
  replace HRs := Lib.hid (HRs.out.below hx)
  replace hb := bthen hb hx
  clear hx
  go_wp2_with fail
  refine (sameR14 Rs Rt rs rt ms sx _ HMS.out (by omega) HRs.out HRt.out).mono ?_
  rintro e w26 ⟨rfl, hx⟩
  replace HB0 := Lib.hid (HB0.out.on16 hx)
  replace GA := Lib.hid (earg16_below GA.out hx)
  replace GB := Lib.hid (earg16_below GB.out hx)
  replace GD := Lib.hid (earg16_below GD.out hx)
  replace GP := Lib.hid (earg16_below GP.out hx)
  replace HRZ := Lib.hid (HRZ.out.below hx)
  replace hb := bthen hb hx
  clear hx
  obtain ⟨c0, c1⟩ := HB0.out.cells16
  go_wp2_with fail
  refine (E.hostsOf D P dc pc p q mh e u hx0 _ GD.out GP.out HHX.out HMH.out).mono ?_
  rintro e w27 ⟨Bh, bh, rfl, hbh, hsh, hx⟩
  have HSH := Lib.hid hsh
  clear hsh c0 c1
  replace HB0 := Lib.hid (HB0.out.on16 hx)
  replace GA := Lib.hid (earg16_below GA.out hx)
  replace GB := Lib.hid (earg16_below GB.out hx)
  replace GD := Lib.hid (earg16_below GD.out hx)
  replace GP := Lib.hid (earg16_below GP.out hx)
  replace HRZ := Lib.hid (HRZ.out.below hx)
  replace hb := bthen hb hx
  clear hx
  go_wp2_with fail
  refine (hostsR16 Rz rz (p + q) mh (e ++ u) _ (by rw [List.length_append, HNp.out, HNq.out]) (by omega) HRZ.out (by rw [HHX.out]; exact HMH.out)).mono ?_
  rintro e w28 ⟨Bi, bi, rfl, hbi, hsi, hx⟩
  rw [HHX.out] at hsi
  have HSI := Lib.hid hsi
  clear hsi
  replace HB0 := Lib.hid (HB0.out.on16 hx)
  replace GA := Lib.hid (earg16_below GA.out hx)
  replace GB := Lib.hid (earg16_below GB.out hx)
  replace GD := Lib.hid (earg16_below GD.out hx)
  replace GP := Lib.hid (earg16_below GP.out hx)
  replace HRZ := Lib.hid (HRZ.out.below hx)
  replace HSH := Lib.hid (HSH.out.below hx)
  replace hb := bthen hb hx
  clear hx
  go_wp2_with fail
  refine (equal_yes Bh Bi bh bi hx0 hx0 mh mh _ rfl HMH.out HMH.out (by omega) HSH.out HSI.out).mono ?_
  rintro e w29 ⟨rfl, hx⟩
  replace hb := bthen hb hx
  clear hx
  go_wp2_with fail
  refine (AW _).mono ?_
  rintro e wz ⟨rfl, hx⟩
  go_wp2
  go_ret
  exact ⟨rfl, bthen hb hx⟩
end Go.Proofs.Ytpkhnchbamjgjaa
