/-
  The walk of layer 16's statement PatchTwice, from what patch does: it returns true whatever comes in. No conditions.
-/
import Derived.Test.YtpkhnchbamjgjaaBase5
namespace Go.Proofs.Ytpkhnchbamjgjaa
open Go.RowKit
set_option linter.unusedVariables false

set_option maxRecDepth 100000 in
set_option maxHeartbeats 8000000 in
theorem patchTwice_walk (E : PatchOk) (AW : ∀ w, Calls Try.prog 11 #[] w (TrueS w)) (w : World) (A : Option Addr) (c : Nat) (l : List H.En) (hc : l.length ≤ c) (hA : Seen eEc w A l) (hlA : l.length ≤ maxLen) (D : Option Addr) (dc : Nat) (d : List H.En) (hdc : d.length ≤ dc) (hD : Seen eEc w D d) (hlD : d.length ≤ maxLen) (P : Option Addr) (pc : Nat) (u : List H.En) (hpc : u.length ≤ pc) (hP : Seen eEc w P u) (hlP : u.length ≤ maxLen) :
    Calls Try.prog 7 #[.slice A l.length c, patV D d.length dc P u.length pc] w (TrueS w) := by
  unfold maxLen at hlA hlD hlP
  unfold patV
  obtain ⟨n, hnn⟩ : ∃ n, l.length = n := ⟨_, rfl⟩
  obtain ⟨p, hnp⟩ : ∃ n, d.length = n := ⟨_, rfl⟩
  obtain ⟨q, hnq⟩ : ∃ n, u.length = n := ⟨_, rfl⟩
  rw [hnn] at hc hlA ⊢
  rw [hnp] at hdc hlD ⊢
  rw [hnq] at hpc hlP ⊢
  have HNn := Lib.hid hnn
  have HNp := Lib.hid hnp
  have HNq := Lib.hid hnq
  have hb := up w (.cells #[.slice D p dc, .slice P q pc] 24)
  have HA := Lib.hid (hA.below hb)
  have HD := Lib.hid (hD.below hb)
  have HP := Lib.hid (hP.below hb)
  have HB0 := Lib.hid (PatAt.new16 w D P p dc q pc)
  obtain ⟨c0, c1⟩ := HB0.out.cells16
  clear hnn hnp hnq hA hD hP
  go_enter Try.func7, Try.ntmps7
  go_wp2_with fail
  refine (few16 A c n l _ HNn.out HA.out (by omega)).mono ?_
  rintro e w1 ⟨f1, rfl, hf1, hx⟩
  replace HA := Lib.hid (HA.out.below hx)
  replace HD := Lib.hid (HD.out.below hx)
  replace HP := Lib.hid (HP.out.below hx)
  replace HB0 := Lib.hid (HB0.out.on16 hx)
  replace hb := bthen hb hx
  clear hx
  clear c0 c1
  cases f1 with
  | false =>
    go_wp2_with fail
    refine (AW _).mono ?_
    rintro e wz ⟨rfl, hx⟩
    go_wp2
    go_ret
    exact ⟨rfl, bthen hb hx⟩
  | true =>
  obtain ⟨h601, hl1⟩ := hf1 rfl
  have HF1 := Lib.hid hl1
  clear hf1 hl1
  obtain ⟨c0, c1⟩ := HB0.out.cells16
  go_wp2_with fail
  refine (few16 D dc p d _ HNp.out HD.out (by omega)).mono ?_
  rintro e w2 ⟨f2, rfl, hf2, hx⟩
  replace HA := Lib.hid (HA.out.below hx)
  replace HD := Lib.hid (HD.out.below hx)
  replace HP := Lib.hid (HP.out.below hx)
  replace HB0 := Lib.hid (HB0.out.on16 hx)
  replace hb := bthen hb hx
  clear hx
  clear c0 c1
  cases f2 with
  | false =>
    go_wp2_with fail
    refine (AW _).mono ?_
    rintro e wz ⟨rfl, hx⟩
    go_wp2
    go_ret
    exact ⟨rfl, bthen hb hx⟩
  | true =>
  obtain ⟨h602, hl2⟩ := hf2 rfl
  have HF2 := Lib.hid hl2
  clear hf2 hl2
  obtain ⟨c0, c1⟩ := HB0.out.cells16
  go_wp2_with fail
  refine (few16 P pc q u _ HNq.out HP.out (by omega)).mono ?_
  rintro e w3 ⟨f3, rfl, hf3, hx⟩
  replace HA := Lib.hid (HA.out.below hx)
  replace HD := Lib.hid (HD.out.below hx)
  replace HP := Lib.hid (HP.out.below hx)
  replace HB0 := Lib.hid (HB0.out.on16 hx)
  replace hb := bthen hb hx
  clear hx
  clear c0 c1
  cases f3 with
  | false =>
    go_wp2_with fail
    refine (AW _).mono ?_
    rintro e wz ⟨rfl, hx⟩
    go_wp2
    go_ret
    exact ⟨rfl, bthen hb hx⟩
  | true =>
  obtain ⟨h603, hl3⟩ := hf3 rfl
  have HF3 := Lib.hid hl3
  clear hf3 hl3
  have GA := Lib.hid (earg16 HNn.out h601 HF1.out hc HA.out)
  have GD := Lib.hid (earg16 HNp.out h602 HF2.out hdc HD.out)
  have GP := Lib.hid (earg16 HNq.out h603 HF3.out hpc HP.out)
  obtain ⟨x, hx0⟩ : ∃ x, Pt.applyE l d u = x := ⟨_, rfl⟩
  obtain ⟨m, hm⟩ : ∃ m, x.length = m := ⟨_, rfl⟩
  have HX0 := Lib.hid hx0
  have HM := Lib.hid hm
  have hm120 : m ≤ 120 := by have := apply_is (d := d) HNn.out HNq.out; rw [hx0, hm] at this; omega
  have HX1 := Lib.hid (show Pt.applyE x d u = x by rw [← hx0]; exact Pt.twice l d u)
  have HFX := Lib.hid (show ∀ y ∈ x, Fit16 y by rw [← hx0]; exact apply_fit HF1.out HF3.out)
  clear hx0 hm
  obtain ⟨c0, c1⟩ := HB0.out.cells16
  go_wp2_with fail
  refine (E.applyOf A D P c dc pc n p q m l d u x _ GA.out GD.out GP.out HX0.out HM.out).mono ?_
  rintro e w4 ⟨B1, b1, rfl, hb1, hs1, hx⟩
  replace HB0 := Lib.hid (HB0.out.on16 hx)
  replace GA := Lib.hid (earg16_below GA.out hx)
  replace GD := Lib.hid (earg16_below GD.out hx)
  replace GP := Lib.hid (earg16_below GP.out hx)
  replace hb := bthen hb hx
  clear hx
  have G1 := Lib.hid (show EArg16 w4 B1 b1 m x from ⟨HM.out, by omega, HFX.out, hb1, hs1⟩)
  clear hs1 c0 c1
  obtain ⟨c0, c1⟩ := HB0.out.cells16
  go_wp2_with fail
  refine (E.applyOf B1 D P b1 dc pc m p q m x d u x _ G1.out GD.out GP.out HX1.out HM.out).mono ?_
  rintro e w5 ⟨B2, b2, rfl, hb2, hs2, hx⟩
  replace HB0 := Lib.hid (HB0.out.on16 hx)
  replace GA := Lib.hid (earg16_below GA.out hx)
  replace GD := Lib.hid (earg16_below GD.out hx)
  replace GP := Lib.hid (earg16_below GP.out hx)
  replace G1 := Lib.hid (earg16_below G1.out hx)
  replace hb := bthen hb hx
  clear hx
  have G2 := Lib.hid (show EArg16 w5 B2 b2 m x from ⟨HM.out, by omega, HFX.out, hb2, hs2⟩)
  clear hs2 c0 c1
  go_wp2_with fail
  refine (E.ofOf A A c c n n 0 0 l l [] [] _ GA.out GA.out (Pt.less_self l) (Pt.less_self l) rfl rfl).mono ?_
  rintro e w6 ⟨B3, b3, B4, b4, rfl, _, _, _, _, hx⟩
  replace HB0 := Lib.hid (HB0.out.on16 hx)
  replace GA := Lib.hid (earg16_below GA.out hx)
  replace GD := Lib.hid (earg16_below GD.out hx)
  replace GP := Lib.hid (earg16_below GP.out hx)
  replace G1 := Lib.hid (earg16_below G1.out hx)
  replace G2 := Lib.hid (earg16_below G2.out hx)
  replace hb := bthen hb hx
  clear hx
  have hu := up w6 (.cells #[.slice B3 0 b3, .slice B4 0 b4] 24)
  have HZ := Lib.hid (PatAt.new16 w6 B3 B4 0 b3 0 b4)
  have G1 := Lib.hid (earg16_below G1.out hu)
  have G2 := Lib.hid (earg16_below G2.out hu)
  replace hb := bthen hb hu
  clear hu
  go_wp2_with fail
  refine (refs16 B1 b1 m x _ G1.out).mono ?_
  rintro e w7 ⟨R1, r1, rfl, hr1, hs3, hx⟩
  have HR1 := Lib.hid hs3
  clear hs3
  replace G2 := Lib.hid (earg16_below G2.out hx)
  replace HZ := Lib.hid (HZ.out.on16 hx)
  replace hb := bthen hb hx
  clear hx
  go_wp2_with fail
  refine (refs16 B2 b2 m x _ G2.out).mono ?_
  rintro e w8 ⟨R2, r2, rfl, hr2, hs4, hx⟩
  have HR2 := Lib.hid hs4
  clear hs4
  replace HR1 := Lib.hid (HR1.out.below hx)
  replace HZ := Lib.hid (HZ.out.on16 hx)
  replace hb := bthen hb hx
  clear hx
  go_wp2_with fail
  refine (sameR14 R1 R2 r1 r2 m x _ HM.out (by omega) HR1.out HR2.out).mono ?_
  rintro e w9 ⟨rfl, hx⟩
  replace HZ := Lib.hid (HZ.out.on16 hx)
  replace hb := bthen hb hx
  clear hx
  obtain ⟨c0, c1⟩ := HZ.out.cells16
  go_wp2_with fail
  refine (AW _).mono ?_
  rintro e wz ⟨rfl, hx⟩
  go_wp2
  go_ret
  exact ⟨rfl, bthen hb hx⟩
end Go.Proofs.Ytpkhnchbamjgjaa
