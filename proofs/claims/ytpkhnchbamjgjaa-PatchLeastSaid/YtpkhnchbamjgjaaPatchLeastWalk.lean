/-
  The walk of layer 16's statement PatchLeast, from what patch does: it returns true whatever comes in. No conditions.
-/
import Derived.Test.YtpkhnchbamjgjaaBase5
namespace Go.Proofs.Ytpkhnchbamjgjaa
open Go.RowKit
set_option linter.unusedVariables false

set_option maxRecDepth 100000 in
set_option maxHeartbeats 8000000 in
theorem patchLeast_walk (E : PatchOk) (AW : ∀ w, Calls Try.prog 11 #[] w (TrueS w)) (w : World) (A : Option Addr) (c : Nat) (a : List H.En) (hc : a.length ≤ c) (hA : Seen eEc w A a) (hlA : a.length ≤ maxLen) (B : Option Addr) (d : Nat) (b : List H.En) (hd : b.length ≤ d) (hB : Seen eEc w B b) (hlB : b.length ≤ maxLen) (D : Option Addr) (dc : Nat) (e : List H.En) (hdc : e.length ≤ dc) (hD : Seen eEc w D e) (hlD : e.length ≤ maxLen) (P : Option Addr) (pc : Nat) (u : List H.En) (hpc : u.length ≤ pc) (hP : Seen eEc w P u) (hlP : u.length ≤ maxLen) :
    Calls Try.prog 5 #[.slice A a.length c, .slice B b.length d, patV D e.length dc P u.length pc] w (TrueS w) := by
  unfold maxLen at hlA hlB hlD hlP
  unfold patV
  obtain ⟨n, hnn⟩ : ∃ n, a.length = n := ⟨_, rfl⟩
  obtain ⟨m, hnm⟩ : ∃ n, b.length = n := ⟨_, rfl⟩
  obtain ⟨p, hnp⟩ : ∃ n, e.length = n := ⟨_, rfl⟩
  obtain ⟨q, hnq⟩ : ∃ n, u.length = n := ⟨_, rfl⟩
  rw [hnn] at hc hlA ⊢
  rw [hnm] at hd hlB ⊢
  rw [hnp] at hdc hlD ⊢
  rw [hnq] at hpc hlP ⊢
  have HNn := Lib.hid hnn
  have HNm := Lib.hid hnm
  have HNp := Lib.hid hnp
  have HNq := Lib.hid hnq
  have hb := up w (.cells #[.slice D p dc, .slice P q pc] 24)
  have HA := Lib.hid (hA.below hb)
  have HB := Lib.hid (hB.below hb)
  have HD := Lib.hid (hD.below hb)
  have HP := Lib.hid (hP.below hb)
  have HB0 := Lib.hid (PatAt.new16 w D P p dc q pc)
  obtain ⟨c0, c1⟩ := HB0.out.cells16
  clear hnn hnm hnp hnq hA hB hD hP
  go_enter Try.func5, Try.ntmps5
  go_wp2_with fail
  refine (few16 A c n a _ HNn.out HA.out (by omega)).mono ?_
  rintro e w1 ⟨f1, rfl, hf1, hx⟩
  replace HA := Lib.hid (HA.out.below hx)
  replace HB := Lib.hid (HB.out.below hx)
  replace HD := Lib.hid (HD.out.below hx)
  replace HP := Lib.hid (HP.out.below hx)
  replace HB0 := Lib.hid (HB0.out.on16 hx)
  replace hb := bthen hb hx
  clear hx
  clear c0 c1
  cases f1 with
  | false =>
    go_wp2_with fail
    refine (AW _).mono ?_
    rintro e wz ⟨rfl, hx⟩
    go_wp2
    go_ret
    exact ⟨rfl, bthen hb hx⟩
  | true =>
  obtain ⟨h601, hl1⟩ := hf1 rfl
  have HF1 := Lib.hid hl1
  clear hf1 hl1
  go_wp2_with fail
  refine (few16 B d m b _ HNm.out HB.out (by omega)).mono ?_
  rintro e w2 ⟨f2, rfl, hf2, hx⟩
  replace HA := Lib.hid (HA.out.below hx)
  replace HB := Lib.hid (HB.out.below hx)
  replace HD := Lib.hid (HD.out.below hx)
  replace HP := Lib.hid (HP.out.below hx)
  replace HB0 := Lib.hid (HB0.out.on16 hx)
  replace hb := bthen hb hx
  clear hx
  cases f2 with
  | false =>
    go_wp2_with fail
    refine (AW _).mono ?_
    rintro e wz ⟨rfl, hx⟩
    go_wp2
    go_ret
    exact ⟨rfl, bthen hb hx⟩
  | true =>
  obtain ⟨h602, hl2⟩ := hf2 rfl
  have HF2 := Lib.hid hl2
  clear hf2 hl2
  obtain ⟨c0, c1⟩ := HB0.out.cells16
  go_wp2_with fail
  refine (few16 D dc p e _ HNp.out HD.out (by omega)).mono ?_
  rintro e w3 ⟨f3, rfl, hf3, hx⟩
  replace HA := Lib.hid (HA.out.below hx)
  replace HB := Lib.hid (HB.out.below hx)
  replace HD := Lib.hid (HD.out.below hx)
  replace HP := Lib.hid (HP.out.below hx)
  replace HB0 := Lib.hid (HB0.out.on16 hx)
  replace hb := bthen hb hx
  clear hx
  clear c0 c1
  cases f3 with
  | false =>
    go_wp2_with fail
    refine (AW _).mono ?_
    rintro e wz ⟨rfl, hx⟩
    go_wp2
    go_ret
    exact ⟨rfl, bthen hb hx⟩
  | true =>
  obtain ⟨h603, hl3⟩ := hf3 rfl
  have HF3 := Lib.hid hl3
  clear hf3 hl3
  obtain ⟨c0, c1⟩ := HB0.out.cells16
  go_wp2_with fail
  refine (few16 P pc q u _ HNq.out HP.out (by omega)).mono ?_
  rintro e w4 ⟨f4, rfl, hf4, hx⟩
  replace HA := Lib.hid (HA.out.below hx)
  replace HB := Lib.hid (HB.out.below hx)
  replace HD := Lib.hid (HD.out.below hx)
  replace HP := Lib.hid (HP.out.below hx)
  replace HB0 := Lib.hid (HB0.out.on16 hx)
  replace hb := bthen hb hx
  clear hx
  clear c0 c1
  cases f4 with
  | false =>
    go_wp2_with fail
    refine (AW _).mono ?_
    rintro e wz ⟨rfl, hx⟩
    go_wp2
    go_ret
    exact ⟨rfl, bthen hb hx⟩
  | true =>
  obtain ⟨h604, hl4⟩ := hf4 rfl
  have HF4 := Lib.hid hl4
  clear hf4 hl4
  have GA := Lib.hid (earg16 HNn.out h601 HF1.out hc HA.out)
  have GB := Lib.hid (earg16 HNm.out h602 HF2.out hd HB.out)
  have GD := Lib.hid (earg16 HNp.out h603 HF3.out hdc HD.out)
  have GP := Lib.hid (earg16 HNq.out h604 HF4.out hpc HP.out)
  obtain ⟨c0, c1⟩ := HB0.out.cells16
  obtain ⟨s1s, hs1s⟩ : ∃ x, Pt.applyE a e u = x := ⟨_, rfl⟩
  have HS1s := Lib.hid hs1s
  have HFS1s := Lib.hid (show ∀ y ∈ s1s, Fit16 y by rw [← hs1s]; exact apply_fit GA.out.fits GP.out.fits)
  obtain ⟨m1s, hm1s⟩ : ∃ m, s1s.length = m := ⟨_, rfl⟩
  have HM1s := Lib.hid hm1s
  have hm1sb : m1s ≤ n + q := by have := apply_is (d := e) GA.out.len GP.out.len; rw [hs1s, hm1s] at this; exact this
  clear hs1s hm1s
  go_wp2_with fail
  refine (E.applyOf A D P c dc pc n p q m1s a e u s1s _ GA.out GD.out GP.out HS1s.out HM1s.out).mono ?_
  rintro e w5 ⟨B1s, b1s, rfl, hb1s, hsb1s, hx⟩
  have G1s := Lib.hid (show EArg16 w5 B1s b1s m1s s1s from ⟨HM1s.out, by omega, HFS1s.out, hb1s, hsb1s⟩)
  clear hsb1s
  replace HB0 := Lib.hid (HB0.out.on16 hx)
  replace GA := Lib.hid (earg16_below GA.out hx)
  replace GB := Lib.hid (earg16_below GB.out hx)
  replace GD := Lib.hid (earg16_below GD.out hx)
  replace GP := Lib.hid (earg16_below GP.out hx)
  replace hb := bthen hb hx
  clear hx
  clear c0 c1
  go_wp2_with fail
  refine (refs16 B1s b1s m1s s1s _ G1s.out).mono ?_
  rintro e w6 ⟨R1, r1, rfl, hr1, hs3, hx⟩
  have HR1 := Lib.hid hs3
  clear hs3
  replace HB0 := Lib.hid (HB0.out.on16 hx)
  replace GA := Lib.hid (earg16_below GA.out hx)
  replace GB := Lib.hid (earg16_below GB.out hx)
  replace GD := Lib.hid (earg16_below GD.out hx)
  replace GP := Lib.hid (earg16_below GP.out hx)
  replace hb := bthen hb hx
  clear hx
  go_wp2_with fail
  refine (refs16 B d m b _ GB.out).mono ?_
  rintro e w7 ⟨R2, r2, rfl, hr2, hs4, hx⟩
  have HR2 := Lib.hid hs4
  clear hs4
  replace HB0 := Lib.hid (HB0.out.on16 hx)
  replace GA := Lib.hid (earg16_below GA.out hx)
  replace GB := Lib.hid (earg16_below GB.out hx)
  replace GD := Lib.hid (earg16_below GD.out hx)
  replace GP := Lib.hid (earg16_below GP.out hx)
  replace HR1 := Lib.hid (HR1.out.below hx)
  replace hb := bthen hb hx
  clear hx
  obtain ⟨sb, hsb⟩ : ∃ x, H.setE b = x := ⟨_, rfl⟩
  obtain ⟨mb, hmb⟩ : ∃ m, sb.length = m := ⟨_, rfl⟩
  have HSB2 := Lib.hid hsb
  have HMB := Lib.hid hmb
  clear hsb hmb
  go_wp2_with fail
  refine (setR R2 r2 m mb b _ HNm.out (by omega) HR2.out (by rw [HSB2.out]; exact HMB.out)).mono ?_
  rintro e w8 ⟨R3, r3, rfl, hr3, hs5, hx⟩
  rw [HSB2.out] at hs5
  have HR3 := Lib.hid hs5
  clear hs5
  replace HB0 := Lib.hid (HB0.out.on16 hx)
  replace GA := Lib.hid (earg16_below GA.out hx)
  replace GB := Lib.hid (earg16_below GB.out hx)
  replace GD := Lib.hid (earg16_below GD.out hx)
  replace GP := Lib.hid (earg16_below GP.out hx)
  replace HR1 := Lib.hid (HR1.out.below hx)
  replace hb := bthen hb hx
  clear hx
  go_wp2_with fail
  refine (sameB16 R1 R3 r1 r3 m1s mb s1s sb _ HM1s.out HMB.out (by omega) HR1.out HR3.out).mono ?_
  rintro e w9 ⟨fs, rfl, hfs, hx⟩
  replace HB0 := Lib.hid (HB0.out.on16 hx)
  replace GA := Lib.hid (earg16_below GA.out hx)
  replace GB := Lib.hid (earg16_below GB.out hx)
  replace GD := Lib.hid (earg16_below GD.out hx)
  replace GP := Lib.hid (earg16_below GP.out hx)
  replace hb := bthen hb hx
  clear hx
  cases fs with
  | false =>
    go_wp2_with fail
    refine (AW _).mono ?_
    rintro e wz ⟨rfl, hx⟩
    go_wp2
    go_ret
    exact ⟨rfl, bthen hb hx⟩
  | true =>
  have HEQ := Lib.hid (show Pt.applyE a e u = H.setE b by rw [HS1s.out, HSB2.out]; exact hfs rfl)
  clear hfs
  obtain ⟨x1x, hx1x⟩ : ∃ x, Pt.lessE a b = x := ⟨_, rfl⟩
  obtain ⟨y1x, hy1x⟩ : ∃ x, Pt.lessE b a = x := ⟨_, rfl⟩
  obtain ⟨p1x, hp1x⟩ : ∃ m, x1x.length = m := ⟨_, rfl⟩
  obtain ⟨q1x, hq1x⟩ : ∃ m, y1x.length = m := ⟨_, rfl⟩
  have HX1x := Lib.hid hx1x
  have HY1x := Lib.hid hy1x
  have HP1x := Lib.hid hp1x
  have HQ1x := Lib.hid hq1x
  have hp1xb : p1x ≤ n := by have := Pt.less_len a b; rw [hx1x, hp1x, GA.out.len] at this; exact this
  have hq1xb : q1x ≤ m := by have := Pt.less_len b a; rw [hy1x, hq1x, GB.out.len] at this; exact this
  have HFX1x := Lib.hid (show ∀ y ∈ x1x, Fit16 y by rw [← hx1x]; exact less_fit GA.out.fits)
  have HFY1x := Lib.hid (show ∀ y ∈ y1x, Fit16 y by rw [← hy1x]; exact less_fit GB.out.fits)
  clear hx1x hy1x hp1x hq1x
  go_wp2_with fail
  refine (E.ofOf A B c d n m p1x q1x a b x1x y1x _ GA.out GB.out HX1x.out HY1x.out HP1x.out HQ1x.out).mono ?_
  rintro e w10 ⟨D1x, dc1x, P1x, pc1x, rfl, hdc1x, hpc1x, hsd1x, hsp1x, hx⟩
  have hmx1x := GA.out.most
  have hmy1x := GB.out.most
  have GD1x := Lib.hid (show EArg16 w10 D1x dc1x p1x x1x from ⟨HP1x.out, by omega, HFX1x.out, hdc1x, hsd1x⟩)
  have GP1x := Lib.hid (show EArg16 w10 P1x pc1x q1x y1x from ⟨HQ1x.out, by omega, HFY1x.out, hpc1x, hsp1x⟩)
  clear hsd1x hsp1x hmx1x hmy1x
  replace HB0 := Lib.hid (HB0.out.on16 hx)
  replace GA := Lib.hid (earg16_below GA.out hx)
  replace GB := Lib.hid (earg16_below GB.out hx)
  replace GD := Lib.hid (earg16_below GD.out hx)
  replace GP := Lib.hid (earg16_below GP.out hx)
  replace hb := bthen hb hx
  clear hx
  have HLE := Lib.hid (show (∀ y ∈ x1x, y ∈ e) ∧ ∀ y ∈ y1x, y ∈ u by have := Pt.least HEQ.out; rw [HX1x.out, HY1x.out] at this; exact this)
  have hu := up w10 (.cells #[.slice D1x p1x dc1x, .slice P1x q1x pc1x] 24)
  have HZ := Lib.hid (PatAt.new16 w10 D1x P1x p1x dc1x q1x pc1x)
  obtain ⟨W1, hW1⟩ : ∃ W, w10.alloc (.cells #[.slice D1x p1x dc1x, .slice P1x q1x pc1x] 24) = W := ⟨_, rfl⟩
  rw [hW1] at hu HZ
  have HW1 := Lib.hid hW1
  replace HB0 := Lib.hid (HB0.out.on16 hu)
  replace GA := Lib.hid (earg16_below GA.out hu)
  replace GB := Lib.hid (earg16_below GB.out hu)
  replace GD := Lib.hid (earg16_below GD.out hu)
  replace GP := Lib.hid (earg16_below GP.out hu)
  replace GD1x := Lib.hid (earg16_below GD1x.out hu)
  replace GP1x := Lib.hid (earg16_below GP1x.out hu)
  replace hb := bthen hb hu
  clear hu hW1
  obtain ⟨z0, z1⟩ := HZ.out.cells16
  go_wp2
  rw [HW1.out]
  go_loopg [51] p1x (fun gk vi wr => ∃ k : Nat, Hid (k + gk = p1x) ∧ vi = .int .i64 (k : Int) ∧ Hid (Below W1.heap.size W1 wr))
  case atStart => exact ⟨0, Nat.zero_add _, rfl, Below.refl _ _⟩
  case round =>
    obtain ⟨k, HGK, rfl, HBR⟩ := hrel
    have hgk := HGK.out
    by_cases hlt : k < p1x
    · have blt : decide ((k : Int) < (p1x : Int)) = true := decide_eq_true (by omega)
      have blt2 : decide (k < p1x) = true := decide_eq_true hlt
      have hki : (k : Int) < (p1x : Int) := by omega
      have hkl : k < x1x.length := by rw [GD1x.out.len]; exact hlt
      obtain ⟨b5, o5, hA5, hw5, hL5⟩ := GD1x.out.seen (by rw [GD1x.out.len]; omega)
      have hA5 : D1x = some ⟨b5, o5, none⟩ := hA5
      subst hA5
      obtain ⟨d0, d1, d2, d3⟩ := (hL5.below HBR.out hw5).entry rfl rfl hkl
      have HIN := Lib.hid (show decide (x1x[k] ∈ e) = true from decide_eq_true (HLE.out.1 _ (List.getElem_mem hkl)))
      generalize x1x[k] = y at d0 d1 d2 d3 HIN
      have hue := up wr (.cells #[.string (sB y.host), .int .i64 y.kind, .string (sB y.key), .string (sB y.val)] 44)
      have hent := ent_laid wr y.host y.kind y.key y.val
      obtain ⟨ge, hge⟩ : ∃ ge, wr.heap.size = ge := ⟨_, rfl⟩
      obtain ⟨W2, hW2⟩ : ∃ W, wr.alloc (.cells #[.string (sB y.host), .int .i64 y.kind, .string (sB y.key), .string (sB y.val)] 44) = W := ⟨_, rfl⟩
      rw [hW2] at hue hent
      rw [hge] at hent
      have HW2 := Lib.hid hW2
      have HGE := Lib.hid hge
      have HENT := Lib.hid hent
      have HBW := Lib.hid (bthen HBR.out hue)
      have HB2 := Lib.hid (HB0.out.on16 HBW.out)
      have HG2 := Lib.hid (earg16_below GD.out HBW.out)
      clear hL5 hkl hue hent hW2 hge
      go_wp2
      rw [HW2.out, HGE.out]
      refine wp_region_held_drew (S := fun w' => PatAt w' w.heap.size D p dc P q pc ∧ EntAt w' ge y.host y.kind y.key y.val) (by kernel_rfl) ⟨HB2.out, ent_below HENT.out ((Below.refl _ W2).drew)⟩ (fun hHeld => ?_)
      refine takeD16 (i := 0) (v := ?vd0) (d := some 55) rfl rfl (by kernel_rfl) (by kernel_rfl) (by kernel_rfl) (fun _ _ _ h => h) (Or.inl ⟨by rfl, ?hyd0⟩) (by assumption) ?restd0
      case hyd0 => intro w hSw; obtain ⟨h1, h2⟩ := hSw; obtain ⟨v0, v1⟩ := h1.cells16; obtain ⟨u0, u1, u2, u3⟩ := h2.cells; go_simp; try (with_reducible rfl)
      try simp only [Act.put, List.setIfInBounds_toArray, List.set_cons_zero, List.set_cons_succ]
      refine takeD16 (i := 1) (v := ?vd1) (d := some 56) rfl rfl (by kernel_rfl) (by kernel_rfl) (by kernel_rfl) (fun _ _ _ h => h) (Or.inl ⟨by rfl, ?hyd1⟩) (by assumption) ?restd1
      case hyd1 => intro w hSw; obtain ⟨h1, h2⟩ := hSw; obtain ⟨v0, v1⟩ := h1.cells16; obtain ⟨u0, u1, u2, u3⟩ := h2.cells; go_simp; try (with_reducible rfl)
      try simp only [Act.put, List.setIfInBounds_toArray, List.set_cons_zero, List.set_cons_succ]
      refine takeD16 (i := 3) (v := ?vd3) (d := some 58) rfl rfl (by kernel_rfl) (by kernel_rfl) (by kernel_rfl) (fun _ _ _ h => h) (Or.inl ⟨by rfl, ?hyd3⟩) (by assumption) ?restd3
      case hyd3 => intro w hSw; obtain ⟨h1, h2⟩ := hSw; obtain ⟨v0, v1⟩ := h1.cells16; obtain ⟨u0, u1, u2, u3⟩ := h2.cells; go_simp; try (with_reducible rfl)
      try simp only [Act.put, List.setIfInBounds_toArray, List.set_cons_zero, List.set_cons_succ]
      have hdr : Below W2.heap.size W2 W2.drew := (Below.refl _ _).drew
      refine wpAnyH_ready (rs := [2]) (by kernel_rfl) (by simp) ?_
      refine AllReadyH.cons rfl (fun K hK => ?_) AllReadyH.nil
      go_simp
      go_at_call 12
      refine (refs16 D dc p e _ (earg16_below HG2.out hdr)).mono ?_
      rintro e8 w8 ⟨R8, r8, rfl, hr8, hs8, hx⟩
      have HR8 := Lib.hid hs8
      have hx8 := bthen hdr hx
      have hq1 := HB2.out.on16 hx8
      have hq2 := ent_below HENT.out hx8
      have HBX := Lib.hid (bthen HBW.out hx8)
      clear hx hs8 hdr hHeld
      refine hK.out _ _ ⟨hq1, hq2⟩ (fun hHeld => ?_)
      clear hK K
      try simp only [Act.put, List.setIfInBounds_toArray, List.set_cons_zero, List.set_cons_succ]
      refine wpAnyH_ready (rs := [4]) (by kernel_rfl) (by simp) ?_
      refine AllReadyH.cons rfl (fun K hK => ?_) AllReadyH.nil
      go_simp
      go_at_call 24
      refine (inR16 R8 r8 p e y true _ GD.out.len (by have := GD.out.most; omega) HR8.out HIN.out).mono ?_
      rintro e9 w9 ⟨rfl, hx⟩
      have hq3 := PatAt.on16 hHeld.1 hx
      have hq4 := ent_below hHeld.2 hx
      have HBY := Lib.hid (bthen HBX.out hx)
      clear hx hHeld
      refine hK.out _ _ ⟨hq3, hq4⟩ (fun hHeld => ?_)
      clear hK K
      try simp only [Act.put, List.setIfInBounds_toArray, List.set_cons_zero, List.set_cons_succ]
      refine takeD16 (i := 5) (v := ?vd5) (d := some 60) rfl rfl (by kernel_rfl) (by kernel_rfl) (by kernel_rfl) (fun _ _ _ h => h) (Or.inl ⟨by rfl, ?hyd5⟩) (by assumption) ?restd5
      case hyd5 => intro w hSw; obtain ⟨h1, h2⟩ := hSw; obtain ⟨v0, v1⟩ := h1.cells16; obtain ⟨u0, u1, u2, u3⟩ := h2.cells; go_simp; try (with_reducible rfl)
      try simp only [Act.put, List.setIfInBounds_toArray, List.set_cons_zero, List.set_cons_succ]
      refine wpAnyH_done (by kernel_rfl) ?_ _
      go_wp2
      go_roundg (p1x - (k + 1))
      case rel => exact ⟨k + 1, (by show _ = _; omega), by go_num, HBY.out⟩
      case measure => omega
    · have blt : decide ((k : Int) < (p1x : Int)) = false := decide_eq_false (by omega)
      have blt2 : decide (k < p1x) = false := decide_eq_false hlt
      obtain ⟨w0, hw0⟩ : ∃ w0, w0 = wr := ⟨_, rfl⟩
      subst hw0
      have HZ2 := Lib.hid (HZ.out.on16 HBR.out)
      have HB0 := Lib.hid (HB0.out.on16 HBR.out)
      have GP1x := Lib.hid (earg16_below GP1x.out HBR.out)
      have GP := Lib.hid (earg16_below GP.out HBR.out)
      have hb := bthen hb HBR.out
      obtain ⟨y0, y1⟩ := HZ2.out.cells16
      clear HBR
      go_wp2
      go_loopg [65] q1x (fun gk vi wr => ∃ k : Nat, Hid (k + gk = q1x) ∧ vi = .int .i64 (k : Int) ∧ Hid (Below w0.heap.size w0 wr))
      case atStart => exact ⟨0, Nat.zero_add _, rfl, Below.refl _ _⟩
      case round =>
        obtain ⟨k, HGK, rfl, HBR⟩ := hrel
        have hgk := HGK.out
        by_cases hlt : k < q1x
        · have blt : decide ((k : Int) < (q1x : Int)) = true := decide_eq_true (by omega)
          have blt2 : decide (k < q1x) = true := decide_eq_true hlt
          have hki : (k : Int) < (q1x : Int) := by omega
          have hkl : k < y1x.length := by rw [GP1x.out.len]; exact hlt
          obtain ⟨b5, o5, hA5, hw5, hL5⟩ := GP1x.out.seen (by rw [GP1x.out.len]; omega)
          have hA5 : P1x = some ⟨b5, o5, none⟩ := hA5
          subst hA5
          obtain ⟨d0, d1, d2, d3⟩ := (hL5.below HBR.out hw5).entry rfl rfl hkl
          have HIN := Lib.hid (show decide (y1x[k] ∈ u) = true from decide_eq_true (HLE.out.2 _ (List.getElem_mem hkl)))
          generalize y1x[k] = y at d0 d1 d2 d3 HIN
          have hue := up wr (.cells #[.string (sB y.host), .int .i64 y.kind, .string (sB y.key), .string (sB y.val)] 44)
          have hent := ent_laid wr y.host y.kind y.key y.val
          obtain ⟨ge, hge⟩ : ∃ ge, wr.heap.size = ge := ⟨_, rfl⟩
          obtain ⟨W2, hW2⟩ : ∃ W, wr.alloc (.cells #[.string (sB y.host), .int .i64 y.kind, .string (sB y.key), .string (sB y.val)] 44) = W := ⟨_, rfl⟩
          rw [hW2] at hue hent
          rw [hge] at hent
          have HW2 := Lib.hid hW2
          have HGE := Lib.hid hge
          have HENT := Lib.hid hent
          have HBW := Lib.hid (bthen HBR.out hue)
          have HB2 := Lib.hid (HB0.out.on16 HBW.out)
          have HG2 := Lib.hid (earg16_below GP.out HBW.out)
          clear hL5 hkl hue hent hW2 hge
          go_wp2
          rw [HW2.out, HGE.out]
          refine wp_region_held_drew (S := fun w' => PatAt w' w.heap.size D p dc P q pc ∧ EntAt w' ge y.host y.kind y.key y.val) (by kernel_rfl) ⟨HB2.out, ent_below HENT.out ((Below.refl _ W2).drew)⟩ (fun hHeld => ?_)
          refine takeD16 (i := 0) (v := ?vp0) (d := some 69) rfl rfl (by kernel_rfl) (by kernel_rfl) (by kernel_rfl) (fun _ _ _ h => h) (Or.inl ⟨by rfl, ?hyp0⟩) (by assumption) ?restp0
          case hyp0 => intro w hSw; obtain ⟨h1, h2⟩ := hSw; obtain ⟨v0, v1⟩ := h1.cells16; obtain ⟨u0, u1, u2, u3⟩ := h2.cells; go_simp; try (with_reducible rfl)
          try simp only [Act.put, List.setIfInBounds_toArray, List.set_cons_zero, List.set_cons_succ]
          refine takeD16 (i := 1) (v := ?vp1) (d := some 70) rfl rfl (by kernel_rfl) (by kernel_rfl) (by kernel_rfl) (fun _ _ _ h => h) (Or.inl ⟨by rfl, ?hyp1⟩) (by assumption) ?restp1
          case hyp1 => intro w hSw; obtain ⟨h1, h2⟩ := hSw; obtain ⟨v0, v1⟩ := h1.cells16; obtain ⟨u0, u1, u2, u3⟩ := h2.cells; go_simp; try (with_reducible rfl)
          try simp only [Act.put, List.setIfInBounds_toArray, List.set_cons_zero, List.set_cons_succ]
          refine takeD16 (i := 3) (v := ?vp3) (d := some 72) rfl rfl (by kernel_rfl) (by kernel_rfl) (by kernel_rfl) (fun _ _ _ h => h) (Or.inl ⟨by rfl, ?hyp3⟩) (by assumption) ?restp3
          case hyp3 => intro w hSw; obtain ⟨h1, h2⟩ := hSw; obtain ⟨v0, v1⟩ := h1.cells16; obtain ⟨u0, u1, u2, u3⟩ := h2.cells; go_simp; try (with_reducible rfl)
          try simp only [Act.put, List.setIfInBounds_toArray, List.set_cons_zero, List.set_cons_succ]
          have hdr : Below W2.heap.size W2 W2.drew := (Below.refl _ _).drew
          refine wpAnyH_ready (rs := [2]) (by kernel_rfl) (by simp) ?_
          refine AllReadyH.cons rfl (fun K hK => ?_) AllReadyH.nil
          go_simp
          go_at_call 12
          refine (refs16 P pc q u _ (earg16_below HG2.out hdr)).mono ?_
          rintro e8 w8 ⟨R8, r8, rfl, hr8, hs8, hx⟩
          have HR8 := Lib.hid hs8
          have hx8 := bthen hdr hx
          have hq1 := HB2.out.on16 hx8
          have hq2 := ent_below HENT.out hx8
          have HBX := Lib.hid (bthen HBW.out hx8)
          clear hx hs8 hdr hHeld
          refine hK.out _ _ ⟨hq1, hq2⟩ (fun hHeld => ?_)
          clear hK K
          try simp only [Act.put, List.setIfInBounds_toArray, List.set_cons_zero, List.set_cons_succ]
          refine wpAnyH_ready (rs := [4]) (by kernel_rfl) (by simp) ?_
          refine AllReadyH.cons rfl (fun K hK => ?_) AllReadyH.nil
          go_simp
          go_at_call 24
          refine (inR16 R8 r8 q u y true _ GP.out.len (by have := GP.out.most; omega) HR8.out HIN.out).mono ?_
          rintro e9 w9 ⟨rfl, hx⟩
          have hq3 := PatAt.on16 hHeld.1 hx
          have hq4 := ent_below hHeld.2 hx
          have HBY := Lib.hid (bthen HBX.out hx)
          clear hx hHeld
          refine hK.out _ _ ⟨hq3, hq4⟩ (fun hHeld => ?_)
          clear hK K
          try simp only [Act.put, List.setIfInBounds_toArray, List.set_cons_zero, List.set_cons_succ]
          refine takeD16 (i := 5) (v := ?vp5) (d := some 74) rfl rfl (by kernel_rfl) (by kernel_rfl) (by kernel_rfl) (fun _ _ _ h => h) (Or.inl ⟨by rfl, ?hyp5⟩) (by assumption) ?restp5
          case hyp5 => intro w hSw; obtain ⟨h1, h2⟩ := hSw; obtain ⟨v0, v1⟩ := h1.cells16; obtain ⟨u0, u1, u2, u3⟩ := h2.cells; go_simp; try (with_reducible rfl)
          try simp only [Act.put, List.setIfInBounds_toArray, List.set_cons_zero, List.set_cons_succ]
          refine wpAnyH_done (by kernel_rfl) ?_ _
          go_wp2
          go_roundg (q1x - (k + 1))
          case rel => exact ⟨k + 1, (by show _ = _; omega), by go_num, HBY.out⟩
          case measure => omega
        · have blt : decide ((k : Int) < (q1x : Int)) = false := decide_eq_false (by omega)
          have blt2 : decide (k < q1x) = false := decide_eq_false hlt
          have hbz := bthen hb HBR.out
          go_wp2_with fail
          refine (AW _).mono ?_
          rintro e wz ⟨rfl, hx⟩
          go_wp2
          go_ret
          exact ⟨rfl, bthen hbz hx⟩
end Go.Proofs.Ytpkhnchbamjgjaa
