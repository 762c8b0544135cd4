/-
  Contracts of the code's Of, Apply, Only and Hosts: patch_ok. Condition: at most 1000 entries of words of at most 100 bytes.
-/
import Derived.Test.YtpkhnchbamjgjaaBase4

namespace Go.Proofs.Ytpkhnchbamjgjaa.Pt
open H (En setE putE SortE)
theorem set_apply (l d p : List En) : setE (outE l d ++ p) = applyE l d p := by
  refine (H.set_ext (apply_sort l d p) fun x => ?_).symm
  rw [mem_apply, List.mem_append]
  unfold outE
  rw [List.mem_filter, decide_eq_true_eq]
theorem out_le (a b : List En) : (outE a b).length ≤ a.length := List.length_filter_le _ _
theorem host_take {l : List En} {k : Nat} (hk : k < l.length) : (l.take (k + 1)).map (fun x => x.host) = (l.take k).map (fun x => x.host) ++ [l[k].host] := by
  rw [List.take_succ_eq_append_getElem hk, List.map_append]; rfl
end Go.Proofs.Ytpkhnchbamjgjaa.Pt
namespace Go.Proofs.Ytpkhnchbamjgjaa
open Go.RowKit
open F
set_option linter.unusedVariables false
set_option linter.unusedSimpArgs false

theorem PatAt.thaw16 {w : World} {g : Nat} {D P : Option Addr} {p dc q pc : Nat} (h : PatAt w g D p dc P q pc) (j : Nat) : w.frozen? ⟨g, j, none⟩ = false := by simp [World.frozen?, show w.heap[g]? = _ from h]
theorem PatAt.set16 {w : World} {g : Nat} {D P D2 P2 : Option Addr} {p dc q pc p2 dc2 q2 pc2 : Nat} (h : PatAt w g D p dc P q pc) : PatAt ((w.setCell ⟨g, 0, none⟩ (.slice D2 p2 dc2)).setCell ⟨g, 1, none⟩ (.slice P2 q2 pc2)) g D2 p2 dc2 P2 q2 pc2 := by
  simp [PatAt, World.setCell, Array.getElem?_modify, show w.heap[g]? = _ from h]
theorem below2_16 {B g : Nat} {w0 w : World} (h : Below B w0 w) (hg : B ≤ g) (v0 v1 : Value) : Below B w0 ((w.setCell ⟨g, 0, none⟩ v0).setCell ⟨g, 1, none⟩ v1) :=
  (h.setCell (p := ⟨g, 0, none⟩) hg v0).setCell (p := ⟨g, 1, none⟩) hg v1
theorem seen2_16 {g : Nat} {w : World} {X D P : Option Addr} {p dc q pc : Nat} {x : List H.En} (h : Seen eEc w X x) (hp : PatAt w g D p dc P q pc) (v0 v1 : Value) : Seen eEc ((w.setCell ⟨g, 0, none⟩ v0).setCell ⟨g, 1, none⟩ v1) X x := by
  intro hl
  obtain ⟨b, o, rfl, hb, hH⟩ := h hl
  have hne : b ≠ g := by
    rintro rfl
    have hc := hH 0 hl 0 (.string (sB x[0].host)) rfl
    rw [show o + 0 * eEc.sz + 0 = o by omega] at hc
    simp only [World.cell?, show w.heap[b]? = _ from hp] at hc
    match o, hc with
    | 0, hc => simp at hc
    | 1, hc => simp at hc
    | o + 2, hc => simp at hc
  refine ⟨b, o, rfl, by simpa [World.setCell] using hb, fun i hi j u hu => ?_⟩
  have hc := hH i hi j u hu
  have hne2 : ¬ g = b := fun e => hne e.symm
  rw [← hc]
  simp [World.cell?, World.setCell, Array.getElem?_modify, hne2]
theorem PatAt.keep16 {B : Nat} {w w1 : World} {g : Nat} {D P : Option Addr} {p dc q pc : Nat} (h : PatAt w g D p dc P q pc) (hb : Below B w w1) (hg : g < B) : PatAt w1 g D p dc P q pc := (hb.block g hg).trans h
theorem PatAt.off16 {w : World} {g g2 : Nat} {D P : Option Addr} {p dc q pc : Nat} (h : PatAt w g D p dc P q pc) (hne : g ≠ g2) (v0 v1 : Value) : PatAt ((w.setCell ⟨g2, 0, none⟩ v0).setCell ⟨g2, 1, none⟩ v1) g D p dc P q pc := by
  have hne2 : ¬ g2 = g := fun e => hne e.symm
  simp [PatAt, World.setCell, Array.getElem?_modify, hne2, show w.heap[g]? = _ from h]
set_option maxRecDepth 100000 in
set_option maxHeartbeats 8000000 in
theorem apply16 (A D P : Option Addr) (c dc pc n p q m : Nat) (l d u x : List H.En) (w : World) (hA : EArg16 w A c n l) (hD : EArg16 w D dc p d) (hP : EArg16 w P pc q u) (hx : Pt.applyE l d u = x) (hm : x.length = m) : Calls Try.prog 18 #[.slice A n c, .agg #[.slice D p dc, .slice P q pc]] w (fun e w' => ∃ B b, e = .returned (.slice B m b) ∧ m ≤ b ∧ Seen eEc w' B x ∧ Below w.heap.size w w') := by
  have hup := up w (.cells #[.slice D p dc, .slice P q pc] 24)
  have HB0 := Lib.hid (PatAt.new16 w D P p dc q pc)
  have hn1000 := hA.most
  have hp1000 := hD.most
  have hq1000 := hP.most
  have HNP := Lib.hid hP.len
  have HS := Lib.hid (hP.seen.below hup)
  have HW := Lib.hid (fun W (h : Below w.heap.size w W) => without16 A D c dc n p l d W hA.len hD.len (by omega) (by omega) (hA.seen.below h) (hD.seen.below h))
  have HL := Lib.hid (show (Pt.outE l d).length ≤ n by have := Pt.out_le l d; have := hA.len; omega)
  have HX := Lib.hid (show H.setE (Pt.outE l d ++ u) = x by rw [Pt.set_apply]; exact hx)
  have HM := Lib.hid hm
  have HUP := Lib.hid hup
  clear hA hD hP hx hm hup
  obtain ⟨c0, c1⟩ := HB0.out.cells16
  go_enter Try.func18, Try.ntmps18
  go_wp2
  clear c0 c1
  refine wp_region_held_drew (S := fun w2 => w2.cell? ⟨w.heap.size, 0, none⟩ = some (.slice D p dc) ∧ w2.cell? ⟨w.heap.size, 1, none⟩ = some (.slice P q pc)) (by kernel_rfl) ⟨HB0.out.cells16.1, HB0.out.cells16.2⟩ (fun hHeld => ?_)
  refine takeD16 (i := 0) (v := ?v0_1) (d := some 5) rfl rfl (by kernel_rfl) (by kernel_rfl) (by kernel_rfl) (fun _ _ _ h => h) (Or.inl ⟨by rfl, ?y0_1⟩) (by assumption) ?r0_1
  case y0_1 => intro w hSw; obtain ⟨s0, s1⟩ := hSw; go_simp; try (with_reducible rfl)
  try simp only [Act.put, List.setIfInBounds_toArray, List.set_cons_zero, List.set_cons_succ]
  refine takeD16 (i := 1) (v := ?v1_2) (d := some 6) rfl rfl (by kernel_rfl) (by kernel_rfl) (by kernel_rfl) (fun _ _ _ h => h) (Or.inl ⟨by rfl, ?y1_2⟩) (by assumption) ?r1_2
  case y1_2 => intro w hSw; obtain ⟨s0, s1⟩ := hSw; go_simp; try (with_reducible rfl)
  try simp only [Act.put, List.setIfInBounds_toArray, List.set_cons_zero, List.set_cons_succ]
  refine takeD16 (i := 2) (v := ?v2_3) (d := some 7) rfl rfl (by kernel_rfl) (by kernel_rfl) (by kernel_rfl) (fun _ _ _ h => h) (Or.inl ⟨by rfl, ?y2_3⟩) (by assumption) ?r2_3
  case y2_3 => intro w hSw; obtain ⟨s0, s1⟩ := hSw; go_simp; try (with_reducible rfl)
  try simp only [Act.put, List.setIfInBounds_toArray, List.set_cons_zero, List.set_cons_succ]
  refine takeD16 (i := 4) (v := ?v4_4) (d := some 9) rfl rfl (by kernel_rfl) (by kernel_rfl) (by kernel_rfl) (fun _ _ _ h => h) (Or.inl ⟨by rfl, ?y4_4⟩) (by assumption) ?r4_4
  case y4_4 => intro w hSw; obtain ⟨s0, s1⟩ := hSw; go_simp; try (with_reducible rfl)
  try simp only [Act.put, List.setIfInBounds_toArray, List.set_cons_zero, List.set_cons_succ]
  refine takeD16 (i := 5) (v := ?v5_5) (d := some 10) rfl rfl (by kernel_rfl) (by kernel_rfl) (by kernel_rfl) (fun _ _ _ h => h) (Or.inl ⟨by rfl, ?y5_5⟩) (by assumption) ?r5_5
  case y5_5 => intro w hSw; obtain ⟨s0, s1⟩ := hSw; go_simp; try (with_reducible rfl)
  try simp only [Act.put, List.setIfInBounds_toArray, List.set_cons_zero, List.set_cons_succ]
  refine wpAnyH_ready (rs := [3]) (by kernel_rfl) (by simp) ?_
  refine AllReadyH.cons rfl (fun K hK => ?_) AllReadyH.nil
  go_simp
  go_at_call 26
  refine (HW.out _ HUP.out.drew).mono ?_
  rintro e w1 ⟨v1, rfl, ho1, hb1⟩
  have hb2 := (Below.refl _ _).drew.trans hb1
  replace HB0 := Lib.hid (HB0.out.on16 hb2)
  replace HS := Lib.hid (HS.out.below hb2)
  have hb3 := bthen HUP.out hb2
  have HB3 := Lib.hid hb3
  have HO1 := Lib.hid (show Own eEc w1 (w.heap.size + 1) v1 (Pt.outE l d) from ho1.base (by simp))
  have hsz : w.heap.size + 1 ≤ w1.heap.size := by have := hb2.size; simpa using this
  clear hHeld hb1 hb2 ho1 hb3
  refine hK.out _ _ ⟨HB0.out.cells16.1, HB0.out.cells16.2⟩ (fun hHeld => ?_)
  clear hK K
  try simp only [Act.put, List.setIfInBounds_toArray, List.set_cons_zero, List.set_cons_succ]
  refine wpAnyH_ready (rs := [6]) (by kernel_rfl) (by simp) ?_
  refine AllReadyH.cons rfl (fun K hK => ?_) AllReadyH.nil
  rw [if_pos (by rfl)]
  refine wp_app16 eEc w1 (.tmp 8) (.tmp 10) rfl (w.heap.size + 1) v1 (Pt.outE l d) rfl HO1.out P u q pc HNP.out rfl HS.out (by have := HL.out; omega) hsz ?_
  intro v2 w2 ho2 hb2
  replace HB0 := Lib.hid (HB0.out.keep16 hb2 (Nat.lt_succ_self _))
  replace HB3 := Lib.hid (HB3.out.trans (hb2.mono (Nat.le_succ _)))
  obtain ⟨k, hk⟩ : ∃ k, (Pt.outE l d ++ u).length = k := ⟨_, rfl⟩
  obtain ⟨X1, c1, rfl, hc1, hs1⟩ := ho2.seenN hk
  have HK := Lib.hid hk
  have HKL := Lib.hid (show k ≤ 1073741824 by have := HL.out; have := HNP.out; rw [← hk, List.length_append]; omega)
  have HS1 := Lib.hid hs1
  have hsz2 := Nat.le_trans hsz hb2.size
  clear hHeld hb2 ho2 hk hs1
  refine hK.out _ _ ⟨HB0.out.cells16.1, HB0.out.cells16.2⟩ (fun hHeld => ?_)
  clear hK K
  try simp only [Act.put, List.setIfInBounds_toArray, List.set_cons_zero, List.set_cons_succ]
  refine wpAnyH_ready (rs := [7]) (by kernel_rfl) (by simp) ?_
  refine AllReadyH.cons rfl (fun K hK => ?_) AllReadyH.nil
  go_simp
  go_at_call 25
  refine (setC X1 c1 k m (Pt.outE l d ++ u) w2 HK.out HKL.out HS1.out (by rw [HX.out]; exact HM.out)).mono ?_
  rintro e w3 ⟨B, b, rfl, hmb, hs3, hb3⟩
  rw [HX.out] at hs3
  have HS3 := Lib.hid hs3
  replace HB0 := Lib.hid (HB0.out.on16 hb3)
  replace HB3 := Lib.hid (bthen HB3.out hb3)
  clear hHeld hb3 hs3
  refine hK.out _ _ ⟨HB0.out.cells16.1, HB0.out.cells16.2⟩ (fun hHeld => ?_)
  clear hK K
  try simp only [Act.put, List.setIfInBounds_toArray, List.set_cons_zero, List.set_cons_succ]
  refine takeD16 (i := 8) (v := ?v8_6) (d := some 4) rfl rfl (by kernel_rfl) (by kernel_rfl) (by kernel_rfl) (fun _ _ _ h => h) (Or.inl ⟨by rfl, ?y8_6⟩) (by assumption) ?r8_6
  case y8_6 => intro w hSw; obtain ⟨s0, s1⟩ := hSw; go_simp; try (with_reducible rfl)
  try simp only [Act.put, List.setIfInBounds_toArray, List.set_cons_zero, List.set_cons_succ]
  refine wpAnyH_done (by kernel_rfl) ?_ _
  go_wp2
  go_ret
  exact ⟨B, b, rfl, hmb, HS3.out, HB3.out⟩
set_option maxRecDepth 100000 in
set_option maxHeartbeats 8000000 in
theorem only16 (D P : Option Addr) (dc pc p q m k : Nat) (d u x y : List H.En) (h : List UInt8) (w : World) (hD : EArg16 w D dc p d) (hP : EArg16 w P pc q u) (hx : Pt.onlyE d h = x) (hy : Pt.onlyE u h = y) (hm : x.length = m) (hk : y.length = k) : Calls Try.prog 14 #[.agg #[.slice D p dc, .slice P q pc], .string (sB h)] w (fun e w' => ∃ X xc Y yc, e = .returned (.agg #[.slice X m xc, .slice Y k yc]) ∧ m ≤ xc ∧ k ≤ yc ∧ Seen eEc w' X x ∧ Seen eEc w' Y y ∧ Below w.heap.size w w') := by
  obtain ⟨W0, hW0⟩ : ∃ W0, (w.alloc (.cells #[.slice D p dc, .slice P q pc] 24)).alloc (.cells #[.slice none 0 0, .slice none 0 0] 24) = W0 := ⟨_, rfl⟩
  have hup : Below w.heap.size w W0 := by rw [← hW0]; exact (up w _).alloc (by simp) _
  have hsz0 : W0.heap.size = w.heap.size + 2 := by rw [← hW0]; simp
  have HB0 := Lib.hid (show PatAt W0 w.heap.size D p dc P q pc by rw [← hW0]; exact (PatAt.new16 w D P p dc q pc).on16 (up _ _))
  have HR0 := Lib.hid (show PatAt W0 (w.heap.size + 1) none 0 0 none 0 0 by
    rw [← hW0]
    have := PatAt.new16 (w.alloc (.cells #[.slice D p dc, .slice P q pc] 24)) none none 0 0 0 0
    rwa [show (w.alloc (.cells #[.slice D p dc, .slice P q pc] 24)).heap.size = w.heap.size + 1 by simp] at this)
  have HW1 := Lib.hid (fun W (hb : Below w.heap.size w W) => hx ▸ of16 D dc p d h W hD.len (by have := hD.most; omega) (hD.seen.below hb))
  have HW2 := Lib.hid (fun W (hb : Below w.heap.size w W) => hy ▸ of16 P pc q u h W hP.len (by have := hP.most; omega) (hP.seen.below hb))
  have HM := Lib.hid hm
  have HK := Lib.hid hk
  have HUP := Lib.hid hup
  have HSZ := Lib.hid hsz0
  have HW0 := Lib.hid hW0
  clear hD hP hx hy hm hk hup hsz0 hW0
  go_enter Try.func14, Try.ntmps14
  go_wp2
  rw [HW0.out]
  refine wp_region_held_drew (S := fun w2 => w2.cell? ⟨w.heap.size, 0, none⟩ = some (.slice D p dc) ∧ w2.cell? ⟨w.heap.size, 1, none⟩ = some (.slice P q pc)) (by kernel_rfl) ⟨HB0.out.cells16.1, HB0.out.cells16.2⟩ (fun hHeld => ?_)
  refine takeD16 (i := 0) (v := ?v0_7) (d := some 5) rfl rfl (by kernel_rfl) (by kernel_rfl) (by kernel_rfl) (fun _ _ _ h => h) (Or.inl ⟨by rfl, ?y0_7⟩) (by assumption) ?r0_7
  case y0_7 => intro w hSw; obtain ⟨s0, s1⟩ := hSw; go_simp; try (with_reducible rfl)
  try simp only [Act.put, List.setIfInBounds_toArray, List.set_cons_zero, List.set_cons_succ]
  refine takeD16 (i := 1) (v := ?v1_8) (d := some 6) rfl rfl (by kernel_rfl) (by kernel_rfl) (by kernel_rfl) (fun _ _ _ h => h) (Or.inl ⟨by rfl, ?y1_8⟩) (by assumption) ?r1_8
  case y1_8 => intro w hSw; obtain ⟨s0, s1⟩ := hSw; go_simp; try (with_reducible rfl)
  try simp only [Act.put, List.setIfInBounds_toArray, List.set_cons_zero, List.set_cons_succ]
  refine takeD16 (i := 2) (v := ?v2_9) (d := some 7) rfl rfl (by kernel_rfl) (by kernel_rfl) (by kernel_rfl) (fun _ _ _ h => h) (Or.inl ⟨by rfl, ?y2_9⟩) (by assumption) ?r2_9
  case y2_9 => intro w hSw; obtain ⟨s0, s1⟩ := hSw; go_simp; try (with_reducible rfl)
  try simp only [Act.put, List.setIfInBounds_toArray, List.set_cons_zero, List.set_cons_succ]
  refine takeD16 (i := 4) (v := ?v4_10) (d := some 9) rfl rfl (by kernel_rfl) (by kernel_rfl) (by kernel_rfl) (fun _ _ _ h => h) (Or.inl ⟨by rfl, ?y4_10⟩) (by assumption) ?r4_10
  case y4_10 => intro w hSw; obtain ⟨s0, s1⟩ := hSw; go_simp; try (with_reducible rfl)
  try simp only [Act.put, List.setIfInBounds_toArray, List.set_cons_zero, List.set_cons_succ]
  refine takeD16 (i := 5) (v := ?v5_11) (d := some 10) rfl rfl (by kernel_rfl) (by kernel_rfl) (by kernel_rfl) (fun _ _ _ h => h) (Or.inl ⟨by rfl, ?y5_11⟩) (by assumption) ?r5_11
  case y5_11 => intro w hSw; obtain ⟨s0, s1⟩ := hSw; go_simp; try (with_reducible rfl)
  try simp only [Act.put, List.setIfInBounds_toArray, List.set_cons_zero, List.set_cons_succ]
  refine takeD16 (i := 6) (v := ?v6_12) (d := some 11) rfl rfl (by kernel_rfl) (by kernel_rfl) (by kernel_rfl) (fun _ _ _ h => h) (Or.inl ⟨by rfl, ?y6_12⟩) (by assumption) ?r6_12
  case y6_12 => intro w hSw; obtain ⟨s0, s1⟩ := hSw; go_simp; try (with_reducible rfl)
  try simp only [Act.put, List.setIfInBounds_toArray, List.set_cons_zero, List.set_cons_succ]
  refine wpAnyH_ready (rs := [3]) (by kernel_rfl) (by simp) ?_
  refine AllReadyH.cons rfl (fun K hK => ?_) AllReadyH.nil
  go_simp
  go_at_call 27
  refine (HW1.out _ HUP.out.drew).mono ?_
  rintro e w1 ⟨v1, rfl, ho1, hb1⟩
  have hb2 := (Below.refl _ _).drew.trans hb1
  replace HB0 := Lib.hid (HB0.out.on16 hb2)
  replace HR0 := Lib.hid (HR0.out.on16 hb2)
  obtain ⟨X, xc, rfl, hxc, hs1⟩ := ho1.seenN HM.out
  have HS1 := Lib.hid hs1
  have HB3 := Lib.hid (bthen HUP.out hb2)
  clear hHeld hb1 hb2 ho1 hs1
  refine hK.out _ _ ⟨HB0.out.cells16.1, HB0.out.cells16.2⟩ (fun hHeld => ?_)
  clear hK K
  try simp only [Act.put, List.setIfInBounds_toArray, List.set_cons_zero, List.set_cons_succ]
  refine wpAnyH_ready (rs := [7]) (by kernel_rfl) (by simp) ?_
  refine AllReadyH.cons rfl (fun K hK => ?_) AllReadyH.nil
  go_simp
  go_at_call 27
  refine (HW2.out _ HB3.out).mono ?_
  rintro e w2 ⟨v2, rfl, ho2, hb2⟩
  replace HB0 := Lib.hid (HB0.out.on16 hb2)
  replace HR0 := Lib.hid (HR0.out.on16 hb2)
  obtain ⟨Y, yc, rfl, hyc, hs2⟩ := ho2.seenN HK.out
  have HT1 := Lib.hid (HS1.out.below hb2)
  have HT2 := Lib.hid hs2
  replace HB3 := Lib.hid (bthen HB3.out hb2)
  clear hHeld hb2 ho2 hs2
  refine hK.out _ _ ⟨HB0.out.cells16.1, HB0.out.cells16.2⟩ (fun hHeld => ?_)
  clear hK K
  try simp only [Act.put, List.setIfInBounds_toArray, List.set_cons_zero, List.set_cons_succ]
  refine takeD16 (i := 8) (v := .agg #[.slice X m xc, .slice Y k yc]) (d := some 13) rfl rfl (by kernel_rfl) (by kernel_rfl) (by kernel_rfl) (fun _ _ _ h => h) (Or.inl ⟨by rfl, ?y8_13⟩) (by assumption) ?r8_13
  case y8_13 => intro w hSw; obtain ⟨s0, s1⟩ := hSw; go_simp; try (with_reducible rfl)
  try simp only [Act.put, List.setIfInBounds_toArray, List.set_cons_zero, List.set_cons_succ]
  refine wpAnyH_ready (rs := [9]) (by kernel_rfl) (by simp) ?_
  refine AllReadyH.cons rfl (fun K hK => ?_) AllReadyH.nil
  obtain ⟨c0, c1⟩ := HR0.out.cells16
  have f0 := HR0.out.thaw16 0
  have f1 := HR0.out.thaw16 1
  go_simp
  have HR1 := Lib.hid (HR0.out.set16 (D2 := X) (p2 := m) (dc2 := xc) (P2 := Y) (q2 := k) (pc2 := yc))
  have HV1 := Lib.hid (seen2_16 HT1.out HR0.out (.slice X m xc) (.slice Y k yc))
  have HV2 := Lib.hid (seen2_16 HT2.out HR0.out (.slice X m xc) (.slice Y k yc))
  have HB4 := Lib.hid (below2_16 (g := w.heap.size + 1) HB3.out (Nat.le_succ _) (.slice X m xc) (.slice Y k yc))
  have HB5 := Lib.hid (HB0.out.off16 (g2 := w.heap.size + 1) (by omega) (.slice X m xc) (.slice Y k yc))
  clear c0 c1 f0 f1
  refine hK.out _ _ ⟨HB5.out.cells16.1, HB5.out.cells16.2⟩ (fun hHeld => ?_)
  clear hK K
  try simp only [Act.put, List.setIfInBounds_toArray, List.set_cons_zero, List.set_cons_succ]
  refine wpAnyH_done (by kernel_rfl) ?_ _
  obtain ⟨q0, q1⟩ := HR1.out.cells16
  go_wp2
  refine bodyPost_ret (v := .agg #[.slice X m xc, .slice Y k yc]) (by simp [results, Try.results14, go_sem, q0, q1]) rfl ⟨X, xc, Y, yc, rfl, hxc, hyc, HV1.out, HV2.out, HB4.out⟩
set_option maxRecDepth 100000 in
set_option maxHeartbeats 8000000 in
theorem between16 (A B : Option Addr) (c d n m p q : Nat) (a b x y : List H.En) (w : World) (hA : EArg16 w A c n a) (hB : EArg16 w B d m b) (hx : Pt.lessE a b = x) (hy : Pt.lessE b a = y) (hp : x.length = p) (hq : y.length = q) : Calls Try.prog 13 #[.slice A n c, .slice B m d] w (fun e w' => ∃ D dc P pc, e = .returned (.agg #[.slice D p dc, .slice P q pc]) ∧ p ≤ dc ∧ q ≤ pc ∧ Seen eEc w' D x ∧ Seen eEc w' P y ∧ Below w.heap.size w w') := by
  have HR0 := Lib.hid (PatAt.new16 w none none 0 0 0 0)
  have HUP := Lib.hid (up w (.cells #[.slice none 0 0, .slice none 0 0] 24))
  have hn1000 := hA.most
  have hm1000 := hB.most
  have HW1 := Lib.hid (fun W (hb : Below w.heap.size w W) => without16 A B c d n m a b W hA.len hB.len (by omega) (by omega) (hA.seen.below hb) (hB.seen.below hb))
  have HW2 := Lib.hid (fun W (hb : Below w.heap.size w W) => without16 B A d c m n b a W hB.len hA.len (by omega) (by omega) (hB.seen.below hb) (hA.seen.below hb))
  obtain ⟨k1, hk1⟩ : ∃ k, (Pt.outE a b).length = k := ⟨_, rfl⟩
  obtain ⟨k2, hk2⟩ : ∃ k, (Pt.outE b a).length = k := ⟨_, rfl⟩
  have HL1 := Lib.hid (show k1 ≤ 1073741824 by have := Pt.out_le a b; have := hA.len; omega)
  have HL2 := Lib.hid (show k2 ≤ 1073741824 by have := Pt.out_le b a; have := hB.len; omega)
  have HK1 := Lib.hid hk1
  have HK2 := Lib.hid hk2
  have HX := Lib.hid (show H.setE (Pt.outE a b) = x from hx)
  have HY := Lib.hid (show H.setE (Pt.outE b a) = y from hy)
  have HP := Lib.hid hp
  have HQ := Lib.hid hq
  clear hA hB hx hy hp hq hk1 hk2
  go_enter Try.func13, Try.ntmps13
  go_wp2_with fail
  refine (HW1.out _ HUP.out).mono ?_
  rintro e w1 ⟨v1, rfl, ho1, hb1⟩
  replace HR0 := Lib.hid (HR0.out.on16 hb1)
  obtain ⟨X1, c1, rfl, hc1, hs1⟩ := ho1.seenN HK1.out
  have HS1 := Lib.hid hs1
  have HB1 := Lib.hid (bthen HUP.out hb1)
  have HZ1 := Lib.hid (show w.heap.size + 1 ≤ w1.heap.size by have := hb1.size; simpa using this)
  clear hb1 ho1 hs1
  go_wp2_with fail
  refine (setC X1 c1 k1 p (Pt.outE a b) w1 HK1.out HL1.out HS1.out (by rw [HX.out]; exact HP.out)).mono ?_
  rintro e w2 ⟨D, dc, rfl, hpd, hs2, hb2⟩
  rw [HX.out] at hs2
  have HS2 := Lib.hid hs2
  replace HR0 := Lib.hid (HR0.out.on16 hb2)
  have HB2 := Lib.hid (bthen HB1.out hb2)
  have HZ2 := Lib.hid (Nat.le_trans HZ1.out hb2.size)
  clear hs2 hb2
  go_wp2_with fail
  refine (HW2.out _ HB2.out).mono ?_
  rintro e w3 ⟨v3, rfl, ho3, hb3⟩
  replace HR0 := Lib.hid (HR0.out.on16 hb3)
  obtain ⟨X3, c3, rfl, hc3, hs3⟩ := ho3.seenN HK2.out
  have HS3 := Lib.hid hs3
  have HB3 := Lib.hid (bthen HB2.out hb3)
  have HZ3 := Lib.hid (Nat.le_trans HZ2.out hb3.size)
  have HT3 := Lib.hid (HS2.out.below hb3)
  clear hb3 ho3 hs3
  go_wp2_with fail
  refine (setC X3 c3 k2 q (Pt.outE b a) w3 HK2.out HL2.out HS3.out (by rw [HY.out]; exact HQ.out)).mono ?_
  rintro e w4 ⟨P, pc, rfl, hqp, hs4, hb4⟩
  rw [HY.out] at hs4
  replace HR0 := Lib.hid (HR0.out.on16 hb4)
  have HB4 := Lib.hid (bthen HB3.out hb4)
  have HT4 := Lib.hid (HT3.out.below hb4)
  have HS4 := Lib.hid hs4
  clear hs4 hb4
  obtain ⟨c0, c1⟩ := HR0.out.cells16
  have f0 := HR0.out.thaw16 0
  have f1 := HR0.out.thaw16 1
  have HR1 := Lib.hid (HR0.out.set16 (D2 := D) (p2 := p) (dc2 := dc) (P2 := P) (q2 := q) (pc2 := pc))
  have HT5 := Lib.hid (seen2_16 HT4.out HR0.out (.slice D p dc) (.slice P q pc))
  have HS5 := Lib.hid (seen2_16 HS4.out HR0.out (.slice D p dc) (.slice P q pc))
  have HB5 := Lib.hid (below2_16 (g := w.heap.size) HB4.out (Nat.le_refl _) (.slice D p dc) (.slice P q pc))
  go_wp2
  obtain ⟨q0, q1⟩ := HR1.out.cells16
  refine bodyPost_ret (v := .agg #[.slice D p dc, .slice P q pc]) (by simp [results, Try.results13, go_sem, q0, q1]) rfl ⟨D, dc, P, pc, rfl, hpd, hqp, HT5.out, HS5.out, HB5.out⟩
set_option maxRecDepth 100000 in
set_option maxHeartbeats 8000000 in
theorem hosts16 (D P : Option Addr) (dc pc p q m : Nat) (d u : List H.En) (x : List C.Wd) (w : World) (hD : EArg16 w D dc p d) (hP : EArg16 w P pc q u) (hx : Pt.hostsE (d ++ u) = x) (hm : x.length = m) : Calls Try.prog 21 #[.agg #[.slice D p dc, .slice P q pc]] w (fun e w' => ∃ B b, e = .returned (.slice B m b) ∧ m ≤ b ∧ Seen eS w' B x ∧ Below w.heap.size w w') := by
  have hup := up w (.cells #[.slice D p dc, .slice P q pc] 24)
  have HB0 := Lib.hid (PatAt.new16 w D P p dc q pc)
  have hp1000 := hD.most
  have hq1000 := hP.most
  obtain ⟨W1, hW1⟩ : ∃ W1, w.alloc (.cells #[.slice D p dc, .slice P q pc] 24) = W1 := ⟨_, rfl⟩
  obtain ⟨W2, hW2⟩ : ∃ W2, W1.alloc (.cells #[.slice D p dc, .slice P q pc] 22) = W2 := ⟨_, rfl⟩
  have hb1 : Below w.heap.size w W1 := by rw [← hW1]; exact up _ _
  have hb12 : Below W1.heap.size W1 W2 := by rw [← hW2]; exact up _ _
  have hb2 : Below w.heap.size w W2 := bthen hb1 hb12
  have hblk : W2.heap[W1.heap.size]? = some (.cells #[.slice D p dc, .slice P q pc] 22) := by rw [← hW2]; exact heap_alloc_new W1 _
  have hlt : W1.heap.size < W2.heap.size := by rw [← hW2]; simp
  have HC := Lib.hid (concat16 W1.heap.size (fun k => match k with | 0 => D | _ => P) (fun k => match k with | 0 => p | _ => q) (fun k => match k with | 0 => dc | _ => pc) (fun k => match k with | 0 => d | _ => u) W2 (by show 0 + p + q ≤ _; omega) hlt
    (fun k hk => by
      obtain rfl | rfl : k = 0 ∨ k = 1 := by omega
      all_goals first | (simp [World.cell?, hblk]; done) | (simp [World.cell?, hblk]; rfl))
    (fun k hk => by
      obtain rfl | rfl : k = 0 ∨ k = 1 := by omega
      · exact hD.len
      · exact hP.len)
    (fun k hk => by
      obtain rfl | rfl : k = 0 ∨ k = 1 := by omega
      · exact hD.seen.below hb2
      · exact hP.seen.below hb2))
  rw [show cat16 (fun k => match k with | 0 => d | _ => u) 2 = d ++ u by simp [cat16]] at HC
  obtain ⟨l, hl⟩ : ∃ l, d ++ u = l := ⟨_, rfl⟩
  rw [hl] at HC hx
  have hsz1 : W1.heap.size = w.heap.size + 1 := by rw [← hW1]; simp
  rw [hsz1] at HC
  obtain ⟨n, hn⟩ : ∃ n, l.length = n := ⟨_, rfl⟩
  have hn2000 : n ≤ 2000 := by rw [← hn, ← hl, List.length_append, hD.len, hP.len]; omega
  have HX := Lib.hid hx
  have HM := Lib.hid hm
  have HN := Lib.hid hn
  have HB2 := Lib.hid hb2
  have HW1 := Lib.hid hW1
  have HW2 := Lib.hid hW2
  have HBK := Lib.hid (show PatAt W1 w.heap.size D p dc P q pc by rw [← hW1]; exact PatAt.new16 w D P p dc q pc)
  clear hD hP hx hm hup hW1 hW2 hb1 hb12 hb2 hblk hlt hl hn HB0
  obtain ⟨c0, c1⟩ := HBK.out.cells16
  go_enter Try.func21, Try.ntmps21
  go_wp2_with fail
  rw [HW1.out, HW2.out]
  refine HC.out.mono ?_
  rintro e w3 ⟨v, rfl, ho, hx3⟩
  obtain ⟨L0, lc, rfl, hlc, hs⟩ := ho.seenN HN.out
  have HL := Lib.hid hs
  have HB3 := Lib.hid (bthen HB2.out hx3)
  clear ho hs hx3 c0 c1
  go_wp2
  go_loopg [3, 13] n (fun gk vo vi wr => ∃ k : Nat, Hid (k + gk = n) ∧ k ≤ n ∧ vi = .int .i64 (k : Int) ∧ Hid (Own eS wr w3.heap.size vo ((l.take k).map fun x => x.host)) ∧ Hid (Below w3.heap.size w3 wr))
  case atStart => exact ⟨0, Nat.zero_add _, Nat.zero_le _, rfl, Own.nil _ _, Below.refl _ _⟩
  case round =>
    obtain ⟨k, HG, hk, rfl, HO, HB⟩ := hrel
    have hgk := HG.out
    by_cases hlt : k < n
    · have blt : decide ((k : Int) < (n : Int)) = true := decide_eq_true (by omega)
      have blt2 : decide (k < n) = true := decide_eq_true hlt
      have hki : (k : Int) < (n : Int) := by omega
      have hkl : k < l.length := by have := HN.out; omega
      obtain ⟨ab, o, rfl, hwb, hL⟩ := HL.out (by omega)
      obtain ⟨d0, d1, d2, d3⟩ := (hL.below HB.out hwb).entry rfl rfl hkl
      have HF2 := Lib.hid (Pt.host_take hkl)
      have HLN := Lib.hid (show ((l.take k).map fun x => x.host).length + 1 ≤ 1099511627776 by rw [List.length_map, List.length_take]; omega)
      generalize l[k] = y at d0 d1 d2 d3 HF2
      obtain ⟨yh, yk, yy, yv⟩ := y
      simp only at d0 d1 d2 d3 HF2
      obtain ⟨z0, z1, z2, z3⟩ := (ent_laid wr yh yk yy yv).cells
      have HUP := Lib.hid (bthen HB.out (up wr (.cells #[.string (sB yh), .int .i64 yk, .string (sB yy), .string (sB yv)] 44)))
      have HO2 := Lib.hid (HO.out.alloc (.cells #[.string (sB yh), .int .i64 yk, .string (sB yy), .string (sB yv)] 44))
      have hsz := HB.out.size
      clear hL
      go_wp2_with (at_builtin; refine wpList_appG eS _ rfl (.tmp 17) (.tmp 20) rfl w3.heap.size u3 ((l.take k).map fun x => x.host) rfl HO2.out yh 1 _ rfl (wr.heap.size + 1) (by simp) rfl HLN.out (by simp; omega) ?_; intro v5 w5 hown5 hb5)
      go_roundg (n - (k + 1))
      case rel => exact ⟨k + 1, (by show _ = _; omega), by omega, by go_num, (by rw [HF2.out]; exact hown5), HUP.out.trans hb5⟩
      case measure => omega
    · have blt : decide ((k : Int) < (n : Int)) = false := decide_eq_false (by omega)
      have blt2 : decide (k < n) = false := decide_eq_false hlt
      have HE := Lib.hid (show ((l.take k).map fun x => x.host) = l.map fun x => x.host by rw [List.take_of_length_le (by have := HN.out; omega)])
      have HO2 := Lib.hid (show Own eS wr w3.heap.size u3 (l.map fun x => x.host) by rw [← HE.out]; exact HO.out)
      have HLN := Lib.hid (show (l.map fun x => x.host).length = n by rw [List.length_map]; exact HN.out)
      have HB4 := Lib.hid (bthen HB3.out HB.out)
      obtain ⟨A, cap, rfl, hcap, _⟩ := HO2.out.seenN HLN.out
      by_cases h0 : n = 0
      · have HL0 := Lib.hid (show l = [] from List.eq_nil_of_length_eq_zero (by have := HN.out; omega))
        obtain rfl : m = 0 := by rw [← HM.out, ← HX.out, HL0.out]; rfl
        have HX0 := Lib.hid (show x = [] from List.eq_nil_of_length_eq_zero HM.out)
        subst h0
        go_wp2_with fail
        refine (Any.slices_Sort_string_none (P := Try.prog) (ρ := ren190) lays190 A cap wr).mono ?_
        rintro e w4 ⟨rfl, rfl⟩
        go_wp2_with fail
        refine (Any.slices_Compact_string_empty (P := Try.prog) (ρ := ren194) lays194 A cap _).mono ?_
        rintro e w5 ⟨rfl, rfl⟩
        go_wp2
        go_ret
        exact ⟨A, cap, rfl, Nat.zero_le _, by rw [HX0.out]; exact Seen.nil, HB4.out⟩
      · have hn0 : 0 < n := by omega
        obtain ⟨g, rfl, hg1, hg2, _⟩ := HO2.out.block (by have := HLN.out; omega)
        have HR := Lib.hid (RowS.own16 HO2.out (by have := HLN.out; omega))
        have HG1 := Lib.hid (Nat.le_trans HB3.out.size hg1)
        go_wp2_with fail
        refine (sortS16 g n cap _ wr HLN.out hn0 (by omega) HR.out).mono ?_
        rintro e w4 ⟨rfl, s, hp, hso, hr, hb5⟩
        have HSQ := Lib.hid (show Pt.sqH s = x by rw [← HX.out]; exact Pt.hosts_sq hp hso)
        have HSL := Lib.hid (hp.length_eq.trans HLN.out)
        have HR2 := Lib.hid hr
        have HB5 := Lib.hid (HB4.out.trans (hb5.mono HG1.out))
        clear hp hso hr hb5
        go_wp2_with fail
        refine (compactS16 g n cap s _ HSL.out hcap (by omega) HR2.out).mono ?_
        rintro e w5 ⟨m5, rfl, hm5, hm5n, hs5, hb6⟩
        have HB6 := Lib.hid (HB5.out.trans (hb6.mono HG1.out))
        rw [HSQ.out] at hs5 hm5
        obtain rfl : m = m5 := HM.out.symm.trans hm5
        have HS5 := Lib.hid hs5
        clear hb6 hs5 hm5
        go_wp2
        go_ret
        exact ⟨_, cap, rfl, by omega, HS5.out, HB6.out⟩
theorem patch_ok : PatchOk := ⟨between16, apply16, fun D P dc pc p q m k d u x y h w h1 h2 _ h3 h4 h5 h6 => only16 D P dc pc p q m k d u x y h w h1 h2 h3 h4 h5 h6, hosts16⟩
end Go.Proofs.Ytpkhnchbamjgjaa
