/-
  Contract of the code's Of (layer 8). Condition: at most 2^30 lines.
-/
import Derived.Test.YtgjnafnmdieniaaDoorDiffF
import Derived.Test.YtgjnafnmdieniaaDoorDiffK
import Derived.Test.YtgjnafnmdieniaaDoorDiffL
import Derived.Test.YtgjnafnmdieniaaDoorLinesM
namespace Go.Proofs.YtgjnafnmdieniaaDoor
open Go.RowKit
set_option linter.unusedVariables false

theorem chs_app {w : World} {M1 M2 : List ChM} {L1 L2 : List T.Chg} (h1 : M1.length = L1.length) (h2 : M2.length = L2.length) (e1 : ∀ i (h1 : i < M1.length) (h2 : i < L1.length), ChS w M1[i] L1[i]) (e2 : ∀ i (h1 : i < M2.length) (h2 : i < L2.length), ChS w M2[i] L2[i]) :
    ∀ i (h1 : i < (M1 ++ M2).length) (h2 : i < (L1 ++ L2).length), ChS w (M1 ++ M2)[i] (L1 ++ L2)[i] := by
  intro i h3 h4
  by_cases hi : i < M1.length
  · rw [List.getElem_append_left hi, List.getElem_append_left (by omega)]
    exact e1 i hi (by omega)
  · rw [List.getElem_append_right (by omega), List.getElem_append_right (by omega)]
    rw [List.length_append] at h3 h4
    have := e2 (i - M1.length) (by omega) (by omega)
    simp only [h1] at this ⊢
    exact this
set_option maxRecDepth 100000 in
set_option maxHeartbeats 4000000 in
theorem diff_of (A B : Option Addr) (c d n m : Nat) (a b : List T.Ln) (w : World) (hA : TArg w A c n a) (hB : TArg w B d m b) (ha : T.RightT a) (hb : T.RightT b) :
    Calls Tryd.prog 11 #[.slice A n c, .slice B m d] w (OfS w (T.diffL a b) 0) := by
  obtain ⟨hn, hl, hc, hsA, hNA⟩ := hA
  obtain ⟨hm, hl2, hc2, hsB, hNB⟩ := hB
  have hlen := T.diff_len a b
  have hn200 := ha.len
  have hm200 := hb.len
  have HLEN := Lib.hid (show (T.diffL a b).length ≤ 400 by omega)
  have HA := Lib.hid hsA
  have HB := Lib.hid hsB
  have HN := Lib.hid hn
  have HM := Lib.hid hm
  have HRA := Lib.hid ha
  have HRB := Lib.hid hb
  clear hsA hsB hn hm ha hb hNA hNB hlen hn200 hm200
  go_enter Tryd.func11, Tryd.ntmps11
  go_wp2_with fail
  refine (right_n A c a n _ HA.out HN.out hl HRA.out).mono ?_
  rintro e w1 ⟨rfl, hx1⟩
  have HX1 := Lib.hid hx1
  clear hx1
  go_wp2_with fail
  refine (right_n B d b m _ (HB.out.below HX1.out) HM.out hl2 HRB.out).mono ?_
  rintro e w2 ⟨rfl, hx2⟩
  have HX2 := Lib.hid (bthen HX1.out hx2)
  clear hx2
  go_wp2_with fail
  refine (codeGone A B c d n m a b _ HN.out HM.out (HA.out.below HX2.out) (HB.out.below HX2.out) HRA.out HRB.out).mono ?_
  rintro e w3 ⟨v3, rfl, ho3, hx3⟩
  obtain ⟨M1, g1, o1, e1⟩ := ho3
  obtain ⟨A1, c1, rfl, k1, s1⟩ := o1.seen
  have hN1 := Own.nilOk o1
  obtain ⟨n1, hn1⟩ : ∃ z, M1.length = z := ⟨_, rfl⟩
  rw [hn1] at k1
  rw [hn1]
  have HN1 := Lib.hid hn1
  have HNO1 := Lib.hid hN1
  have HG1 := Lib.hid g1
  have HE1 := Lib.hid e1
  have HS1 := Lib.hid s1
  have HX3 := Lib.hid (bthen HX2.out hx3)
  clear hx3 o1 s1 hN1 hn1 g1 e1
  go_wp2_with fail
  refine (codeAdded A B c d n m a b _ HN.out HM.out (HA.out.below HX3.out) (HB.out.below HX3.out) HRA.out HRB.out).mono ?_
  rintro e w4 ⟨v4, rfl, ho4, hx4⟩
  obtain ⟨M2, g2, o2, e2⟩ := ho4
  obtain ⟨A2, c2', rfl, k2, s2⟩ := o2.seen
  have hN2 := Own.nilOk o2
  obtain ⟨n2, hn2⟩ : ∃ z, M2.length = z := ⟨_, rfl⟩
  rw [hn2] at k2
  rw [hn2]
  have HN2 := Lib.hid hn2
  have HNO2 := Lib.hid hN2
  have HG2 := Lib.hid g2
  have HE2 := Lib.hid e2
  have HS2 := Lib.hid s2
  have HX4 := Lib.hid (bthen HX3.out hx4)
  have HX34 := Lib.hid hx4
  clear hx4 o2 s2 hN2 hn2 g2 e2
  go_wp2_with fail
  refine (codeMarked A B c d n m a b _ HN.out HM.out (HA.out.below HX4.out) (HB.out.below HX4.out) HRA.out HRB.out).mono ?_
  rintro e w5 ⟨v5, rfl, ho5, hx5⟩
  obtain ⟨M3, g3, o3, e3⟩ := ho5
  obtain ⟨A3, c3, rfl, k3, s3⟩ := o3.seen
  have hN3 := Own.nilOk o3
  obtain ⟨n3, hn3⟩ : ∃ z, M3.length = z := ⟨_, rfl⟩
  rw [hn3] at k3
  rw [hn3]
  have HX5 := Lib.hid (bthen HX4.out hx5)
  have HX35 := Lib.hid (bthen HX34.out hx5)
  have hsum : n1 + n2 + n3 ≤ 400 := by
    have h1 := HLEN.out
    have h2 := HG1.out
    have h3 := HG2.out
    have h4 := HN1.out
    have h5 := HN2.out
    unfold T.diffL at h1
    rw [List.length_append, List.length_append] at h1
    omega
  have hcall : Calls Tryd.prog 24 #[.slice (some ⟨w5.heap.size, 0, none⟩) 3 3] (w5.alloc (.cells #[.slice A1 n1 c1, .slice A2 n2 c2', .slice A3 n3 c3] 25)) (fun e w' => ∃ A9 c9, e = .returned (.slice A9 (T.diffL a b).length c9) ∧ SeenC eD w' A9 (T.diffL a b) ∧ (T.diffL a b).length ≤ c9 ∧ NilOk A9 c9 ∧ Below w.heap.size w w') := by
    obtain ⟨W, hW⟩ : ∃ W, w5.alloc (.cells #[.slice A1 n1 c1, .slice A2 n2 c2', .slice A3 n3 c3] 25) = W := ⟨_, rfl⟩
    have hxW : Below w5.heap.size w5 W := by rw [← hW]; exact up w5 _
    have hblk : W.heap[w5.heap.size]? = some (.cells #[.slice A1 n1 c1, .slice A2 n2 c2', .slice A3 n3 c3] 25) := by rw [← hW]; exact heap_alloc_new w5 _
    have hlt : w5.heap.size < W.heap.size := by rw [← hW]; simp
    rw [hW]
    have hs3 : sumC (fun k => match k with | 0 => n1 | 1 => n2 | _ => n3) 3 = n1 + n2 + n3 := by simp [sumC]
    have hc := concatC_any w5.heap.size (fun k => match k with | 0 => A1 | 1 => A2 | _ => A3) (fun k => match k with | 0 => n1 | 1 => n2 | _ => n3) (fun k => match k with | 0 => c1 | 1 => c2' | _ => c3) (fun k => match k with | 0 => M1 | 1 => M2 | _ => M3) W (by rw [hs3]; omega) hlt
      (fun k hk => by
        obtain rfl | rfl | rfl : k = 0 ∨ k = 1 ∨ k = 2 := by omega
        all_goals first | (simp [World.cell?, hblk]; done) | (simp [World.cell?, hblk]; rfl))
      (fun k hk => by
        obtain rfl | rfl | rfl : k = 0 ∨ k = 1 ∨ k = 2 := by omega
        · exact HN1.out
        · exact HN2.out
        · exact hn3)
      (fun k hk => by
        obtain rfl | rfl | rfl : k = 0 ∨ k = 1 ∨ k = 2 := by omega
        · exact (HS1.out.below HX35.out).below hxW
        · exact (HS2.out.below hx5).below hxW
        · exact s3.below hxW)
      (fun k hk => by
        obtain rfl | rfl | rfl : k = 0 ∨ k = 1 ∨ k = 2 := by omega
        · exact k1
        · exact k2
        · exact k3)
      (fun k hk => by
        obtain rfl | rfl | rfl : k = 0 ∨ k = 1 ∨ k = 2 := by omega
        · exact HNO1.out
        · exact HNO2.out
        · exact hN3)
    refine hc.mono ?_
    rintro e w' ⟨v, rfl, hown, hx⟩
    have hcat : catC (fun k => match k with | 0 => M1 | 1 => M2 | _ => M3) 3 = M1 ++ M2 ++ M3 := by simp [catC]
    rw [hcat] at hown
    obtain ⟨A9, c9, rfl, hk9, hs9⟩ := hown.seen
    have hl9 : (M1 ++ M2 ++ M3).length = (T.diffL a b).length := by unfold T.diffL; rw [List.length_append, List.length_append, List.length_append, List.length_append, HG1.out, HG2.out, g3]
    have hx5' : Below w5.heap.size w5 w' := bthen hxW hx
    rw [hl9] at hk9
    refine ⟨A9, c9, by rw [hl9], ⟨M1 ++ M2 ++ M3, hl9, hs9, ?_⟩, hk9, Own.nilOk hown, bthen HX5.out hx5'⟩
    exact chs_app (by rw [List.length_append, List.length_append, HG1.out, HG2.out]) g3 (chs_app HG1.out HG2.out (fun i h1 h2 => ((HE1.out i h1 h2).1.below HX35.out).below hx5') (fun i h1 h2 => ((HE2.out i h1 h2).1.below hx5).below hx5')) (fun i h1 h2 => (e3 i h1 h2).1.below hx5')
  clear hN3 hn3 g3 e3 o3 s3 hx5 hsum
  go_wp2_with fail
  refine hcall.mono ?_
  rintro e w6 ⟨A9, c9, rfl, hs9, hk9, hN9, hx9⟩
  have HS9 := Lib.hid hs9
  have HK9 := Lib.hid hk9
  have HN9 := Lib.hid hN9
  clear hcall hs9 hk9 hN9
  go_wp2
  go_ret2
  exact ⟨A9, c9, rfl, HS9.out, HK9.out, HN9.out, hx9⟩
set_option maxRecDepth 100000 in
set_option maxHeartbeats 1000000 in
theorem diff_bad (A B : Option Addr) (c d n m : Nat) (a b : List T.Ln) (w : World) (hA : TArg w A c n a) (hB : TArg w B d m b) (h : ¬ (T.RightT a ∧ T.RightT b)) :
    Calls Tryd.prog 11 #[.slice A n c, .slice B m d] w (OfS w [] 1) := by
  obtain ⟨rfl, hl, hc, hsA, hNA⟩ := hA
  obtain ⟨rfl, hl2, hc2, hsB, hNB⟩ := hB
  have HA := Lib.hid hsA
  have HB := Lib.hid hsB
  clear hsA hsB hNA hNB
  by_cases ha : T.RightT a
  · have hbad : ¬ T.RightT b := fun hb => h ⟨ha, hb⟩
    have HRA := Lib.hid ha
    have HRB := Lib.hid hbad
    clear h ha hbad
    go_enter Tryd.func11, Tryd.ntmps11
    go_wp2_with fail
    refine (right_is A c a true _ HA.out hl (yes_iff HRA.out)).mono ?_
    rintro e w1 ⟨rfl, hx1⟩
    go_wp2_with fail
    refine (right_is B d b false _ (HB.out.below hx1) hl2 (no_iff HRB.out)).mono ?_
    rintro e w2 ⟨rfl, hx2⟩
    go_wp2
    go_ret2
    exact ⟨none, 0, rfl, SeenC.nil, Nat.le_refl _, fun _ => rfl, bthen hx1 hx2⟩
  · have HRA := Lib.hid ha
    clear h ha
    go_enter Tryd.func11, Tryd.ntmps11
    go_wp2_with fail
    refine (right_is A c a false _ HA.out hl (no_iff HRA.out)).mono ?_
    rintro e w1 ⟨rfl, hx1⟩
    go_wp2
    go_ret2
    exact ⟨none, 0, rfl, SeenC.nil, Nat.le_refl _, fun _ => rfl, hx1⟩
end Go.Proofs.YtgjnafnmdieniaaDoor
