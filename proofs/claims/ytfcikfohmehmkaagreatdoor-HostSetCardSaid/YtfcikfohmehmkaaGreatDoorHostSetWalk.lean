/-
  The walk of layer 14's statement HostSet, from what host does: it returns true whatever comes in. No conditions.
-/
import Derived.Test.YtfcikfohmehmkaaGreatDoorBase14
namespace Go.Proofs.YtfcikfohmehmkaaGreatDoor
open Go.RowKit
set_option linter.unusedVariables false
set_option linter.unusedSimpArgs false
theorem ent_laidR (w : World) (a : List UInt8) (k : Int) (b d : List UInt8) : EntAt (w.alloc (.cells #[.string (sB a), .int .i64 k, .string (sB b), .string (sB d)] 36)) w.heap.size a k b d :=
  ⟨World.cell?_alloc_mark w _ _ (0, 0) 0, World.cell?_alloc_mark w _ _ (0, 0) 1, World.cell?_alloc_mark w _ _ (0, 0) 2, World.cell?_alloc_mark w _ _ (0, 0) 3, by simp⟩
theorem by_rest2 {p F : World → Nat → Nat → Prop} {G : Prop} (main : (∀ (z : World) (gx gy : Nat), F z gx gy → p z gx gy) → G) (rest : ∀ (z : World) (gx gy : Nat), F z gx gy → p z gx gy) : G := main rest
set_option maxRecDepth 100000 in
set_option maxHeartbeats 16000000 in
theorem hostSet_walk (E : HostOk) (AW : ∀ w, RowsOk w → Calls Tryz.prog 10 #[] w (TrueS w)) (w : World) (HTAB : RowsOk w) (A : Option Addr) (c : Nat) (l : List H.En) (hc : l.length ≤ c) (hNA : NilOk A c) (hA : Seen eEc w A l) (hlA : l.length ≤ maxLen) (a : H.En) (wa : LongE a) (b : H.En) (wb : LongE b) :
    Calls Tryz.prog 4 #[.slice A l.length c, enV a, enV b] w (TrueS w) := by
  have TAB := Lib.hid HTAB
  clear HTAB
  unfold maxLen at hlA
  obtain ⟨ah, ak, ay, av⟩ := a
  obtain ⟨bh, bk, by1, bv⟩ := b
  clear wa wb
  unfold enV
  obtain ⟨n, hnA⟩ : ∃ n, l.length = n := ⟨_, rfl⟩
  rw [hnA] at hc hlA ⊢
  have HNA := Lib.hid hnA
  have HA := Lib.hid hA
  have HOA := Lib.hid hNA
  clear hA hnA hNA
  have u1 := up w (.cells #[.string (sB ah), .int .i64 ak, .string (sB ay), .string (sB av)] 35)
  obtain ⟨w1, hw1⟩ : ∃ z, z = w.alloc (.cells #[.string (sB ah), .int .i64 ak, .string (sB ay), .string (sB av)] 35) := ⟨_, rfl⟩
  have e1 := ent_laid w ah ak ay av
  rw [← hw1] at u1 e1
  have u2 := up w1 (.cells #[.string (sB bh), .int .i64 bk, .string (sB by1), .string (sB bv)] 35)
  obtain ⟨w2, hw2⟩ : ∃ z, z = w1.alloc (.cells #[.string (sB bh), .int .i64 bk, .string (sB by1), .string (sB bv)] 35) := ⟨_, rfl⟩
  have e2 := ent_laid w1 bh bk by1 bv
  rw [← hw2] at u2 e2
  have s1 : w1.heap.size = w.heap.size + 1 := by rw [hw1]; simp
  have s2 : w2.heap.size = w.heap.size + 2 := by rw [hw2]; simp [s1]
  obtain ⟨ga, hga⟩ : ∃ g, w.heap.size = g := ⟨_, rfl⟩
  have HW2 := Lib.hid (show w2 = (w.alloc (.cells #[.string (sB ah), .int .i64 ak, .string (sB ay), .string (sB av)] 35)).alloc (.cells #[.string (sB bh), .int .i64 bk, .string (sB by1), .string (sB bv)] 35) by rw [hw2, hw1])
  have e1' := ent_below e1 u2
  rw [hga] at e1'
  rw [s1, hga] at e2
  have HEA := Lib.hid e1'
  have HEB := Lib.hid e2
  have HB2 := Lib.hid (bthen u1 u2)
  have HS2 := Lib.hid (show w2.heap.size = ga + 2 by rw [s2, hga])
  have HGA := Lib.hid hga
  clear u1 u2 hw1 hw2 e1 e1' e2 s1 s2 hga
  obtain ⟨y0, y1, y2, y3⟩ := HEA.out.cells
  obtain ⟨x0, x1, x2, x3⟩ := HEB.out.cells
  go_enter Tryz.func4, Tryz.ntmps4
  by_cases h60 : n ≤ 60
  · have b1 : decide ((n : Int) > 60) = false := decide_eq_false (by omega)
    have b2 : decide ((60 : Int) < (n : Int)) = false := decide_eq_false (by omega)
    have b3 : decide (60 < n) = false := decide_eq_false (by omega)
    obtain ⟨L2, hL2⟩ : ∃ z, ([⟨ah, ak, ay, av⟩, ⟨bh, bk, by1, bv⟩] : List H.En) ++ l = z := ⟨_, rfl⟩
    have HL2 := Lib.hid hL2
    obtain ⟨m, hm⟩ : ∃ z, L2.length = z := ⟨_, rfl⟩
    have HM := Lib.hid hm
    have HM2 := Lib.hid (show m = n + 2 by rw [← hm, ← hL2, List.length_append, HNA.out]; simp; omega)
    clear hL2 hm
    go_wp2_with (at_builtin; go_loud (rw [← HW2.out, HGA.out]; refine wpList_appL15 (w2.alloc _) rfl (.tmp 18) (.tmp 19) rfl (ga + 1 + 1) _ [⟨ah, ak, ay, av⟩, ⟨bh, bk, by1, bv⟩] rfl (own_lit14 w2 (ga + 1 + 1) HS2.out ⟨ah, ak, ay, av⟩ ⟨bh, bk, by1, bv⟩) A n c l HNA.out HOA.out ((HA.out.below HB2.out).below (up w2 _)) rfl (by simp; omega) (Nat.le_trans (Nat.le_of_eq HS2.out.symm) (up w2 _).size) ?_; intro v6 w6 ho6 hb6; rw [HL2.out] at ho6; obtain ⟨B, d, rfl, hd6, hs6⟩ := ho6.seenN HM.out; have HX6 := Lib.hid ((up w2 _).trans (hb6.mono (Nat.le_of_eq HS2.out))); have HS6 := Lib.hid hs6; clear ho6 hb6 hs6))
    go_loopg [8, 22] m (fun gk v8 vi wr => ∃ k : Nat, Hid (k + gk = m) ∧ vi = .int .i64 (k : Int) ∧ Hid (∀ j (h : j < L2.length), j < k → FitE L2[j]) ∧ Hid (Below w6.heap.size w6 wr))
    case atStart => exact ⟨0, Nat.zero_add _, rfl, (fun j h h2 => absurd h2 (Nat.not_lt_zero j)), Below.refl _ _⟩
    case round =>
      obtain ⟨k, HG, rfl, HF, HB⟩ := hrel
      have hgk := HG.out
      have hmn := HM2.out
      have HXW := Lib.hid (HB2.out.trans ((bthen HX6.out HB.out).mono HB2.out.size))
      by_cases hlt : k < m
      · have blt : decide ((k : Int) < (m : Int)) = true := decide_eq_true (by omega)
        have blt2 : decide (k < m) = true := decide_eq_true hlt
        have hkz : (k : Int) < (m : Int) := by omega
        have hkl : k < L2.length := by rw [HM.out]; exact hlt
        obtain ⟨b9, o9, rfl, hwb, hL⟩ := HS6.out (by rw [HM.out]; omega)
        obtain ⟨l0, l1, l2, l3⟩ := (hL.below HB.out hwb).entry rfl rfl hkl
        have HNX := Lib.hid (fun (hf : FitE L2[k]) => show ∀ j (h : j < L2.length), j < k + 1 → FitE L2[j] from fun j h h2 => by
          rcases Nat.lt_or_ge j k with h4 | h4
          · exact HF.out j h h4
          · obtain rfl : j = k := by omega
            exact hf)
        generalize L2[k] = x at l0 l1 l2 l3 HNX
        obtain ⟨xh, xk, xy, xv⟩ := x
        simp only at l0 l1 l2 l3
        obtain ⟨z0, z1, z2, z3⟩ := (ent_laid wr xh xk xy xv).cells
        have hup := up wr (.cells #[.string (sB xh), .int .i64 xk, .string (sB xy), .string (sB xv)] 35)
        have HUP := Lib.hid (HB.out.trans (hup.mono HB.out.size))
        have HUQ := Lib.hid (bthen HXW.out hup)
        clear hL hup
        by_cases f1 : xh.length ≤ 100
        · have g1 := long_no f1
          by_cases f2 : xy.length ≤ 100
          · have g2 := long_no f2
            by_cases f3 : xv.length ≤ 100
            · have g3 := long_no f3
              have HN2 := Lib.hid (HNX.out ⟨f1, f2, f3⟩)
              clear f1 f2 f3
              go_wp2
              go_roundg (m - (k + 1))
              case rel => exact ⟨k + 1, (by show _ = _; omega), by go_num, HN2.out, HUP.out⟩
              case measure => omega
            · have g3 := long_yes f3
              clear f1 f2 f3
              go_wp2_with fail
              refine (AW _ (rowsAt TAB HUQ.out)).mono ?_
              rintro e wz ⟨rfl, hx⟩
              go_wp2
              go_ret
              exact ⟨rfl, bthen HUQ.out hx⟩
          · have g2 := long_yes f2
            clear f1 f2
            go_wp2_with fail
            refine (AW _ (rowsAt TAB HUQ.out)).mono ?_
            rintro e wz ⟨rfl, hx⟩
            go_wp2
            go_ret
            exact ⟨rfl, bthen HUQ.out hx⟩
        · have g1 := long_yes f1
          clear f1
          go_wp2_with fail
          refine (AW _ (rowsAt TAB HUQ.out)).mono ?_
          rintro e wz ⟨rfl, hx⟩
          go_wp2
          go_ret
          exact ⟨rfl, bthen HUQ.out hx⟩
      · have blt : decide ((k : Int) < (m : Int)) = false := decide_eq_false (by omega)
        have blt2 : decide (k < m) = false := decide_eq_false hlt
        have HFA := Lib.hid (show ∀ x ∈ L2, FitE x by
          intro x hx
          obtain ⟨j, hj, rfl⟩ := List.getElem_of_mem hx
          exact HF.out j hj (by have := HM.out; omega))
        have HFX : FitE ⟨ah, ak, ay, av⟩ := HFA.out _ (by rw [← HL2.out]; simp)
        have HFY : FitE ⟨bh, bk, by1, bv⟩ := HFA.out _ (by rw [← HL2.out]; simp)
        have HFL := Lib.hid (show ∀ x ∈ l, FitE x from fun x hx => HFA.out x (by rw [← HL2.out]; simp [hx]))
        have HFX := Lib.hid HFX
        have HFY := Lib.hid HFY
        have hX6 := bthen HX6.out HB.out
        have HEA7 := Lib.hid (ent_below HEA.out hX6)
        have HEB7 := Lib.hid (ent_below HEB.out hX6)
        obtain ⟨k0, k1, k2, k3⟩ := HEA7.out.cells
        obtain ⟨m0, m1, m2, m3⟩ := HEB7.out.cells
        replace HA := Lib.hid (HA.out.below HXW.out)
        clear hX6 y0 y1 y2 y3 x0 x1 x2 x3 HFA HF HB HG hgk HEA HEB HX6 HS6 HL2 HM HM2 HS2
        go_wp2
        clear k0 k1 k2 k3 m0 m1 m2 m3
        apply by_rest2 (F := fun z gx gy => Below wr.heap.size wr z ∧ EntAt z gx ah ak ay av ∧ EntAt z gy bh bk by1 bv)
        · intro HREST
          refine wp_region_held_drew (S := fun w' => EntAt w' ga ah ak ay av ∧ EntAt w' (ga + 1) bh bk by1 bv) (by kernel_rfl) ⟨ent_below HEA7.out (Below.refl _ _).drew, ent_below HEB7.out (Below.refl _ _).drew⟩ (fun hHeld => ?_)
          refine takeD13 (i := 0) (v := ?vq0) (d := some 44) rfl rfl (by kernel_rfl) (by kernel_rfl) (by kernel_rfl) (fun _ _ _ h => h) (Or.inl ⟨by rfl, ?hyq0⟩) (by assumption) ?restq0
          case hyq0 => intro w hSw; obtain ⟨hs1, hs2⟩ := hSw; obtain ⟨k0, k1, k2, k3⟩ := hs1.cells; obtain ⟨m0, m1, m2, m3⟩ := hs2.cells; go_simp; try (with_reducible rfl)
          try simp only [Act.put, List.setIfInBounds_toArray, List.set_cons_zero, List.set_cons_succ]
          refine takeD13 (i := 1) (v := ?vq1) (d := some 45) rfl rfl (by kernel_rfl) (by kernel_rfl) (by kernel_rfl) (fun _ _ _ h => h) (Or.inl ⟨by rfl, ?hyq1⟩) (by assumption) ?restq1
          case hyq1 => intro w hSw; obtain ⟨hs1, hs2⟩ := hSw; obtain ⟨k0, k1, k2, k3⟩ := hs1.cells; obtain ⟨m0, m1, m2, m3⟩ := hs2.cells; go_simp; try (with_reducible rfl)
          try simp only [Act.put, List.setIfInBounds_toArray, List.set_cons_zero, List.set_cons_succ]
          refine wpAnyH_ready (rs := [2, 3]) (by kernel_rfl) (by simp) ?_
          refine AllReadyH.cons rfl (fun K hK => ?_) (AllReadyH.cons rfl (fun K hK => ?_) AllReadyH.nil)
          · go_simp
            have v1 := up wr (.cells #[.string ⟨#[]⟩, .int .i64 0, .string ⟨#[]⟩, .string ⟨#[]⟩] 36)
            refine hK.out _ _ ⟨ent_below (ent_below HEA7.out v1) (Below.refl _ _).drew, ent_below (ent_below HEB7.out v1) (Below.refl _ _).drew⟩ (fun hHeld => ?_)
            clear hK K
            try simp only [Act.put, List.setIfInBounds_toArray, List.set_cons_zero, List.set_cons_succ]
            refine wpAnyH_ready (rs := [3]) (by kernel_rfl) (by simp) ?_
            refine AllReadyH.cons rfl (fun K hK => ?_) AllReadyH.nil
            go_simp
            have v2 := up (wr.alloc (.cells #[.string ⟨#[]⟩, .int .i64 0, .string ⟨#[]⟩, .string ⟨#[]⟩] 36)) (.cells #[.string ⟨#[]⟩, .int .i64 0, .string ⟨#[]⟩, .string ⟨#[]⟩] 36)
            have v12 := bthen v1 v2
            refine hK.out _ _ ⟨ent_below (ent_below HEA7.out v12) (Below.refl _ _).drew, ent_below (ent_below HEB7.out v12) (Below.refl _ _).drew⟩ (fun hHeld => ?_)
            clear hK K
            try simp only [Act.put, List.setIfInBounds_toArray, List.set_cons_zero, List.set_cons_succ]
            refine wpAnyH_ready (rs := [4]) (by kernel_rfl) (by simp) ?_
            refine AllReadyH.cons rfl (fun K hK => ?_) AllReadyH.nil
            go_simp
            clear v1 v2 v12
            have v1 := up wr (.cells #[.string (sB ah), .int .i64 ak, .string (sB ay), .string (sB av)] 36)
            have v2 := up (wr.alloc (.cells #[.string (sB ah), .int .i64 ak, .string (sB ay), .string (sB av)] 36)) (.cells #[.string ⟨#[]⟩, .int .i64 0, .string ⟨#[]⟩, .string ⟨#[]⟩] 36)
            have v12 := bthen v1 v2
            refine hK.out _ _ ⟨ent_below (ent_below HEA7.out v12) (Below.refl _ _).drew, ent_below (ent_below HEB7.out v12) (Below.refl _ _).drew⟩ (fun hHeld => ?_)
            clear hK K
            try simp only [Act.put, List.setIfInBounds_toArray, List.set_cons_zero, List.set_cons_succ]
            refine wpAnyH_ready (rs := [5]) (by kernel_rfl) (by simp) ?_
            refine AllReadyH.cons rfl (fun K hK => ?_) AllReadyH.nil
            go_simp
            clear v1 v2 v12
            have v1 := up wr (.cells #[.string (sB ah), .int .i64 ak, .string (sB ay), .string (sB av)] 36)
            have v2 := up (wr.alloc (.cells #[.string (sB ah), .int .i64 ak, .string (sB ay), .string (sB av)] 36)) (.cells #[.string (sB bh), .int .i64 bk, .string (sB by1), .string (sB bv)] 36)
            have v12 := bthen v1 v2
            refine hK.out _ _ ⟨ent_below (ent_below HEA7.out v12) (Below.refl _ _).drew, ent_below (ent_below HEB7.out v12) (Below.refl _ _).drew⟩ (fun hHeld => ?_)
            clear hK K hHeld
            try simp only [Act.put, List.setIfInBounds_toArray, List.set_cons_zero, List.set_cons_succ]
            refine wpAnyH_done (by kernel_rfl) ?_ _
            have f1 := ent_below (ent_below (ent_laidR wr ah ak ay av) v2) (Below.refl _ _).drew
            have f2 := ent_below (ent_laidR (wr.alloc (.cells #[.string (sB ah), .int .i64 ak, .string (sB ay), .string (sB av)] 36)) bh bk by1 bv) (Below.refl _ _).drew
            have es : (wr.alloc (.cells #[.string (sB ah), .int .i64 ak, .string (sB ay), .string (sB av)] 36)).heap.size = wr.heap.size + 1 := by simp
            rw [es] at f2
            have f3 := v12.drew
            obtain ⟨g1, hg1⟩ : ∃ g, wr.heap.size + 1 = g := ⟨_, rfl⟩
            obtain ⟨g0, hg0⟩ : ∃ g, wr.heap.size = g := ⟨_, rfl⟩
            obtain ⟨z, hz⟩ : ∃ z, z = ((wr.alloc (.cells #[.string (sB ah), .int .i64 ak, .string (sB ay), .string (sB av)] 36)).alloc (.cells #[.string (sB bh), .int .i64 bk, .string (sB by1), .string (sB bv)] 36)).drew := ⟨_, rfl⟩
            rw [← hz] at f1 f2 f3 ⊢
            rw [hg1] at f2 ⊢
            rw [hg0] at f1 ⊢
            exact HREST z g0 g1 ⟨f3, f1, f2⟩
          · go_simp
            have v1 := up wr (.cells #[.string ⟨#[]⟩, .int .i64 0, .string ⟨#[]⟩, .string ⟨#[]⟩] 36)
            refine hK.out _ _ ⟨ent_below (ent_below HEA7.out v1) (Below.refl _ _).drew, ent_below (ent_below HEB7.out v1) (Below.refl _ _).drew⟩ (fun hHeld => ?_)
            clear hK K
            try simp only [Act.put, List.setIfInBounds_toArray, List.set_cons_zero, List.set_cons_succ]
            refine wpAnyH_ready (rs := [2]) (by kernel_rfl) (by simp) ?_
            refine AllReadyH.cons rfl (fun K hK => ?_) AllReadyH.nil
            go_simp
            have v2 := up (wr.alloc (.cells #[.string ⟨#[]⟩, .int .i64 0, .string ⟨#[]⟩, .string ⟨#[]⟩] 36)) (.cells #[.string ⟨#[]⟩, .int .i64 0, .string ⟨#[]⟩, .string ⟨#[]⟩] 36)
            have v12 := bthen v1 v2
            refine hK.out _ _ ⟨ent_below (ent_below HEA7.out v12) (Below.refl _ _).drew, ent_below (ent_below HEB7.out v12) (Below.refl _ _).drew⟩ (fun hHeld => ?_)
            clear hK K
            try simp only [Act.put, List.setIfInBounds_toArray, List.set_cons_zero, List.set_cons_succ]
            refine wpAnyH_ready (rs := [4]) (by kernel_rfl) (by simp) ?_
            refine AllReadyH.cons rfl (fun K hK => ?_) AllReadyH.nil
            go_simp
            clear v1 v2 v12
            have v1 := up wr (.cells #[.string ⟨#[]⟩, .int .i64 0, .string ⟨#[]⟩, .string ⟨#[]⟩] 36)
            have v2 := up (wr.alloc (.cells #[.string ⟨#[]⟩, .int .i64 0, .string ⟨#[]⟩, .string ⟨#[]⟩] 36)) (.cells #[.string (sB ah), .int .i64 ak, .string (sB ay), .string (sB av)] 36)
            have v12 := bthen v1 v2
            refine hK.out _ _ ⟨ent_below (ent_below HEA7.out v12) (Below.refl _ _).drew, ent_below (ent_below HEB7.out v12) (Below.refl _ _).drew⟩ (fun hHeld => ?_)
            clear hK K
            try simp only [Act.put, List.setIfInBounds_toArray, List.set_cons_zero, List.set_cons_succ]
            refine wpAnyH_ready (rs := [5]) (by kernel_rfl) (by simp) ?_
            refine AllReadyH.cons rfl (fun K hK => ?_) AllReadyH.nil
            go_simp
            clear v1 v2 v12
            have v1 := up wr (.cells #[.string (sB bh), .int .i64 bk, .string (sB by1), .string (sB bv)] 36)
            have v2 := up (wr.alloc (.cells #[.string (sB bh), .int .i64 bk, .string (sB by1), .string (sB bv)] 36)) (.cells #[.string (sB ah), .int .i64 ak, .string (sB ay), .string (sB av)] 36)
            have v12 := bthen v1 v2
            refine hK.out _ _ ⟨ent_below (ent_below HEA7.out v12) (Below.refl _ _).drew, ent_below (ent_below HEB7.out v12) (Below.refl _ _).drew⟩ (fun hHeld => ?_)
            clear hK K hHeld
            try simp only [Act.put, List.setIfInBounds_toArray, List.set_cons_zero, List.set_cons_succ]
            refine wpAnyH_done (by kernel_rfl) ?_ _
            have f1 := ent_below (ent_below (ent_laidR wr bh bk by1 bv) v2) (Below.refl _ _).drew
            have f2 := ent_below (ent_laidR (wr.alloc (.cells #[.string (sB bh), .int .i64 bk, .string (sB by1), .string (sB bv)] 36)) ah ak ay av) (Below.refl _ _).drew
            have es : (wr.alloc (.cells #[.string (sB bh), .int .i64 bk, .string (sB by1), .string (sB bv)] 36)).heap.size = wr.heap.size + 1 := by simp
            rw [es] at f2
            have f3 := v12.drew
            obtain ⟨g1, hg1⟩ : ∃ g, wr.heap.size + 1 = g := ⟨_, rfl⟩
            obtain ⟨g0, hg0⟩ : ∃ g, wr.heap.size = g := ⟨_, rfl⟩
            obtain ⟨z, hz⟩ : ∃ z, z = ((wr.alloc (.cells #[.string (sB bh), .int .i64 bk, .string (sB by1), .string (sB bv)] 36)).alloc (.cells #[.string (sB ah), .int .i64 ak, .string (sB ay), .string (sB av)] 36)).drew := ⟨_, rfl⟩
            rw [← hz] at f1 f2 f3 ⊢
            rw [hg1] at f2 ⊢
            rw [hg0] at f1 ⊢
            exact HREST z g1 g0 ⟨f3, f2, f1⟩
        · intro z gx gy hF
          obtain ⟨hb, hx, hy⟩ := hF
          have HXZ := Lib.hid hb
          have HGX := Lib.hid hx
          have HGY := Lib.hid hy
          obtain ⟨p0, p1, p2, p3⟩ := hx.cells
          obtain ⟨q0, q1, q2, q3⟩ := hy.cells
          clear hb hx hy
          obtain ⟨sm, hsm⟩ : ∃ z, (H.setE l).length = z := ⟨_, rfl⟩
          have hsmn : sm ≤ n := by rw [← hsm, ← HNA.out]; exact H.set_len l
          have HSM := Lib.hid hsm
          clear hsm
          obtain ⟨r1, hr1⟩ : ∃ z, H.aheadE ⟨ah, ak, ay, av⟩ ⟨bh, bk, by1, bv⟩ = z := ⟨_, rfl⟩
          obtain ⟨r2, hr2⟩ : ∃ z, H.aheadE ⟨bh, bk, by1, bv⟩ ⟨ah, ak, ay, av⟩ = z := ⟨_, rfl⟩
          have HR1 := Lib.hid hr1
          have HR2 := Lib.hid hr2
          clear hr1 hr2
          go_wp2_with fail
          refine (aheadR ⟨ah, ak, ay, av⟩ ⟨bh, bk, by1, bv⟩ r1 _ HR1.out).mono ?_
          rintro e z2 ⟨rfl, hx⟩
          replace HXZ := Lib.hid (bthen HXZ.out hx)
          replace HGX := Lib.hid (ent_below HGX.out hx)
          replace HGY := Lib.hid (ent_below HGY.out hx)
          clear hx p0 p1 p2 p3 q0 q1 q2 q3
          obtain ⟨p0, p1, p2, p3⟩ := HGX.out.cells
          obtain ⟨q0, q1, q2, q3⟩ := HGY.out.cells
          cases r1 with
          | true =>
            have h2 := H.ahead_asymm HR1.out
            rw [HR2.out] at h2
            subst h2
            have HV := Lib.hid (show H.cmpE ⟨ah, ak, ay, av⟩ ⟨bh, bk, by1, bv⟩ = -1 by unfold H.cmpE; rw [if_pos HR1.out])
            go_wp2_with fail
            refine (aheadR ⟨bh, bk, by1, bv⟩ ⟨ah, ak, ay, av⟩ false _ HR2.out).mono ?_
            rintro e z3 ⟨rfl, hx⟩
            replace HXZ := Lib.hid (bthen HXZ.out hx)
            clear hx p0 p1 p2 p3 q0 q1 q2 q3
            go_wp2_with fail
            refine (E.setOf A c n sm l _ HNA.out h60 hc HFL.out (HA.out.below HXZ.out) HSM.out).mono ?_
            rintro e y1 ⟨B1, d1, rfl, hd1, hs1, hx⟩
            have HB1 := Lib.hid (bthen HXZ.out hx)
            have HS1 := Lib.hid hs1
            clear hx hs1
            go_wp2_with fail
            refine (refs14 B1 d1 sm (H.setE l) _ HSM.out (by omega) HS1.out).mono ?_
            rintro e y2 ⟨B2, d2, rfl, hd2, hs2, hx⟩
            have HB2 := Lib.hid (bthen HB1.out hx)
            have HS2 := Lib.hid hs2
            clear hx hs2
            go_wp2_with fail
            refine (refs14 A c n l _ HNA.out (by omega) (HA.out.below HB2.out)).mono ?_
            rintro e y3 ⟨B3, d3, rfl, hd3, hs3, hx⟩
            have HB3 := Lib.hid (bthen HB2.out hx)
            replace HS2 := Lib.hid (HS2.out.below hx)
            have HS3 := Lib.hid hs3
            clear hx hs3
            go_wp2_with fail
            refine (setR B3 d3 n sm l _ HNA.out (by omega) HS3.out HSM.out).mono ?_
            rintro e y4 ⟨B4, d4, rfl, hd4, hs4, hx⟩
            have HB4 := Lib.hid (bthen HB3.out hx)
            replace HS2 := Lib.hid (HS2.out.below hx)
            have HS4 := Lib.hid hs4
            clear hx hs4
            go_wp2_with fail
            refine (sameR14 B2 B4 d2 d4 sm (H.setE l) _ HSM.out (by omega) HS2.out HS4.out).mono ?_
            rintro e y5 ⟨rfl, hx⟩
            have HB5 := Lib.hid (bthen HB4.out hx)
            clear hx
            obtain ⟨k0, k1, k2, k3⟩ := (ent_below HEA7.out HB5.out).cells
            obtain ⟨m0, m1, m2, m3⟩ := (ent_below HEB7.out HB5.out).cells
            go_wp2_with fail
            refine (E.compareOf ⟨ah, ak, ay, av⟩ ⟨bh, bk, by1, bv⟩ (-1) _ HFX.out HFY.out HV.out).mono ?_
            rintro e y6 ⟨rfl, hx⟩
            have HB6 := Lib.hid (bthen HB5.out hx)
            clear hx k0 k1 k2 k3 m0 m1 m2 m3
            go_wp2_with fail
            refine (AW _ (rowsAt TAB (by first | assumption | exact Below.refl _ _ | exact Hid.out (by assumption) | exact bthen (by assumption) (by assumption) | exact bthen (Hid.out (by assumption)) (by assumption) | exact below_drawn13 (by first | assumption | exact Below.refl _ _ | exact Hid.out (by assumption)) _))).mono ?_
            rintro e y7 ⟨rfl, hx⟩
            have hbz := bthen HXW.out (bthen HB6.out hx)
            go_wp2
            go_ret
            exact ⟨rfl, hbz⟩
          | false =>
            cases r2 with
            | true =>
              have HV := Lib.hid (show H.cmpE ⟨ah, ak, ay, av⟩ ⟨bh, bk, by1, bv⟩ = 1 by unfold H.cmpE; rw [if_neg (by rw [HR1.out]; decide), if_pos HR2.out])
              go_wp2_with fail
              refine (aheadR ⟨bh, bk, by1, bv⟩ ⟨ah, ak, ay, av⟩ true _ HR2.out).mono ?_
              rintro e z3 ⟨rfl, hx⟩
              replace HXZ := Lib.hid (bthen HXZ.out hx)
              clear hx p0 p1 p2 p3 q0 q1 q2 q3
              go_wp2_with fail
              refine (E.setOf A c n sm l _ HNA.out h60 hc HFL.out (HA.out.below HXZ.out) HSM.out).mono ?_
              rintro e y1 ⟨B1, d1, rfl, hd1, hs1, hx⟩
              have HB1 := Lib.hid (bthen HXZ.out hx)
              have HS1 := Lib.hid hs1
              clear hx hs1
              go_wp2_with fail
              refine (refs14 B1 d1 sm (H.setE l) _ HSM.out (by omega) HS1.out).mono ?_
              rintro e y2 ⟨B2, d2, rfl, hd2, hs2, hx⟩
              have HB2 := Lib.hid (bthen HB1.out hx)
              have HS2 := Lib.hid hs2
              clear hx hs2
              go_wp2_with fail
              refine (refs14 A c n l _ HNA.out (by omega) (HA.out.below HB2.out)).mono ?_
              rintro e y3 ⟨B3, d3, rfl, hd3, hs3, hx⟩
              have HB3 := Lib.hid (bthen HB2.out hx)
              replace HS2 := Lib.hid (HS2.out.below hx)
              have HS3 := Lib.hid hs3
              clear hx hs3
              go_wp2_with fail
              refine (setR B3 d3 n sm l _ HNA.out (by omega) HS3.out HSM.out).mono ?_
              rintro e y4 ⟨B4, d4, rfl, hd4, hs4, hx⟩
              have HB4 := Lib.hid (bthen HB3.out hx)
              replace HS2 := Lib.hid (HS2.out.below hx)
              have HS4 := Lib.hid hs4
              clear hx hs4
              go_wp2_with fail
              refine (sameR14 B2 B4 d2 d4 sm (H.setE l) _ HSM.out (by omega) HS2.out HS4.out).mono ?_
              rintro e y5 ⟨rfl, hx⟩
              have HB5 := Lib.hid (bthen HB4.out hx)
              clear hx
              obtain ⟨k0, k1, k2, k3⟩ := (ent_below HEA7.out HB5.out).cells
              obtain ⟨m0, m1, m2, m3⟩ := (ent_below HEB7.out HB5.out).cells
              go_wp2_with fail
              refine (E.compareOf ⟨ah, ak, ay, av⟩ ⟨bh, bk, by1, bv⟩ (1) _ HFX.out HFY.out HV.out).mono ?_
              rintro e y6 ⟨rfl, hx⟩
              have HB6 := Lib.hid (bthen HB5.out hx)
              clear hx k0 k1 k2 k3 m0 m1 m2 m3
              go_wp2_with fail
              refine (AW _ (rowsAt TAB (by first | assumption | exact Below.refl _ _ | exact Hid.out (by assumption) | exact bthen (by assumption) (by assumption) | exact bthen (Hid.out (by assumption)) (by assumption) | exact below_drawn13 (by first | assumption | exact Below.refl _ _ | exact Hid.out (by assumption)) _))).mono ?_
              rintro e y7 ⟨rfl, hx⟩
              have hbz := bthen HXW.out (bthen HB6.out hx)
              go_wp2
              go_ret
              exact ⟨rfl, hbz⟩
            | false =>
              have HV := Lib.hid (show H.cmpE ⟨ah, ak, ay, av⟩ ⟨bh, bk, by1, bv⟩ = 0 by unfold H.cmpE; rw [if_neg (by rw [HR1.out]; decide), if_neg (by rw [HR2.out]; decide)])
              go_wp2_with fail
              refine (aheadR ⟨bh, bk, by1, bv⟩ ⟨ah, ak, ay, av⟩ false _ HR2.out).mono ?_
              rintro e z3 ⟨rfl, hx⟩
              replace HXZ := Lib.hid (bthen HXZ.out hx)
              clear hx p0 p1 p2 p3 q0 q1 q2 q3
              go_wp2_with fail
              refine (E.setOf A c n sm l _ HNA.out h60 hc HFL.out (HA.out.below HXZ.out) HSM.out).mono ?_
              rintro e y1 ⟨B1, d1, rfl, hd1, hs1, hx⟩
              have HB1 := Lib.hid (bthen HXZ.out hx)
              have HS1 := Lib.hid hs1
              clear hx hs1
              go_wp2_with fail
              refine (refs14 B1 d1 sm (H.setE l) _ HSM.out (by omega) HS1.out).mono ?_
              rintro e y2 ⟨B2, d2, rfl, hd2, hs2, hx⟩
              have HB2 := Lib.hid (bthen HB1.out hx)
              have HS2 := Lib.hid hs2
              clear hx hs2
              go_wp2_with fail
              refine (refs14 A c n l _ HNA.out (by omega) (HA.out.below HB2.out)).mono ?_
              rintro e y3 ⟨B3, d3, rfl, hd3, hs3, hx⟩
              have HB3 := Lib.hid (bthen HB2.out hx)
              replace HS2 := Lib.hid (HS2.out.below hx)
              have HS3 := Lib.hid hs3
              clear hx hs3
              go_wp2_with fail
              refine (setR B3 d3 n sm l _ HNA.out (by omega) HS3.out HSM.out).mono ?_
              rintro e y4 ⟨B4, d4, rfl, hd4, hs4, hx⟩
              have HB4 := Lib.hid (bthen HB3.out hx)
              replace HS2 := Lib.hid (HS2.out.below hx)
              have HS4 := Lib.hid hs4
              clear hx hs4
              go_wp2_with fail
              refine (sameR14 B2 B4 d2 d4 sm (H.setE l) _ HSM.out (by omega) HS2.out HS4.out).mono ?_
              rintro e y5 ⟨rfl, hx⟩
              have HB5 := Lib.hid (bthen HB4.out hx)
              clear hx
              obtain ⟨k0, k1, k2, k3⟩ := (ent_below HEA7.out HB5.out).cells
              obtain ⟨m0, m1, m2, m3⟩ := (ent_below HEB7.out HB5.out).cells
              go_wp2_with fail
              refine (E.compareOf ⟨ah, ak, ay, av⟩ ⟨bh, bk, by1, bv⟩ (0) _ HFX.out HFY.out HV.out).mono ?_
              rintro e y6 ⟨rfl, hx⟩
              have HB6 := Lib.hid (bthen HB5.out hx)
              clear hx k0 k1 k2 k3 m0 m1 m2 m3
              go_wp2_with fail
              refine (AW _ (rowsAt TAB (by first | assumption | exact Below.refl _ _ | exact Hid.out (by assumption) | exact bthen (by assumption) (by assumption) | exact bthen (Hid.out (by assumption)) (by assumption) | exact below_drawn13 (by first | assumption | exact Below.refl _ _ | exact Hid.out (by assumption)) _))).mono ?_
              rintro e y7 ⟨rfl, hx⟩
              have hbz := bthen HXW.out (bthen HB6.out hx)
              go_wp2
              go_ret
              exact ⟨rfl, hbz⟩
  · have b1 : decide ((n : Int) > 60) = true := decide_eq_true (by omega)
    have b2 : decide ((60 : Int) < (n : Int)) = true := decide_eq_true (by omega)
    have b3 : decide (60 < n) = true := decide_eq_true (by omega)
    go_wp2_with fail
    refine (AW _ (rowsAt TAB (bthen (up _ _) (up _ _)))).mono ?_
    rintro e wz ⟨rfl, hx⟩
    go_wp2
    go_ret
    exact ⟨rfl, bthen (bthen (up _ _) (up _ _)) hx⟩
end Go.Proofs.YtfcikfohmehmkaaGreatDoor
