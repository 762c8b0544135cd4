/-
  The walk of layer 8's statement DiffOnce, from what diff's functions do: it returns true whatever the lines are. No conditions.
-/
import Derived.Test.YtgjnafnmdieniaaDoorDiffG
import Derived.Deep.RegionHeld3
import Derived.Test.YtgjnafnmdieniaaDoorLinesC
namespace Go.Proofs.YtgjnafnmdieniaaDoor
open Go.RowKit
set_option linter.unusedVariables false
set_option linter.unusedSimpArgs false

open Go.Region in
/-- 'wpAnyH_take', the operation's own slot named. -/
theorem takeD {P : Program} {ops : Array Oper} {Q : Exit → Act → World → Prop} {md : Region.Mode} {S : World → Prop} {i : Nat} {oi : Oper} {v : Value} {d : Option Nat} {fuel : Nat} {listed : Array Bool} {a : Act} {w : World} (hi : ops[i]? = some oi) (hd : oi.dst = d)
    (hs : Region.noSelect ops = true) (hf : free md ops listed i = true) (hr : (Region.ready md ops listed).contains i = true)
    (hQ : ∀ c a w, Q (.panic c) (a.put d v) w → Q (.panic c) a w) (hy : YieldsIf P ops S oi v a) (hS : S w)
    (h : wpAnyH P md ops Q S fuel (listed.setIfInBounds i true) (a.put d v) w) : wpAnyH P md ops Q S (fuel + 1) listed a w := by
  subst hd; exact wpAnyH_take hi hs hf hr hQ hy hS h
theorem equalN (A B : Option Addr) (c d n m : Nat) (l1 l2 : List (List UInt8)) (w : World) (h : l1 ≠ l2) (hn : l1.length = n) (hm : l2.length = m) (hl : n ≤ 1073741824) (hA : Seen eS w A l1) (hB : Seen eS w B l2) :
    Calls Tryd.prog 20 #[.slice A n c, .slice B m d] w (BoolS w false) := by
  have := equal_any A B c d l1 l2 w (by omega) hA hB
  rw [decide_eq_false h, hn, hm] at this
  exact this
theorem apart_ne {L : List T.Chg} (h : L.Pairwise fun x y => x.path ≠ y.path) {i j : Nat} (hi : i < L.length) (hj : j < L.length) (hij : i ≠ j) : (L[i]).path ≠ (L[j]).path := by
  rcases Nat.lt_or_gt_of_ne hij with h1 | h1
  · exact List.pairwise_iff_getElem.1 h i j hi hj h1
  · exact fun e => List.pairwise_iff_getElem.1 h j i hj hi h1 e.symm
set_option maxRecDepth 100000 in
set_option maxHeartbeats 4000000 in
theorem diffOnce_walk (E : DiffOk) (w : World) (A : Option Addr) (c : Nat) (a : List T.Ln) (hc : a.length ≤ c) (hA : Seen eL w A a) (hl : a.length ≤ maxLen) (hNA : NilOk A c) (B : Option Addr) (d : Nat) (b : List T.Ln) (hd : b.length ≤ d) (hB : Seen eL w B b) (hl2 : b.length ≤ maxLen) (hNB : NilOk B d) :
    Calls Tryd.prog 7 #[.slice A a.length c, .slice B b.length d] w (TrueS w) := by
  unfold maxLen at hl hl2
  obtain ⟨n, hn⟩ : ∃ n, a.length = n := ⟨_, rfl⟩
  obtain ⟨m, hm⟩ : ∃ m, b.length = m := ⟨_, rfl⟩
  rw [hn] at hc hl ⊢
  rw [hm] at hd hl2 ⊢
  have HN := Lib.hid hn
  have HM := Lib.hid hm
  have HA := Lib.hid hA
  have HB := Lib.hid hB
  have HNA := Lib.hid hNA
  have HNB := Lib.hid hNB
  clear hA hB hn hm hNA hNB
  have hb : Below w.heap.size w w := Below.refl _ _
  go_enter Tryd.func7, Tryd.ntmps7
  go_wp2_with fail
  refine (smallQ A c n a _ HN.out HA.out).mono ?_
  rintro e wx1 ⟨bs, rfl, hsm, hx⟩
  replace HA := Lib.hid (HA.out.below hx)
  replace HB := Lib.hid (HB.out.below hx)
  replace hb := bthen hb hx
  clear hx
  cases bs with
  | false =>
    clear hsm
    go_wp2_with fail
    refine (awake_of E _).mono ?_
    rintro e wz ⟨rfl, hx⟩
    go_wp2
    go_ret
    exact ⟨rfl, bthen hb hx⟩
  | true =>
    replace hsm := hsm rfl
    have hn220 : n ≤ 220 := hsm
    clear hsm
    go_wp2_with fail
    refine (smallQ B d m b _ HM.out HB.out).mono ?_
    rintro e wx2 ⟨bs, rfl, hsm, hx⟩
    replace HA := Lib.hid (HA.out.below hx)
    replace HB := Lib.hid (HB.out.below hx)
    replace hb := bthen hb hx
    clear hx
    cases bs with
    | false =>
      clear hsm
      go_wp2_with fail
      refine (awake_of E _).mono ?_
      rintro e wz ⟨rfl, hx⟩
      go_wp2
      go_ret
      exact ⟨rfl, bthen hb hx⟩
    | true =>
      replace hsm := hsm rfl
      have hm220 : m ≤ 220 := hsm
      clear hsm
      by_cases hn60 : 60 < n
      · have bn60 : decide ((60 : Int) < (n : Int)) = true := decide_eq_true (by omega)
        have bn61 : decide (60 < n) = true := decide_eq_true hn60
        go_wp2_with fail
        refine (awake_of E _).mono ?_
        rintro e wz ⟨rfl, hx⟩
        go_wp2
        go_ret
        exact ⟨rfl, bthen hb hx⟩
      · have bn60 : decide ((60 : Int) < (n : Int)) = false := decide_eq_false (by omega)
        have bn61 : decide (60 < n) = false := decide_eq_false hn60
        replace hn60 : n ≤ 60 := by omega
        by_cases hm60 : 60 < m
        · have bm60 : decide ((60 : Int) < (m : Int)) = true := decide_eq_true (by omega)
          have bm61 : decide (60 < m) = true := decide_eq_true hm60
          go_wp2_with fail
          refine (awake_of E _).mono ?_
          rintro e wz ⟨rfl, hx⟩
          go_wp2
          go_ret
          exact ⟨rfl, bthen hb hx⟩
        · have bm60 : decide ((60 : Int) < (m : Int)) = false := decide_eq_false (by omega)
          have bm61 : decide (60 < m) = false := decide_eq_false hm60
          replace hm60 : m ≤ 60 := by omega
          replace HA := Lib.hid (TArg.mk HN.out (by omega) hc HA.out HNA.out)
          replace HB := Lib.hid (TArg.mk HM.out (by omega) hd HB.out HNB.out)
          by_cases hR : T.RightT a ∧ T.RightT b
          · have HR1 := Lib.hid hR.1
            have HR2 := Lib.hid hR.2
            obtain ⟨L, hL⟩ : ∃ L, T.diffL a b = L := ⟨_, rfl⟩
            obtain ⟨k, hk⟩ : ∃ k, L.length = k := ⟨_, rfl⟩
            have HL := Lib.hid hL
            have HK := Lib.hid hk
            have HFW := Lib.hid (show FewC L from hL ▸ diff_few hR.1 hR.2)
            have HGR := Lib.hid (show GoodR L from hL ▸ diff_goodR hR.1 hR.2)
            have HRUN := Lib.hid (show T.RunOk a L b from hL ▸ T.diff_runs hR.1 hR.2)
            have HNONE := Lib.hid (show L = [] ↔ a = b from hL ▸ T.diff_none hR.1 hR.2)
            have hk1024 : k ≤ 1024 := hk ▸ HFW.out.1
            clear hL hk hR
            have HAP := Lib.hid (show L.Pairwise (fun x y => x.path ≠ y.path) from HL.out ▸ T.diff_apart HR1.out HR2.out)
            have HUN := Lib.hid (show ∀ x ∈ L, ∀ y ∈ L, x.kind = 1 → T.pre x.path y.path → x.path = y.path from fun x hx y hy h1 h2 => T.diff_under HR1.out HR2.out (HL.out.symm ▸ hx) (HL.out.symm ▸ hy) h1 h2)
            have hkl : k ≤ n + m := by rw [← HK.out, ← HN.out, ← HM.out, ← HL.out]; exact T.diff_len a b
            have bl : decide ((k : Int) ≤ (n : Int) + (m : Int)) = true := decide_eq_true (by omega)
            have bl2 : decide (k ≤ n + m) = true := decide_eq_true hkl
            clear hkl
            go_wp2_with fail
            refine (of_is E A B c d n m k a b L _ HA.out HB.out HR1.out HR2.out HL.out HK.out).mono ?_
            rintro e wx3 ⟨A1, c1, rfl, hs3, hk3, hx⟩
            replace HA := Lib.hid (HA.out.below hx)
            replace HB := Lib.hid (HB.out.below hx)
            have HX := Lib.hid hs3
            clear hs3
            replace hb := bthen hb hx
            clear hx
            clear hk3
            go_wp2
            go_loopg [46] k (fun gk vi wo => ∃ i : Nat, Hid (i + gk = k) ∧ i ≤ k ∧ vi = .int .i64 (i : Int) ∧ Below w.heap.size w wo ∧ Hid (CArg wo A1 c1 k L))
            case atStart => exact ⟨0, Nat.zero_add _, Nat.zero_le _, rfl, hb, HX⟩
            case round =>
              obtain ⟨i, HG, hi, rfl, hb, HX⟩ := hrel
              obtain ⟨wo, hwo⟩ : ∃ wo, wo = wr := ⟨_, rfl⟩
              subst hwo
              by_cases hlt : i < k
              · have blt : decide ((i : Int) < (k : Int)) = true := decide_eq_true (by omega)
                have blt2 : decide (i < k) = true := decide_eq_true hlt
                have hii : (i : Int) < (k : Int) := by omega
                have hiL : i < L.length := by have := HK.out; omega
                obtain ⟨b1, o1, B2, c3, n1, rfl, hpn, hnc, hat⟩ := HX.out.hA.atD hiL
                have HMEM := Lib.hid (show L[i] ∈ L from List.getElem_mem hiL)
                have HAPI := Lib.hid (fun j (hj : j < L.length) (hij : i ≠ j) => apart_ne HAP.out hiL hj hij)
                obtain ⟨x, hx⟩ : ∃ x, L[i] = x := ⟨_, rfl⟩
                rw [hx] at hpn hat HMEM HAPI
                obtain ⟨kd, P, mk⟩ := x
                simp only at hpn hat HAPI
                obtain ⟨x0, x1, x2, hPs0⟩ := hat wo (Below.refl _ _)
                have HPN := Lib.hid hpn
                have hP16 : n1 ≤ 40 := by rw [← hpn]; exact (HGR.out.2 _ HMEM.out).1
                have hbk := fun z => World.cell?_alloc_mark wo #[.int .i64 kd, .slice B2 n1 c3, .int .i64 mk] 41 (0, 0) z
                obtain ⟨W1, hW1⟩ : ∃ W1, wo.alloc (.cells #[.int .i64 kd, .slice B2 n1 c3, .int .i64 mk] 41) = W1 := ⟨_, rfl⟩
                have HB1 := Lib.hid (show Below wo.heap.size wo W1 from hW1 ▸ up wo _)
                have y0' : W1.cell? ⟨wo.heap.size, 0, none⟩ = some (.int .i64 kd) := by rw [← hW1]; exact hbk 0
                have y1' : W1.cell? ⟨wo.heap.size, 1, none⟩ = some (.slice B2 n1 c3) := by rw [← hW1]; exact hbk 1
                have hsz : wo.heap.size < W1.heap.size := by rw [← hW1]; simp
                have HKX := Lib.hid (fun w' (h : Below W1.heap.size W1 w') => show w'.cell? ⟨wo.heap.size, 0, none⟩ = some (.int .i64 kd) ∧ w'.cell? ⟨wo.heap.size, 1, none⟩ = some (.slice B2 n1 c3) from
                  ⟨(h.cell (p := ⟨wo.heap.size, 0, none⟩) hsz).trans y0', (h.cell (p := ⟨wo.heap.size, 1, none⟩) hsz).trans y1'⟩)
                have HPX := Lib.hid (hPs0.below HB1.out)
                have HX1 := Lib.hid (HX.out.below HB1.out)
                have HBN := Lib.hid (bthen hb HB1.out)
                have HW1 := Lib.hid hW1
                have hgk := HG.out
                clear hx hpn hat hPs0 hbk y0' y1' hsz hW1 HX hb
                go_wp2
                rw [HW1.out]
                clear x0 x1 x2
                go_loopg [53] k (fun gk2 vi wr => ∃ j : Nat, Hid (j + gk2 = k) ∧ j ≤ k ∧ vi = .int .i64 (j : Int) ∧ Below W1.heap.size W1 wr)
                case atStart => exact ⟨0, Nat.zero_add _, Nat.zero_le _, rfl, Below.refl _ _⟩
                case round =>
                  obtain ⟨j, HG2, hj, rfl, hb2⟩ := hrel
                  by_cases hlt2 : j < k
                  · have clt : decide ((j : Int) < (k : Int)) = true := decide_eq_true (by omega)
                    have clt2 : decide (j < k) = true := decide_eq_true hlt2
                    have hjj : (j : Int) < (k : Int) := by omega
                    have hjL : j < L.length := by have := HK.out; omega
                    obtain ⟨b3, o3, B3, c4, n2, e3, hpn2, hnc2, hat2⟩ := HX1.out.hA.atD hjL
                    injection e3 with e3
                    injection e3 with e4 e5 e6
                    subst e4; subst e5
                    have HMEM2 := Lib.hid (show L[j] ∈ L from List.getElem_mem hjL)
                    have HNE := Lib.hid (HAPI.out j hjL)
                    obtain ⟨x2, hx2⟩ : ∃ x2, L[j] = x2 := ⟨_, rfl⟩
                    rw [hx2] at hpn2 hat2 HMEM2 HNE
                    obtain ⟨kd2, P2, mk2⟩ := x2
                    simp only at hpn2 hat2 HNE
                    obtain ⟨z0, z1, z2, hPs2⟩ := hat2 wr hb2
                    have HPN2 := Lib.hid hpn2
                    have hbk2 := fun z => World.cell?_alloc_mark wr #[.int .i64 kd2, .slice B3 n2 c4, .int .i64 mk2] 41 (0, 0) z
                    obtain ⟨W2, hW2⟩ : ∃ W2, wr.alloc (.cells #[.int .i64 kd2, .slice B3 n2 c4, .int .i64 mk2] 41) = W2 := ⟨_, rfl⟩
                    have HB2 := Lib.hid (show Below wr.heap.size wr W2 from hW2 ▸ up wr _)
                    have HBW2 := Lib.hid (bthen hb2 HB2.out)
                    have u1' : W2.cell? ⟨wr.heap.size, 1, none⟩ = some (.slice B3 n2 c4) := by rw [← hW2]; exact hbk2 1
                    have hsz2 : wr.heap.size < W2.heap.size := by rw [← hW2]; simp
                    have HKP := Lib.hid (fun w' (h : Below W2.heap.size W2 w') => show w'.cell? ⟨wo.heap.size, 0, none⟩ = some (.int .i64 kd) ∧ w'.cell? ⟨wo.heap.size, 1, none⟩ = some (.slice B2 n1 c3) ∧ w'.cell? ⟨wr.heap.size, 1, none⟩ = some (.slice B3 n2 c4) from
                      ⟨(HKX.out w' (bthen HBW2.out h)).1, (HKX.out w' (bthen HBW2.out h)).2, (h.cell (p := ⟨wr.heap.size, 1, none⟩) hsz2).trans u1'⟩)
                    have HPX2 := Lib.hid (HPX.out.below HBW2.out)
                    have HPY2 := Lib.hid (hPs2.below HB2.out)
                    have HW2 := Lib.hid hW2
                    have hgk2 := HG2.out
                    clear hx2 hpn2 hat2 hPs2 hbk2 u1' hsz2 hW2
                    by_cases hij : i = j
                    · subst hij
                      have bij : ((i : Int) == (i : Int)) = true := by simp
                      go_wp2
                      rw [HW2.out]
                      go_roundg (k - (i + 1))
                      case rel => exact ⟨i + 1, (by show _ = _; omega), by omega, by go_num, HBW2.out⟩
                      case measure => omega
                    · have bij : ((i : Int) == (j : Int)) = false := beq_eq_false_iff_ne.2 (by omega)
                      have bij2 : (i == j) = false := beq_eq_false_iff_ne.2 hij
                      have HNE2 := Lib.hid (HNE.out hij)
                      have HE1 := Lib.hid (fun w' (h : Below W2.heap.size W2 w') => equalN B2 B3 c3 c4 n1 n2 P P2 w' HNE2.out HPN.out HPN2.out (by omega) (HPX2.out.below h) (HPY2.out.below h))
                      have hb0 : Below W2.heap.size W2 W2 := Below.refl _ _
                      have hb0d : Below W2.heap.size W2 W2.drew := hb0.drew
                      clear hij
                      by_cases hk1 : kd = 1
                      · have bk1 : (kd == 1) = true := by rw [hk1]; rfl
                        have HKD := Lib.hid hk1
                        clear hk1
                        by_cases hlen : n1 < n2
                        · have bln : decide ((n1 : Int) < (n2 : Int)) = true := decide_eq_true (by omega)
                          have bln2 : decide (n1 < n2) = true := decide_eq_true hlen
                          have hn1c : (n1 : Int) ≤ (c4 : Int) := by omega
                          have hn1c2 : n1 ≤ c4 := by omega
                          have hn10 : (0 : Int) ≤ (n1 : Int) := by omega
                          have HTN := Lib.hid (show (P2.take n1).length = n1 by rw [List.length_take, HPN2.out]; omega)
                          have HNE3 := Lib.hid (show P2.take n1 ≠ P from fun e => HNE2.out (HUN.out _ HMEM.out _ HMEM2.out HKD.out (by show P2.take P.length = P; rw [HPN.out]; exact e)))
                          have HPT2 : Hid (Seen eS W2 B3 (P2.take n1)) := Lib.hid (by
                            intro h1
                            obtain ⟨bb, oo, e, hbb, hH⟩ := HPY2.out (by rw [List.length_take] at h1; omega)
                            exact ⟨bb, oo, e, hbb, hH.take n1⟩)
                          have HE2 := Lib.hid (fun w' (h : Below W2.heap.size W2 w') => equalN B3 B2 c4 c3 n1 n1 (P2.take n1) P w' HNE3.out HTN.out HPN.out (by omega) (HPT2.out.below h) (HPX2.out.below h))
                          go_wp2
                          rw [HW2.out]
                          clear z0 z1 z2
                          refine wp_region_held_drew (S := fun w' => Below W2.heap.size W2 w' ∧ w'.cell? ⟨wo.heap.size, 0, none⟩ = some (.int .i64 kd) ∧ w'.cell? ⟨wo.heap.size, 1, none⟩ = some (.slice B2 n1 c3) ∧ w'.cell? ⟨wr.heap.size, 1, none⟩ = some (.slice B3 n2 c4)) (by kernel_rfl) ⟨hb0d, HKP.out _ hb0d⟩ (fun hHeld => ?_)
                          refine takeD (i := 0) (v := ?v0c) (d := some 61) rfl rfl (by kernel_rfl) (by kernel_rfl) (by kernel_rfl) (fun _ _ _ h => h) (Or.inl ⟨by rfl, ?hy0c⟩) (by assumption) ?rest0c
                          case hy0c => intro w hSw; (try dsimp only at hSw); obtain ⟨hSw0, hSw1, hSw2, hSw3⟩ := hSw; go_simp; try (with_reducible rfl)
                          try simp only [Act.put, List.setIfInBounds_toArray, List.set_cons_zero, List.set_cons_succ]
                          refine takeD (i := 1) (v := ?v1c) (d := some 62) rfl rfl (by kernel_rfl) (by kernel_rfl) (by kernel_rfl) (fun _ _ _ h => h) (Or.inl ⟨by rfl, ?hy1c⟩) (by assumption) ?rest1c
                          case hy1c => intro w hSw; (try dsimp only at hSw); obtain ⟨hSw0, hSw1, hSw2, hSw3⟩ := hSw; go_simp; try (with_reducible rfl)
                          try simp only [Act.put, List.setIfInBounds_toArray, List.set_cons_zero, List.set_cons_succ]
                          refine takeD (i := 2) (v := ?v2c) (d := some 63) rfl rfl (by kernel_rfl) (by kernel_rfl) (by kernel_rfl) (fun _ _ _ h => h) (Or.inl ⟨by rfl, ?hy2c⟩) (by assumption) ?rest2c
                          case hy2c => intro w hSw; (try dsimp only at hSw); obtain ⟨hSw0, hSw1, hSw2, hSw3⟩ := hSw; go_simp; try (with_reducible rfl)
                          try simp only [Act.put, List.setIfInBounds_toArray, List.set_cons_zero, List.set_cons_succ]
                          refine takeD (i := 3) (v := ?v3c) (d := some 64) rfl rfl (by kernel_rfl) (by kernel_rfl) (by kernel_rfl) (fun _ _ _ h => h) (Or.inl ⟨by rfl, ?hy3c⟩) (by assumption) ?rest3c
                          case hy3c => intro w hSw; (try dsimp only at hSw); obtain ⟨hSw0, hSw1, hSw2, hSw3⟩ := hSw; go_simp; try (with_reducible rfl)
                          try simp only [Act.put, List.setIfInBounds_toArray, List.set_cons_zero, List.set_cons_succ]
                          refine wpAnyH_ready (rs := [4]) (by kernel_rfl) (by simp) ?_
                          refine AllReadyH.cons rfl (fun K hK => ?_) AllReadyH.nil
                          go_simp
                          go_at_call 20
                          refine (HE1.out _ hHeld.1).mono ?_
                          rintro e w8 ⟨rfl, hx⟩
                          have hbx := bthen hHeld.1 hx
                          clear hx
                          refine hK.out _ _ ⟨hbx, HKP.out _ hbx⟩ (fun hHeld => ?_)
                          clear hK K
                          try simp only [Act.put, List.setIfInBounds_toArray, List.set_cons_zero, List.set_cons_succ]
                          refine takeD (i := 5) (v := ?v5c) (d := some 66) rfl rfl (by kernel_rfl) (by kernel_rfl) (by kernel_rfl) (fun _ _ _ h => h) (Or.inl ⟨by rfl, ?hy5c⟩) (by assumption) ?rest5c
                          case hy5c => intro w hSw; (try dsimp only at hSw); obtain ⟨hSw0, hSw1, hSw2, hSw3⟩ := hSw; go_simp; try (with_reducible rfl)
                          try simp only [Act.put, List.setIfInBounds_toArray, List.set_cons_zero, List.set_cons_succ]
                          refine takeD (i := 6) (v := ?v6c) (d := some 67) rfl rfl (by kernel_rfl) (by kernel_rfl) (by kernel_rfl) (fun _ _ _ h => h) (Or.inl ⟨by rfl, ?hy6c⟩) (by assumption) ?rest6c
                          case hy6c => intro w hSw; (try dsimp only at hSw); obtain ⟨hSw0, hSw1, hSw2, hSw3⟩ := hSw; go_simp; try (with_reducible rfl)
                          try simp only [Act.put, List.setIfInBounds_toArray, List.set_cons_zero, List.set_cons_succ]
                          refine takeD (i := 7) (v := ?v7c) (d := some 68) rfl rfl (by kernel_rfl) (by kernel_rfl) (by kernel_rfl) (fun _ _ _ h => h) (Or.inl ⟨by rfl, ?hy7c⟩) (by assumption) ?rest7c
                          case hy7c => intro w hSw; (try dsimp only at hSw); obtain ⟨hSw0, hSw1, hSw2, hSw3⟩ := hSw; go_simp; try (with_reducible rfl)
                          try simp only [Act.put, List.setIfInBounds_toArray, List.set_cons_zero, List.set_cons_succ]
                          refine takeD (i := 8) (v := ?v8c) (d := some 69) rfl rfl (by kernel_rfl) (by kernel_rfl) (by kernel_rfl) (fun _ _ _ h => h) (Or.inl ⟨by rfl, ?hy8c⟩) (by assumption) ?rest8c
                          case hy8c => intro w hSw; (try dsimp only at hSw); obtain ⟨hSw0, hSw1, hSw2, hSw3⟩ := hSw; go_simp; try (with_reducible rfl)
                          try simp only [Act.put, List.setIfInBounds_toArray, List.set_cons_zero, List.set_cons_succ]
                          refine takeD (i := 9) (v := ?v9c) (d := some 70) rfl rfl (by kernel_rfl) (by kernel_rfl) (by kernel_rfl) (fun _ _ _ h => h) (Or.inl ⟨by rfl, ?hy9c⟩) (by assumption) ?rest9c
                          case hy9c => intro w hSw; (try dsimp only at hSw); obtain ⟨hSw0, hSw1, hSw2, hSw3⟩ := hSw; go_simp; try (with_reducible rfl)
                          try simp only [Act.put, List.setIfInBounds_toArray, List.set_cons_zero, List.set_cons_succ]
                          refine takeD (i := 10) (v := ?v10c) (d := some 71) rfl rfl (by kernel_rfl) (by kernel_rfl) (by kernel_rfl) (fun _ _ _ h => h) (Or.inl ⟨by rfl, ?hy10c⟩) (by assumption) ?rest10c
                          case hy10c => intro w hSw; (try dsimp only at hSw); obtain ⟨hSw0, hSw1, hSw2, hSw3⟩ := hSw; go_simp; try (with_reducible rfl)
                          try simp only [Act.put, List.setIfInBounds_toArray, List.set_cons_zero, List.set_cons_succ]
                          refine takeD (i := 11) (v := ?v11c) (d := some 72) rfl rfl (by kernel_rfl) (by kernel_rfl) (by kernel_rfl) (fun _ _ _ h => h) (Or.inl ⟨by rfl, ?hy11c⟩) (by assumption) ?rest11c
                          case hy11c => intro w hSw; (try dsimp only at hSw); obtain ⟨hSw0, hSw1, hSw2, hSw3⟩ := hSw; go_simp; try (with_reducible rfl)
                          try simp only [Act.put, List.setIfInBounds_toArray, List.set_cons_zero, List.set_cons_succ]
                          refine takeD (i := 12) (v := ?v12c) (d := some 73) rfl rfl (by kernel_rfl) (by kernel_rfl) (by kernel_rfl) (fun _ _ _ h => h) (Or.inl ⟨by rfl, ?hy12c⟩) (by assumption) ?rest12c
                          case hy12c => intro w hSw; (try dsimp only at hSw); obtain ⟨hSw0, hSw1, hSw2, hSw3⟩ := hSw; go_simp; try (with_reducible rfl)
                          try simp only [Act.put, List.setIfInBounds_toArray, List.set_cons_zero, List.set_cons_succ]
                          refine takeD (i := 13) (v := ?v13c) (d := some 74) rfl rfl (by kernel_rfl) (by kernel_rfl) (by kernel_rfl) (fun _ _ _ h => h) (Or.inl ⟨by rfl, ?hy13c⟩) (by assumption) ?rest13c
                          case hy13c => intro w hSw; (try dsimp only at hSw); obtain ⟨hSw0, hSw1, hSw2, hSw3⟩ := hSw; go_simp; try (with_reducible rfl)
                          try simp only [Act.put, List.setIfInBounds_toArray, List.set_cons_zero, List.set_cons_succ]
                          refine takeD (i := 14) (v := ?v14c) (d := some 75) rfl rfl (by kernel_rfl) (by kernel_rfl) (by kernel_rfl) (fun _ _ _ h => h) (Or.inl ⟨by rfl, ?hy14c⟩) (by assumption) ?rest14c
                          case hy14c => intro w hSw; (try dsimp only at hSw); obtain ⟨hSw0, hSw1, hSw2, hSw3⟩ := hSw; go_simp; try (with_reducible rfl)
                          try simp only [Act.put, List.setIfInBounds_toArray, List.set_cons_zero, List.set_cons_succ]
                          refine takeD (i := 15) (v := ?v15c) (d := some 76) rfl rfl (by kernel_rfl) (by kernel_rfl) (by kernel_rfl) (fun _ _ _ h => h) (Or.inl ⟨by rfl, ?hy15c⟩) (by assumption) ?rest15c
                          case hy15c => intro w hSw; (try dsimp only at hSw); obtain ⟨hSw0, hSw1, hSw2, hSw3⟩ := hSw; go_simp; try (with_reducible rfl)
                          try simp only [Act.put, List.setIfInBounds_toArray, List.set_cons_zero, List.set_cons_succ]
                          refine takeD (i := 16) (v := ?v16c) (d := some 77) rfl rfl (by kernel_rfl) (by kernel_rfl) (by kernel_rfl) (fun _ _ _ h => h) (Or.inl ⟨by rfl, ?hy16c⟩) (by assumption) ?rest16c
                          case hy16c => intro w hSw; (try dsimp only at hSw); obtain ⟨hSw0, hSw1, hSw2, hSw3⟩ := hSw; go_simp; try (with_reducible rfl)
                          try simp only [Act.put, List.setIfInBounds_toArray, List.set_cons_zero, List.set_cons_succ]
                          refine takeD (i := 17) (v := ?v17c) (d := some 78) rfl rfl (by kernel_rfl) (by kernel_rfl) (by kernel_rfl) (fun _ _ _ h => h) (Or.inl ⟨by rfl, ?hy17c⟩) (by assumption) ?rest17c
                          case hy17c => intro w hSw; (try dsimp only at hSw); obtain ⟨hSw0, hSw1, hSw2, hSw3⟩ := hSw; go_simp; try (with_reducible rfl)
                          try simp only [Act.put, List.setIfInBounds_toArray, List.set_cons_zero, List.set_cons_succ]
                          refine takeD (i := 18) (v := ?v18c) (d := some 79) rfl rfl (by kernel_rfl) (by kernel_rfl) (by kernel_rfl) (fun _ _ _ h => h) (Or.inl ⟨by rfl, ?hy18c⟩) (by assumption) ?rest18c
                          case hy18c => intro w hSw; (try dsimp only at hSw); obtain ⟨hSw0, hSw1, hSw2, hSw3⟩ := hSw; go_simp; try (with_reducible rfl)
                          try simp only [Act.put, List.setIfInBounds_toArray, List.set_cons_zero, List.set_cons_succ]
                          refine takeD (i := 19) (v := ?v19c) (d := some 80) rfl rfl (by kernel_rfl) (by kernel_rfl) (by kernel_rfl) (fun _ _ _ h => h) (Or.inl ⟨by rfl, ?hy19c⟩) (by assumption) ?rest19c
                          case hy19c => intro w hSw; (try dsimp only at hSw); obtain ⟨hSw0, hSw1, hSw2, hSw3⟩ := hSw; go_simp; try (with_reducible rfl)
                          try simp only [Act.put, List.setIfInBounds_toArray, List.set_cons_zero, List.set_cons_succ]
                          refine takeD (i := 20) (v := ?v20c) (d := some 81) rfl rfl (by kernel_rfl) (by kernel_rfl) (by kernel_rfl) (fun _ _ _ h => h) (Or.inl ⟨by rfl, ?hy20c⟩) (by assumption) ?rest20c
                          case hy20c => intro w hSw; (try dsimp only at hSw); obtain ⟨hSw0, hSw1, hSw2, hSw3⟩ := hSw; go_simp; try (with_reducible rfl)
                          try simp only [Act.put, List.setIfInBounds_toArray, List.set_cons_zero, List.set_cons_succ]
                          refine takeD (i := 21) (v := ?v21c) (d := some 82) rfl rfl (by kernel_rfl) (by kernel_rfl) (by kernel_rfl) (fun _ _ _ h => h) (Or.inl ⟨by rfl, ?hy21c⟩) (by assumption) ?rest21c
                          case hy21c => intro w hSw; (try dsimp only at hSw); obtain ⟨hSw0, hSw1, hSw2, hSw3⟩ := hSw; go_simp; try (with_reducible rfl)
                          try simp only [Act.put, List.setIfInBounds_toArray, List.set_cons_zero, List.set_cons_succ]
                          refine takeD (i := 22) (v := ?v22c) (d := some 83) rfl rfl (by kernel_rfl) (by kernel_rfl) (by kernel_rfl) (fun _ _ _ h => h) (Or.inl ⟨by rfl, ?hy22c⟩) (by assumption) ?rest22c
                          case hy22c => intro w hSw; (try dsimp only at hSw); obtain ⟨hSw0, hSw1, hSw2, hSw3⟩ := hSw; go_simp; try (with_reducible rfl)
                          try simp only [Act.put, List.setIfInBounds_toArray, List.set_cons_zero, List.set_cons_succ]
                          refine takeD (i := 23) (v := ?v23c) (d := some 84) rfl rfl (by kernel_rfl) (by kernel_rfl) (by kernel_rfl) (fun _ _ _ h => h) (Or.inl ⟨by rfl, ?hy23c⟩) (by assumption) ?rest23c
                          case hy23c => intro w hSw; (try dsimp only at hSw); obtain ⟨hSw0, hSw1, hSw2, hSw3⟩ := hSw; go_simp; try (with_reducible rfl)
                          try simp only [Act.put, List.setIfInBounds_toArray, List.set_cons_zero, List.set_cons_succ]
                          refine takeD (i := 24) (v := ?v24c) (d := some 85) rfl rfl (by kernel_rfl) (by kernel_rfl) (by kernel_rfl) (fun _ _ _ h => h) (Or.inl ⟨by rfl, ?hy24c⟩) (by assumption) ?rest24c
                          case hy24c => intro w hSw; (try dsimp only at hSw); obtain ⟨hSw0, hSw1, hSw2, hSw3⟩ := hSw; go_simp; try (with_reducible rfl)
                          try simp only [Act.put, List.setIfInBounds_toArray, List.set_cons_zero, List.set_cons_succ]
                          refine takeD (i := 25) (v := ?v25c) (d := some 86) rfl rfl (by kernel_rfl) (by kernel_rfl) (by kernel_rfl) (fun _ _ _ h => h) (Or.inl ⟨by rfl, ?hy25c⟩) (by assumption) ?rest25c
                          case hy25c => intro w hSw; (try dsimp only at hSw); obtain ⟨hSw0, hSw1, hSw2, hSw3⟩ := hSw; go_simp; try (with_reducible rfl)
                          try simp only [Act.put, List.setIfInBounds_toArray, List.set_cons_zero, List.set_cons_succ]
                          refine takeD (i := 26) (v := ?v26c) (d := some 87) rfl rfl (by kernel_rfl) (by kernel_rfl) (by kernel_rfl) (fun _ _ _ h => h) (Or.inl ⟨by rfl, ?hy26c⟩) (by assumption) ?rest26c
                          case hy26c => intro w hSw; (try dsimp only at hSw); obtain ⟨hSw0, hSw1, hSw2, hSw3⟩ := hSw; go_simp; try (with_reducible rfl)
                          try simp only [Act.put, List.setIfInBounds_toArray, List.set_cons_zero, List.set_cons_succ]
                          refine wpAnyH_ready (rs := [27]) (by kernel_rfl) (by simp) ?_
                          refine AllReadyH.cons rfl (fun K hK => ?_) AllReadyH.nil
                          go_simp
                          go_at_call 20
                          refine (HE2.out _ hHeld.1).mono ?_
                          rintro e w8 ⟨rfl, hx⟩
                          have hbx := bthen hHeld.1 hx
                          clear hx
                          refine hK.out _ _ ⟨hbx, HKP.out _ hbx⟩ (fun hHeld => ?_)
                          clear hK K
                          try simp only [Act.put, List.setIfInBounds_toArray, List.set_cons_zero, List.set_cons_succ]
                          refine takeD (i := 28) (v := ?v28c) (d := some 89) rfl rfl (by kernel_rfl) (by kernel_rfl) (by kernel_rfl) (fun _ _ _ h => h) (Or.inl ⟨by rfl, ?hy28c⟩) (by assumption) ?rest28c
                          case hy28c => intro w hSw; (try dsimp only at hSw); obtain ⟨hSw0, hSw1, hSw2, hSw3⟩ := hSw; go_simp; try (with_reducible rfl)
                          try simp only [Act.put, List.setIfInBounds_toArray, List.set_cons_zero, List.set_cons_succ]
                          refine takeD (i := 29) (v := ?v29c) (d := some 90) rfl rfl (by kernel_rfl) (by kernel_rfl) (by kernel_rfl) (fun _ _ _ h => h) (Or.inl ⟨by rfl, ?hy29c⟩) (by assumption) ?rest29c
                          case hy29c => intro w hSw; (try dsimp only at hSw); obtain ⟨hSw0, hSw1, hSw2, hSw3⟩ := hSw; go_simp; try (with_reducible rfl)
                          try simp only [Act.put, List.setIfInBounds_toArray, List.set_cons_zero, List.set_cons_succ]
                          refine wpAnyH_done (by kernel_rfl) ?_ _
                          go_wp2
                          go_roundg (k - (j + 1))
                          case rel => exact ⟨j + 1, (by show _ = _; omega), by omega, by go_num, bthen HBW2.out hbx⟩
                          case measure => omega
                        · have bln : decide ((n1 : Int) < (n2 : Int)) = false := decide_eq_false (by omega)
                          have bln2 : decide (n1 < n2) = false := decide_eq_false hlen
                          go_wp2
                          rw [HW2.out]
                          clear z0 z1 z2
                          refine wp_region_held_drew (S := fun w' => Below W2.heap.size W2 w' ∧ w'.cell? ⟨wo.heap.size, 0, none⟩ = some (.int .i64 kd) ∧ w'.cell? ⟨wo.heap.size, 1, none⟩ = some (.slice B2 n1 c3) ∧ w'.cell? ⟨wr.heap.size, 1, none⟩ = some (.slice B3 n2 c4)) (by kernel_rfl) ⟨hb0d, HKP.out _ hb0d⟩ (fun hHeld => ?_)
                          refine takeD (i := 0) (v := ?v0b) (d := some 61) rfl rfl (by kernel_rfl) (by kernel_rfl) (by kernel_rfl) (fun _ _ _ h => h) (Or.inl ⟨by rfl, ?hy0b⟩) (by assumption) ?rest0b
                          case hy0b => intro w hSw; (try dsimp only at hSw); obtain ⟨hSw0, hSw1, hSw2, hSw3⟩ := hSw; go_simp; try (with_reducible rfl)
                          try simp only [Act.put, List.setIfInBounds_toArray, List.set_cons_zero, List.set_cons_succ]
                          refine takeD (i := 1) (v := ?v1b) (d := some 62) rfl rfl (by kernel_rfl) (by kernel_rfl) (by kernel_rfl) (fun _ _ _ h => h) (Or.inl ⟨by rfl, ?hy1b⟩) (by assumption) ?rest1b
                          case hy1b => intro w hSw; (try dsimp only at hSw); obtain ⟨hSw0, hSw1, hSw2, hSw3⟩ := hSw; go_simp; try (with_reducible rfl)
                          try simp only [Act.put, List.setIfInBounds_toArray, List.set_cons_zero, List.set_cons_succ]
                          refine takeD (i := 2) (v := ?v2b) (d := some 63) rfl rfl (by kernel_rfl) (by kernel_rfl) (by kernel_rfl) (fun _ _ _ h => h) (Or.inl ⟨by rfl, ?hy2b⟩) (by assumption) ?rest2b
                          case hy2b => intro w hSw; (try dsimp only at hSw); obtain ⟨hSw0, hSw1, hSw2, hSw3⟩ := hSw; go_simp; try (with_reducible rfl)
                          try simp only [Act.put, List.setIfInBounds_toArray, List.set_cons_zero, List.set_cons_succ]
                          refine takeD (i := 3) (v := ?v3b) (d := some 64) rfl rfl (by kernel_rfl) (by kernel_rfl) (by kernel_rfl) (fun _ _ _ h => h) (Or.inl ⟨by rfl, ?hy3b⟩) (by assumption) ?rest3b
                          case hy3b => intro w hSw; (try dsimp only at hSw); obtain ⟨hSw0, hSw1, hSw2, hSw3⟩ := hSw; go_simp; try (with_reducible rfl)
                          try simp only [Act.put, List.setIfInBounds_toArray, List.set_cons_zero, List.set_cons_succ]
                          refine wpAnyH_ready (rs := [4]) (by kernel_rfl) (by simp) ?_
                          refine AllReadyH.cons rfl (fun K hK => ?_) AllReadyH.nil
                          go_simp
                          go_at_call 20
                          refine (HE1.out _ hHeld.1).mono ?_
                          rintro e w8 ⟨rfl, hx⟩
                          have hbx := bthen hHeld.1 hx
                          clear hx
                          refine hK.out _ _ ⟨hbx, HKP.out _ hbx⟩ (fun hHeld => ?_)
                          clear hK K
                          try simp only [Act.put, List.setIfInBounds_toArray, List.set_cons_zero, List.set_cons_succ]
                          refine takeD (i := 5) (v := ?v5b) (d := some 66) rfl rfl (by kernel_rfl) (by kernel_rfl) (by kernel_rfl) (fun _ _ _ h => h) (Or.inl ⟨by rfl, ?hy5b⟩) (by assumption) ?rest5b
                          case hy5b => intro w hSw; (try dsimp only at hSw); obtain ⟨hSw0, hSw1, hSw2, hSw3⟩ := hSw; go_simp; try (with_reducible rfl)
                          try simp only [Act.put, List.setIfInBounds_toArray, List.set_cons_zero, List.set_cons_succ]
                          refine takeD (i := 6) (v := ?v6b) (d := some 67) rfl rfl (by kernel_rfl) (by kernel_rfl) (by kernel_rfl) (fun _ _ _ h => h) (Or.inl ⟨by rfl, ?hy6b⟩) (by assumption) ?rest6b
                          case hy6b => intro w hSw; (try dsimp only at hSw); obtain ⟨hSw0, hSw1, hSw2, hSw3⟩ := hSw; go_simp; try (with_reducible rfl)
                          try simp only [Act.put, List.setIfInBounds_toArray, List.set_cons_zero, List.set_cons_succ]
                          refine takeD (i := 7) (v := ?v7b) (d := some 68) rfl rfl (by kernel_rfl) (by kernel_rfl) (by kernel_rfl) (fun _ _ _ h => h) (Or.inl ⟨by rfl, ?hy7b⟩) (by assumption) ?rest7b
                          case hy7b => intro w hSw; (try dsimp only at hSw); obtain ⟨hSw0, hSw1, hSw2, hSw3⟩ := hSw; go_simp; try (with_reducible rfl)
                          try simp only [Act.put, List.setIfInBounds_toArray, List.set_cons_zero, List.set_cons_succ]
                          refine takeD (i := 8) (v := ?v8b) (d := some 69) rfl rfl (by kernel_rfl) (by kernel_rfl) (by kernel_rfl) (fun _ _ _ h => h) (Or.inl ⟨by rfl, ?hy8b⟩) (by assumption) ?rest8b
                          case hy8b => intro w hSw; (try dsimp only at hSw); obtain ⟨hSw0, hSw1, hSw2, hSw3⟩ := hSw; go_simp; try (with_reducible rfl)
                          try simp only [Act.put, List.setIfInBounds_toArray, List.set_cons_zero, List.set_cons_succ]
                          refine takeD (i := 9) (v := ?v9b) (d := some 70) rfl rfl (by kernel_rfl) (by kernel_rfl) (by kernel_rfl) (fun _ _ _ h => h) (Or.inl ⟨by rfl, ?hy9b⟩) (by assumption) ?rest9b
                          case hy9b => intro w hSw; (try dsimp only at hSw); obtain ⟨hSw0, hSw1, hSw2, hSw3⟩ := hSw; go_simp; try (with_reducible rfl)
                          try simp only [Act.put, List.setIfInBounds_toArray, List.set_cons_zero, List.set_cons_succ]
                          refine takeD (i := 10) (v := ?v10b) (d := some 71) rfl rfl (by kernel_rfl) (by kernel_rfl) (by kernel_rfl) (fun _ _ _ h => h) (Or.inl ⟨by rfl, ?hy10b⟩) (by assumption) ?rest10b
                          case hy10b => intro w hSw; (try dsimp only at hSw); obtain ⟨hSw0, hSw1, hSw2, hSw3⟩ := hSw; go_simp; try (with_reducible rfl)
                          try simp only [Act.put, List.setIfInBounds_toArray, List.set_cons_zero, List.set_cons_succ]
                          refine takeD (i := 11) (v := ?v11b) (d := some 72) rfl rfl (by kernel_rfl) (by kernel_rfl) (by kernel_rfl) (fun _ _ _ h => h) (Or.inl ⟨by rfl, ?hy11b⟩) (by assumption) ?rest11b
                          case hy11b => intro w hSw; (try dsimp only at hSw); obtain ⟨hSw0, hSw1, hSw2, hSw3⟩ := hSw; go_simp; try (with_reducible rfl)
                          try simp only [Act.put, List.setIfInBounds_toArray, List.set_cons_zero, List.set_cons_succ]
                          refine takeD (i := 12) (v := ?v12b) (d := some 73) rfl rfl (by kernel_rfl) (by kernel_rfl) (by kernel_rfl) (fun _ _ _ h => h) (Or.inl ⟨by rfl, ?hy12b⟩) (by assumption) ?rest12b
                          case hy12b => intro w hSw; (try dsimp only at hSw); obtain ⟨hSw0, hSw1, hSw2, hSw3⟩ := hSw; go_simp; try (with_reducible rfl)
                          try simp only [Act.put, List.setIfInBounds_toArray, List.set_cons_zero, List.set_cons_succ]
                          refine takeD (i := 13) (v := ?v13b) (d := some 74) rfl rfl (by kernel_rfl) (by kernel_rfl) (by kernel_rfl) (fun _ _ _ h => h) (Or.inl ⟨by rfl, ?hy13b⟩) (by assumption) ?rest13b
                          case hy13b => intro w hSw; (try dsimp only at hSw); obtain ⟨hSw0, hSw1, hSw2, hSw3⟩ := hSw; go_simp; try (with_reducible rfl)
                          try simp only [Act.put, List.setIfInBounds_toArray, List.set_cons_zero, List.set_cons_succ]
                          refine takeD (i := 14) (v := ?v14b) (d := some 75) rfl rfl (by kernel_rfl) (by kernel_rfl) (by kernel_rfl) (fun _ _ _ h => h) (Or.inl ⟨by rfl, ?hy14b⟩) (by assumption) ?rest14b
                          case hy14b => intro w hSw; (try dsimp only at hSw); obtain ⟨hSw0, hSw1, hSw2, hSw3⟩ := hSw; go_simp; try (with_reducible rfl)
                          try simp only [Act.put, List.setIfInBounds_toArray, List.set_cons_zero, List.set_cons_succ]
                          refine takeD (i := 15) (v := ?v15b) (d := some 76) rfl rfl (by kernel_rfl) (by kernel_rfl) (by kernel_rfl) (fun _ _ _ h => h) (Or.inl ⟨by rfl, ?hy15b⟩) (by assumption) ?rest15b
                          case hy15b => intro w hSw; (try dsimp only at hSw); obtain ⟨hSw0, hSw1, hSw2, hSw3⟩ := hSw; go_simp; try (with_reducible rfl)
                          try simp only [Act.put, List.setIfInBounds_toArray, List.set_cons_zero, List.set_cons_succ]
                          refine takeD (i := 16) (v := ?v16b) (d := some 77) rfl rfl (by kernel_rfl) (by kernel_rfl) (by kernel_rfl) (fun _ _ _ h => h) (Or.inl ⟨by rfl, ?hy16b⟩) (by assumption) ?rest16b
                          case hy16b => intro w hSw; (try dsimp only at hSw); obtain ⟨hSw0, hSw1, hSw2, hSw3⟩ := hSw; go_simp; try (with_reducible rfl)
                          try simp only [Act.put, List.setIfInBounds_toArray, List.set_cons_zero, List.set_cons_succ]
                          refine takeD (i := 17) (v := ?v17b) (d := some 78) rfl rfl (by kernel_rfl) (by kernel_rfl) (by kernel_rfl) (fun _ _ _ h => h) (Or.inl ⟨by rfl, ?hy17b⟩) (by assumption) ?rest17b
                          case hy17b => intro w hSw; (try dsimp only at hSw); obtain ⟨hSw0, hSw1, hSw2, hSw3⟩ := hSw; go_simp; try (with_reducible rfl)
                          try simp only [Act.put, List.setIfInBounds_toArray, List.set_cons_zero, List.set_cons_succ]
                          refine takeD (i := 18) (v := ?v18b) (d := some 79) rfl rfl (by kernel_rfl) (by kernel_rfl) (by kernel_rfl) (fun _ _ _ h => h) (Or.inl ⟨by rfl, ?hy18b⟩) (by assumption) ?rest18b
                          case hy18b => intro w hSw; (try dsimp only at hSw); obtain ⟨hSw0, hSw1, hSw2, hSw3⟩ := hSw; go_simp; try (with_reducible rfl)
                          try simp only [Act.put, List.setIfInBounds_toArray, List.set_cons_zero, List.set_cons_succ]
                          refine takeD (i := 19) (v := undef) (d := some 80) rfl rfl (by kernel_rfl) (by kernel_rfl) (by kernel_rfl) (fun _ _ _ h => h) (Or.inr ⟨by rfl, rfl⟩) (by assumption) ?_
                          try simp only [Act.put, List.setIfInBounds_toArray, List.set_cons_zero, List.set_cons_succ]
                          refine takeD (i := 20) (v := undef) (d := some 81) rfl rfl (by kernel_rfl) (by kernel_rfl) (by kernel_rfl) (fun _ _ _ h => h) (Or.inr ⟨by rfl, rfl⟩) (by assumption) ?_
                          try simp only [Act.put, List.setIfInBounds_toArray, List.set_cons_zero, List.set_cons_succ]
                          refine takeD (i := 21) (v := undef) (d := some 82) rfl rfl (by kernel_rfl) (by kernel_rfl) (by kernel_rfl) (fun _ _ _ h => h) (Or.inr ⟨by rfl, rfl⟩) (by assumption) ?_
                          try simp only [Act.put, List.setIfInBounds_toArray, List.set_cons_zero, List.set_cons_succ]
                          refine takeD (i := 22) (v := undef) (d := some 83) rfl rfl (by kernel_rfl) (by kernel_rfl) (by kernel_rfl) (fun _ _ _ h => h) (Or.inr ⟨by rfl, rfl⟩) (by assumption) ?_
                          try simp only [Act.put, List.setIfInBounds_toArray, List.set_cons_zero, List.set_cons_succ]
                          refine takeD (i := 23) (v := undef) (d := some 84) rfl rfl (by kernel_rfl) (by kernel_rfl) (by kernel_rfl) (fun _ _ _ h => h) (Or.inr ⟨by rfl, rfl⟩) (by assumption) ?_
                          try simp only [Act.put, List.setIfInBounds_toArray, List.set_cons_zero, List.set_cons_succ]
                          refine takeD (i := 24) (v := undef) (d := some 85) rfl rfl (by kernel_rfl) (by kernel_rfl) (by kernel_rfl) (fun _ _ _ h => h) (Or.inr ⟨by rfl, rfl⟩) (by assumption) ?_
                          try simp only [Act.put, List.setIfInBounds_toArray, List.set_cons_zero, List.set_cons_succ]
                          refine takeD (i := 25) (v := undef) (d := some 86) rfl rfl (by kernel_rfl) (by kernel_rfl) (by kernel_rfl) (fun _ _ _ h => h) (Or.inr ⟨by rfl, rfl⟩) (by assumption) ?_
                          try simp only [Act.put, List.setIfInBounds_toArray, List.set_cons_zero, List.set_cons_succ]
                          refine takeD (i := 26) (v := undef) (d := some 87) rfl rfl (by kernel_rfl) (by kernel_rfl) (by kernel_rfl) (fun _ _ _ h => h) (Or.inr ⟨by rfl, rfl⟩) (by assumption) ?_
                          try simp only [Act.put, List.setIfInBounds_toArray, List.set_cons_zero, List.set_cons_succ]
                          refine takeD (i := 27) (v := undef) (d := some 88) rfl rfl (by kernel_rfl) (by kernel_rfl) (by kernel_rfl) (fun _ _ _ h => h) (Or.inr ⟨by rfl, rfl⟩) (by assumption) ?_
                          try simp only [Act.put, List.setIfInBounds_toArray, List.set_cons_zero, List.set_cons_succ]
                          refine takeD (i := 28) (v := ?v28b) (d := some 89) rfl rfl (by kernel_rfl) (by kernel_rfl) (by kernel_rfl) (fun _ _ _ h => h) (Or.inl ⟨by rfl, ?hy28b⟩) (by assumption) ?rest28b
                          case hy28b => intro w hSw; (try dsimp only at hSw); obtain ⟨hSw0, hSw1, hSw2, hSw3⟩ := hSw; go_simp; try (with_reducible rfl)
                          try simp only [Act.put, List.setIfInBounds_toArray, List.set_cons_zero, List.set_cons_succ]
                          refine takeD (i := 29) (v := ?v29b) (d := some 90) rfl rfl (by kernel_rfl) (by kernel_rfl) (by kernel_rfl) (fun _ _ _ h => h) (Or.inl ⟨by rfl, ?hy29b⟩) (by assumption) ?rest29b
                          case hy29b => intro w hSw; (try dsimp only at hSw); obtain ⟨hSw0, hSw1, hSw2, hSw3⟩ := hSw; go_simp; try (with_reducible rfl)
                          try simp only [Act.put, List.setIfInBounds_toArray, List.set_cons_zero, List.set_cons_succ]
                          refine wpAnyH_done (by kernel_rfl) ?_ _
                          go_wp2
                          go_roundg (k - (j + 1))
                          case rel => exact ⟨j + 1, (by show _ = _; omega), by omega, by go_num, bthen HBW2.out hbx⟩
                          case measure => omega
                      · have bk1 : (kd == 1) = false := beq_eq_false_iff_ne.2 hk1
                        clear hk1
                        go_wp2
                        rw [HW2.out]
                        clear z0 z1 z2
                        refine wp_region_held_drew (S := fun w' => Below W2.heap.size W2 w' ∧ w'.cell? ⟨wo.heap.size, 0, none⟩ = some (.int .i64 kd) ∧ w'.cell? ⟨wo.heap.size, 1, none⟩ = some (.slice B2 n1 c3) ∧ w'.cell? ⟨wr.heap.size, 1, none⟩ = some (.slice B3 n2 c4)) (by kernel_rfl) ⟨hb0d, HKP.out _ hb0d⟩ (fun hHeld => ?_)
                        refine takeD (i := 0) (v := ?v0a) (d := some 61) rfl rfl (by kernel_rfl) (by kernel_rfl) (by kernel_rfl) (fun _ _ _ h => h) (Or.inl ⟨by rfl, ?hy0a⟩) (by assumption) ?rest0a
                        case hy0a => intro w hSw; (try dsimp only at hSw); obtain ⟨hSw0, hSw1, hSw2, hSw3⟩ := hSw; go_simp; try (with_reducible rfl)
                        try simp only [Act.put, List.setIfInBounds_toArray, List.set_cons_zero, List.set_cons_succ]
                        refine takeD (i := 1) (v := ?v1a) (d := some 62) rfl rfl (by kernel_rfl) (by kernel_rfl) (by kernel_rfl) (fun _ _ _ h => h) (Or.inl ⟨by rfl, ?hy1a⟩) (by assumption) ?rest1a
                        case hy1a => intro w hSw; (try dsimp only at hSw); obtain ⟨hSw0, hSw1, hSw2, hSw3⟩ := hSw; go_simp; try (with_reducible rfl)
                        try simp only [Act.put, List.setIfInBounds_toArray, List.set_cons_zero, List.set_cons_succ]
                        refine takeD (i := 2) (v := ?v2a) (d := some 63) rfl rfl (by kernel_rfl) (by kernel_rfl) (by kernel_rfl) (fun _ _ _ h => h) (Or.inl ⟨by rfl, ?hy2a⟩) (by assumption) ?rest2a
                        case hy2a => intro w hSw; (try dsimp only at hSw); obtain ⟨hSw0, hSw1, hSw2, hSw3⟩ := hSw; go_simp; try (with_reducible rfl)
                        try simp only [Act.put, List.setIfInBounds_toArray, List.set_cons_zero, List.set_cons_succ]
                        refine takeD (i := 3) (v := ?v3a) (d := some 64) rfl rfl (by kernel_rfl) (by kernel_rfl) (by kernel_rfl) (fun _ _ _ h => h) (Or.inl ⟨by rfl, ?hy3a⟩) (by assumption) ?rest3a
                        case hy3a => intro w hSw; (try dsimp only at hSw); obtain ⟨hSw0, hSw1, hSw2, hSw3⟩ := hSw; go_simp; try (with_reducible rfl)
                        try simp only [Act.put, List.setIfInBounds_toArray, List.set_cons_zero, List.set_cons_succ]
                        refine wpAnyH_ready (rs := [4]) (by kernel_rfl) (by simp) ?_
                        refine AllReadyH.cons rfl (fun K hK => ?_) AllReadyH.nil
                        go_simp
                        go_at_call 20
                        refine (HE1.out _ hHeld.1).mono ?_
                        rintro e w8 ⟨rfl, hx⟩
                        have hbx := bthen hHeld.1 hx
                        clear hx
                        refine hK.out _ _ ⟨hbx, HKP.out _ hbx⟩ (fun hHeld => ?_)
                        clear hK K
                        try simp only [Act.put, List.setIfInBounds_toArray, List.set_cons_zero, List.set_cons_succ]
                        refine takeD (i := 5) (v := ?v5a) (d := some 66) rfl rfl (by kernel_rfl) (by kernel_rfl) (by kernel_rfl) (fun _ _ _ h => h) (Or.inl ⟨by rfl, ?hy5a⟩) (by assumption) ?rest5a
                        case hy5a => intro w hSw; (try dsimp only at hSw); obtain ⟨hSw0, hSw1, hSw2, hSw3⟩ := hSw; go_simp; try (with_reducible rfl)
                        try simp only [Act.put, List.setIfInBounds_toArray, List.set_cons_zero, List.set_cons_succ]
                        refine takeD (i := 6) (v := ?v6a) (d := some 67) rfl rfl (by kernel_rfl) (by kernel_rfl) (by kernel_rfl) (fun _ _ _ h => h) (Or.inl ⟨by rfl, ?hy6a⟩) (by assumption) ?rest6a
                        case hy6a => intro w hSw; (try dsimp only at hSw); obtain ⟨hSw0, hSw1, hSw2, hSw3⟩ := hSw; go_simp; try (with_reducible rfl)
                        try simp only [Act.put, List.setIfInBounds_toArray, List.set_cons_zero, List.set_cons_succ]
                        refine takeD (i := 7) (v := ?v7a) (d := some 68) rfl rfl (by kernel_rfl) (by kernel_rfl) (by kernel_rfl) (fun _ _ _ h => h) (Or.inl ⟨by rfl, ?hy7a⟩) (by assumption) ?rest7a
                        case hy7a => intro w hSw; (try dsimp only at hSw); obtain ⟨hSw0, hSw1, hSw2, hSw3⟩ := hSw; go_simp; try (with_reducible rfl)
                        try simp only [Act.put, List.setIfInBounds_toArray, List.set_cons_zero, List.set_cons_succ]
                        refine takeD (i := 8) (v := ?v8a) (d := some 69) rfl rfl (by kernel_rfl) (by kernel_rfl) (by kernel_rfl) (fun _ _ _ h => h) (Or.inl ⟨by rfl, ?hy8a⟩) (by assumption) ?rest8a
                        case hy8a => intro w hSw; (try dsimp only at hSw); obtain ⟨hSw0, hSw1, hSw2, hSw3⟩ := hSw; go_simp; try (with_reducible rfl)
                        try simp only [Act.put, List.setIfInBounds_toArray, List.set_cons_zero, List.set_cons_succ]
                        refine takeD (i := 9) (v := ?v9a) (d := some 70) rfl rfl (by kernel_rfl) (by kernel_rfl) (by kernel_rfl) (fun _ _ _ h => h) (Or.inl ⟨by rfl, ?hy9a⟩) (by assumption) ?rest9a
                        case hy9a => intro w hSw; (try dsimp only at hSw); obtain ⟨hSw0, hSw1, hSw2, hSw3⟩ := hSw; go_simp; try (with_reducible rfl)
                        try simp only [Act.put, List.setIfInBounds_toArray, List.set_cons_zero, List.set_cons_succ]
                        refine takeD (i := 10) (v := undef) (d := some 71) rfl rfl (by kernel_rfl) (by kernel_rfl) (by kernel_rfl) (fun _ _ _ h => h) (Or.inr ⟨by rfl, rfl⟩) (by assumption) ?_
                        try simp only [Act.put, List.setIfInBounds_toArray, List.set_cons_zero, List.set_cons_succ]
                        refine takeD (i := 11) (v := undef) (d := some 72) rfl rfl (by kernel_rfl) (by kernel_rfl) (by kernel_rfl) (fun _ _ _ h => h) (Or.inr ⟨by rfl, rfl⟩) (by assumption) ?_
                        try simp only [Act.put, List.setIfInBounds_toArray, List.set_cons_zero, List.set_cons_succ]
                        refine takeD (i := 12) (v := undef) (d := some 73) rfl rfl (by kernel_rfl) (by kernel_rfl) (by kernel_rfl) (fun _ _ _ h => h) (Or.inr ⟨by rfl, rfl⟩) (by assumption) ?_
                        try simp only [Act.put, List.setIfInBounds_toArray, List.set_cons_zero, List.set_cons_succ]
                        refine takeD (i := 13) (v := undef) (d := some 74) rfl rfl (by kernel_rfl) (by kernel_rfl) (by kernel_rfl) (fun _ _ _ h => h) (Or.inr ⟨by rfl, rfl⟩) (by assumption) ?_
                        try simp only [Act.put, List.setIfInBounds_toArray, List.set_cons_zero, List.set_cons_succ]
                        refine takeD (i := 14) (v := undef) (d := some 75) rfl rfl (by kernel_rfl) (by kernel_rfl) (by kernel_rfl) (fun _ _ _ h => h) (Or.inr ⟨by rfl, rfl⟩) (by assumption) ?_
                        try simp only [Act.put, List.setIfInBounds_toArray, List.set_cons_zero, List.set_cons_succ]
                        refine takeD (i := 15) (v := undef) (d := some 76) rfl rfl (by kernel_rfl) (by kernel_rfl) (by kernel_rfl) (fun _ _ _ h => h) (Or.inr ⟨by rfl, rfl⟩) (by assumption) ?_
                        try simp only [Act.put, List.setIfInBounds_toArray, List.set_cons_zero, List.set_cons_succ]
                        refine takeD (i := 16) (v := undef) (d := some 77) rfl rfl (by kernel_rfl) (by kernel_rfl) (by kernel_rfl) (fun _ _ _ h => h) (Or.inr ⟨by rfl, rfl⟩) (by assumption) ?_
                        try simp only [Act.put, List.setIfInBounds_toArray, List.set_cons_zero, List.set_cons_succ]
                        refine takeD (i := 17) (v := ?v17a) (d := some 78) rfl rfl (by kernel_rfl) (by kernel_rfl) (by kernel_rfl) (fun _ _ _ h => h) (Or.inl ⟨by rfl, ?hy17a⟩) (by assumption) ?rest17a
                        case hy17a => intro w hSw; (try dsimp only at hSw); obtain ⟨hSw0, hSw1, hSw2, hSw3⟩ := hSw; go_simp; try (with_reducible rfl)
                        try simp only [Act.put, List.setIfInBounds_toArray, List.set_cons_zero, List.set_cons_succ]
                        refine takeD (i := 18) (v := ?v18a) (d := some 79) rfl rfl (by kernel_rfl) (by kernel_rfl) (by kernel_rfl) (fun _ _ _ h => h) (Or.inl ⟨by rfl, ?hy18a⟩) (by assumption) ?rest18a
                        case hy18a => intro w hSw; (try dsimp only at hSw); obtain ⟨hSw0, hSw1, hSw2, hSw3⟩ := hSw; go_simp; try (with_reducible rfl)
                        try simp only [Act.put, List.setIfInBounds_toArray, List.set_cons_zero, List.set_cons_succ]
                        refine takeD (i := 19) (v := undef) (d := some 80) rfl rfl (by kernel_rfl) (by kernel_rfl) (by kernel_rfl) (fun _ _ _ h => h) (Or.inr ⟨by rfl, rfl⟩) (by assumption) ?_
                        try simp only [Act.put, List.setIfInBounds_toArray, List.set_cons_zero, List.set_cons_succ]
                        refine takeD (i := 20) (v := undef) (d := some 81) rfl rfl (by kernel_rfl) (by kernel_rfl) (by kernel_rfl) (fun _ _ _ h => h) (Or.inr ⟨by rfl, rfl⟩) (by assumption) ?_
                        try simp only [Act.put, List.setIfInBounds_toArray, List.set_cons_zero, List.set_cons_succ]
                        refine takeD (i := 21) (v := undef) (d := some 82) rfl rfl (by kernel_rfl) (by kernel_rfl) (by kernel_rfl) (fun _ _ _ h => h) (Or.inr ⟨by rfl, rfl⟩) (by assumption) ?_
                        try simp only [Act.put, List.setIfInBounds_toArray, List.set_cons_zero, List.set_cons_succ]
                        refine takeD (i := 22) (v := undef) (d := some 83) rfl rfl (by kernel_rfl) (by kernel_rfl) (by kernel_rfl) (fun _ _ _ h => h) (Or.inr ⟨by rfl, rfl⟩) (by assumption) ?_
                        try simp only [Act.put, List.setIfInBounds_toArray, List.set_cons_zero, List.set_cons_succ]
                        refine takeD (i := 23) (v := undef) (d := some 84) rfl rfl (by kernel_rfl) (by kernel_rfl) (by kernel_rfl) (fun _ _ _ h => h) (Or.inr ⟨by rfl, rfl⟩) (by assumption) ?_
                        try simp only [Act.put, List.setIfInBounds_toArray, List.set_cons_zero, List.set_cons_succ]
                        refine takeD (i := 24) (v := undef) (d := some 85) rfl rfl (by kernel_rfl) (by kernel_rfl) (by kernel_rfl) (fun _ _ _ h => h) (Or.inr ⟨by rfl, rfl⟩) (by assumption) ?_
                        try simp only [Act.put, List.setIfInBounds_toArray, List.set_cons_zero, List.set_cons_succ]
                        refine takeD (i := 25) (v := undef) (d := some 86) rfl rfl (by kernel_rfl) (by kernel_rfl) (by kernel_rfl) (fun _ _ _ h => h) (Or.inr ⟨by rfl, rfl⟩) (by assumption) ?_
                        try simp only [Act.put, List.setIfInBounds_toArray, List.set_cons_zero, List.set_cons_succ]
                        refine takeD (i := 26) (v := undef) (d := some 87) rfl rfl (by kernel_rfl) (by kernel_rfl) (by kernel_rfl) (fun _ _ _ h => h) (Or.inr ⟨by rfl, rfl⟩) (by assumption) ?_
                        try simp only [Act.put, List.setIfInBounds_toArray, List.set_cons_zero, List.set_cons_succ]
                        refine takeD (i := 27) (v := undef) (d := some 88) rfl rfl (by kernel_rfl) (by kernel_rfl) (by kernel_rfl) (fun _ _ _ h => h) (Or.inr ⟨by rfl, rfl⟩) (by assumption) ?_
                        try simp only [Act.put, List.setIfInBounds_toArray, List.set_cons_zero, List.set_cons_succ]
                        refine takeD (i := 28) (v := ?v28a) (d := some 89) rfl rfl (by kernel_rfl) (by kernel_rfl) (by kernel_rfl) (fun _ _ _ h => h) (Or.inl ⟨by rfl, ?hy28a⟩) (by assumption) ?rest28a
                        case hy28a => intro w hSw; (try dsimp only at hSw); obtain ⟨hSw0, hSw1, hSw2, hSw3⟩ := hSw; go_simp; try (with_reducible rfl)
                        try simp only [Act.put, List.setIfInBounds_toArray, List.set_cons_zero, List.set_cons_succ]
                        refine takeD (i := 29) (v := ?v29a) (d := some 90) rfl rfl (by kernel_rfl) (by kernel_rfl) (by kernel_rfl) (fun _ _ _ h => h) (Or.inl ⟨by rfl, ?hy29a⟩) (by assumption) ?rest29a
                        case hy29a => intro w hSw; (try dsimp only at hSw); obtain ⟨hSw0, hSw1, hSw2, hSw3⟩ := hSw; go_simp; try (with_reducible rfl)
                        try simp only [Act.put, List.setIfInBounds_toArray, List.set_cons_zero, List.set_cons_succ]
                        refine wpAnyH_done (by kernel_rfl) ?_ _
                        go_wp2
                        go_roundg (k - (j + 1))
                        case rel => exact ⟨j + 1, (by show _ = _; omega), by omega, by go_num, bthen HBW2.out hbx⟩
                        case measure => omega
                  · have clt : decide ((j : Int) < (k : Int)) = false := decide_eq_false (by omega)
                    have clt2 : decide (j < k) = false := decide_eq_false hlt2
                    go_wp2
                    go_roundg (k - (i + 1))
                    case rel => exact ⟨i + 1, (by show _ = _; omega), by omega, by go_num, bthen HBN.out hb2, Lib.hid (HX1.out.below hb2)⟩
                    case measure => omega
              · have blt : decide ((i : Int) < (k : Int)) = false := decide_eq_false (by omega)
                have blt2 : decide (i < k) = false := decide_eq_false hlt
                go_wp2_with fail
                refine (awake_of E _).mono ?_
                rintro e wz ⟨rfl, hx⟩
                go_wp2
                go_ret
                exact ⟨rfl, bthen hb hx⟩
          · have HR := Lib.hid hR
            clear hR
            go_wp2_with fail
            refine (of_bad E A B c d n m a b _ HA.out HB.out HR.out).mono ?_
            rintro e wx3 ⟨A1, c1, rfl, hx⟩
            replace HA := Lib.hid (HA.out.below hx)
            replace HB := Lib.hid (HB.out.below hx)
            replace hb := bthen hb hx
            clear hx
            go_wp2_with fail
            refine (awake_of E _).mono ?_
            rintro e wz ⟨rfl, hx⟩
            go_wp2
            go_ret
            exact ⟨rfl, bthen hb hx⟩
end Go.Proofs.YtgjnafnmdieniaaDoor
