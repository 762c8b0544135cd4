/-
  The walk of layer 9's statement MergeApart, from what merge.Of and diff's Of and Apply do: it returns true whatever the lines are. No conditions.
-/
import Derived.Test.YtfajfjocpgbmeaaMergeA
import Derived.Test.YtfajfjocpgbmeaaDiffF
import Derived.Test.YtfajfjocpgbmeaaDiffJ
import Derived.Test.YtfajfjocpgbmeaaDiffN
import Derived.Deep.QuietTactic
import Derived.BigQuiet
namespace Go.Proofs.Ytfajfjocpgbmeaa
open Go.RowKit
set_option linter.unusedVariables false

theorem of9 (A B : Option Addr) (c d n m k : Nat) (a b : List T.Ln) (L : List T.Chg) (w : World) (hA : TArg w A c n a) (hB : TArg w B d m b) (ha : T.RightT a) (hb : T.RightT b) (hL : T.diffL a b = L) (hk : L.length = k) :
    Calls Try.prog 19 #[.slice A n c, .slice B m d] w (fun e w' => ∃ A1 c1, e = .returned (.tuple #[.slice A1 k c1, .int .i64 0]) ∧ CArg w' A1 c1 k L ∧ NilOk A1 c1 ∧ Below w.heap.size w w') := by
  refine (diff_of A B c d n m a b w hA hB ha hb).mono ?_
  rw [hL]
  rintro e w' ⟨A1, c1, rfl, hs, hc1, hN, hx⟩
  have hf := (diff_few ha hb).1
  rw [hL] at hf
  rw [hk] at hf hc1
  rw [hk]
  exact ⟨A1, c1, rfl, ⟨hk, hf, hc1, hs⟩, hN, hx⟩
theorem ofbad9 (A B : Option Addr) (c d n m : Nat) (a b : List T.Ln) (w : World) (hA : TArg w A c n a) (hB : TArg w B d m b) (h : ¬ (T.RightT a ∧ T.RightT b)) :
    Calls Try.prog 19 #[.slice A n c, .slice B m d] w (fun e w' => ∃ A1 c1, e = .returned (.tuple #[.slice A1 0 c1, .int .i64 1]) ∧ Below w.heap.size w w') := by
  refine (diff_bad A B c d n m a b w hA hB h).mono ?_
  rintro e w' ⟨A1, c1, rfl, hs, hc1, hN, hx⟩
  exact ⟨A1, c1, rfl, hx⟩
/-- Of, whatever it answers. -/
theorem ofany9 (A B : Option Addr) (c d n m : Nat) (a b : List T.Ln) (w : World) (hA : TArg w A c n a) (hB : TArg w B d m b) :
    Calls Try.prog 19 #[.slice A n c, .slice B m d] w (fun e w' => ∃ A1 n1 c1 er, e = .returned (.tuple #[.slice A1 n1 c1, .int .i64 er]) ∧ Below w.heap.size w w') := by
  by_cases h : T.RightT a ∧ T.RightT b
  · refine (of9 A B c d n m _ a b _ w hA hB h.1 h.2 rfl rfl).mono ?_
    rintro e w' ⟨A1, c1, rfl, _, _, hx⟩
    exact ⟨A1, _, c1, _, rfl, hx⟩
  · refine (ofbad9 A B c d n m a b w hA hB h).mono ?_
    rintro e w' ⟨A1, c1, rfl, hx⟩
    exact ⟨A1, _, c1, _, rfl, hx⟩
theorem apply9 (A B : Option Addr) (c d n k m : Nat) (t u : List T.Ln) (L : List T.Chg) (w : World) (hA : TArg w A c n t) (hB : CArg w B d k L) (ht : T.RightT t) (hR : T.RunOk t L u) (hm : u.length = m) :
    Calls Try.prog 20 #[.slice A n c, .slice B k d] w (fun e w' => ∃ A1 c1, e = .returned (.tuple #[.slice A1 m c1, .int .i64 (k : Int), .int .i64 0]) ∧ TArg w' A1 c1 m u ∧ Below w.heap.size w w') := by
  refine (diff_apply A B c d n k t u L w hA hB ht hR).mono ?_
  rintro e w' ⟨A1, c1, rfl, hs, hc1, hN, hx⟩
  have hl := (hR.right ht).len
  rw [hm] at hc1 hl ⊢
  exact ⟨A1, c1, rfl, ⟨hm, by omega, hc1, hs, hN⟩, hx⟩
theorem head_at {p : T.Pth} (h : 0 < p.length) : p.head? = some p[0] := by
  cases p with
  | nil => cases h
  | cons x r => rfl
/-- The cells of a change in a block of its own, in the world behind its alloc. -/
theorem box9 (w : World) (kd mk : Int) (B : Option Addr) (n c : Nat) : (w.alloc (.cells #[.int .i64 kd, .slice B n c, .int .i64 mk] 45)).cell? ⟨w.heap.size, 1, none⟩ = some (.slice B n c) := World.cell?_alloc_mark w #[.int .i64 kd, .slice B n c, .int .i64 mk] 45 (0, 0) 1
set_option maxRecDepth 100000 in
set_option maxHeartbeats 4000000 in
theorem mergeApart_walk (E : MergeOk) (AW : ∀ w, Calls Try.prog 10 #[] w (TrueS w)) (w : World) (A : Option Addr) (c : Nat) (a : List T.Ln) (hc : a.length ≤ c) (hA : Seen eL w A a) (hlA : a.length ≤ maxLen) (hNA : NilOk A c) (B : Option Addr) (d : Nat) (b : List T.Ln) (hd : b.length ≤ d) (hB : Seen eL w B b) (hlB : b.length ≤ maxLen) (hNB : NilOk B d) (C : Option Addr) (f : Nat) (t : List T.Ln) (hf : t.length ≤ f) (hC : Seen eL w C t) (hlC : t.length ≤ maxLen) (hNC : NilOk C f) :
    Calls Try.prog 7 #[.slice A a.length c, .slice B b.length d, .slice C t.length f] w (TrueS w) := by
  unfold maxLen at hlA
  obtain ⟨n, hnA⟩ : ∃ n, a.length = n := ⟨_, rfl⟩
  rw [hnA] at hc hlA ⊢
  have HNA := Lib.hid hnA
  have HA := Lib.hid hA
  have HOA := Lib.hid hNA
  clear hA hnA hNA
  unfold maxLen at hlB
  obtain ⟨m, hnB⟩ : ∃ m, b.length = m := ⟨_, rfl⟩
  rw [hnB] at hd hlB ⊢
  have HNB := Lib.hid hnB
  have HB := Lib.hid hB
  have HOB := Lib.hid hNB
  clear hB hnB hNB
  unfold maxLen at hlC
  obtain ⟨k, hnC⟩ : ∃ k, t.length = k := ⟨_, rfl⟩
  rw [hnC] at hf hlC ⊢
  have HNC := Lib.hid hnC
  have HC := Lib.hid hC
  have HOC := Lib.hid hNC
  clear hC hnC hNC
  have hb : Below w.heap.size w w := Below.refl _ _
  go_enter Try.func7, Try.ntmps7
  go_wp2_with fail
  refine (few_any A B C c d f n m k a b t _ HNA.out HNB.out HNC.out HA.out HB.out HC.out).mono ?_
  rintro e wx1 ⟨bs, rfl, hsm, hx⟩
  replace HA := Lib.hid (HA.out.below hx)
  replace HB := Lib.hid (HB.out.below hx)
  replace HC := Lib.hid (HC.out.below hx)
  replace hb := bthen hb hx
  clear hx
  cases bs with
  | false =>
    clear hsm
    go_wp2_with fail
    refine (AW _).mono ?_
    rintro e wz ⟨rfl, hx⟩
    go_wp2
    go_ret
    exact ⟨rfl, bthen hb hx⟩
  | true =>
    have hsm2 := hsm rfl
    clear hsm
    have hn30 : n ≤ 30 := hsm2.1
    have hm30 : m ≤ 30 := hsm2.2.1
    have hk30 : k ≤ 30 := hsm2.2.2
    clear hsm2
    replace HA := Lib.hid (TArg.mk HNA.out (by omega) hc HA.out HOA.out)
    replace HB := Lib.hid (TArg.mk HNB.out (by omega) hd HB.out HOB.out)
    replace HC := Lib.hid (TArg.mk HNC.out (by omega) hf HC.out HOC.out)
    by_cases hR1 : T.RightT a ∧ T.RightT b
    · by_cases hR2 : T.RightT a ∧ T.RightT t
      · have H1 := Lib.hid hR1.1
        have H2 := Lib.hid hR1.2
        have H3 := Lib.hid hR2.2
        obtain ⟨L1, hL1⟩ : ∃ x, T.diffL a b = x := ⟨_, rfl⟩
        obtain ⟨k1, hk1⟩ : ∃ x, L1.length = x := ⟨_, rfl⟩
        have HL1 := Lib.hid hL1
        have HKL1 := Lib.hid hk1
        obtain ⟨L2, hL2⟩ : ∃ x, T.diffL a t = x := ⟨_, rfl⟩
        obtain ⟨k2, hk2⟩ : ∃ x, L2.length = x := ⟨_, rfl⟩
        have HL2 := Lib.hid hL2
        have HKL2 := Lib.hid hk2
        have hk160 : k1 ≤ 60 := by rw [← hk1, ← hL1]; have := T.diff_len a b; rw [HNA.out, HNB.out] at this; omega
        have hk260 : k2 ≤ 60 := by rw [← hk2, ← hL2]; have := T.diff_len a t; rw [HNA.out, HNC.out] at this; omega
        have HG1 := Lib.hid (show ∀ x ∈ L1, 0 < x.path.length ∧ x.path.length ≤ 16 from fun x hx => (T.diff_good hR1.1 hR1.2 (hL1.symm ▸ hx)).2.2.1)
        have HG2 := Lib.hid (show ∀ x ∈ L2, 0 < x.path.length ∧ x.path.length ≤ 16 from fun x hx => (T.diff_good hR1.1 hR2.2 (hL2.symm ▸ hx)).2.2.1)
        clear hL1 hL2 hk1 hk2 hR1 hR2
        go_wp2_with fail
        refine (of9 A B c d n m k1 a b L1 _ HA.out HB.out H1.out H2.out HL1.out HKL1.out).mono ?_
        rintro e wx2 ⟨A1, c1, rfl, hs2, hk2, hx⟩
        replace HA := Lib.hid (HA.out.below hx)
        replace HB := Lib.hid (HB.out.below hx)
        replace HC := Lib.hid (HC.out.below hx)
        have HX := Lib.hid hs2
        clear hs2
        replace hb := bthen hb hx
        clear hx
        have HNX := Lib.hid hk2
        clear hk2
        go_wp2_with fail
        refine (of9 A C c f n k k2 a t L2 _ HA.out HC.out H1.out H3.out HL2.out HKL2.out).mono ?_
        rintro e wx3 ⟨A2, c2, rfl, hs3, hk3, hx⟩
        replace HA := Lib.hid (HA.out.below hx)
        replace HB := Lib.hid (HB.out.below hx)
        replace HC := Lib.hid (HC.out.below hx)
        replace HX := Lib.hid (HX.out.below hx)
        have HY := Lib.hid hs3
        clear hs3
        replace hb := bthen hb hx
        clear hx
        have HNY := Lib.hid hk3
        clear hk3
        have HBY := Lib.hid hb
        clear hb
        go_wp2
        go_loopg [48] k1 (fun gk vi wr => ∃ i : Nat, Hid (i + gk = k1) ∧ i ≤ k1 ∧ vi = .int .i64 (i : Int) ∧ Hid (∀ x ∈ L1.take i, ∀ y ∈ L2, x.path.head? ≠ y.path.head?) ∧ Below wx3.heap.size wx3 wr)
        case atStart => exact ⟨0, Nat.zero_add _, Nat.zero_le _, rfl, (fun x hx => by simp at hx), Below.refl _ _⟩
        case round =>
          obtain ⟨i, HG, hi, rfl, HAP, hbr⟩ := hrel
          obtain ⟨wo, hwo⟩ : ∃ wo, wo = wr := ⟨_, rfl⟩
          subst hwo
          by_cases hlt : i < k1
          · have blt : decide ((i : Int) < (k1 : Int)) = true := decide_eq_true (by omega)
            have blt2 : decide (i < k1) = true := decide_eq_true hlt
            have hii : (i : Int) < (k1 : Int) := by omega
            have hiL : i < L1.length := by have := HKL1.out; omega
            have hpl := HG1.out L1[i] (List.getElem_mem hiL)
            have hnx := List.take_succ_eq_append_getElem hiL
            obtain ⟨b1, o1, B3, c3, n1, rfl, hpn, hnc, hat⟩ := HX.out.hA.atD hiL
            obtain ⟨x, hx⟩ : ∃ x, L1[i] = x := ⟨_, rfl⟩
            rw [hx] at hpl hnx hpn hat
            obtain ⟨kd, P, mk⟩ := x
            simp only at hpl hpn hat
            rw [hpn] at hpl
            obtain ⟨x0, x1, x2, hPs⟩ := hat wo hbr
            obtain ⟨pb, po, rfl, hpb, hPH⟩ := hPs (by rw [hpn]; omega)
            have h0P : 0 < P.length := by rw [hpn]; omega
            have z0 := hPH.str h0P
            obtain ⟨p0, hp0⟩ : ∃ x, P[0] = x := ⟨_, rfl⟩
            rw [hp0] at z0
            have HHP := Lib.hid (show P.head? = some p0 by rw [head_at h0P, hp0])
            have HNXT := Lib.hid hnx
            obtain ⟨W1, hW1⟩ : ∃ W1, wo.alloc (.cells #[.int .i64 kd, .slice (some ⟨pb, po, none⟩) n1 c3, .int .i64 mk] 45) = W1 := ⟨_, rfl⟩
            have HB1 := Lib.hid (show Below wo.heap.size wo W1 from hW1 ▸ up wo _)
            have y1 : W1.cell? ⟨wo.heap.size, 1, none⟩ = some (.slice (some ⟨pb, po, none⟩) n1 c3) := by rw [← hW1]; exact box9 wo kd mk _ n1 c3
            have y2 : W1.cell? ⟨pb, po + 0, none⟩ = some (.string (sB p0)) := (HB1.out.cell (p := ⟨pb, _, none⟩) hpb).trans z0
            have hgl : wo.heap.size < W1.heap.size := by rw [← hW1]; simp
            have hpl1 : pb < W1.heap.size := Nat.lt_of_lt_of_le hpb HB1.out.size
            have HKX := Lib.hid (fun w' (h : Below W1.heap.size W1 w') => show w'.cell? ⟨wo.heap.size, 1, none⟩ = some (.slice (some ⟨pb, po, none⟩) n1 c3) ∧ w'.cell? ⟨pb, po + 0, none⟩ = some (.string (sB p0)) from ⟨(h.cell (p := ⟨wo.heap.size, 1, none⟩) hgl).trans y1, (h.cell (p := ⟨pb, po + 0, none⟩) hpl1).trans y2⟩)
            have HBW1 := Lib.hid (bthen hbr HB1.out)
            have HW1 := Lib.hid hW1
            have hgk := HG.out
            have hn1 : 0 < n1 := by omega
            have hn1i : (0 : Int) < (n1 : Int) := by omega
            clear hx hnx hpn hat hPs hPH z0 hp0 h0P y1 y2 hgl hpl1 hW1 hpl
            go_wp2
            rw [HW1.out]
            clear x0 x1 x2
            go_loopg [54] k2 (fun gk2 vi wr => ∃ j : Nat, Hid (j + gk2 = k2) ∧ j ≤ k2 ∧ vi = .int .i64 (j : Int) ∧ Hid (∀ y ∈ L2.take j, P.head? ≠ y.path.head?) ∧ Below W1.heap.size W1 wr)
            case atStart => exact ⟨0, Nat.zero_add _, Nat.zero_le _, rfl, (fun y hy => by simp at hy), Below.refl _ _⟩
            case round =>
              obtain ⟨j, HG2x, hj, rfl, HAJ, hb2⟩ := hrel
              by_cases hlt2 : j < k2
              · have clt : decide ((j : Int) < (k2 : Int)) = true := decide_eq_true (by omega)
                have clt2 : decide (j < k2) = true := decide_eq_true hlt2
                have hjj : (j : Int) < (k2 : Int) := by omega
                have hjL : j < L2.length := by have := HKL2.out; omega
                have hpl := HG2.out L2[j] (List.getElem_mem hjL)
                have hnx := List.take_succ_eq_append_getElem hjL
                obtain ⟨b4, o4, B5, c4, n2, rfl, hpn, hnc2, hat⟩ := HY.out.hA.atD hjL
                obtain ⟨x, hx⟩ : ∃ x, L2[j] = x := ⟨_, rfl⟩
                rw [hx] at hpl hnx hpn hat
                obtain ⟨kd2, P2, mk2⟩ := x
                simp only at hpl hpn hat
                rw [hpn] at hpl
                have hbw := bthen HBW1.out hb2
                obtain ⟨x0, x1, x2, hPs⟩ := hat wr hbw
                obtain ⟨qb, qo, rfl, hqb, hPH⟩ := hPs (by rw [hpn]; omega)
                have h0P : 0 < P2.length := by rw [hpn]; omega
                have z0 := hPH.str h0P
                obtain ⟨q0, hq0⟩ : ∃ x, P2[0] = x := ⟨_, rfl⟩
                rw [hq0] at z0
                have HHQ := Lib.hid (show P2.head? = some q0 by rw [head_at h0P, hq0])
                have HNXT2 := Lib.hid hnx
                have hu := up wr (.cells #[.int .i64 kd2, .slice (some ⟨qb, qo, none⟩) n2 c4, .int .i64 mk2] 45)
                have v1 := box9 wr kd2 mk2 (some ⟨qb, qo, none⟩) n2 c4
                have v2 := (hu.cell (p := ⟨qb, qo + 0, none⟩) hqb).trans z0
                obtain ⟨v3, v4⟩ := HKX.out _ (bthen hb2 hu)
                have HBW2 := Lib.hid (bthen hb2 hu)
                have HBX2 := Lib.hid (bthen hbw hu)
                have hgk2 := HG2x.out
                have hn2 : 0 < n2 := by omega
                have hn2i : (0 : Int) < (n2 : Int) := by omega
                have bn1 : ((n1 : Int) == 0) = false := beq_eq_false_iff_ne.2 (by omega)
                have bn1b : (n1 == 0) = false := beq_eq_false_iff_ne.2 (by omega)
                have bn2 : ((n2 : Int) == 0) = false := beq_eq_false_iff_ne.2 (by omega)
                have bn2b : (n2 == 0) = false := beq_eq_false_iff_ne.2 (by omega)
                rw [Nat.add_zero] at v2 v4
                clear hx hnx hpn hat hPs hPH z0 hq0 h0P hpl hu hbw
                by_cases heq : p0 = q0
                · subst heq
                  go_wp2
                  go_quiet (fail)
                  all_goals go_wp2_with fail
                  all_goals
                    refine (AW _).mono ?_
                    rintro e wz ⟨rfl, hx⟩
                    go_wp2
                    go_ret
                    exact ⟨rfl, bthen (bthen HBY.out (below_draws HBX2.out _)) hx⟩
                · have hne := sB_ne heq
                  have HNE := Lib.hid (show P.head? ≠ P2.head? by rw [HHP.out, HHQ.out]; exact fun e => heq (Option.some.inj e))
                  clear heq
                  go_wp2
                  go_quiet (fail)
                  all_goals go_wp2
                  all_goals
                    go_roundg (k2 - (j + 1))
                    case rel => exact ⟨j + 1, (by show _ = _; omega), by omega, by go_num, Lib.hid (fun y hy => by
                      rw [HNXT2.out] at hy
                      rcases List.mem_append.1 hy with hy | hy
                      · exact HAJ.out y hy
                      · rw [List.mem_singleton.1 hy]; exact HNE.out), below_draws HBW2.out _⟩
                    case measure => omega
              · have clt : decide ((j : Int) < (k2 : Int)) = false := decide_eq_false (by omega)
                have clt2 : decide (j < k2) = false := decide_eq_false hlt2
                have HAL := Lib.hid (show ∀ y ∈ L2, P.head? ≠ y.path.head? from fun y hy => HAJ.out y (by rw [List.take_of_length_le (by have := HKL2.out; omega)]; exact hy))
                have HBX3 := Lib.hid (bthen HBW1.out hb2)
                clear hlt2 HAJ hb2 hj HG2x
                go_wp2
                go_roundg (k1 - (i + 1))
                case rel => exact ⟨i + 1, (by show _ = _; omega), by omega, by go_num, Lib.hid (fun x hx y hy => by
                  rw [HNXT.out] at hx
                  rcases List.mem_append.1 hx with hx | hx
                  · exact HAP.out x hx y hy
                  · rw [List.mem_singleton.1 hx]; exact HAL.out y hy), HBX3.out⟩
                case measure => omega
          · have blt : decide ((i : Int) < (k1 : Int)) = false := decide_eq_false (by omega)
            have blt2 : decide (i < k1) = false := decide_eq_false hlt
            have HAD := Lib.hid (show T.ApartD a b t from fun x hx y hy => HAP.out x (by rw [List.take_of_length_le (by have := HKL1.out; omega), ← HL1.out]; exact hx) y (HL2.out ▸ hy))
            obtain ⟨u, hmu⟩ := T.apart_merge H1.out H2.out H3.out HAD.out (by rw [HNA.out, HNB.out, HNC.out]; omega)
            have HMI := Lib.hid hmu
            have HRN := Lib.hid (show T.RunOk a (L1 ++ L2) u by rw [← HL1.out, ← HL2.out]; exact T.apart_runs HAD.out hmu)
            obtain ⟨nu, hnu⟩ : ∃ nu, u.length = nu := ⟨_, rfl⟩
            have HNU := Lib.hid hnu
            have hnu200 : nu ≤ 200 := by rw [← hnu]; exact merge_len hmu
            obtain ⟨k3, hk3⟩ : ∃ k3, k1 + k2 = k3 := ⟨_, rfl⟩
            have HK3 := Lib.hid (show (L1 ++ L2).length = k3 by rw [List.length_append, HKL1.out, HKL2.out, hk3])
            have hk31024 : k3 ≤ 1024 := by omega
            have hb := bthen HBY.out hbr
            replace HA := Lib.hid (HA.out.below hbr)
            replace HB := Lib.hid (HB.out.below hbr)
            replace HC := Lib.hid (HC.out.below hbr)
            replace HX := Lib.hid (HX.out.below hbr)
            replace HY := Lib.hid (HY.out.below hbr)
            clear hmu hnu hk3 hlt hbr HG hi HAP
            go_wp2_with fail
            refine (merge_q E A B C c d f n m k nu 0 a b t u [] 0 _ HA.out HB.out HC.out (by omega) (by omega) (by omega) HMI.out HNU.out rfl).mono ?_
            rintro e wx4 ⟨A3, c3, B3, d3, rfl, hs4, hp4, hx⟩
            replace HA := Lib.hid (HA.out.below hx)
            replace HB := Lib.hid (HB.out.below hx)
            replace HC := Lib.hid (HC.out.below hx)
            replace HX := Lib.hid (HX.out.below hx)
            replace HY := Lib.hid (HY.out.below hx)
            have HU := Lib.hid hs4
            have HLL := Lib.hid hp4
            clear hs4 hp4
            replace hb := bthen hb hx
            clear hx
            obtain ⟨M1, hl1, hs1, he1⟩ := HX.out.hA
            obtain ⟨M2, hl2, hs2, he2⟩ := HY.out.hA
            have HO := Lib.hid (own_empty wx4)
            have HS1 := Lib.hid (hs1.below (up wx4 (.cells #[] 45)))
            have HS2 := Lib.hid hs2
            have HE1 := Lib.hid he1
            have HE2 := Lib.hid he2
            have HM1 := Lib.hid hl1
            have HM2 := Lib.hid hl2
            have hc1 := HX.out.hc
            have hc2 := HY.out.hc
            have HBX := Lib.hid (up wx4 (.cells #[] 45))
            have HM1K := Lib.hid (hl1.trans HKL1.out)
            have HM2K := Lib.hid (hl2.trans HKL2.out)
            clear hl1 hl2 hs1 hs2 he1 he2
            go_wp2_with (first | (at_builtin; refine wpList_appAny eD (wx4.alloc (.cells #[] 45)) rfl (.tmp 90) (.tmp 91) rfl wx4.heap.size _ [] rfl HO.out A1 M1 k1 c1 HM1K.out rfl hc1 HNX.out HS1.out (by simp; omega) (by simp) ?_; intro v3 w3 hown3 hb3) | (at_builtin; refine wpList_appAny eD w3 rfl (.tmp 92) (.tmp 93) rfl wx4.heap.size v3 ([] ++ M1) rfl hown3 A2 M2 k2 c2 HM2K.out rfl hc2 HNY.out (HS2.out.below (HBX.out.trans hb3)) (by rw [List.nil_append, HM1K.out]; omega) (HBX.out.trans hb3).size ?_; intro v4 w4 hown4 hb4; have hx := (HBX.out.trans hb3).trans hb4; obtain ⟨A4, c4, rfl, h4⟩ := seenC_app HM1.out HM2.out HE1.out HE2.out hown4 hx HK3.out hk31024; have HZ := Lib.hid h4; clear h4))
            replace HA := Lib.hid (HA.out.below hx)
            replace HB := Lib.hid (HB.out.below hx)
            replace HC := Lib.hid (HC.out.below hx)
            replace HX := Lib.hid (HX.out.below hx)
            replace HY := Lib.hid (HY.out.below hx)
            replace HU := Lib.hid (HU.out.below hx)
            replace HLL := Lib.hid (HLL.out.below hx)
            replace hb := bthen hb hx
            clear hx
            refine (apply9 A A4 c c4 n k3 nu a u (L1 ++ L2) _ HA.out HZ.out H1.out HRN.out HNU.out).mono ?_
            rintro e wx5 ⟨A5, c5, rfl, hs5, hx⟩
            replace HA := Lib.hid (HA.out.below hx)
            replace HB := Lib.hid (HB.out.below hx)
            replace HC := Lib.hid (HC.out.below hx)
            replace HX := Lib.hid (HX.out.below hx)
            replace HY := Lib.hid (HY.out.below hx)
            replace HU := Lib.hid (HU.out.below hx)
            replace HLL := Lib.hid (HLL.out.below hx)
            replace HZ := Lib.hid (HZ.out.below hx)
            have HT := Lib.hid hs5
            clear hs5
            replace hb := bthen hb hx
            clear hx
            go_wp2_with fail
            refine (sameQ A3 A5 c3 c5 nu nu u u _ true (yes_iff rfl) HNU.out HNU.out (by omega) HU.out.hA HT.out.hA).mono ?_
            rintro e wx6 ⟨rfl, hx⟩
            replace HA := Lib.hid (HA.out.below hx)
            replace HB := Lib.hid (HB.out.below hx)
            replace HC := Lib.hid (HC.out.below hx)
            replace HX := Lib.hid (HX.out.below hx)
            replace HY := Lib.hid (HY.out.below hx)
            replace HU := Lib.hid (HU.out.below hx)
            replace HLL := Lib.hid (HLL.out.below hx)
            replace HZ := Lib.hid (HZ.out.below hx)
            replace HT := Lib.hid (HT.out.below hx)
            replace hb := bthen hb hx
            clear hx
            go_wp2_with fail
            refine (AW _).mono ?_
            rintro e wz ⟨rfl, hx⟩
            go_wp2
            go_ret
            exact ⟨rfl, bthen hb hx⟩
      · have HR2 := Lib.hid hR2
        clear hR1 hR2
        go_wp2_with fail
        refine (ofany9 A B c d n m a b _ HA.out HB.out).mono ?_
        rintro e wx2 ⟨A1, n1, c1, er1, rfl, hx⟩
        replace HA := Lib.hid (HA.out.below hx)
        replace HB := Lib.hid (HB.out.below hx)
        replace HC := Lib.hid (HC.out.below hx)
        replace hb := bthen hb hx
        clear hx
        go_wp2_with fail
        refine (ofbad9 A C c f n k a t _ HA.out HC.out HR2.out).mono ?_
        rintro e wx3 ⟨A2, c2, rfl, hx⟩
        replace HA := Lib.hid (HA.out.below hx)
        replace HB := Lib.hid (HB.out.below hx)
        replace HC := Lib.hid (HC.out.below hx)
        replace hb := bthen hb hx
        clear hx
        by_cases h0 : er1 = 0
        · have be : (er1 != 0) = false := by rw [h0]; rfl
          clear h0
          go_wp2_with fail
          refine (AW _).mono ?_
          rintro e wz ⟨rfl, hx⟩
          go_wp2
          go_ret
          exact ⟨rfl, bthen hb hx⟩
        · have be : (er1 != 0) = true := bne_iff_ne.2 h0
          clear h0
          go_wp2_with fail
          refine (AW _).mono ?_
          rintro e wz ⟨rfl, hx⟩
          go_wp2
          go_ret
          exact ⟨rfl, bthen hb hx⟩
    · have HR1 := Lib.hid hR1
      clear hR1
      go_wp2_with fail
      refine (ofbad9 A B c d n m a b _ HA.out HB.out HR1.out).mono ?_
      rintro e wx2 ⟨A1, c1, rfl, hx⟩
      replace HA := Lib.hid (HA.out.below hx)
      replace HB := Lib.hid (HB.out.below hx)
      replace HC := Lib.hid (HC.out.below hx)
      replace hb := bthen hb hx
      clear hx
      go_wp2_with fail
      refine (ofany9 A C c f n k a t _ HA.out HC.out).mono ?_
      rintro e wx3 ⟨A2, n2, c2, er2, rfl, hx⟩
      replace HA := Lib.hid (HA.out.below hx)
      replace HB := Lib.hid (HB.out.below hx)
      replace HC := Lib.hid (HC.out.below hx)
      replace hb := bthen hb hx
      clear hx
      go_wp2_with fail
      refine (AW _).mono ?_
      rintro e wz ⟨rfl, hx⟩
      go_wp2
      go_ret
      exact ⟨rfl, bthen hb hx⟩
end Go.Proofs.Ytfajfjocpgbmeaa
