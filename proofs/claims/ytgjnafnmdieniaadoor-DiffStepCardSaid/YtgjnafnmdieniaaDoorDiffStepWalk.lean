/-
  The walk of layer 8's statement DiffStep, from what diff's functions do: it returns true whatever the lines and the path are. No conditions.
-/
import Derived.Test.YtgjnafnmdieniaaDoorDiffG
import Derived.Test.YtgjnafnmdieniaaDoorLinesR
import Derived.Test.YtgjnafnmdieniaaDoorLawStrs
import Derived.Deep.RegionHeld3
namespace Go.Proofs.YtgjnafnmdieniaaDoor
open Go.RowKit
set_option linter.unusedVariables false

theorem refAddQ (A B : Option Addr) (c d n m nu : Nat) (t u : List T.Ln) (p : T.Pth) (er : Int) (w : World) (hA : TArg w A c n t) (hm : p.length = m) (hB : Seen eS w B p) (hd : m ≤ d) (hp : m ≤ 1073741824) (h : AddIs t p u er) (hnu : u.length = nu) (hnu220 : nu ≤ 220) :
    Calls Tryd.prog 22 #[.slice A n c, .slice B m d] w (fun e w' => ∃ A1 c1, e = .returned (.tuple #[.slice A1 nu c1, .int .i64 er]) ∧ TArg w' A1 c1 nu u ∧ Below w.heap.size w w') := by
  refine (ref_addN A B c d n m t u p er w hA.hn hm hA.hA hB hA.hN hA.hc hd hA.hl hp h).mono ?_
  rintro e w' ⟨A1, c1, rfl, hs, hx, hc1, hN⟩
  rw [hnu] at hc1 ⊢
  exact ⟨A1, c1, rfl, ⟨hnu, by omega, hc1, hs, hN⟩, hx⟩
set_option maxRecDepth 100000 in
set_option maxHeartbeats 4000000 in
theorem diffStep_walk (E : DiffOk) (w : World) (A : Option Addr) (c : Nat) (t : List T.Ln) (hc : t.length ≤ c) (hA : Seen eL w A t) (hl : t.length ≤ maxLen) (hNA : NilOk A c) (B : Option Addr) (m0 d : Nat) (xs : List ByteArray) (g1 : HoldsS w B m0 xs) (gn1 : m0 ≤ maxLen) (gs1 : ∀ x ∈ xs, x.size ≤ maxLen) (hd0 : m0 ≤ d) :
    Calls Tryd.prog 8 #[.slice A t.length c, .slice B m0 d] w (TrueS w) := by
  obtain ⟨p, rfl, hB⟩ := seen_strs g1
  clear g1 gs1
  unfold maxLen at hl gn1
  obtain ⟨n, hn⟩ : ∃ n, t.length = n := ⟨_, rfl⟩
  obtain ⟨m, hm⟩ : ∃ m, p.length = m := ⟨_, rfl⟩
  rw [hn] at hc hl ⊢
  rw [hm] at hd0 gn1 ⊢
  obtain ⟨u, er, hai⟩ := add_is t p
  have HAI := Lib.hid hai
  have HN := Lib.hid hn
  have HM := Lib.hid hm
  have HA := Lib.hid hA
  have HB := Lib.hid hB
  have HNA := Lib.hid hNA
  clear hA hB hn hm hNA hai
  have hb : Below w.heap.size w w := Below.refl _ _
  go_enter Tryd.func8, Tryd.ntmps8
  go_wp2_with fail
  refine (smallQ A c n t _ HN.out HA.out).mono ?_
  rintro e wx1 ⟨bs, rfl, hsm, hx⟩
  replace HA := Lib.hid (HA.out.below hx)
  replace HB := Lib.hid (HB.out.below hx)
  replace hb := bthen hb hx
  clear hx
  cases bs with
  | false =>
    clear hsm
    go_wp2_with fail
    refine (awake_of E _).mono ?_
    rintro e wz ⟨rfl, hx⟩
    go_wp2
    go_ret
    exact ⟨rfl, bthen hb hx⟩
  | true =>
    have hn220 : n ≤ 220 := hsm rfl
    clear hsm
    by_cases h60 : 60 < n
    · have b60 : decide ((60 : Int) < (n : Int)) = true := decide_eq_true (by omega)
      have b61 : decide (60 < n) = true := decide_eq_true h60
      go_wp2_with fail
      refine (awake_of E _).mono ?_
      rintro e wz ⟨rfl, hx⟩
      go_wp2
      go_ret
      exact ⟨rfl, bthen hb hx⟩
    · have b60 : decide ((60 : Int) < (n : Int)) = false := decide_eq_false (by omega)
      have b61 : decide (60 < n) = false := decide_eq_false h60
      replace h60 : n ≤ 60 := by omega
      go_wp2_with fail
      refine (shortB B d m p _ HM.out HB.out).mono ?_
      rintro e wx2 ⟨bs, rfl, hs1, hs2, rfl⟩
      clear hs2
      cases bs with
      | false =>
        clear hs1
        go_wp2_with fail
        refine (awake_of E _).mono ?_
        rintro e wz ⟨rfl, hx⟩
        go_wp2
        go_ret
        exact ⟨rfl, bthen hb hx⟩
      | true =>
        have hm40 : m ≤ 40 := by rw [← HM.out]; exact hs1 rfl
        clear hs1
        replace HA := Lib.hid (TArg.mk HN.out (by omega) hc HA.out HNA.out)
        have hul := HAI.out.len (by rw [HN.out]; omega)
        obtain ⟨nu, hnu⟩ : ∃ nu, u.length = nu := ⟨_, rfl⟩
        rw [hnu] at hul
        have HNU := Lib.hid hnu
        clear hnu
        go_wp2_with fail
        refine (refAddQ A B c d n m nu t u p er _ HA.out HM.out HB.out hd0 (by omega) HAI.out HNU.out hul).mono ?_
        rintro e wx3 ⟨A1, c1, rfl, hs3, hx⟩
        replace HA := Lib.hid (HA.out.below hx)
        replace HB := Lib.hid (HB.out.below hx)
        have HU := Lib.hid hs3
        replace hb := bthen hb hx
        clear hx hs3
        by_cases h0 : er = 0
        · subst h0
          obtain ⟨hp0, hp40, hR, hp16, hu200, hu, hRU⟩ := HAI.out.zero
          obtain ⟨j, hj, hjl, hjd⟩ := T.diff_step hR hp16 hp40 hu200
          rw [← hu, HNU.out, HN.out, HM.out] at hjl
          rw [← hu, HM.out] at hjd
          rw [HM.out] at hj
          obtain ⟨L, hL⟩ : ∃ L, T.diffL t u = L := ⟨_, rfl⟩
          obtain ⟨k, hk⟩ : ∃ k, m - j = k := ⟨_, rfl⟩
          rw [hL, hk] at hjd
          rw [hk] at hjl
          have hLk : L.length = k := by rw [hjd]; simp
          have HLI := Lib.hid (show ∀ i (hi : i < L.length), L[i] = ⟨2, p.take (j + i + 1), 0⟩ from fun i hi => by simp [hjd])
          have HL := Lib.hid hL
          have HK := Lib.hid hLk
          have HR1 := Lib.hid hR
          have HR2 := Lib.hid hRU
          have HJK := Lib.hid (show j + k = m by omega)
          have HJL := Lib.hid hjl
          have hjm : j ≤ m := by omega
          have hkm : k ≤ m := by omega
          have hm16 : m ≤ 16 := by rw [← HM.out]; exact hp16
          have bl : ((k : Int) == (nu : Int) - (n : Int)) = true := by simp; omega
          clear hp0 hp40 hR hp16 hu200 hu hRU hjd hL hk hLk hj hjl
          go_wp2_with fail
          refine (of_is E A A1 c c1 n nu k t u L _ HA.out HU.out HR1.out HR2.out HL.out HK.out).mono ?_
          rintro e wx4 ⟨A2, c2, rfl, hs4, hn4, hx⟩
          replace HB := Lib.hid (HB.out.below hx)
          have HX := Lib.hid hs4
          replace hb := bthen hb hx
          clear hx hs4 hn4
          go_wp2
          go_loopg [47] k (fun gk vi wr => ∃ i : Nat, Hid (i + gk = k) ∧ i ≤ k ∧ vi = .int .i64 (i : Int) ∧ Below w.heap.size w wr ∧ Hid (CArg wr A2 c2 k L) ∧ Hid (Seen eS wr B p))
          case atStart => exact ⟨0, Nat.zero_add _, Nat.zero_le _, rfl, hb, HX, HB⟩
          case round =>
            obtain ⟨i, HG, hi, rfl, hb, HX, HB⟩ := hrel
            by_cases hlt : i < k
            · have blt : decide ((i : Int) < (k : Int)) = true := decide_eq_true (by omega)
              have blt2 : decide (i < k) = true := decide_eq_true hlt
              have hiL : i < L.length := by have := HK.out; omega
              obtain ⟨b, o, B2, c3, nn, rfl, hpn, hnc, hat⟩ := HX.out.hA.atD hiL
              have hLi := HLI.out i hiL
              rw [hLi] at hpn hat
              simp only at hpn hat
              obtain ⟨x0, x1, x2, hPs0⟩ := hat wr (Below.refl _ _)
              rw [List.length_take, HM.out, Nat.min_eq_left (by have := HJK.out; omega)] at hpn
              subst hpn
              have HB1 := Lib.hid (up wr (.cells #[.int .i64 2, .slice B2 (j + i + 1) c3, .int .i64 0] 41))
              have hbk := fun z => World.cell?_alloc_mark wr #[.int .i64 2, .slice B2 (j + i + 1) c3, .int .i64 0] 41 (0, 0) z
              obtain ⟨q, hq⟩ : ∃ q, j + i + 1 = q := ⟨_, rfl⟩
              rw [hq] at x1 hnc hPs0 HB1 hbk
              obtain ⟨W1, hW1⟩ : ∃ W1, wr.alloc (.cells #[.int .i64 2, .slice B2 q c3, .int .i64 0] 41) = W1 := ⟨_, rfl⟩
              have y0' : W1.cell? ⟨wr.heap.size, 0, none⟩ = some (.int .i64 2) := by rw [← hW1]; exact hbk 0
              have y1' : W1.cell? ⟨wr.heap.size, 1, none⟩ = some (.slice B2 q c3) := by rw [← hW1]; exact hbk 1
              have y2' : W1.cell? ⟨wr.heap.size, 2, none⟩ = some (.int .i64 0) := by rw [← hW1]; exact hbk 2
              have hsz : wr.heap.size < W1.heap.size := by rw [← hW1]; simp
              rw [hW1] at HB1
              have HKP := Lib.hid (fun w' (h : Below W1.heap.size W1 w') => show w'.cell? ⟨wr.heap.size, 0, none⟩ = some (.int .i64 2) ∧ w'.cell? ⟨wr.heap.size, 1, none⟩ = some (.slice B2 q c3) ∧ w'.cell? ⟨wr.heap.size, 2, none⟩ = some (.int .i64 0) from
                ⟨(h.cell (p := ⟨wr.heap.size, 0, none⟩) hsz).trans y0', (h.cell (p := ⟨wr.heap.size, 1, none⟩) hsz).trans y1', (h.cell (p := ⟨wr.heap.size, 2, none⟩) hsz).trans y2'⟩)
              have HPT := Lib.hid (hPs0.below HB1.out)
              have HBT : Hid (Seen eS W1 B (p.take q)) := Lib.hid (by
                intro h1
                obtain ⟨bb, oo, e, hbb, hH⟩ := (HB.out.below HB1.out) (by rw [List.length_take, HM.out] at h1; have := HM.out; omega)
                exact ⟨bb, oo, e, hbb, hH.take q⟩)
              have HQN := Lib.hid (show (p.take q).length = q by rw [List.length_take, HM.out]; have := HJK.out; omega)
              have hqm : q ≤ m := by have := HJK.out; omega
              have HEQ := Lib.hid (fun w' (h : Below W1.heap.size W1 w') => equal_yes B2 B c3 d (p.take q) (p.take q) q q w' rfl HQN.out HQN.out (by omega) (HPT.out.below h) (HBT.out.below h))
              have hbn : Below w.heap.size w W1 := bthen hb HB1.out
              have HXn := Lib.hid (HX.out.below HB1.out)
              have HBn := Lib.hid (HB.out.below HB1.out)
              have hb0 : Below W1.heap.size W1 W1 := Below.refl _ _
              have hb0d : Below W1.heap.size W1 W1.drew := hb0.drew
              have hii : (i : Int) < (k : Int) := by omega
              have hgk := HG.out
              have hw1 : IntKind.i64.wrap ((m : Int) - (k : Int)) = (j : Int) := by rw [show (m : Int) - (k : Int) = (j : Int) by have := HJK.out; omega]; exact wrapI _ (by omega)
              obtain ⟨j1, hj1⟩ : ∃ j1, j + 1 = j1 := ⟨_, rfl⟩
              have hw2 : IntKind.i64.wrap ((j : Int) + 1) = (j1 : Int) := by rw [show (j : Int) + 1 = (j1 : Int) by omega]; exact wrapI _ (by omega)
              have hw3 : IntKind.i64.wrap ((j1 : Int) + (i : Int)) = (q : Int) := by rw [show (j1 : Int) + (i : Int) = (q : Int) by omega]; exact wrapI _ (by omega)
              have hqd : (q : Int) ≤ (d : Int) := by omega
              have hqd2 : q ≤ d := by omega
              have hq0 : (0 : Int) ≤ (q : Int) := by omega
              clear hj1 hq
              have HW1 := Lib.hid hW1
              clear hW1 hsz y0' y1' y2' hbk hPs0 hat hLi
              go_wp2
              rw [HW1.out]
              have y0' := (HKP.out _ hb0d).1
              have y1' := (HKP.out _ hb0d).2.1
              have y2' := (HKP.out _ hb0d).2.2
              clear x0 x1 x2
              go_region_held3 (fun w' => Below W1.heap.size W1 w' ∧ w'.cell? ⟨wr.heap.size, 0, none⟩ = some (.int .i64 2) ∧ w'.cell? ⟨wr.heap.size, 1, none⟩ = some (.slice B2 q c3) ∧ w'.cell? ⟨wr.heap.size, 2, none⟩ = some (.int .i64 0)) (first | ((refine ⟨?_, HKP.out _ ?_⟩) <;> (first | assumption | (refine Below.drew ?_; assumption))) | go_keep) (first | (go_at_call 20; refine (HEQ.out _ (by assumption)).mono ?_; rintro e w' ⟨rfl, hx⟩; have hbx := bthen (show Below W1.heap.size W1 _ by assumption) hx))
              all_goals go_wp2
              all_goals
                go_roundg (k - (i + 1))
                case rel => exact ⟨i + 1, (by show _ = _; omega), by omega, by go_num, bthen hbn hbx, Lib.hid (HXn.out.below hbx), Lib.hid (HBn.out.below hbx)⟩
                case measure => omega
            · have blt : decide ((i : Int) < (k : Int)) = false := decide_eq_false (by omega)
              have blt2 : decide (i < k) = false := decide_eq_false hlt
              go_wp2_with fail
              refine (awake_of E _).mono ?_
              rintro e wz ⟨rfl, hx⟩
              go_wp2
              go_ret
              exact ⟨rfl, bthen hb hx⟩
        · have be : (er != 0) = true := bne_iff_ne.2 h0
          have hut : u = t := HAI.out.err h0
          obtain rfl : nu = n := by rw [← HNU.out, ← HN.out, hut]
          by_cases hR : T.RightT t
          · have HR1 := Lib.hid hR
            have HR2 := Lib.hid (show T.RightT u from hut ▸ hR)
            have HL := Lib.hid (show T.diffL t u = [] from (T.diff_none hR (hut ▸ hR)).2 hut.symm)
            clear h0 hut hR
            go_wp2_with fail
            refine (of_is E A A1 c c1 nu nu 0 t u [] _ HA.out HU.out HR1.out HR2.out HL.out rfl).mono ?_
            rintro e wx4 ⟨A2, c2, rfl, hs4, hn4, hx⟩
            replace hb := bthen hb hx
            clear hx hs4 hn4
            go_wp2_with fail
            refine (awake_of E _).mono ?_
            rintro e wz ⟨rfl, hx⟩
            go_wp2
            go_ret
            exact ⟨rfl, bthen hb hx⟩
          · have HR := Lib.hid (show ¬ (T.RightT t ∧ T.RightT u) from fun h => hR h.1)
            clear h0 hut hR
            go_wp2_with fail
            refine (of_bad E A A1 c c1 nu nu t u _ HA.out HU.out HR.out).mono ?_
            rintro e wx4 ⟨A2, c2, rfl, hx⟩
            replace hb := bthen hb hx
            clear hx
            go_wp2_with fail
            refine (awake_of E _).mono ?_
            rintro e wz ⟨rfl, hx⟩
            go_wp2
            go_ret
            exact ⟨rfl, bthen hb hx⟩
end Go.Proofs.YtgjnafnmdieniaaDoor
