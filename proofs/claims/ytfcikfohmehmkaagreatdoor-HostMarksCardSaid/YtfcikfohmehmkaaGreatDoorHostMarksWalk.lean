/-
  The walk of layer 14's statement HostMarks, from what host does: it returns true whatever comes in. No conditions.
-/
import Derived.Test.YtfcikfohmehmkaaGreatDoorBase14
namespace Go.Proofs.YtfcikfohmehmkaaGreatDoor
open Go.RowKit
set_option linter.unusedVariables false

theorem marks_start {t : List T.Ln} {n : Nat} (hn : t.length = n) : ∀ p, p ∈ ([] : List T.Pth) ↔ ∃ i, n ≤ i ∧ i < t.length ∧ T.pathL t i = p := fun p =>
  ⟨fun h => (by cases h), fun ⟨i, h1, h2, _⟩ => (by omega)⟩
theorem marks_next {t : List T.Ln} {ps : List T.Pth} {i : Nat} (hi : i < t.length) (h : ∀ p, p ∈ ps ↔ ∃ j, i + 1 ≤ j ∧ j < t.length ∧ T.pathL t j = p) : ∀ p, p ∈ ps ++ [T.pathL t i] ↔ ∃ j, i ≤ j ∧ j < t.length ∧ T.pathL t j = p := fun p => by
  rw [List.mem_append, List.mem_singleton, h p]
  constructor
  · rintro (⟨j, h1, h2, e⟩ | e)
    · exact ⟨j, by omega, h2, e⟩
    · exact ⟨i, Nat.le_refl _, hi, e.symm⟩
  · rintro ⟨j, h1, h2, e⟩
    by_cases hj : j = i
    · subst hj; exact .inr e.symm
    · exact .inl ⟨j, by omega, h2, e⟩
theorem marks_add {t u : List T.Ln} (hR : T.RightT t) {ps : List T.Pth} (hu : T.Built ps u) {i : Nat} (hi : i < t.length) (h : ∀ p, p ∈ ps ↔ ∃ j, i + 1 ≤ j ∧ j < t.length ∧ T.pathL t j = p) {p : T.Pth} (hp : T.pathL t i = p) :
    AddIs u p (T.addL u p) 0 ∧ T.Built (ps ++ [p]) (T.addL u p) ∧ (T.addL u p).length ≤ 200 ∧ p.length ≤ 16 := by
  subst hp
  have hw := S.RightN.path_long hR i i (Nat.le_refl _) hi
  have hd := (S.RightN.path_deep hR hi).2
  have h200 := S.built_len hR hu (fun q hq => by obtain ⟨j, _, h2, e⟩ := (h q).1 hq; exact ⟨j, h2, e.symm⟩) ⟨i, hi, rfl⟩
  exact ⟨.inr ⟨⟨List.length_pos_iff.2 T.path_ne, longB_of hw, hu.right⟩, .inr ⟨hd, .inr ⟨h200, rfl, rfl⟩⟩⟩, hu.add hd hw h200, h200, hd⟩
theorem marks_done {t u : List T.Ln} (hR : T.RightT t) {ps : List T.Pth} (hu : T.Built ps u) (h : ∀ p, p ∈ ps ↔ ∃ j, 0 ≤ j ∧ j < t.length ∧ T.pathL t j = p) {L : List H.En} {er : Int} (hI : CompIs t L er) : CompIs u L er := by
  have e := H.built_pths hR hu fun p => (h p).trans ⟨fun ⟨j, _, h2, h3⟩ => ⟨j, h2, h3⟩, fun ⟨j, h2, h3⟩ => ⟨j, Nat.zero_le _, h2, h3⟩⟩
  rcases hI with ⟨_, h1, h2, h3⟩ | ⟨_, h1, h2, h3⟩ | ⟨h1, _⟩
  · exact .inl ⟨hu.right, by rw [e]; exact h1, by rw [H.tables_paths e]; exact h2, h3⟩
  · exact .inr (.inl ⟨hu.right, by rw [e]; exact h1, h2, h3⟩)
  · exact absurd hR h1
set_option maxRecDepth 100000 in
set_option maxHeartbeats 8000000 in
theorem hostMarks_walk (E : HostOk) (AW : ∀ w, RowsOk w → Calls Tryz.prog 10 #[] w (TrueS w)) (w : World) (HTAB : RowsOk w) (A : Option Addr) (c : Nat) (t : List T.Ln) (hc : t.length ≤ c) (hA : Seen eL w A t) (hlA : t.length ≤ maxLen) (hNA : NilOk A c) :
    Calls Tryz.prog 6 #[.slice A t.length c] w (TrueS w) := by
  have TAB := Lib.hid HTAB
  clear HTAB
  unfold maxLen at hlA
  have HSM := Lib.hid (fun w (h : Seen eL w A t) => small_is A c t w h)
  obtain ⟨n, hnA⟩ : ∃ n, t.length = n := ⟨_, rfl⟩
  rw [hnA] at hc hlA HSM ⊢
  have HNA := Lib.hid hnA
  have HA := Lib.hid hA
  have HOA := Lib.hid hNA
  clear hA hnA hNA
  have hb : Below w.heap.size w w := Below.refl _ _
  go_enter Tryz.func6, Tryz.ntmps6
  go_wp2_with fail
  refine (HSM.out _ HA.out).mono ?_
  rintro e wx1 ⟨bs, rfl, hsm, hx⟩
  replace HA := Lib.hid (HA.out.below hx)
  replace hb := bthen hb hx
  clear hx
  cases bs with
  | false =>
    clear hsm
    go_wp2_with fail
    refine (AW _ (rowsAt TAB hb)).mono ?_
    rintro e wz ⟨rfl, hx⟩
    go_wp2
    go_ret
    exact ⟨rfl, bthen hb hx⟩
  | true =>
  clear hsm
  by_cases h60 : n ≤ 60
  · have b1 : decide ((n : Int) > 60) = false := decide_eq_false (by omega)
    have b2 : decide ((60 : Int) < (n : Int)) = false := decide_eq_false (by omega)
    have b3 : decide (60 < n) = false := decide_eq_false (by omega)
    replace HA := Lib.hid (LArgS.mk HNA.out (by omega) hc HOA.out HA.out)
    by_cases hR : T.RightT t
    · have HR := Lib.hid hR
      clear hR
      go_wp2_with fail
      refine (right13 A c n t true _ HNA.out HA.out.seen (by omega) (yes_iff HR.out)).mono ?_
      rintro e wx2 ⟨rfl, hx⟩
      replace HA := Lib.hid (HA.out.below hx)
      replace hb := bthen hb hx
      clear hx b1 b2 b3
      go_wp2
      go_loopg [3, 4, 5, 6] n (fun gk vu vi vv ve wr => ∃ (ps : List T.Pth) (u : List T.Ln) (q d : Nat) (B : Option Addr) (z : Int), vi = .int .i64 z ∧ Hid (z + 1 = (gk : Int)) ∧ gk ≤ n ∧ vu = .slice B q d ∧ Hid (T.Built ps u) ∧ Hid (∀ p, p ∈ ps ↔ ∃ i, gk ≤ i ∧ i < t.length ∧ T.pathL t i = p) ∧ Hid (LArgS wr B d q u) ∧ Below w.heap.size w wr ∧ Hid (LArgS wr A c n t))
      case atStart => exact ⟨[], [], 0, 0, none, (n : Int) - 1, by go_num, (by show _ = _; omega), Nat.le_refl _, rfl, T.Built.nil, marks_start HNA.out, ⟨rfl, by omega, by omega, (by intro _; rfl), Seen.nil⟩, hb, HA⟩
      case round =>
        obtain ⟨ps, u, q, d, B, z, rfl, HZ, hgn, rfl, HBU, HPS, HU, hbr, HAR⟩ := hrel
        by_cases h0 : gk = 0
        · have hz := HZ.out
          have z1 : decide (z ≥ 0) = false := decide_eq_false (by omega)
          have z2 : decide (0 ≤ z) = false := decide_eq_false (by omega)
          obtain ⟨L, er, hI⟩ := comp_ex t
          have HI := Lib.hid hI
          obtain ⟨m, hm⟩ : ∃ m, L.length = m := ⟨_, rfl⟩
          have HM := Lib.hid hm
          have hmm : m ≤ 32040000 := by rw [← hm]; exact comp_few hI (by have := HNA.out; omega)
          have HI2 := Lib.hid (show CompIs u L er from marks_done HR.out HBU.out (by have := HPS.out; rw [h0] at this; exact this) hI)
          have ber : (er == er) = true := by simp
          clear hI hm hz h0
          go_wp2_with fail
          refine (E.compileOf A c n m t L er _ HAR.out HI.out HM.out (rowsAt TAB (by first | assumption | exact Below.refl _ _ | exact Hid.out (by assumption) | exact bthen (by assumption) (by assumption) | exact bthen (Hid.out (by assumption)) (by assumption) | exact below_drawn13 (by first | assumption | exact Below.refl _ _ | exact Hid.out (by assumption)) _))).mono ?_
          rintro e wx3 ⟨B3, d3, rfl, hd3, hs, hx⟩
          replace HU := Lib.hid (HU.out.below hx)
          have hb3 := bthen hbr hx
          have HS := Lib.hid hs
          clear hx hs
          go_wp2_with fail
          refine (E.compileOf B d q m u L er _ HU.out HI2.out HM.out (rowsAt TAB (by first | assumption | exact Below.refl _ _ | exact Hid.out (by assumption) | exact bthen (by assumption) (by assumption) | exact bthen (Hid.out (by assumption)) (by assumption) | exact below_drawn13 (by first | assumption | exact Below.refl _ _ | exact Hid.out (by assumption)) _))).mono ?_
          rintro e wx4 ⟨B4, d4, rfl, hd4, hs, hx⟩
          replace HS := Lib.hid (HS.out.below hx)
          have hb4 := bthen hb3 hx
          have HS4 := Lib.hid hs
          clear hx hs
          go_wp2_with fail
          refine (refs14 B3 d3 m L _ HM.out (by omega) HS.out).mono ?_
          rintro e wx6 ⟨B6, d6, rfl, hd6, hs6, hx⟩
          replace HS4 := Lib.hid (HS4.out.below hx)
          have HS6 := Lib.hid hs6
          have hb6 := bthen hb4 hx
          clear hx hs6
          go_wp2_with fail
          refine (refs14 B4 d4 m L _ HM.out (by omega) HS4.out).mono ?_
          rintro e wx7 ⟨B7, d7, rfl, hd7, hs7, hx⟩
          replace HS6 := Lib.hid (HS6.out.below hx)
          have HS7 := Lib.hid hs7
          have hb7 := bthen hb6 hx
          clear hx hs7
          go_wp2_with fail
          refine (sameR14 B6 B7 d6 d7 m L _ HM.out (by omega) HS6.out HS7.out).mono ?_
          rintro e wx8 ⟨rfl, hx⟩
          have hb8 := bthen hb7 hx
          clear hx
          go_wp2_with fail
          refine (AW _ (rowsAt TAB hb8)).mono ?_
          rintro e wz ⟨rfl, hx⟩
          go_wp2
          go_ret
          exact ⟨rfl, bthen hb8 hx⟩
        · obtain ⟨i, rfl⟩ : ∃ i : Nat, z = (i : Int) := ⟨z.toNat, by have := HZ.out; omega⟩
          have hgi : gk = i + 1 := by have := HZ.out; omega
          subst hgi
          have z1 : decide ((i : Int) ≥ 0) = true := decide_eq_true (by omega)
          have z2 : decide ((0 : Int) ≤ (i : Int)) = true := decide_eq_true (by omega)
          have hin : i < n := by omega
          have hil : i < t.length := by have := HNA.out; omega
          obtain ⟨p, hp⟩ : ∃ p, T.pathL t i = p := ⟨_, rfl⟩
          have HP := Lib.hid hp
          obtain ⟨mp, hmp⟩ : ∃ mp, p.length = mp := ⟨_, rfl⟩
          have HMP := Lib.hid hmp
          obtain ⟨ha1, ha2, ha3, ha4⟩ := marks_add HR.out HBU.out hil HPS.out hp
          have HAI := Lib.hid ha1
          have HB2 := Lib.hid ha2
          have HPX := Lib.hid (show ∀ r, r ∈ ps ++ [p] ↔ ∃ j, i ≤ j ∧ j < t.length ∧ T.pathL t j = r by rw [← hp]; exact marks_next hil HPS.out)
          obtain ⟨q2, hq2⟩ : ∃ q2, (T.addL u p).length = q2 := ⟨_, rfl⟩
          have HQ2 := Lib.hid hq2
          have hq200 : q2 ≤ 200 := by omega
          have hmp16 : mp ≤ 16 := by omega
          clear ha1 ha2 ha3 ha4 hp hmp hq2 hil h0
          go_wp2_with fail
          refine (pathN13 A c n t i _ HNA.out HAR.out.seen hin (by omega) HR.out).mono ?_
          rintro e wx3 ⟨B3, d3, rfl, hd3, hs3, _, hx⟩
          rw [HP.out] at hd3 hs3 ⊢
          rw [HMP.out] at hd3 ⊢
          replace HU := Lib.hid (HU.out.below hx)
          replace HAR := Lib.hid (HAR.out.below hx)
          have HS3 := Lib.hid hs3
          have hb3 := bthen hbr hx
          clear hx hs3
          go_wp2_with fail
          refine (lines_add B B3 d d3 q mp u (T.addL u p) p 0 _ HU.out.len HMP.out HU.out.seen HS3.out HU.out.nil HU.out.cap hd3 HU.out.small (by omega) HAI.out).mono ?_
          rintro e wx4 ⟨v4, rfl, hown, hx⟩
          obtain ⟨B4, d4, rfl, hla⟩ := own_arg hown HQ2.out hq200
          replace HAR := Lib.hid (HAR.out.below hx)
          have HLA := Lib.hid hla
          have hb4 := bthen hb3 hx
          clear hx hown hla
          go_wp2
          go_roundg i
          case rel => exact ⟨ps ++ [p], T.addL u p, q2, d4, B4, (i : Int) - 1, by go_num, (by show _ = _; omega), by omega, rfl, HB2, HPX, HLA, hb4, HAR⟩
          case measure => omega
    · have HR := Lib.hid hR
      clear hR
      go_wp2_with fail
      refine (right13 A c n t false _ HNA.out HA.out.seen (by omega) (no_iff HR.out)).mono ?_
      rintro e wx4 ⟨rfl, hx⟩
      replace hb := bthen hb hx
      clear hx
      go_wp2_with fail
      refine (AW _ (rowsAt TAB hb)).mono ?_
      rintro e wz ⟨rfl, hx⟩
      go_wp2
      go_ret
      exact ⟨rfl, bthen hb hx⟩
  · have b1 : decide ((n : Int) > 60) = true := decide_eq_true (by omega)
    have b2 : decide ((60 : Int) < (n : Int)) = true := decide_eq_true (by omega)
    have b3 : decide (60 < n) = true := decide_eq_true (by omega)
    go_wp2_with fail
    refine (AW _ (rowsAt TAB hb)).mono ?_
    rintro e wz ⟨rfl, hx⟩
    go_wp2
    go_ret
    exact ⟨rfl, bthen hb hx⟩
end Go.Proofs.YtfcikfohmehmkaaGreatDoor
