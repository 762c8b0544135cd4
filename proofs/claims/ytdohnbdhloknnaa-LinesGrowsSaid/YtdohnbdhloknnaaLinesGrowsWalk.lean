/-
  The walk of layer 6's statement LinesGrows: it returns true whatever the lines and the path are. No conditions.
-/
import Derived.Test.YtdohnbdhloknnaaLinesAwake
import Derived.Test.YtdohnbdhloknnaaLinesR
namespace Go.Proofs.Ytdohnbdhloknnaa
open Go.RowKit
set_option linter.unusedVariables false

/-- Each line that was there is there, as it was. -/
theorem grow_keeps {t u : List T.Ln} {p : T.Pth} (h : T.RightT t) (hp : p.length ≤ 16) (hw : ∀ w ∈ p, w.length ≤ 40) (hu : T.RightT u) (e : u = T.addL t p) : ∀ k, k < t.length → ∃ j, j < u.length ∧ T.pathL u j = T.pathL t k ∧ T.at_ u j = T.at_ t k := by
  intro k hk
  obtain ⟨j, hj, e1, e2⟩ := T.add_keeps h hp hw hk
  rw [← e] at hj e1 e2
  refine ⟨j, hj, e1, ?_⟩
  have l1 := hu.path_len j j (Nat.le_refl _) hj
  have l2 := h.path_len k k (Nat.le_refl _) hk
  rw [e1] at l1
  have hd : T.dp u j = T.dp t k := by omega
  have hw2 : T.wd u j = T.wd t k := by
    have e3 := e1
    rw [T.path_under u j, T.path_under t k] at e3
    obtain ⟨_, e4⟩ := List.append_inj' e3 rfl
    simpa using e4
  exact ln_ext hd hw2 e2
set_option maxRecDepth 100000 in
set_option maxHeartbeats 2000000 in
theorem linesGrows_walk (w : World) (A : Option Addr) (c : Nat) (t : List T.Ln) (hc : t.length ≤ c) (hA : Seen eL w A t) (hl : t.length ≤ maxLen) (nk : NilOk A c) (B : Option Addr) (n d : Nat) (xs : List ByteArray) (g1 : HoldsS w B n xs) (gn1 : n ≤ maxLen) (gs1 : ∀ x ∈ xs, x.size ≤ maxLen) (hd : n ≤ d) :
    Calls Try.prog 7 #[.slice A t.length c, .slice B n d] w (TrueS w) := by
  obtain ⟨p, rfl, hB⟩ := seen_strs g1
  unfold maxLen at hl gn1
  obtain ⟨u, er, hai⟩ := add_is t p
  have HAI := Lib.hid hai
  have HA := Lib.hid hA
  have HB := Lib.hid hB
  have HNK := Lib.hid nk
  clear hA hB g1 hai nk gs1
  have hb : Below w.heap.size w w := Below.refl _ _
  go_enter Try.func7, Try.ntmps7
  go_wp2_with fail
  refine (small_is A c t _ HA.out).mono ?_
  rintro e wx1 ⟨bs, rfl, hsm, hx⟩
  replace HA := Lib.hid (HA.out.below hx)
  replace HB := Lib.hid (HB.out.below hx)
  replace hb := bthen hb hx
  clear hx
  cases bs with
  | false =>
    clear hsm
    go_wp2_with fail
    refine (awake_any _).mono ?_
    rintro e wz ⟨rfl, hx⟩
    go_wp2
    go_ret
    exact ⟨rfl, bthen hb hx⟩
  | true =>
    replace hsm := hsm rfl
    have hll : t.length ≤ 1073741824 := by omega
    by_cases h60 : 60 < t.length
    · have b60 : decide ((60 : Int) < (t.length : Int)) = true := decide_eq_true (by omega)
      have b61 : decide (60 < t.length) = true := decide_eq_true h60
      go_wp2_with fail
      refine (awake_any _).mono ?_
      rintro e wz ⟨rfl, hx⟩
      go_wp2
      go_ret
      exact ⟨rfl, bthen hb hx⟩
    · have b60 : decide ((60 : Int) < (t.length : Int)) = false := decide_eq_false (by omega)
      have b61 : decide (60 < t.length) = false := decide_eq_false h60
      replace h60 : t.length ≤ 60 := by omega
      go_wp2_with fail
      refine (short_any B d p _ HB.out).mono ?_
      rintro e wx2 ⟨bs, rfl, hsp, hx⟩
      replace HA := Lib.hid (HA.out.below hx)
      replace HB := Lib.hid (HB.out.below hx)
      replace hb := bthen hb hx
      clear hx
      cases bs with
      | false =>
        clear hsp
        go_wp2_with fail
        refine (awake_any _).mono ?_
        rintro e wz ⟨rfl, hx⟩
        go_wp2
        go_ret
        exact ⟨rfl, bthen hb hx⟩
      | true =>
        replace hsp := hsp rfl
        have hpl : p.length ≤ 1073741824 := by omega
        have hul := HAI.out.len hsm
        by_cases h0 : er = 0
        · subst h0
          obtain ⟨z1, z2, z3, z4, z5, z6, z7⟩ := HAI.out.zero
          have hadd := T.add_is z3 z4 z2
          have htw := T.add_twice z3 z4 z2
          have hai2 := AddIs.ok z1 z2 z7 z4 (by rw [z6, htw]; exact z5)
          rw [z6, htw, ← z6] at hai2
          obtain ⟨i0, hi0, hp0⟩ := T.add_there z3 z4 z2 (List.length_pos_iff.1 z1)
          have hgr := hadd.grows
          have hle := hadd.len
          rw [← z6] at hi0 hp0 hgr hle
          have HKP := Lib.hid (grow_keeps z3 z4 z2 z7 z6)
          have HAI2 := Lib.hid hai2
          have HRT := Lib.hid z3
          have HRU := Lib.hid z7
          have HP0 := Lib.hid hp0
          have b1 : decide ((u.length : Int) < (t.length : Int)) = false := decide_eq_false (by omega)
          have b2 : decide (u.length < t.length) = false := decide_eq_false (by omega)
          have b3 : decide ((t.length : Int) + (p.length : Int) < (u.length : Int)) = false := decide_eq_false (by omega)
          have b4 : decide (t.length + p.length < u.length) = false := decide_eq_false (by omega)
          have hull : u.length ≤ 1073741824 := by omega
          clear z1 z2 z3 z5 z6 z7 hadd htw hai2 hp0 hgr hle
          go_wp2_with fail
          refine (lines_add A B c d t.length p.length t u p 0 _ rfl rfl HA.out HB.out HNK.out hc hd hll hpl HAI.out).mono ?_
          rintro e wx3 ⟨v1, rfl, ho1, hx⟩
          replace HA := Lib.hid (HA.out.below hx)
          replace HB := Lib.hid (HB.out.below hx)
          replace hb := bthen hb hx
          clear hx
          obtain ⟨A1, c1, e, hc1, hs1⟩ := ho1.seen
          subst e
          have HNK1 := Lib.hid ho1.nilOk
          have HU := Lib.hid hs1
          clear ho1 hs1
          go_wp2_with fail
          refine (lines_add A1 B c1 d u.length p.length u u p 0 _ rfl rfl HU.out HB.out HNK1.out hc1 hd hull hpl HAI2.out).mono ?_
          rintro e wx4 ⟨v2, rfl, ho2, hx⟩
          replace HA := Lib.hid (HA.out.below hx)
          replace HB := Lib.hid (HB.out.below hx)
          replace HU := Lib.hid (HU.out.below hx)
          replace hb := bthen hb hx
          clear hx
          obtain ⟨A2, c2, e, hc2, hs2⟩ := ho2.seen
          subst e
          have HV := Lib.hid hs2
          clear ho2 hs2
          go_wp2_with fail
          refine (find_some A1 B c1 d u i0 p _ HU.out HB.out hull hpl HRU.out hi0 HP0.out).mono ?_
          rintro e wx5 ⟨rfl, hx⟩
          replace HA := Lib.hid (HA.out.below hx)
          replace HB := Lib.hid (HB.out.below hx)
          replace HU := Lib.hid (HU.out.below hx)
          replace HV := Lib.hid (HV.out.below hx)
          replace hb := bthen hb hx
          clear hx
          go_wp2_with fail
          refine (same_any A1 A2 c1 c2 u u _ true (yes_iff rfl) hull HU.out HV.out).mono ?_
          rintro e wx6 ⟨rfl, hx⟩
          replace HA := Lib.hid (HA.out.below hx)
          replace HB := Lib.hid (HB.out.below hx)
          replace HU := Lib.hid (HU.out.below hx)
          replace HV := Lib.hid (HV.out.below hx)
          replace hb := bthen hb hx
          clear hx
          go_wp2_with fail
          refine (right_is A1 c1 u true _ HU.out hull (yes_iff HRU.out)).mono ?_
          rintro e wx7 ⟨rfl, hx⟩
          replace HA := Lib.hid (HA.out.below hx)
          replace HB := Lib.hid (HB.out.below hx)
          replace HU := Lib.hid (HU.out.below hx)
          replace HV := Lib.hid (HV.out.below hx)
          replace hb := bthen hb hx
          clear hx
          go_wp2
          go_loopg [93] t.length (fun gk x wr => ∃ k : Nat, Hid (k + gk = t.length) ∧ k ≤ t.length ∧ x = .int .i64 k ∧ Below w.heap.size w wr ∧ Hid (Seen eL wr A t) ∧ Hid (Seen eL wr A1 u))
          case atStart => exact ⟨0, Nat.zero_add _, Nat.zero_le _, rfl, hb, HA, HU⟩
          case round =>
            obtain ⟨k, HG, hk, rfl, hb, HA, HU⟩ := hrel
            by_cases hlt : k < t.length
            · have blt : decide (k < t.length) = true := decide_eq_true hlt
              obtain ⟨b, o, rfl, hbw, hH⟩ := HA.out.lines (by omega)
              obtain ⟨c0, c1', c2'⟩ := hH.line hlt
              obtain ⟨j, hj, hjp, hjl⟩ := HKP.out k hlt
              obtain ⟨dd, hd'⟩ : ∃ dd, T.dp t k = dd := ⟨_, rfl⟩
              obtain ⟨y, hy⟩ : ∃ y, T.wd t k = y := ⟨_, rfl⟩
              obtain ⟨m2, hm2⟩ : ∃ m2, (T.at_ t k).mark = m2 := ⟨_, rfl⟩
              obtain ⟨P, hP⟩ : ∃ P, T.pathL t k = P := ⟨_, rfl⟩
              have hPl : P.length ≤ 16 := by rw [← hP]; exact (S.RightN.path_deep HRT.out hlt).2
              have hjd : T.dp u j = dd := by rw [← hd']; unfold T.dp; rw [hjl]
              have hjw : T.wd u j = y := by rw [← hy]; unfold T.wd; rw [hjl]
              have hjm : (T.at_ u j).mark = m2 := by rw [← hm2, hjl]
              rw [hP] at hjp
              rw [hd'] at c0
              rw [hy] at c1'
              rw [hm2] at c2'
              have HP := Lib.hid hP
              have HJP := Lib.hid hjp
              have HJD := Lib.hid hjd
              have HJW := Lib.hid hjw
              have HJM := Lib.hid hjm
              have HX := Lib.hid (LineAt.new wr ⟨dd, y, m2⟩)
              have HBA := Lib.hid (hb.alloc hb.size (lnO ⟨dd, y, m2⟩))
              have HAA := Lib.hid (HA.out.below (up wr (lnO ⟨dd, y, m2⟩)))
              have HUA := Lib.hid (HU.out.below (up wr (lnO ⟨dd, y, m2⟩)))
              have hgk := HG.out
              simp only [lnO] at HX HBA HAA HUA
              clear hH hd' hy hm2 hP hjp hjl hjd hjw hjm hb
              go_wp2_with fail
              refine (Path_is _ c t k P _ HAA.out hll hlt HRT.out HP.out).mono ?_
              rintro e w5 ⟨B5, c5, rfl, hc5, hs5, hx⟩
              have HX5 := Lib.hid (HX.out.below hx)
              have HB5 := Lib.hid (bthen HBA.out hx)
              have HA5 := Lib.hid (HAA.out.below hx)
              have HU5 := Lib.hid (HUA.out.below hx)
              have HS5 := Lib.hid hs5
              clear hx hs5
              go_wp2_with fail
              refine (find_some A1 B5 _ c5 u j P _ HU5.out HS5.out hull (by omega) HRU.out hj HJP.out).mono ?_
              rintro e w6 ⟨rfl, hx⟩
              have HX6 := Lib.hid (HX5.out.below hx)
              have HB6 := Lib.hid (bthen HB5.out hx)
              have HA6 := Lib.hid (HA5.out.below hx)
              have HU6 := Lib.hid (HU5.out.below hx)
              clear hx c0 c1' c2'
              obtain ⟨c0, c1', c2'⟩ := HX6.out.cells
              simp only [] at c0 c1' c2'
              obtain ⟨bu, ou, rfl, hbu, hHu⟩ := HU6.out.lines (by omega)
              obtain ⟨u0, u1, u2⟩ := hHu.line hj
              rw [HJD.out] at u0
              rw [HJW.out] at u1
              rw [HJM.out] at u2
              have hju : (j : Int) < (u.length : Int) := by omega
              clear hHu
              go_wp2
              go_region
              go_wp2
              go_roundg (t.length - (k + 1))
              case rel => exact ⟨k + 1, (by show _ = _; omega), by omega, by go_num, HB6.out.drew, Lib.hid (HA6.out.below ((Below.refl _ _).drew)), Lib.hid (HU6.out.below ((Below.refl _ _).drew))⟩
              case measure => omega
            · have blt : decide (k < t.length) = false := decide_eq_false hlt
              go_wp2_with fail
              refine (awake_any _).mono ?_
              rintro e wz ⟨rfl, hx⟩
              go_wp2
              go_ret
              exact ⟨rfl, bthen hb hx⟩
        · have b0 : (er != 0) = true := bne_iff_ne.2 h0
          have hut := HAI.out.err h0
          subst hut
          go_wp2_with fail
          refine (lines_add A B c d u.length p.length u u p er _ rfl rfl HA.out HB.out HNK.out hc hd hll hpl HAI.out).mono ?_
          rintro e wx3 ⟨v1, rfl, ho1, hx⟩
          replace HA := Lib.hid (HA.out.below hx)
          replace HB := Lib.hid (HB.out.below hx)
          replace hb := bthen hb hx
          clear hx
          obtain ⟨A1, c1, e, hc1, hs1⟩ := ho1.seen
          subst e
          have HU := Lib.hid hs1
          clear ho1 hs1
          go_wp2_with fail
          refine (same_any A A1 c c1 u u _ true (yes_iff rfl) hll HA.out HU.out).mono ?_
          rintro e wx4 ⟨rfl, hx⟩
          replace HA := Lib.hid (HA.out.below hx)
          replace HB := Lib.hid (HB.out.below hx)
          replace HU := Lib.hid (HU.out.below hx)
          replace hb := bthen hb hx
          clear hx
          go_wp2_with fail
          refine (awake_any _).mono ?_
          rintro e wz ⟨rfl, hx⟩
          go_wp2
          go_ret
          exact ⟨rfl, bthen hb hx⟩
end Go.Proofs.Ytdohnbdhloknnaa
