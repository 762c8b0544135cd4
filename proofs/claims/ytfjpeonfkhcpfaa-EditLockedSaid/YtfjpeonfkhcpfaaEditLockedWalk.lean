/-
  The walk of layer 7's statement EditLocked, from what edit's functions do: it returns true whatever the lines and the act are. No conditions.
-/
import Derived.Test.YtfjpeonfkhcpfaaEditExactWalk
import Derived.Test.YtfjpeonfkhcpfaaEditGoneWalk
import Derived.Deep.RegionHeld3
namespace Go.Proofs.Ytfjpeonfkhcpfaa
open Go.RowKit
set_option linter.unusedVariables false
set_option linter.unusedSimpArgs false

open Go.Region in
/-- 'wpAnyH_take', the operation's own slot named. -/
theorem takeD {P : Program} {ops : Array Oper} {Q : Exit → Act → World → Prop} {md : Region.Mode} {S : World → Prop} {i : Nat} {oi : Oper} {v : Value} {d : Option Nat} {fuel : Nat} {listed : Array Bool} {a : Act} {w : World} (hi : ops[i]? = some oi) (hd : oi.dst = d)
    (hs : Region.noSelect ops = true) (hf : free md ops listed i = true) (hr : (Region.ready md ops listed).contains i = true)
    (hQ : ∀ c a w, Q (.panic c) (a.put d v) w → Q (.panic c) a w) (hy : YieldsIf P ops S oi v a) (hS : S w)
    (h : wpAnyH P md ops Q S fuel (listed.setIfInBounds i true) (a.put d v) w) : wpAnyH P md ops Q S (fuel + 1) listed a w := by
  subst hd; exact wpAnyH_take hi hs hf hr hQ hy hS h
set_option maxRecDepth 100000 in
set_option maxHeartbeats 4000000 in
theorem editLocked_walk (E : EditOk) (w : World) (A : Option Addr) (c : Nat) (t : List T.Ln) (hc : t.length ≤ c) (hA : Seen eL w A t) (hl : t.length ≤ maxLen) (nk : NilOk A c) (k bit : Int) (B : Option Addr) (n d : Nat) (p : T.Pth) (hn : p.length = n) (hB : Seen eS w B p) (hd : n ≤ d) (gn1 : n ≤ maxLen) (wd : List UInt8) :
    Calls Try.prog 5 #[.slice A t.length c, .agg #[.int .i64 k, .slice B n d, .int .i64 bit, .string (sB wd)]] w (TrueS w) := by
  unfold maxLen at hl gn1
  have hb := (Below.refl w.heap.size w).alloc (Nat.le_refl _) (actO k B n d bit wd)
  have HA := Lib.hid (hA.below hb)
  have HB := Lib.hid (hB.below hb)
  have HX := Lib.hid (ActAt.new w k B n d bit wd)
  have HNK := Lib.hid nk
  have HNP := Lib.hid hn
  clear hA hB nk hn
  obtain ⟨u, er, hai⟩ := act_is t k p bit wd
  have HAI := Lib.hid hai
  clear hai
  obtain ⟨x0, x1, x2, x3⟩ := HX.out.cells
  simp only [actO] at HA HB HX hb x0 x1 x2 x3
  go_enter Try.func5, Try.ntmps5
  go_wp2_with fail
  refine (small_is A c t _ HA.out).mono ?_
  rintro e wx1 ⟨bs, rfl, hsm, hx⟩
  replace HA := Lib.hid (HA.out.below hx)
  replace HB := Lib.hid (HB.out.below hx)
  replace HX := Lib.hid (HX.out.below hx)
  replace hb := bthen hb hx
  clear hx
  clear x0 x1 x2 x3
  obtain ⟨x0, x1, x2, x3⟩ := HX.out.cells
  cases bs with
  | false =>
    clear hsm
    go_wp2_with fail
    refine (awake_of E _).mono ?_
    rintro e wz ⟨rfl, hx⟩
    go_wp2
    go_ret
    exact ⟨rfl, bthen hb hx⟩
  | true =>
    replace hsm := hsm rfl
    have hll : t.length ≤ 1073741824 := by omega
    by_cases h60 : 60 < t.length
    · have b60 : decide ((60 : Int) < (t.length : Int)) = true := decide_eq_true (by omega)
      have b61 : decide (60 < t.length) = true := decide_eq_true h60
      go_wp2_with fail
      refine (awake_of E _).mono ?_
      rintro e wz ⟨rfl, hx⟩
      go_wp2
      go_ret
      exact ⟨rfl, bthen hb hx⟩
    · have b60 : decide ((60 : Int) < (t.length : Int)) = false := decide_eq_false (by omega)
      have b61 : decide (60 < t.length) = false := decide_eq_false h60
      replace h60 : t.length ≤ 60 := by omega
      by_cases hR : T.RightT t
      · have HR := Lib.hid hR
        clear hR
        go_wp2_with fail
        refine (rightR_is A c t true _ HA.out hll (yes_iff HR.out)).mono ?_
        rintro e wx2 ⟨rfl, hx⟩
        replace HA := Lib.hid (HA.out.below hx)
        replace HB := Lib.hid (HB.out.below hx)
        replace HX := Lib.hid (HX.out.below hx)
        replace hb := bthen hb hx
        clear hx
        clear x0 x1 x2 x3
        obtain ⟨x0, x1, x2, x3⟩ := HX.out.cells
        go_wp2_with fail
        refine (shortN B d n p _ HNP.out HB.out).mono ?_
        rintro e wx3 ⟨bs, rfl, hsp, hx⟩
        replace HA := Lib.hid (HA.out.below hx)
        replace HB := Lib.hid (HB.out.below hx)
        replace HX := Lib.hid (HX.out.below hx)
        replace hb := bthen hb hx
        clear hx
        clear x0 x1 x2 x3
        obtain ⟨x0, x1, x2, x3⟩ := HX.out.cells
        cases bs with
        | false =>
          clear hsp
          go_wp2_with fail
          refine (awake_of E _).mono ?_
          rintro e wz ⟨rfl, hx⟩
          go_wp2
          go_ret
          exact ⟨rfl, bthen hb hx⟩
        | true =>
          replace hsp := hsp rfl
          have hpl : n ≤ 1073741824 := by omega
          by_cases h100 : 100 < (sB wd).size
          · have b100 : decide ((100 : Int) < ((sB wd).size : Int)) = true := decide_eq_true (by omega)
            go_wp2_with fail
            refine (awake_of E _).mono ?_
            rintro e wz ⟨rfl, hx⟩
            go_wp2
            go_ret
            exact ⟨rfl, bthen hb hx⟩
          · have b100 : decide ((100 : Int) < ((sB wd).size : Int)) = false := decide_eq_false (by omega)
            clear h100
            have hru := HAI.out.right HR.out
            have HRU := Lib.hid hru
            have hul : u.length ≤ 200 := hru.len
            have hull : u.length ≤ 1073741824 := by omega
            clear hru
            go_wp2_with fail
            refine (do_edit E A B c d t.length n t u p k bit er wd _ ⟨rfl, HNP.out, HA.out, HB.out, HNK.out, hc, hd, hll, hpl⟩ HAI.out).mono ?_
            rintro e wx4 ⟨A1, c1, rfl, hs1, _, _, hx⟩
            replace HA := Lib.hid (HA.out.below hx)
            replace HB := Lib.hid (HB.out.below hx)
            replace HX := Lib.hid (HX.out.below hx)
            have HU := Lib.hid (hs1)
            replace hb := bthen hb hx
            clear hx
            clear x0 x1 x2 x3
            obtain ⟨x0, x1, x2, x3⟩ := HX.out.cells
            clear hs1
            clear x0 x1 x2 x3 HX HB
            skip
            go_wp2
            go_loopg [46] t.length (fun gk x wr => ∃ k : Nat, Hid (k + gk = t.length) ∧ k ≤ t.length ∧ x = .int .i64 k ∧ Below w.heap.size w wr ∧ Hid (Seen eL wr A t) ∧ Hid (Seen eL wr A1 u))
            case atStart => exact ⟨0, Nat.zero_add _, Nat.zero_le _, rfl, hb, HA, HU⟩
            case round =>
              obtain ⟨k, HG, hk, rfl, hb, HA, HU⟩ := hrel
              by_cases hlt : k < t.length
              · have blt : decide (k < t.length) = true := decide_eq_true hlt
                obtain ⟨b, o, rfl, hbw, hH⟩ := HA.out.lines (by omega)
                obtain ⟨c0, c1', c2'⟩ := hH.line hlt
                obtain ⟨dd, hd'⟩ : ∃ dd, T.dp t k = dd := ⟨_, rfl⟩
                obtain ⟨y, hy⟩ : ∃ y, T.wd t k = y := ⟨_, rfl⟩
                obtain ⟨m2, hm2⟩ : ∃ m2, (T.at_ t k).mark = m2 := ⟨_, rfl⟩
                obtain ⟨P, hP⟩ : ∃ P, T.pathL t k = P := ⟨_, rfl⟩
                have hPl : P.length ≤ 16 := by rw [← hP]; exact (S.RightN.path_deep HR.out hlt).2
                have hPne : 0 < P.length := by rw [← hP]; exact List.length_pos_iff.2 T.path_ne
                obtain ⟨NP, hNP⟩ : ∃ NP, P.length = NP := ⟨_, rfl⟩
                have hst : T.Kept t P NP → ∃ j, j < u.length ∧ T.pathL u j = P ∧ T.dp u j = dd ∧ T.wd u j = y ∧ Int.tmod (T.at_ u j).mark 2 = Int.tmod m2 2 ∧ (T.Kept t P (NP - 1) → (T.at_ u j).mark = m2) := fun hkp => by
                  obtain ⟨j, h1, h2, h3, h4⟩ := HAI.out.stays hlt (by rw [hP, hNP]; exact hkp)
                  have e3 := same_line HR.out HRU.out hlt h1 h2
                  rw [hP, hNP] at h4
                  exact ⟨j, h1, by rw [h2, hP], by rw [← hd']; exact e3.1, by rw [← hy]; exact e3.2, by rw [h3, hm2], fun h => by rw [h4 h, hm2]⟩
                rw [hd'] at c0
                rw [hy] at c1'
                rw [hm2] at c2'
                obtain ⟨kb, hkb⟩ : ∃ kb, T.keptL t P NP = kb := ⟨_, rfl⟩
                obtain ⟨ka, hka⟩ : ∃ ka, T.keptL t P (NP - 1) = ka := ⟨_, rfl⟩
                have HLB := Lib.hid (show kb = true ↔ T.RightT t ∧ T.Kept t P P.length by rw [hNP, ← hkb]; exact ⟨fun h => ⟨HR.out, (kept_yes HR.out _ _).1 h⟩, fun h => (kept_yes HR.out _ _).2 h.2⟩)
                have HLA := Lib.hid (show ka = true ↔ T.RightT t ∧ T.Kept t P (P.length - 1) by rw [hNP, ← hka]; exact ⟨fun h => ⟨HR.out, (kept_yes HR.out _ _).1 h⟩, fun h => (kept_yes HR.out _ _).2 h.2⟩)
                have HKB := Lib.hid hkb
                have HKA := Lib.hid hka
                have HP := Lib.hid hP
                have HX := Lib.hid (LineAt.new wr ⟨dd, y, m2⟩)
                have HBA := Lib.hid (hb.alloc hb.size (lnO ⟨dd, y, m2⟩))
                have HAA := Lib.hid (HA.out.below (up wr (lnO ⟨dd, y, m2⟩)))
                have HUA := Lib.hid (HU.out.below (up wr (lnO ⟨dd, y, m2⟩)))
                have hgk := HG.out
                simp only [lnO] at HX HBA HAA HUA
                have HST := Lib.hid hst
                rw [hNP] at hPl hPne
                have HPN := Lib.hid hNP
                clear hH hd' hy hm2 hP hst hb hNP hkb hka
                go_wp2_with fail
                refine (refPathN_is _ c t.length k t _ rfl HAA.out hll hlt HR.out P NP HP.out HPN.out).mono ?_
                rintro e w5 ⟨B5, c5, rfl, hc5, hs5, hx⟩
                have HX5 := Lib.hid (HX.out.below hx)
                have HB5 := Lib.hid (bthen HBA.out hx)
                have HA5 := Lib.hid (HAA.out.below hx)
                have HU5 := Lib.hid (HUA.out.below hx)
                have HP5 := Lib.hid hs5
                clear hx hs5
                go_wp2_with fail
                refine (E.locked _ B5 c c5 t.length NP t P kb _ ⟨rfl, HPN.out, HA5.out, HP5.out, HNK.out, hc, hc5, hll, by omega⟩ HLB.out).mono ?_
                rintro e w6 ⟨rfl, hx⟩
                have HX6 := Lib.hid (HX5.out.below hx)
                have HB6 := Lib.hid (bthen HB5.out hx)
                have HA6 := Lib.hid (HA5.out.below hx)
                have HU6 := Lib.hid (HU5.out.below hx)
                have HP6 := Lib.hid (HP5.out.below hx)
                clear hx
                cases kb with
                | false =>
                  go_wp2
                  go_roundg (t.length - (k + 1))
                  case rel => exact ⟨k + 1, (by show _ = _; omega), by omega, by go_num, HB6.out, HA6, HU6⟩
                  case measure => omega
                | true =>
                  obtain ⟨j, hj, hjp, hjd, hjw, hj2, hjm⟩ := HST.out ((kept_yes HR.out _ _).1 HKB.out)
                  obtain ⟨mj, hmj⟩ : ∃ mj, (T.at_ u j).mark = mj := ⟨_, rfl⟩
                  rw [hmj] at hj2 hjm
                  have HJP := Lib.hid hjp
                  have HJD := Lib.hid hjd
                  have HJW := Lib.hid hjw
                  have HJM := Lib.hid hmj
                  have HJE := Lib.hid hjm
                  have bne2 : (Int.tmod mj 2 != Int.tmod m2 2) = false := by rw [hj2]; simp
                  have hju : (j : Int) < (u.length : Int) := by omega
                  clear hjp hjd hjw hmj hjm hj2
                  go_wp2_with fail
                  refine (findT_at A1 _ c1 c5 NP j u P _ HPN.out HU6.out HP6.out hull (by omega) HRU.out hj HJP.out).mono ?_
                  rintro e w7 ⟨rfl, hx⟩
                  have HX7 := Lib.hid (HX6.out.below hx)
                  have HB7 := Lib.hid (bthen HB6.out hx)
                  have HA7 := Lib.hid (HA6.out.below hx)
                  have HU7 := Lib.hid (HU6.out.below hx)
                  have HP7 := Lib.hid (HP6.out.below hx)
                  clear hx c0 c1' c2'
                  obtain ⟨c0, c1', c2'⟩ := HX7.out.cells
                  simp only [] at c0 c1' c2'
                  obtain ⟨bu, ou, rfl, hbu, hHu⟩ := HU7.out.lines (by omega)
                  obtain ⟨u0, u1, u2⟩ := hHu.line hj
                  rw [HJD.out] at u0
                  rw [HJW.out] at u1
                  rw [HJM.out] at u2
                  clear hHu
                  have HAB := Lib.hid (fun w' (h : Below w7.heap.size w7 w') => E.above _ B5 c c5 t.length NP t P ka w' ⟨rfl, HPN.out, HA7.out.below h, HP7.out.below h, HNK.out, hc, hc5, hll, by omega⟩ HLA.out)
                  have hbl := (Array.getElem?_eq_some_iff.1 HX7.out).1
                  have HKP := Lib.hid (fun w' (h : Below w7.heap.size w7 w') => show w'.cell? ⟨bu, ou + j * 3, none⟩ = some (.int .i64 dd) ∧ w'.cell? ⟨bu, ou + j * 3 + 1, none⟩ = some (.string (sB y)) ∧ w'.cell? ⟨bu, ou + j * 3 + 2, none⟩ = some (.int .i64 mj) ∧ w'.cell? ⟨wr.heap.size, 0, none⟩ = some (.int .i64 dd) ∧ w'.cell? ⟨wr.heap.size, 1, none⟩ = some (.string (sB y)) ∧ w'.cell? ⟨wr.heap.size, 2, none⟩ = some (.int .i64 m2) from
                    ⟨(h.cell (p := ⟨bu, _, none⟩) hbu).trans u0, (h.cell (p := ⟨bu, _, none⟩) hbu).trans u1, (h.cell (p := ⟨bu, _, none⟩) hbu).trans u2, (h.cell (p := ⟨wr.heap.size, _, none⟩) hbl).trans c0, (h.cell (p := ⟨wr.heap.size, _, none⟩) hbl).trans c1', (h.cell (p := ⟨wr.heap.size, _, none⟩) hbl).trans c2'⟩)
                  have hb0 : Below w7.heap.size w7 w7 := Below.refl _ _
                  have hb0d : Below w7.heap.size w7 w7.drew := hb0.drew
                  have hj0 : (0 : Int) ≤ (j : Int) := by omega
                  clear hbl HX5 HX6 HX7 HB5 HB6 HA5 HA6 HU5 HU6 HP5 HP6 HBA HAA HUA HX HST
                  cases ka with
                  | true =>
                    obtain rfl : mj = m2 := HJE.out ((kept_yes HR.out _ _).1 HKA.out)
                    go_wp2
                    go_region_held3 (fun w' => Below w7.heap.size w7 w' ∧ w'.cell? ⟨bu, ou + j * 3, none⟩ = some (.int .i64 dd) ∧ w'.cell? ⟨bu, ou + j * 3 + 1, none⟩ = some (.string (sB y)) ∧ w'.cell? ⟨bu, ou + j * 3 + 2, none⟩ = some (.int .i64 mj) ∧ w'.cell? ⟨wr.heap.size, 0, none⟩ = some (.int .i64 dd) ∧ w'.cell? ⟨wr.heap.size, 1, none⟩ = some (.string (sB y)) ∧ w'.cell? ⟨wr.heap.size, 2, none⟩ = some (.int .i64 mj)) (first | ((refine ⟨?_, HKP.out _ ?_⟩) <;> (first | assumption | (refine Below.drew ?_; assumption))) | go_keep) (first | (go_at_call 19; refine (HAB.out _ (by assumption)).mono ?_; rintro e w' ⟨rfl, hx⟩; have hbx := bthen (show Below w7.heap.size w7 _ by assumption) hx))
                    all_goals go_wp2
                    all_goals
                      go_roundg (t.length - (k + 1))
                      case rel => exact ⟨k + 1, (by show _ = _; omega), by omega, by go_num, bthen HB7.out hbx, Lib.hid (HA7.out.below hbx), Lib.hid (HU7.out.below hbx)⟩
                      case measure => omega
                  | false =>
                    go_wp2
                    refine wp_region_held_drew (S := fun w' => Below w7.heap.size w7 w' ∧ w'.cell? ⟨bu, ou + j * 3 + 2, none⟩ = some (.int .i64 mj) ∧ w'.cell? ⟨wr.heap.size, 2, none⟩ = some (.int .i64 m2)) (by kernel_rfl) ⟨hb0d, (HKP.out _ hb0d).2.2.1, (HKP.out _ hb0d).2.2.2.2.2⟩ (fun hHeld => ?_)
                    refine takeD (i := 0) (v := ?v0) (d := some 64) rfl rfl (by kernel_rfl) (by kernel_rfl) (by kernel_rfl) (fun _ _ _ h => h) (Or.inl ⟨by rfl, ?hy0⟩) (by assumption) ?rest0
                    case hy0 => intro w hSw; (try dsimp only at hSw); obtain ⟨hSw0, hSw1, hSw2⟩ := hSw; go_simp; try (with_reducible rfl)
                    try simp only [Act.put, List.setIfInBounds_toArray, List.set_cons_zero, List.set_cons_succ]
                    refine takeD (i := 1) (v := ?v1) (d := some 65) rfl rfl (by kernel_rfl) (by kernel_rfl) (by kernel_rfl) (fun _ _ _ h => h) (Or.inl ⟨by rfl, ?hy1⟩) (by assumption) ?rest1
                    case hy1 => intro w hSw; (try dsimp only at hSw); obtain ⟨hSw0, hSw1, hSw2⟩ := hSw; go_simp; try (with_reducible rfl)
                    try simp only [Act.put, List.setIfInBounds_toArray, List.set_cons_zero, List.set_cons_succ]
                    refine takeD (i := 2) (v := ?v2) (d := some 66) rfl rfl (by kernel_rfl) (by kernel_rfl) (by kernel_rfl) (fun _ _ _ h => h) (Or.inl ⟨by rfl, ?hy2⟩) (by assumption) ?rest2
                    case hy2 => intro w hSw; (try dsimp only at hSw); obtain ⟨hSw0, hSw1, hSw2⟩ := hSw; go_simp; try (with_reducible rfl)
                    try simp only [Act.put, List.setIfInBounds_toArray, List.set_cons_zero, List.set_cons_succ]
                    refine takeD (i := 3) (v := ?v3) (d := some 67) rfl rfl (by kernel_rfl) (by kernel_rfl) (by kernel_rfl) (fun _ _ _ h => h) (Or.inl ⟨by rfl, ?hy3⟩) (by assumption) ?rest3
                    case hy3 => intro w hSw; (try dsimp only at hSw); obtain ⟨hSw0, hSw1, hSw2⟩ := hSw; go_simp; try (with_reducible rfl)
                    try simp only [Act.put, List.setIfInBounds_toArray, List.set_cons_zero, List.set_cons_succ]
                    refine takeD (i := 4) (v := ?v4) (d := some 68) rfl rfl (by kernel_rfl) (by kernel_rfl) (by kernel_rfl) (fun _ _ _ h => h) (Or.inl ⟨by rfl, ?hy4⟩) (by assumption) ?rest4
                    case hy4 => intro w hSw; (try dsimp only at hSw); obtain ⟨hSw0, hSw1, hSw2⟩ := hSw; go_simp; try (with_reducible rfl)
                    try simp only [Act.put, List.setIfInBounds_toArray, List.set_cons_zero, List.set_cons_succ]
                    refine takeD (i := 5) (v := ?v5) (d := some 69) rfl rfl (by kernel_rfl) (by kernel_rfl) (by kernel_rfl) (fun _ _ _ h => h) (Or.inl ⟨by rfl, ?hy5⟩) (by assumption) ?rest5
                    case hy5 => intro w hSw; (try dsimp only at hSw); obtain ⟨hSw0, hSw1, hSw2⟩ := hSw; go_simp; try (with_reducible rfl)
                    try simp only [Act.put, List.setIfInBounds_toArray, List.set_cons_zero, List.set_cons_succ]
                    refine takeD (i := 6) (v := ?v6) (d := some 70) rfl rfl (by kernel_rfl) (by kernel_rfl) (by kernel_rfl) (fun _ _ _ h => h) (Or.inl ⟨by rfl, ?hy6⟩) (by assumption) ?rest6
                    case hy6 => intro w hSw; (try dsimp only at hSw); obtain ⟨hSw0, hSw1, hSw2⟩ := hSw; go_simp; try (with_reducible rfl)
                    try simp only [Act.put, List.setIfInBounds_toArray, List.set_cons_zero, List.set_cons_succ]
                    refine takeD (i := 7) (v := ?v7) (d := some 71) rfl rfl (by kernel_rfl) (by kernel_rfl) (by kernel_rfl) (fun _ _ _ h => h) (Or.inl ⟨by rfl, ?hy7⟩) (by assumption) ?rest7
                    case hy7 => intro w hSw; (try dsimp only at hSw); obtain ⟨hSw0, hSw1, hSw2⟩ := hSw; go_simp; try (with_reducible rfl)
                    try simp only [Act.put, List.setIfInBounds_toArray, List.set_cons_zero, List.set_cons_succ]
                    refine takeD (i := 8) (v := ?v8) (d := some 72) rfl rfl (by kernel_rfl) (by kernel_rfl) (by kernel_rfl) (fun _ _ _ h => h) (Or.inl ⟨by rfl, ?hy8⟩) (by assumption) ?rest8
                    case hy8 => intro w hSw; (try dsimp only at hSw); obtain ⟨hSw0, hSw1, hSw2⟩ := hSw; go_simp; try (with_reducible rfl)
                    try simp only [Act.put, List.setIfInBounds_toArray, List.set_cons_zero, List.set_cons_succ]
                    refine takeD (i := 9) (v := ?v9) (d := some 73) rfl rfl (by kernel_rfl) (by kernel_rfl) (by kernel_rfl) (fun _ _ _ h => h) (Or.inl ⟨by rfl, ?hy9⟩) (by assumption) ?rest9
                    case hy9 => intro w hSw; (try dsimp only at hSw); obtain ⟨hSw0, hSw1, hSw2⟩ := hSw; go_simp; try (with_reducible rfl)
                    try simp only [Act.put, List.setIfInBounds_toArray, List.set_cons_zero, List.set_cons_succ]
                    refine takeD (i := 10) (v := ?v10) (d := some 74) rfl rfl (by kernel_rfl) (by kernel_rfl) (by kernel_rfl) (fun _ _ _ h => h) (Or.inl ⟨by rfl, ?hy10⟩) (by assumption) ?rest10
                    case hy10 => intro w hSw; (try dsimp only at hSw); obtain ⟨hSw0, hSw1, hSw2⟩ := hSw; go_simp; try (with_reducible rfl)
                    try simp only [Act.put, List.setIfInBounds_toArray, List.set_cons_zero, List.set_cons_succ]
                    refine takeD (i := 11) (v := ?v11) (d := some 75) rfl rfl (by kernel_rfl) (by kernel_rfl) (by kernel_rfl) (fun _ _ _ h => h) (Or.inl ⟨by rfl, ?hy11⟩) (by assumption) ?rest11
                    case hy11 => intro w hSw; (try dsimp only at hSw); obtain ⟨hSw0, hSw1, hSw2⟩ := hSw; go_simp; try (with_reducible rfl)
                    try simp only [Act.put, List.setIfInBounds_toArray, List.set_cons_zero, List.set_cons_succ]
                    refine takeD (i := 12) (v := ?v12) (d := some 76) rfl rfl (by kernel_rfl) (by kernel_rfl) (by kernel_rfl) (fun _ _ _ h => h) (Or.inl ⟨by rfl, ?hy12⟩) (by assumption) ?rest12
                    case hy12 => intro w hSw; (try dsimp only at hSw); obtain ⟨hSw0, hSw1, hSw2⟩ := hSw; go_simp; try (with_reducible rfl)
                    try simp only [Act.put, List.setIfInBounds_toArray, List.set_cons_zero, List.set_cons_succ]
                    refine takeD (i := 13) (v := ?v13) (d := some 77) rfl rfl (by kernel_rfl) (by kernel_rfl) (by kernel_rfl) (fun _ _ _ h => h) (Or.inl ⟨by rfl, ?hy13⟩) (by assumption) ?rest13
                    case hy13 => intro w hSw; (try dsimp only at hSw); obtain ⟨hSw0, hSw1, hSw2⟩ := hSw; go_simp; try (with_reducible rfl)
                    try simp only [Act.put, List.setIfInBounds_toArray, List.set_cons_zero, List.set_cons_succ]
                    refine takeD (i := 14) (v := ?v14) (d := some 78) rfl rfl (by kernel_rfl) (by kernel_rfl) (by kernel_rfl) (fun _ _ _ h => h) (Or.inl ⟨by rfl, ?hy14⟩) (by assumption) ?rest14
                    case hy14 => intro w hSw; (try dsimp only at hSw); obtain ⟨hSw0, hSw1, hSw2⟩ := hSw; go_simp; try (with_reducible rfl)
                    try simp only [Act.put, List.setIfInBounds_toArray, List.set_cons_zero, List.set_cons_succ]
                    refine takeD (i := 15) (v := ?v15) (d := some 79) rfl rfl (by kernel_rfl) (by kernel_rfl) (by kernel_rfl) (fun _ _ _ h => h) (Or.inl ⟨by rfl, ?hy15⟩) (by assumption) ?rest15
                    case hy15 => intro w hSw; (try dsimp only at hSw); obtain ⟨hSw0, hSw1, hSw2⟩ := hSw; go_simp; try (with_reducible rfl)
                    try simp only [Act.put, List.setIfInBounds_toArray, List.set_cons_zero, List.set_cons_succ]
                    refine takeD (i := 16) (v := ?v16) (d := some 80) rfl rfl (by kernel_rfl) (by kernel_rfl) (by kernel_rfl) (fun _ _ _ h => h) (Or.inl ⟨by rfl, ?hy16⟩) (by assumption) ?rest16
                    case hy16 => intro w hSw; (try dsimp only at hSw); obtain ⟨hSw0, hSw1, hSw2⟩ := hSw; go_simp; try (with_reducible rfl)
                    try simp only [Act.put, List.setIfInBounds_toArray, List.set_cons_zero, List.set_cons_succ]
                    refine wpAnyH_ready (rs := [17]) (by kernel_rfl) (by simp) ?_
                    refine AllReadyH.cons rfl (fun K hK => ?_) AllReadyH.nil
                    go_simp
                    go_at_call 19
                    refine (HAB.out _ hHeld.1).mono ?_
                    rintro e w8 ⟨rfl, hx⟩
                    have hbx := bthen hHeld.1 hx
                    refine hK.out _ _ ⟨hbx, (HKP.out _ hbx).2.2.1, (HKP.out _ hbx).2.2.2.2.2⟩ (fun hHeld => ?_)
                    clear hK K
                    try simp only [Act.put, List.setIfInBounds_toArray, List.set_cons_zero, List.set_cons_succ]
                    refine takeD (i := 18) (v := ?v18) (d := some 82) rfl rfl (by kernel_rfl) (by kernel_rfl) (by kernel_rfl) (fun _ _ _ h => h) (Or.inl ⟨by rfl, ?hy18⟩) (by assumption) ?rest18
                    case hy18 => intro w hSw; (try dsimp only at hSw); obtain ⟨hSw0, hSw1, hSw2⟩ := hSw; go_simp; try (with_reducible rfl)
                    try simp only [Act.put, List.setIfInBounds_toArray, List.set_cons_zero, List.set_cons_succ]
                    refine takeD (i := 19) (v := undef) (d := some 83) rfl rfl (by kernel_rfl) (by kernel_rfl) (by kernel_rfl) (fun _ _ _ h => h) (Or.inr ⟨by rfl, rfl⟩) (by assumption) ?_
                    try simp only [Act.put, List.setIfInBounds_toArray, List.set_cons_zero, List.set_cons_succ]
                    refine takeD (i := 20) (v := undef) (d := some 84) rfl rfl (by kernel_rfl) (by kernel_rfl) (by kernel_rfl) (fun _ _ _ h => h) (Or.inr ⟨by rfl, rfl⟩) (by assumption) ?_
                    try simp only [Act.put, List.setIfInBounds_toArray, List.set_cons_zero, List.set_cons_succ]
                    refine takeD (i := 21) (v := undef) (d := some 85) rfl rfl (by kernel_rfl) (by kernel_rfl) (by kernel_rfl) (fun _ _ _ h => h) (Or.inr ⟨by rfl, rfl⟩) (by assumption) ?_
                    try simp only [Act.put, List.setIfInBounds_toArray, List.set_cons_zero, List.set_cons_succ]
                    refine takeD (i := 22) (v := undef) (d := some 86) rfl rfl (by kernel_rfl) (by kernel_rfl) (by kernel_rfl) (fun _ _ _ h => h) (Or.inr ⟨by rfl, rfl⟩) (by assumption) ?_
                    try simp only [Act.put, List.setIfInBounds_toArray, List.set_cons_zero, List.set_cons_succ]
                    refine takeD (i := 23) (v := undef) (d := some 87) rfl rfl (by kernel_rfl) (by kernel_rfl) (by kernel_rfl) (fun _ _ _ h => h) (Or.inr ⟨by rfl, rfl⟩) (by assumption) ?_
                    try simp only [Act.put, List.setIfInBounds_toArray, List.set_cons_zero, List.set_cons_succ]
                    refine takeD (i := 24) (v := undef) (d := some 88) rfl rfl (by kernel_rfl) (by kernel_rfl) (by kernel_rfl) (fun _ _ _ h => h) (Or.inr ⟨by rfl, rfl⟩) (by assumption) ?_
                    try simp only [Act.put, List.setIfInBounds_toArray, List.set_cons_zero, List.set_cons_succ]
                    refine takeD (i := 25) (v := ?v25) (d := some 89) rfl rfl (by kernel_rfl) (by kernel_rfl) (by kernel_rfl) (fun _ _ _ h => h) (Or.inl ⟨by rfl, ?hy25⟩) (by assumption) ?rest25
                    case hy25 => intro w hSw; (try dsimp only at hSw); obtain ⟨hSw0, hSw1, hSw2⟩ := hSw; go_simp; try (with_reducible rfl)
                    try simp only [Act.put, List.setIfInBounds_toArray, List.set_cons_zero, List.set_cons_succ]
                    refine takeD (i := 26) (v := ?v26) (d := some 90) rfl rfl (by kernel_rfl) (by kernel_rfl) (by kernel_rfl) (fun _ _ _ h => h) (Or.inl ⟨by rfl, ?hy26⟩) (by assumption) ?rest26
                    case hy26 => intro w hSw; (try dsimp only at hSw); obtain ⟨hSw0, hSw1, hSw2⟩ := hSw; go_simp; try (with_reducible rfl)
                    try simp only [Act.put, List.setIfInBounds_toArray, List.set_cons_zero, List.set_cons_succ]
                    refine wpAnyH_done (by kernel_rfl) ?_ _
                    go_wp2
                    go_roundg (t.length - (k + 1))
                    case rel => exact ⟨k + 1, (by show _ = _; omega), by omega, by go_num, bthen HB7.out hbx, Lib.hid (HA7.out.below hbx), Lib.hid (HU7.out.below hbx)⟩
                    case measure => omega
              · have blt : decide (k < t.length) = false := decide_eq_false hlt
                go_wp2_with fail
                refine (awake_of E _).mono ?_
                rintro e wz ⟨rfl, hx⟩
                go_wp2
                go_ret
                exact ⟨rfl, bthen hb hx⟩
      · have HR := Lib.hid hR
        clear hR
        go_wp2_with fail
        refine (rightR_is A c t false _ HA.out hll (no_iff HR.out)).mono ?_
        rintro e wx2 ⟨rfl, hx⟩
        replace HA := Lib.hid (HA.out.below hx)
        replace HB := Lib.hid (HB.out.below hx)
        replace HX := Lib.hid (HX.out.below hx)
        replace hb := bthen hb hx
        clear hx
        clear x0 x1 x2 x3
        obtain ⟨x0, x1, x2, x3⟩ := HX.out.cells
        go_wp2_with fail
        refine (awake_of E _).mono ?_
        rintro e wz ⟨rfl, hx⟩
        go_wp2
        go_ret
        exact ⟨rfl, bthen hb hx⟩
end Go.Proofs.Ytfjpeonfkhcpfaa
