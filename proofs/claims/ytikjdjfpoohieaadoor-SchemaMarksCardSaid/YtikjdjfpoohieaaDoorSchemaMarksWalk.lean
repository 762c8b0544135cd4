/-
  The walk of layer 13's statement SchemaMarks, from what schema does: it returns true whatever comes in. No conditions.
-/
import Derived.Test.YtikjdjfpoohieaaDoorBase11
namespace Go.Proofs.YtikjdjfpoohieaaDoor
open Go.RowKit
set_option linter.unusedVariables false

set_option maxRecDepth 100000 in
set_option maxHeartbeats 8000000 in
theorem schemaMarks_walk (E : SchemaOk) (AW : ∀ w, RowsOk w → Calls Tryd.prog 11 #[] w (TrueS w)) (w : World) (HTAB : RowsOk w) (A : Option Addr) (c : Nat) (t : List T.Ln) (hc : t.length ≤ c) (hA : Seen eL w A t) (hlA : t.length ≤ maxLen) (hNA : NilOk A c) :
    Calls Tryd.prog 6 #[.slice A t.length c] w (TrueS w) := by
  have TAB := Lib.hid HTAB
  clear HTAB
  unfold maxLen at hlA
  obtain ⟨n, hnA⟩ : ∃ n, t.length = n := ⟨_, rfl⟩
  rw [hnA] at hc hlA ⊢
  have HNA := Lib.hid hnA
  have HA := Lib.hid hA
  have HOA := Lib.hid hNA
  clear hA hnA hNA
  have hb : Below w.heap.size w w := Below.refl _ _
  go_enter Tryd.func6, Tryd.ntmps6
  go_wp2_with fail
  refine (few13 A c n t _ HNA.out HA.out).mono ?_
  rintro e wx1 ⟨bs, rfl, hsm, hx⟩
  replace HA := Lib.hid (HA.out.below hx)
  replace hb := bthen hb hx
  clear hx
  cases bs with
  | false =>
    clear hsm
    go_wp2_with fail
    refine (AW _ (rowsAt TAB (by first | assumption | exact Below.refl _ _ | exact bthen (by assumption) (by assumption) | exact below_drawn13 (by first | assumption | exact Below.refl _ _) _))).mono ?_
    rintro e wz ⟨rfl, hx⟩
    go_wp2
    go_ret
    exact ⟨rfl, bthen hb hx⟩
  | true =>
  have hn60 : n ≤ 60 := hsm rfl
  clear hsm
  replace HA := Lib.hid (LArgS.mk HNA.out (by omega) hc HOA.out HA.out)
  by_cases hR : T.RightT t
  · have HR := Lib.hid hR
    clear hR
    go_wp2_with fail
    refine (right13 A c n t true _ HNA.out HA.out.seen (by omega) (yes_iff HR.out)).mono ?_
    rintro e wx2 ⟨rfl, hx⟩
    replace HA := Lib.hid (HA.out.below hx)
    replace hb := bthen hb hx
    clear hx
    obtain ⟨u, hu⟩ : ∃ u, T.bareT t = u := ⟨_, rfl⟩
    have HU := Lib.hid hu
    have HUN := Lib.hid (show u.length = n by rw [← hu, T.bare_len]; exact HNA.out)
    have HUR := Lib.hid (show T.RightT u by rw [← hu]; exact T.bare_right HR.out)
    have HPS := Lib.hid (show C.pths u = C.pths t by
      rw [← hu]
      unfold C.pths
      rw [T.bare_len]
      exact List.map_congr_left fun i _ => T.bare_path t i)
    have HUA := Lib.hid (fun i => show T.at_ u i = ⟨T.dp t i, T.wd t i, 0⟩ by rw [← hu]; exact T.bare_at t i)
    clear hu
    go_wp2
    go_loopg [3, 21] n (fun gk vo vi wr => ∃ k : Nat, Hid (k + gk = n) ∧ k ≤ n ∧ vi = .int .i64 (k : Int) ∧ Hid (Own eL wr wx2.heap.size vo (u.take k)) ∧ Below wx2.heap.size wx2 wr)
    case atStart => exact ⟨0, Nat.zero_add _, Nat.zero_le _, rfl, Own.nil _ _, Below.refl _ _⟩
    case round =>
      obtain ⟨k, HG, hk, rfl, HO, hbr⟩ := hrel
      have hgk := HG.out
      by_cases hlt : k < n
      · have blt : decide ((k : Int) < (n : Int)) = true := decide_eq_true (by omega)
        have blt2 : decide (k < n) = true := decide_eq_true hlt
        have hki : (k : Int) < (n : Int) := by omega
        have hkt : k < t.length := by rw [HNA.out]; exact hlt
        obtain ⟨b, o, hAe, hbw, hL⟩ := HA.out.seen.lines (by omega)
        subst hAe
        obtain ⟨c0, c1, c2⟩ := (hL.below hbr hbw).line hkt
        obtain ⟨dd, hdd⟩ : ∃ x, T.dp t k = x := ⟨_, rfl⟩
        obtain ⟨ww, hww⟩ : ∃ x, T.wd t k = x := ⟨_, rfl⟩
        obtain ⟨mm, hmm⟩ : ∃ x, (T.at_ t k).mark = x := ⟨_, rfl⟩
        rw [hdd] at c0
        rw [hww] at c1
        rw [hmm] at c2
        have HNX := Lib.hid (show u.take (k + 1) = u.take k ++ [⟨dd, ww, 0⟩] by
          rw [List.take_succ_eq_append_getElem (by rw [HUN.out]; exact hlt), at_get _ _ (by rw [HUN.out]; exact hlt), HUA.out, hdd, hww])
        have l1 := LineAt.laid wr ⟨dd, ww, mm⟩
        have l2 := LineAt.laid wr ⟨dd, ww, 0⟩
        obtain ⟨y0, y1, y2⟩ := l2.cells
        have fr : (wr.alloc (.cells #[.int .i64 dd, .string (sB ww), .int .i64 mm] 42)).frozen? ⟨wr.heap.size, 2, none⟩ = false := l1.thawed 2
        have y0 : (wr.alloc (.cells #[.int .i64 dd, .string (sB ww), .int .i64 0] 42)).cell? ⟨wr.heap.size, 0, none⟩ = some (.int .i64 dd) := y0
        have y1 : (wr.alloc (.cells #[.int .i64 dd, .string (sB ww), .int .i64 0] 42)).cell? ⟨wr.heap.size, 1, none⟩ = some (.string (sB ww)) := y1
        have y2 : (wr.alloc (.cells #[.int .i64 dd, .string (sB ww), .int .i64 0] 42)).cell? ⟨wr.heap.size, 2, none⟩ = some (.int .i64 0) := y2
        have hb2 := up wr (.cells #[.int .i64 dd, .string (sB ww), .int .i64 0] 42)
        have HO2 := Lib.hid (HO.out.keep hb2)
        have HB2 := Lib.hid (bthen hbr hb2)
        have HLN := Lib.hid (show (u.take k).length + 1 ≤ 1099511627776 by rw [List.length_take]; omega)
        have hsz := HB2.out.size
        clear hdd hww hmm hL l1 l2 hb2
        go_wp2_with (at_builtin; refine wpList_appG eL _ rfl (.tmp 26) (.tmp 28) rfl wx2.heap.size u3 (u.take k) rfl HO2.out ⟨dd, ww, 0⟩ 1 _ rfl (wr.heap.size + 1) (by simp) rfl HLN.out hsz ?_; intro v5 w5 hown5 hb5)
        go_roundg (n - (k + 1))
        case rel => exact ⟨k + 1, (by show _ = _; omega), by omega, by go_num, (by rw [HNX.out]; exact hown5), HB2.out.trans hb5⟩
        case measure => omega
      · have blt : decide ((k : Int) < (n : Int)) = false := decide_eq_false (by omega)
        have blt2 : decide (k < n) = false := decide_eq_false hlt
        have HE := Lib.hid (show u.take k = u from List.take_of_length_le (by rw [HUN.out]; omega))
        obtain ⟨Bu, du, rfl, hau⟩ := own_arg (n := n) (by rw [← HE.out]; exact HO.out) HUN.out (by omega)
        have HAU := Lib.hid hau
        replace HA := Lib.hid (HA.out.below hbr)
        replace hb := bthen hb hbr
        clear hau hbr HO
        obtain ⟨L, hL⟩ : ∃ L, C.checkP (C.pths t) = L := ⟨_, rfl⟩
        have HI := Lib.hid (show CheckIs t L 0 from .inl ⟨HR.out, hL.symm, rfl⟩)
        have HI2 := Lib.hid (show CheckIs u L 0 from .inl ⟨HUR.out, by rw [HPS.out]; exact hL.symm, rfl⟩)
        obtain ⟨m, hm⟩ : ∃ m, L.length = m := ⟨_, rfl⟩
        have HM := Lib.hid hm
        have HML := Lib.hid (show m ≤ 600 by rw [← hm, ← hL]; exact C.check_long HR.out HNA.out (by omega))
        have HPL := Lib.hid (show ∀ x ∈ L, x.1.length ≤ 1073741824 by intro x hx; rw [← hL] at hx; have := C.fault_long HR.out hx; omega)
        clear hm hL
        go_wp2_with fail
        refine (E.checkOf A c n m t L 0 _ HA.out HI.out HM.out (rowsAt TAB (by first | assumption | exact Below.refl _ _ | exact bthen (by assumption) (by assumption) | exact below_drawn13 (by first | assumption | exact Below.refl _ _) _))).mono ?_
        rintro e wx3 ⟨B, d, rfl, hmf, hx⟩
        replace HAU := Lib.hid (HAU.out.below hx)
        replace hb := bthen hb hx
        have HS := Lib.hid hmf.1.seenV.2.2
        clear hx hmf
        go_wp2_with fail
        refine (E.checkOf Bu du n m u L 0 _ HAU.out HI2.out HM.out (rowsAt TAB (by first | assumption | exact Below.refl _ _ | exact bthen (by assumption) (by assumption) | exact below_drawn13 (by first | assumption | exact Below.refl _ _) _))).mono ?_
        rintro e wx4 ⟨B2, d2, rfl, hmf, hx⟩
        replace HS := Lib.hid (HS.out.below hx)
        replace hb := bthen hb hx
        have HS2 := Lib.hid hmf.1.seenV.2.2
        clear hx hmf
        go_wp2_with fail
        refine (refsF13 B d m L _ HM.out (by have := HML.out; omega) HS.out).mono ?_
        rintro e wx5 ⟨B4, d4, rfl, hd4, hs4, hx⟩
        replace HS2 := Lib.hid (HS2.out.below hx)
        replace hb := bthen hb hx
        have HS4 := Lib.hid hs4
        clear hx hs4
        go_wp2_with fail
        refine (refsF13 B2 d2 m L _ HM.out (by have := HML.out; omega) HS2.out).mono ?_
        rintro e wx6 ⟨B5, d5, rfl, hd5, hs5, hx⟩
        replace HS4 := Lib.hid (HS4.out.below hx)
        replace hb := bthen hb hx
        have HS5 := Lib.hid hs5
        clear hx hs5
        go_wp2_with fail
        refine (sameF13 B4 B5 d4 d5 m L _ HM.out (by have := HML.out; omega) HPL.out HS4.out HS5.out).mono ?_
        rintro e wx7 ⟨rfl, hx⟩
        replace hb := bthen hb hx
        clear hx
        go_wp2_with fail
        refine (AW _ (rowsAt TAB (by first | assumption | exact Below.refl _ _ | exact bthen (by assumption) (by assumption) | exact below_drawn13 (by first | assumption | exact Below.refl _ _) _))).mono ?_
        rintro e wz ⟨rfl, hx⟩
        go_wp2
        go_ret
        exact ⟨rfl, bthen hb hx⟩
  · have HR := Lib.hid hR
    clear hR
    go_wp2_with fail
    refine (right13 A c n t false _ HNA.out HA.out.seen (by omega) (no_iff HR.out)).mono ?_
    rintro e wx2 ⟨rfl, hx⟩
    replace hb := bthen hb hx
    clear hx
    go_wp2_with fail
    refine (AW _ (rowsAt TAB (by first | assumption | exact Below.refl _ _ | exact bthen (by assumption) (by assumption) | exact below_drawn13 (by first | assumption | exact Below.refl _ _) _))).mono ?_
    rintro e wz ⟨rfl, hx⟩
    go_wp2
    go_ret
    exact ⟨rfl, bthen hb hx⟩
end Go.Proofs.YtikjdjfpoohieaaDoor
