/-
  The walk of layer 13's statement SchemaChecks, from what schema does: it returns true whatever comes in. No conditions.
-/
import Derived.Test.YtikjdjfpoohieaaDoorBase11
namespace Go.Proofs.YtikjdjfpoohieaaDoor
open Go.RowKit
set_option linter.unusedVariables false

set_option maxRecDepth 100000 in
set_option maxHeartbeats 8000000 in
theorem schemaChecks_walk (E : SchemaOk) (AW : ∀ w, RowsOk w → Calls Tryd.prog 11 #[] w (TrueS w)) (w : World) (HTAB : RowsOk w) (A : Option Addr) (c : Nat) (t : List T.Ln) (hc : t.length ≤ c) (hA : Seen eL w A t) (hlA : t.length ≤ maxLen) (hNA : NilOk A c) :
    Calls Tryd.prog 3 #[.slice A t.length c] w (TrueS w) := by
  have TAB := Lib.hid HTAB
  clear HTAB
  unfold maxLen at hlA
  obtain ⟨n, hnA⟩ : ∃ n, t.length = n := ⟨_, rfl⟩
  rw [hnA] at hc hlA ⊢
  have HNA := Lib.hid hnA
  have HA := Lib.hid hA
  have HOA := Lib.hid hNA
  clear hA hnA hNA
  have hb : Below w.heap.size w w := Below.refl _ _
  go_enter Tryd.func3, Tryd.ntmps3
  go_wp2_with fail
  refine (few13 A c n t _ HNA.out HA.out).mono ?_
  rintro e wx1 ⟨bs, rfl, hsm, hx⟩
  replace HA := Lib.hid (HA.out.below hx)
  replace hb := bthen hb hx
  clear hx
  cases bs with
  | false =>
    clear hsm
    go_wp2_with fail
    refine (AW _ (rowsAt TAB (by first | assumption | exact Below.refl _ _ | exact bthen (by assumption) (by assumption) | exact below_drawn13 (by first | assumption | exact Below.refl _ _) _))).mono ?_
    rintro e wz ⟨rfl, hx⟩
    go_wp2
    go_ret
    exact ⟨rfl, bthen hb hx⟩
  | true =>
  have hn60 : n ≤ 60 := hsm rfl
  clear hsm
  replace HA := Lib.hid (LArgS.mk HNA.out (by omega) hc HOA.out HA.out)
  obtain ⟨L, er, hI⟩ := check_ex t
  have HI := Lib.hid hI
  obtain ⟨m, hm⟩ : ∃ m, L.length = m := ⟨_, rfl⟩
  have HM := Lib.hid hm
  clear hI hm
  go_wp2_with fail
  refine (E.checkOf A c n m t L er _ HA.out HI.out HM.out (rowsAt TAB (by first | assumption | exact Below.refl _ _ | exact bthen (by assumption) (by assumption) | exact below_drawn13 (by first | assumption | exact Below.refl _ _) _))).mono ?_
  rintro e wx3 ⟨B, d, rfl, hmf, hx⟩
  replace HA := Lib.hid (HA.out.below hx)
  replace hb := bthen hb hx
  have HS := Lib.hid hmf.1.seenV.2.2
  clear hx hmf
  rcases HI.out with ⟨hR, hL, h0⟩ | ⟨hR, hL, h0⟩
  · have HR := Lib.hid hR
    have HL := Lib.hid hL
    subst h0
    have HML := Lib.hid (show m ≤ 600 by rw [← HM.out, hL]; exact C.check_long hR HNA.out (by omega))
    have HPL := Lib.hid (show ∀ x ∈ L, x.1.length ≤ 1073741824 by intro x hx; rw [hL] at hx; have := C.fault_long hR hx; omega)
    clear hR hL
    go_wp2_with fail
    refine (right13 A c n t true _ HNA.out HA.out.seen (by omega) (yes_iff HR.out)).mono ?_
    rintro e wx2 ⟨rfl, hx⟩
    replace HA := Lib.hid (HA.out.below hx)
    replace HS := Lib.hid (HS.out.below hx)
    replace hb := bthen hb hx
    clear hx
    go_wp2_with fail
    refine (refsF13 B d m L _ HM.out (by have := HML.out; omega) HS.out).mono ?_
    rintro e wx4 ⟨B4, d4, rfl, hd4, hs4, hx⟩
    replace HA := Lib.hid (HA.out.below hx)
    replace hb := bthen hb hx
    have HS4 := Lib.hid hs4
    clear hx hs4
    go_wp2_with fail
    refine (checkR A c n t _ HNA.out HA.out.seen (by omega) HR.out).mono ?_
    rintro e wx5 ⟨v5, rfl, hown, hx⟩
    obtain ⟨B5, d5, rfl, hd5, hs5⟩ := hown.flMany.seenF
    rw [← HL.out] at hd5 hs5 ⊢
    rw [HM.out] at hd5 ⊢
    replace HS4 := Lib.hid (HS4.out.below hx)
    replace hb := bthen hb hx
    have HS5 := Lib.hid hs5
    clear hx hs5 hown
    go_wp2_with fail
    refine (sameF13 B4 B5 d4 d5 m L _ HM.out (by have := HML.out; omega) HPL.out HS4.out HS5.out).mono ?_
    rintro e wx6 ⟨rfl, hx⟩
    replace hb := bthen hb hx
    clear hx
    go_wp2_with fail
    refine (AW _ (rowsAt TAB (by first | assumption | exact Below.refl _ _ | exact bthen (by assumption) (by assumption) | exact below_drawn13 (by first | assumption | exact Below.refl _ _) _))).mono ?_
    rintro e wz ⟨rfl, hx⟩
    go_wp2
    go_ret
    exact ⟨rfl, bthen hb hx⟩
  · have HR := Lib.hid hR
    subst h0
    have hm0 : m = 0 := by rw [← HM.out, hL]; rfl
    subst hm0
    clear hR hL
    go_wp2_with fail
    refine (right13 A c n t false _ HNA.out HA.out.seen (by omega) (no_iff HR.out)).mono ?_
    rintro e wx2 ⟨rfl, hx⟩
    replace hb := bthen hb hx
    clear hx
    go_wp2_with fail
    refine (AW _ (rowsAt TAB (by first | assumption | exact Below.refl _ _ | exact bthen (by assumption) (by assumption) | exact below_drawn13 (by first | assumption | exact Below.refl _ _) _))).mono ?_
    rintro e wz ⟨rfl, hx⟩
    go_wp2
    go_ret
    exact ⟨rfl, bthen hb hx⟩
end Go.Proofs.YtikjdjfpoohieaaDoor
