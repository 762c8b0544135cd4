/-
  The walk of layer 14's statement HostTables, from what host does and what the document's Compile does: it returns true whatever comes in. No conditions.
-/
import Derived.Test.YtfcikfohmehmkaaGreatDoorTabs16
namespace Go.Proofs.YtfcikfohmehmkaaGreatDoor
open Go.RowKit
set_option linter.unusedVariables false
set_option maxRecDepth 100000 in
set_option maxHeartbeats 8000000 in
theorem hostTables_walk (E : HostOk) (RC : RefCompOk) (AW : ∀ w, RowsOk w → Calls Tryz.prog 10 #[] w (TrueS w)) (w : World) (HTAB : RowsOk w) (A : Option Addr) (c : Nat) (t : List T.Ln) (hc : t.length ≤ c) (hA : Seen eL w A t) (hlA : t.length ≤ maxLen) (hNA : NilOk A c) :
  Calls Tryz.prog 3 #[.slice A t.length c] w (TrueS w) := by
 have TAB := Lib.hid HTAB
 clear HTAB
 unfold maxLen at hlA
 have HSM := Lib.hid (fun w (h : Seen eL w A t) => small_is A c t w h)
 obtain ⟨n, hnA⟩ : ∃ n, t.length = n := ⟨_, rfl⟩
 rw [hnA] at hc hlA HSM ⊢
 have HNA := Lib.hid hnA
 have HA := Lib.hid hA
 have HOA := Lib.hid hNA
 clear hA hnA hNA
 have hb : Below w.heap.size w w := Below.refl _ _
 go_enter Tryz.func3, Tryz.ntmps3
 go_wp2_with fail
 refine (HSM.out _ HA.out).mono ?_
 rintro e wx1 ⟨bs, rfl, hsm, hx⟩
 replace HA := Lib.hid (HA.out.below hx)
 replace hb := bthen hb hx
 clear hx
 cases bs with
 | false =>
  clear hsm
  go_wp2_with fail
  refine (AW _ (rowsAt TAB hb)).mono ?_
  rintro e wz ⟨rfl, hx⟩
  go_wp2
  go_ret
  exact ⟨rfl, bthen hb hx⟩
 | true =>
 clear hsm
 by_cases h60 : n ≤ 60
 ·have b1 : decide ((n : Int) > 60) = false := decide_eq_false (by omega)
  have b2 : decide ((60 : Int) < (n : Int)) = false := decide_eq_false (by omega)
  have b3 : decide (60 < n) = false := decide_eq_false (by omega)
  replace HA := Lib.hid (LArgS.mk HNA.out (by omega) hc HOA.out HA.out)
  obtain ⟨L, er, hI⟩ := comp_ex t
  have HI := Lib.hid hI
  obtain ⟨m, hm⟩ : ∃ m, L.length = m := ⟨_, rfl⟩
  have HM := Lib.hid hm
  have hmm : m ≤ 32040000 := by rw [← hm]; exact comp_few hI (by have := HNA.out; omega)
  clear hI hm
  go_wp2_with fail
  refine (E.compileOf A c n m t L er _ HA.out HI.out HM.out (rowsAt TAB (by first | assumption | exact Below.refl _ _ | exact Hid.out (by assumption) | exact bthen (by assumption) (by assumption) | exact bthen (Hid.out (by assumption)) (by assumption) | exact below_drawn13 (by first | assumption | exact Below.refl _ _ | exact Hid.out (by assumption)) _))).mono ?_
  rintro e wx3 ⟨B, d, rfl, hd, hs, hx⟩
  replace HA := Lib.hid (HA.out.below hx)
  replace hb := bthen hb hx
  have HS := Lib.hid hs
  clear hx hs
  by_cases hR : T.RightT t
  ·have HR := Lib.hid hR
   have HRI := Lib.hid (show RefIs t L er by
    rcases HI.out with ⟨_, h1, h2, h3⟩ | ⟨_, h1, h2, h3⟩ | ⟨h1, _⟩
    ·exact .inl ⟨h1, h2, h3⟩
    ·exact .inr ⟨h1, h2, h3⟩
    ·exact absurd hR h1)
   have ber : (er == er) = true := by simp
   clear hR
   go_wp2_with fail
   refine (right13 A c n t true _ HNA.out HA.out.seen (by omega) (yes_iff HR.out)).mono ?_
   rintro e wx4 ⟨rfl, hx⟩
   replace HA := Lib.hid (HA.out.below hx)
   replace HS := Lib.hid (HS.out.below hx)
   replace hb := bthen hb hx
   clear hx
   go_wp2_with fail
   refine (RC.of A c n m t L er _ HNA.out (by omega) HA.out.seen HR.out HRI.out HM.out).mono ?_
   rintro e wx5 ⟨B2, d2, rfl, hd2, hs2, hx⟩
   replace HS := Lib.hid (HS.out.below hx)
   have HS2 := Lib.hid hs2
   replace hb := bthen hb hx
   clear hx hs2
   go_wp2_with fail
   refine (refs14 B d m L _ HM.out (by omega) HS.out).mono ?_
   rintro e wx6 ⟨B3, d3, rfl, hd3, hs3, hx⟩
   replace HS2 := Lib.hid (HS2.out.below hx)
   have HS3 := Lib.hid hs3
   replace hb := bthen hb hx
   clear hx hs3
   go_wp2_with fail
   refine (sameR14 B3 B2 d3 d2 m L _ HM.out (by omega) HS3.out HS2.out).mono ?_
   rintro e wx7 ⟨rfl, hx⟩
   replace hb := bthen hb hx
   clear hx
   go_wp2_with fail
   refine (AW _ (rowsAt TAB hb)).mono ?_
   rintro e wz ⟨rfl, hx⟩
   go_wp2
   go_ret
   exact ⟨rfl, bthen hb hx⟩
  ·have HR := Lib.hid hR
   have HZ := Lib.hid (show m = 0 ∧ er = 1 by
    rcases HI.out with ⟨h1, _⟩ | ⟨h1, _⟩ | ⟨_, h2, h3⟩
    ·exact absurd h1 hR
    ·exact absurd h1 hR
    ·exact ⟨by rw [← HM.out, h2]; rfl, h3⟩)
   obtain ⟨rfl, rfl⟩ := HZ.out
   clear hR
   go_wp2_with fail
   refine (right13 A c n t false _ HNA.out HA.out.seen (by omega) (no_iff HR.out)).mono ?_
   rintro e wx4 ⟨rfl, hx⟩
   replace hb := bthen hb hx
   clear hx
   go_wp2_with fail
   refine (AW _ (rowsAt TAB hb)).mono ?_
   rintro e wz ⟨rfl, hx⟩
   go_wp2
   go_ret
   exact ⟨rfl, bthen hb hx⟩
 ·have b1 : decide ((n : Int) > 60) = true := decide_eq_true (by omega)
  have b2 : decide ((60 : Int) < (n : Int)) = true := decide_eq_true (by omega)
  have b3 : decide (60 < n) = true := decide_eq_true (by omega)
  go_wp2_with fail
  refine (AW _ (rowsAt TAB hb)).mono ?_
  rintro e wz ⟨rfl, hx⟩
  go_wp2
  go_ret
  exact ⟨rfl, bthen hb hx⟩
end Go.Proofs.YtfcikfohmehmkaaGreatDoor
