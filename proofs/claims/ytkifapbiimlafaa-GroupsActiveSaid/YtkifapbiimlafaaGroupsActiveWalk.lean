/-
  The walk of layer 12's statement GroupsActive, from what groups does: it returns true whatever comes in. No conditions.
-/
import Derived.Test.YtkifapbiimlafaaGroupB
namespace Go.Proofs.Ytkifapbiimlafaa
open Go.RowKit
set_option linter.unusedVariables false

set_option maxRecDepth 100000 in
set_option maxHeartbeats 8000000 in
theorem groupsActive_walk (E : GroupsOk) (AW : ∀ w, Calls Try.prog 11 #[] w (TrueS w)) (w : World) (A : Option Addr) (c : Nat) (t : List T.Ln) (hc : t.length ≤ c) (hA : Seen eL w A t) (hlA : t.length ≤ maxLen) (hNA : NilOk A c) :
    Calls Try.prog 3 #[.slice A t.length c] w (TrueS w) := by
  unfold maxLen at hlA
  obtain ⟨n, hnA⟩ : ∃ n, t.length = n := ⟨_, rfl⟩
  rw [hnA] at hc hlA ⊢
  have HNA := Lib.hid hnA
  have HA := Lib.hid hA
  have HOA := Lib.hid hNA
  clear hA hnA hNA
  have hb : Below w.heap.size w w := Below.refl _ _
  go_enter Try.func3, Try.ntmps3
  go_wp2_with fail
  refine (few12 A c n t _ HNA.out HA.out).mono ?_
  rintro e wx1 ⟨bs, rfl, hsm, hx⟩
  replace HA := Lib.hid (HA.out.below hx)
  replace hb := bthen hb hx
  clear hx
  cases bs with
  | false =>
    clear hsm
    go_wp2_with fail
    refine (AW _).mono ?_
    rintro e wz ⟨rfl, hx⟩
    go_wp2
    go_ret
    exact ⟨rfl, bthen hb hx⟩
  | true =>
    have hn60 : n ≤ 60 := hsm rfl
    clear hsm
    replace HA := Lib.hid (LArg.mk HNA.out (by omega) hc HOA.out HA.out)
    obtain ⟨u, er, hI⟩ := active_ex t
    have HIu := Lib.hid hI
    obtain ⟨m, hm⟩ : ∃ k, u.length = k := ⟨_, rfl⟩
    have HMu := Lib.hid hm
    have hmu : m ≤ 200 := by rw [← hm]; exact active_len hI
    clear hI hm
    obtain ⟨x, er2, hI⟩ := explicit_ex t
    have HIx := Lib.hid hI
    obtain ⟨m2, hm⟩ : ∃ k, x.length = k := ⟨_, rfl⟩
    have HMx := Lib.hid hm
    have hmx : m2 ≤ 200 := by rw [← hm]; exact explicit_len hI
    clear hI hm
    go_wp2_with fail
    refine (E.activeOf A c n m t u er _ HA.out HIu.out HMu.out).mono ?_
    rintro e wx2 ⟨B2, d2, rfl, hs2, hx⟩
    replace HA := Lib.hid (HA.out.below hx)
    have HU := Lib.hid hs2
    clear hs2
    replace hb := bthen hb hx
    clear hx
    go_wp2_with fail
    refine (E.explicitOf A c n m2 t x er2 _ HA.out HIx.out HMx.out).mono ?_
    rintro e wx3 ⟨B3, d3, rfl, hs3, hx⟩
    replace HA := Lib.hid (HA.out.below hx)
    replace HU := Lib.hid (HU.out.below hx)
    have HX := Lib.hid hs3
    clear hs3
    replace hb := bthen hb hx
    clear hx
    by_cases hR : T.RightT t
    · have HR := Lib.hid hR
      obtain ⟨rfl, rfl⟩ : u = T.actL t ∧ er = 0 := by
        rcases HIu.out with ⟨_, h⟩ | ⟨h, _⟩
        · exact h
        · exact absurd hR h
      obtain ⟨rfl, rfl⟩ : x = T.expL t ∧ er2 = 0 := by
        rcases HIx.out with ⟨_, h⟩ | ⟨h, _⟩
        · exact h
        · exact absurd hR h
      clear hR
      go_wp2_with fail
      refine (right12 A c n t true _ HA.out.len HA.out.seen HA.out.small (yes_iff HR.out)).mono ?_
      rintro e wx4 ⟨rfl, hx⟩
      replace HA := Lib.hid (HA.out.below hx)
      replace HU := Lib.hid (HU.out.below hx)
      replace HX := Lib.hid (HX.out.below hx)
      replace hb := bthen hb hx
      clear hx
      go_wp2_with fail
      refine (refActive12 A c n m t _ _ HA.out HR.out rfl HMu.out).mono ?_
      rintro e wx5 ⟨B5, d5, rfl, hs5, hx⟩
      replace HA := Lib.hid (HA.out.below hx)
      replace HU := Lib.hid (HU.out.below hx)
      replace HX := Lib.hid (HX.out.below hx)
      have HU2 := Lib.hid hs5
      clear hs5
      replace hb := bthen hb hx
      clear hx
      go_wp2_with fail
      refine (same12 B2 B5 d2 d5 m m _ _ _ true (yes_iff rfl) HMu.out HMu.out (by omega) HU.out.seen HU2.out.seen).mono ?_
      rintro e wx6 ⟨rfl, hx⟩
      replace HA := Lib.hid (HA.out.below hx)
      replace HU := Lib.hid (HU.out.below hx)
      replace HX := Lib.hid (HX.out.below hx)
      replace HU2 := Lib.hid (HU2.out.below hx)
      replace hb := bthen hb hx
      clear hx
      go_wp2_with fail
      refine (refExplicit12 A c n m2 t _ _ HA.out HR.out rfl HMx.out).mono ?_
      rintro e wx7 ⟨B7, d7, rfl, hs7, hx⟩
      replace HA := Lib.hid (HA.out.below hx)
      replace HU := Lib.hid (HU.out.below hx)
      replace HX := Lib.hid (HX.out.below hx)
      replace HU2 := Lib.hid (HU2.out.below hx)
      have HX2 := Lib.hid hs7
      clear hs7
      replace hb := bthen hb hx
      clear hx
      go_wp2_with fail
      refine (same12 B3 B7 d3 d7 m2 m2 _ _ _ true (yes_iff rfl) HMx.out HMx.out (by omega) HX.out.seen HX2.out.seen).mono ?_
      rintro e wx8 ⟨rfl, hx⟩
      replace HA := Lib.hid (HA.out.below hx)
      replace HU := Lib.hid (HU.out.below hx)
      replace HX := Lib.hid (HX.out.below hx)
      replace HU2 := Lib.hid (HU2.out.below hx)
      replace HX2 := Lib.hid (HX2.out.below hx)
      replace hb := bthen hb hx
      clear hx
      go_wp2_with fail
      refine (AW _).mono ?_
      rintro e wz ⟨rfl, hx⟩
      go_wp2
      go_ret
      exact ⟨rfl, bthen hb hx⟩
    · have HR := Lib.hid hR
      obtain ⟨rfl, rfl⟩ := wrong_pair HIu.out hR
      obtain ⟨rfl, rfl⟩ := wrong_pair HIx.out hR
      obtain rfl : m = 0 := HMu.out.symm
      obtain rfl : m2 = 0 := HMx.out.symm
      clear hR
      go_wp2_with fail
      refine (right12 A c n t false _ HA.out.len HA.out.seen HA.out.small (no_iff HR.out)).mono ?_
      rintro e wx4 ⟨rfl, hx⟩
      replace HA := Lib.hid (HA.out.below hx)
      replace HU := Lib.hid (HU.out.below hx)
      replace HX := Lib.hid (HX.out.below hx)
      replace hb := bthen hb hx
      clear hx
      go_wp2_with fail
      refine (AW _).mono ?_
      rintro e wz ⟨rfl, hx⟩
      go_wp2
      go_ret
      exact ⟨rfl, bthen hb hx⟩
end Go.Proofs.Ytkifapbiimlafaa
