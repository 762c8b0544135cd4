/-
  The walk of layer 12's statement GroupsOff, from what groups does: it returns true whatever comes in. No conditions.
-/
import Derived.Test.YtkifapbiimlafaaGroupB
namespace Go.Proofs.Ytkifapbiimlafaa
open Go.RowKit
set_option linter.unusedVariables false

set_option maxRecDepth 100000 in
set_option maxHeartbeats 8000000 in
theorem groupsOff_walk (E : GroupsOk) (AW : ∀ w, Calls Try.prog 11 #[] w (TrueS w)) (w : World) (A : Option Addr) (c : Nat) (t : List T.Ln) (hc : t.length ≤ c) (hA : Seen eL w A t) (hlA : t.length ≤ maxLen) (hNA : NilOk A c) :
    Calls Try.prog 7 #[.slice A t.length c] w (TrueS w) := by
  unfold maxLen at hlA
  obtain ⟨n, hnA⟩ : ∃ n, t.length = n := ⟨_, rfl⟩
  rw [hnA] at hc hlA ⊢
  have HNA := Lib.hid hnA
  have HA := Lib.hid hA
  have HOA := Lib.hid hNA
  clear hA hnA hNA
  have hb : Below w.heap.size w w := Below.refl _ _
  go_enter Try.func7, Try.ntmps7
  go_wp2_with fail
  refine (few12 A c n t _ HNA.out HA.out).mono ?_
  rintro e wx1 ⟨bs, rfl, hsm, hx⟩
  replace HA := Lib.hid (HA.out.below hx)
  replace hb := bthen hb hx
  clear hx
  cases bs with
  | false =>
    clear hsm
    go_wp2_with fail
    refine (AW _).mono ?_
    rintro e wz ⟨rfl, hx⟩
    go_wp2
    go_ret
    exact ⟨rfl, bthen hb hx⟩
  | true =>
    have hn60 : n ≤ 60 := hsm rfl
    clear hsm
    replace HA := Lib.hid (LArg.mk HNA.out (by omega) hc HOA.out HA.out)
    by_cases hR : T.RightT t
    · have HR := Lib.hid hR
      clear hR
      go_wp2_with fail
      refine (right12 A c n t true _ HA.out.len HA.out.seen HA.out.small (yes_iff HR.out)).mono ?_
      rintro e wx2 ⟨rfl, hx⟩
      replace HA := Lib.hid (HA.out.below hx)
      replace hb := bthen hb hx
      clear hx
      go_wp2_with fail
      refine (brief12 A c n t _ HA.out.len HA.out.seen HA.out.small).mono ?_
      rintro e wx3 ⟨bb, rfl, hx⟩
      replace HA := Lib.hid (HA.out.below hx)
      replace hb := bthen hb hx
      clear hx
      cases bb with
      | false =>
        go_wp2_with fail
        refine (AW _).mono ?_
        rintro e wz ⟨rfl, hx⟩
        go_wp2
        go_ret
        exact ⟨rfl, bthen hb hx⟩
      | true =>
        obtain ⟨a, ha⟩ : ∃ a, T.actL t = a := ⟨_, rfl⟩
        have HRA := Lib.hid (show T.RightT a by rw [← ha]; exact T.act_right HR.out)
        obtain ⟨m, hm⟩ : ∃ k, a.length = k := ⟨_, rfl⟩
        have HMa := Lib.hid hm
        have HIa := Lib.hid (show ActiveIs t a 0 from .inl ⟨HR.out, ha.symm, rfl⟩)
        have HEA := Lib.hid (show T.expandL a = T.expandL t by rw [← ha]; exact T.expand_act HR.out)
        clear ha hm
        obtain ⟨u, er, hI⟩ := expand_ex t
        have HIu := Lib.hid hI
        obtain ⟨m2, hm⟩ : ∃ k, u.length = k := ⟨_, rfl⟩
        have HMu := Lib.hid hm
        have hmu : m2 ≤ 200 := by rw [← hm]; exact expand_len hI
        clear hI hm
        have HIu2 := Lib.hid (show ExpandIs a u er from .inl ⟨HRA.out, by rw [HEA.out]; exact expandIs_of HIu.out HR.out⟩)
        go_wp2_with fail
        refine (E.activeOf A c n m t a 0 _ HA.out HIa.out HMa.out).mono ?_
        rintro e wx4 ⟨B4, d4, rfl, hs4, hx⟩
        replace HA := Lib.hid (HA.out.below hx)
        have HB := Lib.hid hs4
        clear hs4
        replace hb := bthen hb hx
        clear hx
        go_wp2_with fail
        refine (E.expandOf A c n m2 t u er _ HA.out HIu.out HMu.out).mono ?_
        rintro e wx5 ⟨B5, d5, rfl, hs5, hx⟩
        replace HA := Lib.hid (HA.out.below hx)
        replace HB := Lib.hid (HB.out.below hx)
        have HU := Lib.hid hs5
        clear hs5
        replace hb := bthen hb hx
        clear hx
        go_wp2_with fail
        refine (E.expandOf B4 d4 m m2 a u er _ HB.out HIu2.out HMu.out).mono ?_
        rintro e wx6 ⟨B6, d6, rfl, hs6, hx⟩
        replace HA := Lib.hid (HA.out.below hx)
        replace HB := Lib.hid (HB.out.below hx)
        replace HU := Lib.hid (HU.out.below hx)
        have HV := Lib.hid hs6
        clear hs6
        replace hb := bthen hb hx
        clear hx
        go_wp2_with fail
        refine (codeRight12 B4 d4 m a true _ HB.out.len HB.out.seen HB.out.small (yes_iff HRA.out)).mono ?_
        rintro e wx7 ⟨rfl, hx⟩
        replace HA := Lib.hid (HA.out.below hx)
        replace HB := Lib.hid (HB.out.below hx)
        replace HU := Lib.hid (HU.out.below hx)
        replace HV := Lib.hid (HV.out.below hx)
        replace hb := bthen hb hx
        clear hx
        have here : ((er : Int) == er) = true := beq_self_eq_true er
        go_wp2_with fail
        refine (same12 B5 B6 d5 d6 m2 m2 _ _ _ true (yes_iff rfl) HMu.out HMu.out (by omega) HU.out.seen HV.out.seen).mono ?_
        rintro e wx8 ⟨rfl, hx⟩
        replace HA := Lib.hid (HA.out.below hx)
        replace HB := Lib.hid (HB.out.below hx)
        replace HU := Lib.hid (HU.out.below hx)
        replace HV := Lib.hid (HV.out.below hx)
        replace hb := bthen hb hx
        clear hx
        go_wp2_with fail
        refine (AW _).mono ?_
        rintro e wz ⟨rfl, hx⟩
        go_wp2
        go_ret
        exact ⟨rfl, bthen hb hx⟩
    · have HR := Lib.hid hR
      clear hR
      go_wp2_with fail
      refine (right12 A c n t false _ HA.out.len HA.out.seen HA.out.small (no_iff HR.out)).mono ?_
      rintro e wx2 ⟨rfl, hx⟩
      replace HA := Lib.hid (HA.out.below hx)
      replace hb := bthen hb hx
      clear hx
      go_wp2_with fail
      refine (AW _).mono ?_
      rintro e wz ⟨rfl, hx⟩
      go_wp2
      go_ret
      exact ⟨rfl, bthen hb hx⟩
end Go.Proofs.Ytkifapbiimlafaa
