/-
  The walk of layer 12's statement GroupsExpand, from what groups does: it returns true whatever comes in. No conditions.
-/
import Derived.Test.YtkifapbiimlafaaGroupB
namespace Go.Proofs.Ytkifapbiimlafaa
open Go.RowKit
set_option linter.unusedVariables false

set_option maxRecDepth 100000 in
set_option maxHeartbeats 8000000 in
theorem groupsExpand_walk (E : GroupsOk) (AW : ∀ w, Calls Try.prog 11 #[] w (TrueS w)) (w : World) (A : Option Addr) (c : Nat) (t : List T.Ln) (hc : t.length ≤ c) (hA : Seen eL w A t) (hlA : t.length ≤ maxLen) (hNA : NilOk A c) (gs : ByteArray) (hgs : gs.size ≤ maxLen) :
    Calls Try.prog 4 #[.slice A t.length c, .string gs] w (TrueS w) := by
  obtain ⟨s, hs⟩ : ∃ s, gs.data.toList = s := ⟨_, rfl⟩
  obtain rfl : gs = sB s := by rw [← hs]; exact (sv12 gs).symm
  have hsl : (sB s).size = s.length := sB_size s
  clear hs hgs
  unfold maxLen at hlA
  obtain ⟨n, hnA⟩ : ∃ n, t.length = n := ⟨_, rfl⟩
  rw [hnA] at hc hlA ⊢
  have HNA := Lib.hid hnA
  have HA := Lib.hid hA
  have HOA := Lib.hid hNA
  clear hA hnA hNA
  have hb : Below w.heap.size w w := Below.refl _ _
  go_enter Try.func4, Try.ntmps4
  by_cases hg : s.length ≤ 100
  · have hg2 : decide ((100 : Int) < ((sB s).size : Int)) = false := decide_eq_false (by omega)
    have hg3 : decide (100 < (sB s).size) = false := decide_eq_false (by omega)
    have HG := Lib.hid hg
    clear hg hsl
    go_wp2_with fail
    refine (few12 A c n t _ HNA.out HA.out).mono ?_
    rintro e wx2 ⟨bs, rfl, hsm, hx⟩
    replace HA := Lib.hid (HA.out.below hx)
    replace hb := bthen hb hx
    clear hx
    cases bs with
    | false =>
      clear hsm
      go_wp2_with fail
      refine (AW _).mono ?_
      rintro e wz ⟨rfl, hx⟩
      go_wp2
      go_ret
      exact ⟨rfl, bthen hb hx⟩
    | true =>
      have hn60 : n ≤ 60 := hsm rfl
      clear hsm
      replace HA := Lib.hid (LArg.mk HNA.out (by omega) hc HOA.out HA.out)
      obtain ⟨u, er, hI⟩ := expand_ex t
      have HIu := Lib.hid hI
      obtain ⟨m, hm⟩ : ∃ k, u.length = k := ⟨_, rfl⟩
      have HMu := Lib.hid hm
      have hmu : m ≤ 200 := by rw [← hm]; exact expand_len hI
      clear hI hm
      obtain ⟨L, er2, hI⟩ := paths_ex t s
      have HIL := Lib.hid hI
      obtain ⟨m2, hm⟩ : ∃ k, L.length = k := ⟨_, rfl⟩
      have HML := Lib.hid hm
      have hmL : m2 ≤ 40200 := by rw [← hm]; exact (pathsAre_len hI).1
      have HFL := Lib.hid (pathsAre_len hI).2
      clear hI hm
      go_wp2_with fail
      refine (E.expandOf A c n m t u er _ HA.out HIu.out HMu.out).mono ?_
      rintro e wx3 ⟨B3, d3, rfl, hs3, hx⟩
      replace HA := Lib.hid (HA.out.below hx)
      have HU := Lib.hid hs3
      clear hs3
      replace hb := bthen hb hx
      clear hx
      go_wp2_with fail
      refine (E.pathsOf A c n m2 t s L er2 _ HA.out HG.out HIL.out HML.out).mono ?_
      rintro e wx4 ⟨B4, d4, rfl, hs4, hx⟩
      replace HA := Lib.hid (HA.out.below hx)
      replace HU := Lib.hid (HU.out.below hx)
      have HL := Lib.hid hs4
      clear hs4
      replace hb := bthen hb hx
      clear hx
      by_cases hR : T.RightT t
      · have HR := Lib.hid hR
        clear hR
        go_wp2_with fail
        refine (right12 A c n t true _ HA.out.len HA.out.seen HA.out.small (yes_iff HR.out)).mono ?_
        rintro e wx5 ⟨rfl, hx⟩
        replace HA := Lib.hid (HA.out.below hx)
        replace HU := Lib.hid (HU.out.below hx)
        replace HL := Lib.hid (HL.out.below hx)
        replace hb := bthen hb hx
        clear hx
        go_wp2_with fail
        refine (brief12 A c n t _ HA.out.len HA.out.seen HA.out.small).mono ?_
        rintro e wx6 ⟨bb, rfl, hx⟩
        replace HA := Lib.hid (HA.out.below hx)
        replace HU := Lib.hid (HU.out.below hx)
        replace HL := Lib.hid (HL.out.below hx)
        replace hb := bthen hb hx
        clear hx
        cases bb with
        | false =>
          go_wp2_with fail
          refine (AW _).mono ?_
          rintro e wz ⟨rfl, hx⟩
          go_wp2
          go_ret
          exact ⟨rfl, bthen hb hx⟩
        | true =>
          go_wp2_with fail
          refine (refExpand12 A c n m t u er _ HA.out HR.out (expandIs_of HIu.out HR.out) HMu.out).mono ?_
          rintro e wx7 ⟨B7, d7, rfl, hs7, hx⟩
          replace HA := Lib.hid (HA.out.below hx)
          replace HU := Lib.hid (HU.out.below hx)
          replace HL := Lib.hid (HL.out.below hx)
          have HU2 := Lib.hid hs7
          clear hs7
          replace hb := bthen hb hx
          clear hx
          go_wp2_with fail
          refine (refPaths12 A c n m2 t s L er2 _ HA.out HR.out (pathsIs_of HIL.out HR.out) HML.out).mono ?_
          rintro e wx8 ⟨B8, d8, rfl, _, hs8, hx⟩
          replace HA := Lib.hid (HA.out.below hx)
          replace HU := Lib.hid (HU.out.below hx)
          replace HL := Lib.hid (HL.out.below hx)
          replace HU2 := Lib.hid (HU2.out.below hx)
          have HL2 := Lib.hid hs8
          clear hs8
          replace hb := bthen hb hx
          clear hx
          go_wp2_with fail
          refine (same12 B3 B7 d3 d7 m m _ _ _ true (yes_iff rfl) HMu.out HMu.out (by omega) HU.out.seen HU2.out.seen).mono ?_
          rintro e wx9 ⟨rfl, hx⟩
          replace HA := Lib.hid (HA.out.below hx)
          replace HU := Lib.hid (HU.out.below hx)
          replace HL := Lib.hid (HL.out.below hx)
          replace HU2 := Lib.hid (HU2.out.below hx)
          replace HL2 := Lib.hid (HL2.out.below hx)
          replace hb := bthen hb hx
          clear hx
          go_wp2_with fail
          refine (sameP12 B4 B8 d4 d8 m2 L _ HML.out (by omega) (fun p hp => by have := (HFL.out p hp).deep; omega) (HL.out.seenAt HML.out).1.seenP HL2.out.seenP).mono ?_
          rintro e wx10 ⟨rfl, hx⟩
          replace HA := Lib.hid (HA.out.below hx)
          replace HU := Lib.hid (HU.out.below hx)
          replace HL := Lib.hid (HL.out.below hx)
          replace HU2 := Lib.hid (HU2.out.below hx)
          replace HL2 := Lib.hid (HL2.out.below hx)
          replace hb := bthen hb hx
          clear hx
          go_wp2_with fail
          refine (AW _).mono ?_
          rintro e wz ⟨rfl, hx⟩
          go_wp2
          go_ret
          exact ⟨rfl, bthen hb hx⟩
      · have HR := Lib.hid hR
        obtain ⟨rfl, rfl⟩ := wrong_pair HIu.out hR
        obtain ⟨rfl, rfl⟩ := wrong_pair HIL.out hR
        obtain rfl : m = 0 := HMu.out.symm
        obtain rfl : m2 = 0 := HML.out.symm
        clear hR
        go_wp2_with fail
        refine (right12 A c n t false _ HA.out.len HA.out.seen HA.out.small (no_iff HR.out)).mono ?_
        rintro e wx5 ⟨rfl, hx⟩
        replace HA := Lib.hid (HA.out.below hx)
        replace HU := Lib.hid (HU.out.below hx)
        replace HL := Lib.hid (HL.out.below hx)
        replace hb := bthen hb hx
        clear hx
        go_wp2_with fail
        refine (AW _).mono ?_
        rintro e wz ⟨rfl, hx⟩
        go_wp2
        go_ret
        exact ⟨rfl, bthen hb hx⟩
  · have hg2 : decide ((100 : Int) < ((sB s).size : Int)) = true := decide_eq_true (by omega)
    have hg3 : decide (100 < (sB s).size) = true := decide_eq_true (by omega)
    clear hg hsl
    go_wp2_with fail
    refine (few12 A c n t _ HNA.out HA.out).mono ?_
    rintro e wx ⟨bs, rfl, hsm, hx⟩
    replace hb := bthen hb hx
    clear hx hsm
    cases bs with
    | false =>
      go_wp2_with fail
      refine (AW _).mono ?_
      rintro e wz ⟨rfl, hx⟩
      go_wp2
      go_ret
      exact ⟨rfl, bthen hb hx⟩
    | true =>
      go_wp2_with fail
      refine (AW _).mono ?_
      rintro e wz ⟨rfl, hx⟩
      go_wp2
      go_ret
      exact ⟨rfl, bthen hb hx⟩
end Go.Proofs.Ytkifapbiimlafaa
