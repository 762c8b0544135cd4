/-
  The walk of layer 9's statement MergeOne, from what merge.Of does: it returns true whatever the lines are. No conditions.
-/
import Derived.Test.YtfajfjocpgbmeaaMergeA
namespace Go.Proofs.Ytfajfjocpgbmeaa
open Go.RowKit
set_option linter.unusedVariables false

set_option maxRecDepth 100000 in
set_option maxHeartbeats 4000000 in
theorem mergeOne_walk (E : MergeOk) (AW : ∀ w, Calls Try.prog 10 #[] w (TrueS w)) (w : World) (A : Option Addr) (c : Nat) (a : List T.Ln) (hc : a.length ≤ c) (hA : Seen eL w A a) (hlA : a.length ≤ maxLen) (hNA : NilOk A c) (B : Option Addr) (d : Nat) (b : List T.Ln) (hd : b.length ≤ d) (hB : Seen eL w B b) (hlB : b.length ≤ maxLen) (hNB : NilOk B d) :
    Calls Try.prog 5 #[.slice A a.length c, .slice B b.length d] w (TrueS w) := by
  unfold maxLen at hlA
  obtain ⟨n, hnA⟩ : ∃ n, a.length = n := ⟨_, rfl⟩
  rw [hnA] at hc hlA ⊢
  have HNA := Lib.hid hnA
  have HA := Lib.hid hA
  have HOA := Lib.hid hNA
  clear hA hnA hNA
  unfold maxLen at hlB
  obtain ⟨m, hnB⟩ : ∃ m, b.length = m := ⟨_, rfl⟩
  rw [hnB] at hd hlB ⊢
  have HNB := Lib.hid hnB
  have HB := Lib.hid hB
  have HOB := Lib.hid hNB
  clear hB hnB hNB
  have hb : Below w.heap.size w w := Below.refl _ _
  go_enter Try.func5, Try.ntmps5
  go_wp2_with fail
  refine (few_any A B none c d 0 n m 0 a b [] _ HNA.out HNB.out rfl HA.out HB.out Seen.nil).mono ?_
  rintro e wx1 ⟨bs, rfl, hsm, hx⟩
  replace HA := Lib.hid (HA.out.below hx)
  replace HB := Lib.hid (HB.out.below hx)
  replace hb := bthen hb hx
  clear hx
  cases bs with
  | false =>
    clear hsm
    go_wp2_with fail
    refine (AW _).mono ?_
    rintro e wz ⟨rfl, hx⟩
    go_wp2
    go_ret
    exact ⟨rfl, bthen hb hx⟩
  | true =>
    have hsm2 := hsm rfl
    clear hsm
    have hn30 : n ≤ 30 := hsm2.1
    have hm30 : m ≤ 30 := hsm2.2.1
    have hk30 : 0 ≤ 30 := hsm2.2.2
    clear hsm2
    replace HA := Lib.hid (TArg.mk HNA.out (by omega) hc HA.out HOA.out)
    replace HB := Lib.hid (TArg.mk HNB.out (by omega) hd HB.out HOB.out)
    by_cases hR : T.RightT a ∧ T.RightT b
    · have HR1 := Lib.hid hR.1
      have HR2 := Lib.hid hR.2
      clear hR
      go_wp2_with fail
      refine (merge_q E A B A c d c n m n m 0 a b a b [] 0 _ HA.out HB.out HA.out (by omega) (by omega) (by omega) (T.merge_left HR1.out HR2.out) HNB.out rfl).mono ?_
      rintro e wx2 ⟨A1, c1, B1, d1, rfl, hs2, hp2, hx⟩
      replace HA := Lib.hid (HA.out.below hx)
      replace HB := Lib.hid (HB.out.below hx)
      have HU1 := Lib.hid hs2
      have HL1 := Lib.hid hp2
      clear hs2 hp2
      replace hb := bthen hb hx
      clear hx
      go_wp2_with fail
      refine (merge_q E A A B c c d n n m m 0 a a b b [] 0 _ HA.out HA.out HB.out (by omega) (by omega) (by omega) (T.merge_right HR1.out HR2.out) HNB.out rfl).mono ?_
      rintro e wx3 ⟨A2, c2, B2, d2, rfl, hs3, hp3, hx⟩
      replace HA := Lib.hid (HA.out.below hx)
      replace HB := Lib.hid (HB.out.below hx)
      replace HU1 := Lib.hid (HU1.out.below hx)
      replace HL1 := Lib.hid (HL1.out.below hx)
      have HU2 := Lib.hid hs3
      have HL2 := Lib.hid hp3
      clear hs3 hp3
      replace hb := bthen hb hx
      clear hx
      go_wp2_with fail
      refine (merge_q E A B B c d d n m m m 0 a b b b [] 0 _ HA.out HB.out HB.out (by omega) (by omega) (by omega) (T.merge_both HR1.out HR2.out) HNB.out rfl).mono ?_
      rintro e wx4 ⟨A3, c3, B3, d3, rfl, hs4, hp4, hx⟩
      replace HA := Lib.hid (HA.out.below hx)
      replace HB := Lib.hid (HB.out.below hx)
      replace HU1 := Lib.hid (HU1.out.below hx)
      replace HL1 := Lib.hid (HL1.out.below hx)
      replace HU2 := Lib.hid (HU2.out.below hx)
      replace HL2 := Lib.hid (HL2.out.below hx)
      have HU3 := Lib.hid hs4
      have HL3 := Lib.hid hp4
      clear hs4 hp4
      replace hb := bthen hb hx
      clear hx
      go_wp2_with fail
      refine (rightRQ A c n a true _ HA.out (yes_iff HR1.out)).mono ?_
      rintro e wx5 ⟨rfl, hx⟩
      replace HA := Lib.hid (HA.out.below hx)
      replace HB := Lib.hid (HB.out.below hx)
      replace HU1 := Lib.hid (HU1.out.below hx)
      replace HL1 := Lib.hid (HL1.out.below hx)
      replace HU2 := Lib.hid (HU2.out.below hx)
      replace HL2 := Lib.hid (HL2.out.below hx)
      replace HU3 := Lib.hid (HU3.out.below hx)
      replace HL3 := Lib.hid (HL3.out.below hx)
      replace hb := bthen hb hx
      clear hx
      go_wp2_with fail
      refine (rightRQ B d m b true _ HB.out (yes_iff HR2.out)).mono ?_
      rintro e wx6 ⟨rfl, hx⟩
      replace HA := Lib.hid (HA.out.below hx)
      replace HB := Lib.hid (HB.out.below hx)
      replace HU1 := Lib.hid (HU1.out.below hx)
      replace HL1 := Lib.hid (HL1.out.below hx)
      replace HU2 := Lib.hid (HU2.out.below hx)
      replace HL2 := Lib.hid (HL2.out.below hx)
      replace HU3 := Lib.hid (HU3.out.below hx)
      replace HL3 := Lib.hid (HL3.out.below hx)
      replace hb := bthen hb hx
      clear hx
      go_wp2_with fail
      refine (sameQ A1 B c1 d m m b b _ true (yes_iff rfl) HNB.out HNB.out (by omega) HU1.out.hA HB.out.hA).mono ?_
      rintro e wx7 ⟨rfl, hx⟩
      replace HA := Lib.hid (HA.out.below hx)
      replace HB := Lib.hid (HB.out.below hx)
      replace HU1 := Lib.hid (HU1.out.below hx)
      replace HL1 := Lib.hid (HL1.out.below hx)
      replace HU2 := Lib.hid (HU2.out.below hx)
      replace HL2 := Lib.hid (HL2.out.below hx)
      replace HU3 := Lib.hid (HU3.out.below hx)
      replace HL3 := Lib.hid (HL3.out.below hx)
      replace hb := bthen hb hx
      clear hx
      go_wp2_with fail
      refine (sameQ A2 B c2 d m m b b _ true (yes_iff rfl) HNB.out HNB.out (by omega) HU2.out.hA HB.out.hA).mono ?_
      rintro e wx8 ⟨rfl, hx⟩
      replace HA := Lib.hid (HA.out.below hx)
      replace HB := Lib.hid (HB.out.below hx)
      replace HU1 := Lib.hid (HU1.out.below hx)
      replace HL1 := Lib.hid (HL1.out.below hx)
      replace HU2 := Lib.hid (HU2.out.below hx)
      replace HL2 := Lib.hid (HL2.out.below hx)
      replace HU3 := Lib.hid (HU3.out.below hx)
      replace HL3 := Lib.hid (HL3.out.below hx)
      replace hb := bthen hb hx
      clear hx
      go_wp2_with fail
      refine (sameQ A3 B c3 d m m b b _ true (yes_iff rfl) HNB.out HNB.out (by omega) HU3.out.hA HB.out.hA).mono ?_
      rintro e wx9 ⟨rfl, hx⟩
      replace HA := Lib.hid (HA.out.below hx)
      replace HB := Lib.hid (HB.out.below hx)
      replace HU1 := Lib.hid (HU1.out.below hx)
      replace HL1 := Lib.hid (HL1.out.below hx)
      replace HU2 := Lib.hid (HU2.out.below hx)
      replace HL2 := Lib.hid (HL2.out.below hx)
      replace HU3 := Lib.hid (HU3.out.below hx)
      replace HL3 := Lib.hid (HL3.out.below hx)
      replace hb := bthen hb hx
      clear hx
      go_wp2_with fail
      refine (AW _).mono ?_
      rintro e wz ⟨rfl, hx⟩
      go_wp2
      go_ret
      exact ⟨rfl, bthen hb hx⟩
    · have HR := Lib.hid hR
      clear hR
      go_wp2_with fail
      refine (merge_q E A B A c d c n m n 0 0 a b a [] [] 1 _ HA.out HB.out HA.out (by omega) (by omega) (by omega) (.inl ⟨fun h => HR.out ⟨h.1, h.2.1⟩, rfl, rfl, rfl⟩) rfl rfl).mono ?_
      rintro e wx2 ⟨A1, c1, B1, d1, rfl, hs2, hp2, hx⟩
      replace HA := Lib.hid (HA.out.below hx)
      replace HB := Lib.hid (HB.out.below hx)
      have HU1 := Lib.hid hs2
      have HL1 := Lib.hid hp2
      clear hs2 hp2
      replace hb := bthen hb hx
      clear hx
      go_wp2_with fail
      refine (merge_q E A A B c c d n n m 0 0 a a b [] [] 1 _ HA.out HA.out HB.out (by omega) (by omega) (by omega) (.inl ⟨fun h => HR.out ⟨h.1, h.2.2⟩, rfl, rfl, rfl⟩) rfl rfl).mono ?_
      rintro e wx3 ⟨A2, c2, B2, d2, rfl, hs3, hp3, hx⟩
      replace HA := Lib.hid (HA.out.below hx)
      replace HB := Lib.hid (HB.out.below hx)
      replace HU1 := Lib.hid (HU1.out.below hx)
      replace HL1 := Lib.hid (HL1.out.below hx)
      have HU2 := Lib.hid hs3
      have HL2 := Lib.hid hp3
      clear hs3 hp3
      replace hb := bthen hb hx
      clear hx
      go_wp2_with fail
      refine (merge_q E A B B c d d n m m 0 0 a b b [] [] 1 _ HA.out HB.out HB.out (by omega) (by omega) (by omega) (.inl ⟨fun h => HR.out ⟨h.1, h.2.1⟩, rfl, rfl, rfl⟩) rfl rfl).mono ?_
      rintro e wx4 ⟨A3, c3, B3, d3, rfl, hs4, hp4, hx⟩
      replace HA := Lib.hid (HA.out.below hx)
      replace HB := Lib.hid (HB.out.below hx)
      replace HU1 := Lib.hid (HU1.out.below hx)
      replace HL1 := Lib.hid (HL1.out.below hx)
      replace HU2 := Lib.hid (HU2.out.below hx)
      replace HL2 := Lib.hid (HL2.out.below hx)
      have HU3 := Lib.hid hs4
      have HL3 := Lib.hid hp4
      clear hs4 hp4
      replace hb := bthen hb hx
      clear hx
      by_cases hR1 : T.RightT a
      · have HR1 := Lib.hid hR1
        have HR2 := Lib.hid (show ¬ T.RightT b from fun h => HR.out ⟨hR1, h⟩)
        clear hR1
        go_wp2_with fail
        refine (rightRQ A c n a true _ HA.out (yes_iff HR1.out)).mono ?_
        rintro e wx5 ⟨rfl, hx⟩
        replace HA := Lib.hid (HA.out.below hx)
        replace HB := Lib.hid (HB.out.below hx)
        replace HU1 := Lib.hid (HU1.out.below hx)
        replace HL1 := Lib.hid (HL1.out.below hx)
        replace HU2 := Lib.hid (HU2.out.below hx)
        replace HL2 := Lib.hid (HL2.out.below hx)
        replace HU3 := Lib.hid (HU3.out.below hx)
        replace HL3 := Lib.hid (HL3.out.below hx)
        replace hb := bthen hb hx
        clear hx
        go_wp2_with fail
        refine (rightRQ B d m b false _ HB.out (no_iff HR2.out)).mono ?_
        rintro e wx6 ⟨rfl, hx⟩
        replace HA := Lib.hid (HA.out.below hx)
        replace HB := Lib.hid (HB.out.below hx)
        replace HU1 := Lib.hid (HU1.out.below hx)
        replace HL1 := Lib.hid (HL1.out.below hx)
        replace HU2 := Lib.hid (HU2.out.below hx)
        replace HL2 := Lib.hid (HL2.out.below hx)
        replace HU3 := Lib.hid (HU3.out.below hx)
        replace HL3 := Lib.hid (HL3.out.below hx)
        replace hb := bthen hb hx
        clear hx
        go_wp2_with fail
        refine (AW _).mono ?_
        rintro e wz ⟨rfl, hx⟩
        go_wp2
        go_ret
        exact ⟨rfl, bthen hb hx⟩
      · have HR1 := Lib.hid hR1
        clear hR1
        go_wp2_with fail
        refine (rightRQ A c n a false _ HA.out (no_iff HR1.out)).mono ?_
        rintro e wx5 ⟨rfl, hx⟩
        replace HA := Lib.hid (HA.out.below hx)
        replace HB := Lib.hid (HB.out.below hx)
        replace HU1 := Lib.hid (HU1.out.below hx)
        replace HL1 := Lib.hid (HL1.out.below hx)
        replace HU2 := Lib.hid (HU2.out.below hx)
        replace HL2 := Lib.hid (HL2.out.below hx)
        replace HU3 := Lib.hid (HU3.out.below hx)
        replace HL3 := Lib.hid (HL3.out.below hx)
        replace hb := bthen hb hx
        clear hx
        go_wp2_with fail
        refine (AW _).mono ?_
        rintro e wz ⟨rfl, hx⟩
        go_wp2
        go_ret
        exact ⟨rfl, bthen hb hx⟩
end Go.Proofs.Ytfajfjocpgbmeaa
