/-
  The walk of layer 9's statement MergeAgain, from what merge.Of does: it returns true whatever the lines are. No conditions.
-/
import Derived.Test.YtfajfjocpgbmeaaMergeA
namespace Go.Proofs.Ytfajfjocpgbmeaa
open Go.RowKit
set_option linter.unusedVariables false

set_option maxRecDepth 100000 in
set_option maxHeartbeats 4000000 in
theorem mergeAgain_walk (E : MergeOk) (AW : ∀ w, Calls Try.prog 10 #[] w (TrueS w)) (w : World) (A : Option Addr) (c : Nat) (a : List T.Ln) (hc : a.length ≤ c) (hA : Seen eL w A a) (hlA : a.length ≤ maxLen) (hNA : NilOk A c) (B : Option Addr) (d : Nat) (b : List T.Ln) (hd : b.length ≤ d) (hB : Seen eL w B b) (hlB : b.length ≤ maxLen) (hNB : NilOk B d) (C : Option Addr) (f : Nat) (t : List T.Ln) (hf : t.length ≤ f) (hC : Seen eL w C t) (hlC : t.length ≤ maxLen) (hNC : NilOk C f) :
    Calls Try.prog 8 #[.slice A a.length c, .slice B b.length d, .slice C t.length f] w (TrueS w) := by
  unfold maxLen at hlA
  obtain ⟨n, hnA⟩ : ∃ n, a.length = n := ⟨_, rfl⟩
  rw [hnA] at hc hlA ⊢
  have HNA := Lib.hid hnA
  have HA := Lib.hid hA
  have HOA := Lib.hid hNA
  clear hA hnA hNA
  unfold maxLen at hlB
  obtain ⟨m, hnB⟩ : ∃ m, b.length = m := ⟨_, rfl⟩
  rw [hnB] at hd hlB ⊢
  have HNB := Lib.hid hnB
  have HB := Lib.hid hB
  have HOB := Lib.hid hNB
  clear hB hnB hNB
  unfold maxLen at hlC
  obtain ⟨k, hnC⟩ : ∃ k, t.length = k := ⟨_, rfl⟩
  rw [hnC] at hf hlC ⊢
  have HNC := Lib.hid hnC
  have HC := Lib.hid hC
  have HOC := Lib.hid hNC
  clear hC hnC hNC
  have hb : Below w.heap.size w w := Below.refl _ _
  go_enter Try.func8, Try.ntmps8
  go_wp2_with fail
  refine (few_any A B C c d f n m k a b t _ HNA.out HNB.out HNC.out HA.out HB.out HC.out).mono ?_
  rintro e wx1 ⟨bs, rfl, hsm, hx⟩
  replace HA := Lib.hid (HA.out.below hx)
  replace HB := Lib.hid (HB.out.below hx)
  replace HC := Lib.hid (HC.out.below hx)
  replace hb := bthen hb hx
  clear hx
  cases bs with
  | false =>
    clear hsm
    go_wp2_with fail
    refine (AW _).mono ?_
    rintro e wz ⟨rfl, hx⟩
    go_wp2
    go_ret
    exact ⟨rfl, bthen hb hx⟩
  | true =>
    have hsm2 := hsm rfl
    clear hsm
    have hn30 : n ≤ 30 := hsm2.1
    have hm30 : m ≤ 30 := hsm2.2.1
    have hk30 : k ≤ 30 := hsm2.2.2
    clear hsm2
    replace HA := Lib.hid (TArg.mk HNA.out (by omega) hc HA.out HOA.out)
    replace HB := Lib.hid (TArg.mk HNB.out (by omega) hd HB.out HOB.out)
    replace HC := Lib.hid (TArg.mk HNC.out (by omega) hf HC.out HOC.out)
    obtain ⟨u, l, er, hmi⟩ := T.merge_is a b t
    have HMI := Lib.hid hmi
    obtain ⟨nu, hnu⟩ : ∃ nu, u.length = nu := ⟨_, rfl⟩
    obtain ⟨nl, hnl⟩ : ∃ nl, l.length = nl := ⟨_, rfl⟩
    have HNU := Lib.hid hnu
    have HNL := Lib.hid hnl
    have hnu200 : nu ≤ 200 := by rw [← hnu]; exact merge_len hmi
    clear hmi hnu hnl
    go_wp2_with fail
    refine (merge_q E A B C c d f n m k nu nl a b t u l er _ HA.out HB.out HC.out (by omega) (by omega) (by omega) HMI.out HNU.out HNL.out).mono ?_
    rintro e wx2 ⟨A1, c1, B1, d1, rfl, hs2, hp2, hx⟩
    replace HA := Lib.hid (HA.out.below hx)
    replace HB := Lib.hid (HB.out.below hx)
    replace HC := Lib.hid (HC.out.below hx)
    have HU := Lib.hid hs2
    have HL := Lib.hid hp2
    clear hs2 hp2
    replace hb := bthen hb hx
    clear hx
    by_cases h0 : er = 0
    · subst h0
      have HM1 := Lib.hid HMI.out.again
      have HM2 := Lib.hid HMI.out.again2
      go_wp2_with fail
      refine (merge_q E A A1 C c c1 f n nu k nu 0 a u t u [] 0 _ HA.out HU.out HC.out (by omega) (by omega) (by omega) HM1.out HNU.out rfl).mono ?_
      rintro e wx3 ⟨A2, c2, B2, d2, rfl, hs3, hp3, hx⟩
      replace HA := Lib.hid (HA.out.below hx)
      replace HB := Lib.hid (HB.out.below hx)
      replace HC := Lib.hid (HC.out.below hx)
      replace HU := Lib.hid (HU.out.below hx)
      replace HL := Lib.hid (HL.out.below hx)
      have HU2 := Lib.hid hs3
      have HL2 := Lib.hid hp3
      clear hs3 hp3
      replace hb := bthen hb hx
      clear hx
      go_wp2_with fail
      refine (merge_q E A B A1 c d c1 n m nu nu 0 a b u u [] 0 _ HA.out HB.out HU.out (by omega) (by omega) (by omega) HM2.out HNU.out rfl).mono ?_
      rintro e wx4 ⟨A3, c3, B3, d3, rfl, hs4, hp4, hx⟩
      replace HA := Lib.hid (HA.out.below hx)
      replace HB := Lib.hid (HB.out.below hx)
      replace HC := Lib.hid (HC.out.below hx)
      replace HU := Lib.hid (HU.out.below hx)
      replace HL := Lib.hid (HL.out.below hx)
      replace HU2 := Lib.hid (HU2.out.below hx)
      replace HL2 := Lib.hid (HL2.out.below hx)
      have HU3 := Lib.hid hs4
      have HL3 := Lib.hid hp4
      clear hs4 hp4
      replace hb := bthen hb hx
      clear hx
      go_wp2_with fail
      refine (sameQ A1 A2 c1 c2 nu nu u u _ true (yes_iff rfl) HNU.out HNU.out (by omega) HU.out.hA HU2.out.hA).mono ?_
      rintro e wx5 ⟨rfl, hx⟩
      replace HA := Lib.hid (HA.out.below hx)
      replace HB := Lib.hid (HB.out.below hx)
      replace HC := Lib.hid (HC.out.below hx)
      replace HU := Lib.hid (HU.out.below hx)
      replace HL := Lib.hid (HL.out.below hx)
      replace HU2 := Lib.hid (HU2.out.below hx)
      replace HL2 := Lib.hid (HL2.out.below hx)
      replace HU3 := Lib.hid (HU3.out.below hx)
      replace HL3 := Lib.hid (HL3.out.below hx)
      replace hb := bthen hb hx
      clear hx
      go_wp2_with fail
      refine (sameQ A1 A3 c1 c3 nu nu u u _ true (yes_iff rfl) HNU.out HNU.out (by omega) HU.out.hA HU3.out.hA).mono ?_
      rintro e wx6 ⟨rfl, hx⟩
      replace HA := Lib.hid (HA.out.below hx)
      replace HB := Lib.hid (HB.out.below hx)
      replace HC := Lib.hid (HC.out.below hx)
      replace HU := Lib.hid (HU.out.below hx)
      replace HL := Lib.hid (HL.out.below hx)
      replace HU2 := Lib.hid (HU2.out.below hx)
      replace HL2 := Lib.hid (HL2.out.below hx)
      replace HU3 := Lib.hid (HU3.out.below hx)
      replace HL3 := Lib.hid (HL3.out.below hx)
      replace hb := bthen hb hx
      clear hx
      go_wp2_with fail
      refine (AW _).mono ?_
      rintro e wz ⟨rfl, hx⟩
      go_wp2
      go_ret
      exact ⟨rfl, bthen hb hx⟩
    · have be : (er != 0) = true := bne_iff_ne.2 h0
      have be2 : (er == 0) = false := beq_eq_false_iff_ne.2 h0
      have hn0 : nu = 0 := by rw [← HNU.out, HMI.out.err h0]; rfl
      subst hn0
      clear h0
      go_wp2_with fail
      refine (AW _).mono ?_
      rintro e wz ⟨rfl, hx⟩
      go_wp2
      go_ret
      exact ⟨rfl, bthen hb hx⟩
end Go.Proofs.Ytfajfjocpgbmeaa
