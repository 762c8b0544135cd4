/-
  The walk of layer 4's statement ShowApart: it returns true whatever the lines are. No conditions.
-/
import Derived.Test.YtokhflpeeibeeaaShowAwake
import Derived.Test.YtokhflpeeibeeaaTreeSame
namespace Go.Proofs.Ytokhflpeeibeeaa
open Go.RowKit

set_option maxRecDepth 100000 in
set_option maxHeartbeats 1000000 in
theorem showApart_walk (w : World) (A : Option Addr) (c : Nat) (a : List T.Ln) (_hc : a.length ≤ c) (hA : Seen eL w A a) (hl : a.length ≤ maxLen) (B : Option Addr) (d : Nat) (b : List T.Ln) (_hd : b.length ≤ d) (hB : Seen eL w B b) (hl2 : b.length ≤ maxLen) :
    Calls Try.prog 5 #[.slice A a.length c, .slice B b.length d] w (TrueS w) := by
  unfold maxLen at hl hl2
  have HA := Lib.hid hA
  have HB := Lib.hid hB
  clear hA hB
  have hb : Below w.heap.size w w := Below.refl _ _
  go_enter Try.func5, Try.ntmps5
  go_wp2_with fail
  refine (small_is A c a _ HA.out).mono ?_
  rintro e wx1 ⟨bs, rfl, hsm, hx⟩
  replace HA := Lib.hid (HA.out.below hx)
  replace HB := Lib.hid (HB.out.below hx)
  replace hb := bthen hb hx
  clear hx
  cases bs with
  | false =>
    clear hsm
    go_wp2_with fail
    refine (awake_any _).mono ?_
    rintro e wz ⟨rfl, hx⟩
    go_wp2
    go_ret
    exact ⟨rfl, bthen hb hx⟩
  | true =>
    replace hsm := hsm rfl
    have hla : a.length ≤ 1073741824 := by omega
    clear hsm
    go_wp2_with fail
    refine (small_is B d b _ HB.out).mono ?_
    rintro e wx2 ⟨bs, rfl, hsm, hx⟩
    replace HA := Lib.hid (HA.out.below hx)
    replace HB := Lib.hid (HB.out.below hx)
    replace hb := bthen hb hx
    clear hx
    cases bs with
    | false =>
      clear hsm
      go_wp2_with fail
      refine (awake_any _).mono ?_
      rintro e wz ⟨rfl, hx⟩
      go_wp2
      go_ret
      exact ⟨rfl, bthen hb hx⟩
    | true =>
      replace hsm := hsm rfl
      have hlb : b.length ≤ 1073741824 := by omega
      clear hsm
      by_cases hR : T.RightT a
      · have HR := Lib.hid hR
        clear hR
        obtain ⟨L, hL⟩ : ∃ L, S.textL a = L := ⟨_, rfl⟩
        have HL := Lib.hid hL
        clear hL
        go_wp2_with fail
        refine (text_is A c a.length a L _ HA.out rfl HR.out HL.out).mono ?_
        rintro e wx3 ⟨rfl, hx⟩
        replace HA := Lib.hid (HA.out.below hx)
        replace HB := Lib.hid (HB.out.below hx)
        replace hb := bthen hb hx
        clear hx
        by_cases hR2 : T.RightT b
        · have HR2 := Lib.hid hR2
          clear hR2
          obtain ⟨M, hM⟩ : ∃ M, S.textL b = M := ⟨_, rfl⟩
          have HM := Lib.hid hM
          clear hM
          go_wp2_with fail
          refine (text_is B d b.length b M _ HB.out rfl HR2.out HM.out).mono ?_
          rintro e wx4 ⟨rfl, hx⟩
          replace HA := Lib.hid (HA.out.below hx)
          replace HB := Lib.hid (HB.out.below hx)
          replace hb := bthen hb hx
          clear hx
          by_cases hab : a = b
          · have hLM : L = M := by rw [← HL.out, ← HM.out, hab]
            subst hLM
            have HAB := Lib.hid hab
            clear hab
            go_wp2_with fail
            refine (same_any A B c d a b _ true (yes_iff HAB.out) hla HA.out HB.out).mono ?_
            rintro e wx5 ⟨rfl, hx⟩
            replace HA := Lib.hid (HA.out.below hx)
            replace HB := Lib.hid (HB.out.below hx)
            replace hb := bthen hb hx
            clear hx
            go_wp2_with fail
            refine (awake_any _).mono ?_
            rintro e wz ⟨rfl, hx⟩
            go_wp2
            go_ret
            exact ⟨rfl, bthen hb hx⟩
          · have hLM : L ≠ M := fun e => hab (S.text_inj HR.out HR2.out (by rw [HL.out, HM.out, e]))
            have bne : (L == M) = false := beq_eq_false_iff_ne.2 hLM
            have HAB := Lib.hid hab
            clear hab
            go_wp2_with fail
            refine (same_any A B c d a b _ false (no_iff HAB.out) hla HA.out HB.out).mono ?_
            rintro e wx5 ⟨rfl, hx⟩
            replace HA := Lib.hid (HA.out.below hx)
            replace HB := Lib.hid (HB.out.below hx)
            replace hb := bthen hb hx
            clear hx
            go_wp2_with fail
            refine (awake_any _).mono ?_
            rintro e wz ⟨rfl, hx⟩
            go_wp2
            go_ret
            exact ⟨rfl, bthen hb hx⟩
        · have HR2 := Lib.hid hR2
          clear hR2
          go_wp2_with fail
          refine (text_no B d b _ HB.out hlb HR2.out).mono ?_
          rintro e wx4 ⟨rfl, hx⟩
          replace HA := Lib.hid (HA.out.below hx)
          replace HB := Lib.hid (HB.out.below hx)
          replace hb := bthen hb hx
          clear hx
          go_wp2_with fail
          refine (awake_any _).mono ?_
          rintro e wz ⟨rfl, hx⟩
          go_wp2
          go_ret
          exact ⟨rfl, bthen hb hx⟩
      · have HR := Lib.hid hR
        clear hR
        go_wp2_with fail
        refine (text_no A c a _ HA.out hla HR.out).mono ?_
        rintro e wx3 ⟨rfl, hx⟩
        replace HA := Lib.hid (HA.out.below hx)
        replace HB := Lib.hid (HB.out.below hx)
        replace hb := bthen hb hx
        clear hx
        by_cases hR2 : T.RightT b
        · have HR2 := Lib.hid hR2
          clear hR2
          obtain ⟨M, hM⟩ : ∃ M, S.textL b = M := ⟨_, rfl⟩
          have HM := Lib.hid hM
          clear hM
          go_wp2_with fail
          refine (text_is B d b.length b M _ HB.out rfl HR2.out HM.out).mono ?_
          rintro e wx4 ⟨rfl, hx⟩
          replace HA := Lib.hid (HA.out.below hx)
          replace HB := Lib.hid (HB.out.below hx)
          replace hb := bthen hb hx
          clear hx
          go_wp2_with fail
          refine (awake_any _).mono ?_
          rintro e wz ⟨rfl, hx⟩
          go_wp2
          go_ret
          exact ⟨rfl, bthen hb hx⟩
        · have HR2 := Lib.hid hR2
          clear hR2
          go_wp2_with fail
          refine (text_no B d b _ HB.out hlb HR2.out).mono ?_
          rintro e wx4 ⟨rfl, hx⟩
          replace HA := Lib.hid (HA.out.below hx)
          replace HB := Lib.hid (HB.out.below hx)
          replace hb := bthen hb hx
          clear hx
          go_wp2_with fail
          refine (awake_any _).mono ?_
          rintro e wz ⟨rfl, hx⟩
          go_wp2
          go_ret
          exact ⟨rfl, bthen hb hx⟩
end Go.Proofs.Ytokhflpeeibeeaa
