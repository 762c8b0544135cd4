/-
  The walk of layer 2's statement LexAgain: it returns true whatever the string is. No conditions.
-/
import Derived.Test.YtccbdogfapiidaaLexRefs
import Derived.RegionTactic
namespace Go.Proofs.Ytccbdogfapiidaa
open Go.RowKit

/-- refs, its answer in its parts. -/
theorem refs_view (A : Option Addr) (cap : Nat) (l : List W.Tok) (w : World) (hl : l.length ≤ 1048576) (hv : ViewT w A l) :
    Calls Try.prog 14 #[.slice A l.length cap] w fun e w' => ∃ A' cap', e = .returned (.slice A' l.length cap') ∧ ViewT w' A' l ∧ Below w.heap.size w w' :=
  (refs_any A cap l w hl hv).mono fun e w' ⟨v, he, ho, hb⟩ => by
    obtain ⟨A', cap', rfl, hh⟩ := ho.seen
    exact ⟨A', cap', he, hh, hb⟩
/-- All, its answer in its parts. -/
theorem all_view (s : ByteArray) (l : List W.Tok) (w : World) (hs : s.size ≤ 1073741824) (h : W.lexL 0 s.data.toList = .ok l) :
    Calls Try.prog 11 #[.string s] w fun e w' => ∃ A cap, e = .returned (.tuple #[.slice A l.length cap, .int .i64 0, .int .i64 0]) ∧ ViewT w' A l ∧ Below w.heap.size w w' :=
  (all_saw s _ w hs h).mono fun e w' ⟨v, he, ho, hb⟩ => by
    obtain ⟨A, cap, rfl, hh⟩ := ho
    exact ⟨A, cap, he, hh, hb⟩
theorem text_is (A : Option Addr) (cap : Nat) (l : List W.Tok) (X : ByteArray) (w : World) (hl : l.length ≤ 1048576) (hv : ViewT w A l) (hg : ∀ t ∈ l, W.GoodTok t) (hX : (⟨(W.textL l).toArray⟩ : ByteArray) = X) :
    Calls Try.prog 17 #[.slice A l.length cap] w fun e w' => e = .returned (.string X) ∧ Below w.heap.size w w' := by
  subst hX; exact text_any A cap l w hl hv hg

set_option maxRecDepth 100000 in
set_option maxHeartbeats 4000000 in
theorem lexAgain_walk (s : ByteArray) (hs : s.size ≤ maxLen) (w : World) :
    Calls Try.prog 5 #[.string s] w (TrueS w) := by
  unfold maxLen at hs
  by_cases h600 : s.size ≤ 600
  · have b600 : decide ((600 : Int) < (s.size : Int)) = false := by simp; omega
    cases hr : W.lexL 0 s.data.toList with
    | bad p er =>
      obtain ⟨hp0, hp1, her⟩ := W.bad_lt _ _ _ _ hr
      have ber : (er != 0) = true := bne_iff_ne.2 her
      have HR := Lib.hid hr
      clear hr her hp0 hp1
      go_enter Try.func5, Try.ntmps5
      go_wp2_with fail
      refine (all_err s p er _ (by omega) HR.out).mono ?_
      rintro e w1 ⟨A, cap, rfl, hb1⟩
      go_wp2_with fail
      refine (awake_any _).mono ?_
      rintro e w2 ⟨rfl, hb2⟩
      go_wp2
      go_ret
      exact ⟨rfl, bthen hb1 hb2⟩
    | ok l =>
      have hln := W.lexL_len _ _ _ hr
      rw [← Lib.size_eq] at hln
      have hgood := W.lexL_good _ _ _ hr
      obtain ⟨a, ha, hal⟩ := W.lex_text l hgood
      have htl := W.text_len l hgood
      obtain ⟨X, hX⟩ : ∃ X : ByteArray, (⟨(W.textL l).toArray⟩ : ByteArray) = X := ⟨_, rfl⟩
      have hXl : W.lexL 0 X.data.toList = .ok a := by rw [← hX]; exact ha
      have hXs : X.size ≤ 1073741824 := by rw [← hX, byt_size]; omega
      have ban : ((a.length : Int) != (l.length : Int)) = false := by rw [hal.1]; simp
      have HR := Lib.hid hr
      have HGD := Lib.hid hgood
      have HX := Lib.hid hX
      have HXL := Lib.hid hXl
      have HAL := Lib.hid hal
      clear hr hgood hX hXl ha hal htl
      go_enter Try.func5, Try.ntmps5
      go_wp2_with fail
      refine (all_view s l _ (by omega) HR.out).mono ?_
      rintro e w1 ⟨A1, cap1, rfl, hv1, hb1⟩
      have HV1 := Lib.hid hv1
      clear hv1
      go_wp2_with fail
      refine (refs_view A1 cap1 l _ (by omega) HV1.out).mono ?_
      rintro e w2 ⟨A2, cap2, rfl, hv2, hb2⟩
      have HV2 := Lib.hid hv2
      clear hv2
      go_wp2_with fail
      refine (text_is A2 cap2 l X _ (by omega) HV2.out HGD.out HX.out).mono ?_
      rintro e w3 ⟨rfl, hb3⟩
      go_wp2_with fail
      refine (all_view X a _ hXs HXL.out).mono ?_
      rintro e w4 ⟨A4, cap4, rfl, hv4, hb4⟩
      have HV4 := Lib.hid hv4
      clear hv4
      go_wp2
      go_loopg [47] l.length (fun g i wr => ∃ k : Nat, Hid (k + g = l.length) ∧ k ≤ l.length ∧ i = .int .i64 k ∧ Below w4.heap.size w4 wr)
      case atStart => exact ⟨0, Nat.zero_add _, Nat.zero_le _, rfl, Below.refl _ _⟩
      case round =>
        obtain ⟨j, HG, hj, rfl, hbj⟩ := hrel
        by_cases hjl : j < l.length
        · have hj2 : j < a.length := by have := HAL.out.1; omega
          obtain ⟨g1, rfl, hg1⟩ := HV1.out (by omega)
          obtain ⟨g4, rfl, hg4⟩ := HV4.out (by omega)
          obtain ⟨q1, q2, q3⟩ := HAL.out.2 j hjl hj2
          have hg1' := (((hg1.below hb2).below hb3).below hb4).below hbj
          have hg4' := hg4.below hbj
          obtain ⟨c0, _, c2, c3⟩ := hg1'.2 j hjl
          obtain ⟨d0, _, d2, d3⟩ := hg4'.2 j hj2
          rw [← q1] at d0
          rw [← q2] at d2
          rw [← q3] at d3
          obtain ⟨kd, hkd⟩ : ∃ kd, l[j].kind = kd := ⟨_, rfl⟩
          obtain ⟨wd, hwd⟩ : ∃ wd, l[j].word = wd := ⟨_, rfl⟩
          obtain ⟨bt, hbt⟩ : ∃ bt, l[j].bit = bt := ⟨_, rfl⟩
          rw [hkd] at c0 d0
          rw [hwd] at c2 d2
          rw [hbt] at c3 d3
          clear q1 q2 q3 hkd hwd hbt hg1' hg4'
          go_wp2
          go_big_region
          go_wp2
          go_roundg (l.length - (j + 1))
          case rel => exact ⟨j + 1, (by show _ = _; omega), by omega, by go_num, hbj.drew⟩
          case measure => have := HG.out; omega
        · go_wp2_with fail
          refine (awake_any _).mono ?_
          rintro e w5 ⟨rfl, hb5⟩
          go_wp2
          go_ret
          exact ⟨rfl, bthen (bthen (bthen (bthen (bthen hb1 hb2) hb3) hb4) hbj) hb5⟩
  · go_enter Try.func5, Try.ntmps5
    go_wp2_with fail
    refine (awake_any _).mono ?_
    rintro e w1 ⟨rfl, hb1⟩
    go_wp2
    go_ret
    exact ⟨rfl, hb1⟩
end Go.Proofs.Ytccbdogfapiidaa
