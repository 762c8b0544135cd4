/-
  The walk of layer 2's statement LexExact: it returns true whatever the string is. No conditions.
-/
import Derived.Test.YtccbdogfapiidaaLexRefAll
import Derived.Test.YtccbdogfapiidaaLexSame
import Derived.Test.YtccbdogfapiidaaLexAgainWalk
import Derived.Test.YtccbdogfapiidaaLexCommentWalk
namespace Go.Proofs.Ytccbdogfapiidaa
open Go.RowKit

theorem refAll_is (s : ByteArray) (l : List W.Tok) (p : Nat) (er : Int) (w : World) (hs : s.size ≤ 1073741824) (hl : (W.lexL 0 s.data.toList).toks = l) (hp : (W.lexL 0 s.data.toList).place = p) (he : (W.lexL 0 s.data.toList).err = er) :
    Calls Try.prog 12 #[.string s] w fun e w' => ∃ A cap, e = .returned (.tuple #[.slice A l.length cap, .int .i64 p, .int .i64 er]) ∧ ViewT w' A l ∧ Below w.heap.size w w' :=
  (refAll_any s w hs).mono fun e w' ⟨v, he', ho, hb⟩ => by
    subst hl; subst hp; subst he
    obtain ⟨A, cap, rfl, hh⟩ := ho.seen
    exact ⟨A, cap, he', hh, hb⟩
theorem ViewT.below {w w1 : World} {A : Option Addr} {l : List W.Tok} (h : ViewT w A l) (hb : Below w.heap.size w w1) : ViewT w1 A l := fun hl => by
  obtain ⟨g, e, hg⟩ := h hl
  exact ⟨g, e, hg.below hb⟩

set_option maxRecDepth 100000 in
set_option maxHeartbeats 1000000 in
theorem lexExact_walk (s : ByteArray) (hs : s.size ≤ maxLen) (w : World) :
    Calls Try.prog 3 #[.string s] w (TrueS w) := by
  unfold maxLen at hs
  by_cases h600 : s.size ≤ 600
  · obtain ⟨l, hl⟩ : ∃ l, (W.lexL 0 s.data.toList).toks = l := ⟨_, rfl⟩
    obtain ⟨p, hp⟩ : ∃ p, (W.lexL 0 s.data.toList).place = p := ⟨_, rfl⟩
    obtain ⟨er, he⟩ : ∃ er, (W.lexL 0 s.data.toList).err = er := ⟨_, rfl⟩
    have hln := W.toks_len 0 s.data.toList
    rw [hl, ← Lib.size_eq] at hln
    have HL := Lib.hid hl
    have HP := Lib.hid hp
    have HE := Lib.hid he
    clear hl hp he
    go_enter Try.func3, Try.ntmps3
    go_wp2_with fail
    refine (all_is s l p er _ (by omega) HL.out HP.out HE.out).mono ?_
    rintro e w1 ⟨A1, cap1, rfl, hv1, hb1⟩
    have HV1 := Lib.hid (show ViewT w1 A1 l from hv1)
    clear hv1
    go_wp2_with fail
    refine (refAll_is s l p er _ (by omega) HL.out HP.out HE.out).mono ?_
    rintro e w2 ⟨A2, cap2, rfl, hv2, hb2⟩
    have HV2 := Lib.hid hv2
    clear hv2
    go_wp2_with fail
    refine (refs_view A1 cap1 l _ (by omega) (HV1.out.below hb2)).mono ?_
    rintro e w3 ⟨A3, cap3, rfl, hv3, hb3⟩
    have HV3 := Lib.hid hv3
    clear hv3
    go_wp2_with fail
    refine (same_yes A3 A2 cap3 cap2 l _ (by omega) HV3.out (HV2.out.below hb3)).mono ?_
    rintro e w4 ⟨rfl, hb4⟩
    go_wp2_with fail
    refine (awake_any _).mono ?_
    rintro e w5 ⟨rfl, hb5⟩
    go_wp2
    go_ret
    exact ⟨rfl, bthen (bthen (bthen (bthen hb1 hb2) hb3) hb4) hb5⟩
  · go_enter Try.func3, Try.ntmps3
    go_wp2_with fail
    refine (awake_any _).mono ?_
    rintro e w1 ⟨rfl, hb1⟩
    go_wp2
    go_ret
    exact ⟨rfl, hb1⟩
end Go.Proofs.Ytccbdogfapiidaa
