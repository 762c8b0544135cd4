/-
  The walk of layer 6's statement LinesAdd: it returns true whatever the lines and the path are. No conditions.
-/
import Derived.Test.YtdohnbdhloknnaaLinesAwake
import Derived.Test.YtdohnbdhloknnaaLinesR
namespace Go.Proofs.Ytdohnbdhloknnaa
open Go.RowKit
set_option linter.unusedVariables false

set_option maxRecDepth 100000 in
set_option maxHeartbeats 2000000 in
theorem linesAdd_walk (w : World) (A : Option Addr) (c : Nat) (t : List T.Ln) (hc : t.length ≤ c) (hA : Seen eL w A t) (hl : t.length ≤ maxLen) (nk : NilOk A c) (B : Option Addr) (n d : Nat) (xs : List ByteArray) (g1 : HoldsS w B n xs) (gn1 : n ≤ maxLen) (gs1 : ∀ x ∈ xs, x.size ≤ maxLen) (hd : n ≤ d) :
    Calls Try.prog 3 #[.slice A t.length c, .slice B n d] w (TrueS w) := by
  obtain ⟨p, rfl, hB⟩ := seen_strs g1
  unfold maxLen at hl gn1
  obtain ⟨u, er, hai⟩ := add_is t p
  have HAI := Lib.hid hai
  have HA := Lib.hid hA
  have HB := Lib.hid hB
  have HNK := Lib.hid nk
  clear hA hB g1 hai nk gs1
  have hb : Below w.heap.size w w := Below.refl _ _
  go_enter Try.func3, Try.ntmps3
  go_wp2_with fail
  refine (small_is A c t _ HA.out).mono ?_
  rintro e wx1 ⟨bs, rfl, hsm, hx⟩
  replace HA := Lib.hid (HA.out.below hx)
  replace HB := Lib.hid (HB.out.below hx)
  replace hb := bthen hb hx
  clear hx
  cases bs with
  | false =>
    clear hsm
    go_wp2_with fail
    refine (awake_any _).mono ?_
    rintro e wz ⟨rfl, hx⟩
    go_wp2
    go_ret
    exact ⟨rfl, bthen hb hx⟩
  | true =>
    replace hsm := hsm rfl
    have hll : t.length ≤ 1073741824 := by omega
    go_wp2_with fail
    refine (short_any B d p _ HB.out).mono ?_
    rintro e wx2 ⟨bs, rfl, hsp, hx⟩
    replace HA := Lib.hid (HA.out.below hx)
    replace HB := Lib.hid (HB.out.below hx)
    replace hb := bthen hb hx
    clear hx
    cases bs with
    | false =>
      clear hsp
      go_wp2_with fail
      refine (awake_any _).mono ?_
      rintro e wz ⟨rfl, hx⟩
      go_wp2
      go_ret
      exact ⟨rfl, bthen hb hx⟩
    | true =>
      replace hsp := hsp rfl
      have hpl : p.length ≤ 1073741824 := by omega
      have hul := HAI.out.len hsm
      have bee : (er == er) = true := beq_self_eq_true er
      go_wp2_with fail
      refine (lines_add A B c d t.length p.length t u p er _ rfl rfl HA.out HB.out HNK.out hc hd hll hpl HAI.out).mono ?_
      rintro e wx3 ⟨v1, rfl, ho1, hx⟩
      replace HA := Lib.hid (HA.out.below hx)
      replace HB := Lib.hid (HB.out.below hx)
      replace hb := bthen hb hx
      clear hx
      obtain ⟨A1, c1, e, _, hs1⟩ := ho1.seen
      subst e
      have HU := Lib.hid hs1
      clear ho1 hs1
      go_wp2_with fail
      refine (ref_add A B c d t.length p.length t u p er _ rfl rfl HA.out HB.out HNK.out hc hd hll hpl HAI.out).mono ?_
      rintro e wx4 ⟨A2, c2, rfl, hs2, hx⟩
      replace HA := Lib.hid (HA.out.below hx)
      replace HB := Lib.hid (HB.out.below hx)
      replace HU := Lib.hid (HU.out.below hx)
      have HV := Lib.hid (hs2)
      replace hb := bthen hb hx
      clear hx
      clear hs2
      go_wp2_with fail
      refine (same_any A1 A2 c1 c2 u u _ true (yes_iff rfl) (by omega) HU.out HV.out).mono ?_
      rintro e wx5 ⟨rfl, hx⟩
      replace HA := Lib.hid (HA.out.below hx)
      replace HB := Lib.hid (HB.out.below hx)
      replace HU := Lib.hid (HU.out.below hx)
      replace HV := Lib.hid (HV.out.below hx)
      replace hb := bthen hb hx
      clear hx
      go_wp2_with fail
      refine (awake_any _).mono ?_
      rintro e wz ⟨rfl, hx⟩
      go_wp2
      go_ret
      exact ⟨rfl, bthen hb hx⟩
end Go.Proofs.Ytdohnbdhloknnaa
