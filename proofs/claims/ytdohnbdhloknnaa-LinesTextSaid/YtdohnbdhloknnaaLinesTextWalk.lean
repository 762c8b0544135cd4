/-
  The walk of layer 6's statement LinesText: it returns true whatever the lines are. No conditions.
-/
import Derived.Test.YtdohnbdhloknnaaLinesAwake
import Derived.Test.YtdohnbdhloknnaaLinesY
namespace Go.Proofs.Ytdohnbdhloknnaa
open Go.RowKit
set_option linter.unusedVariables false

theorem refLines_is (A : Option Addr) (c n : Nat) (t : List T.Ln) (l : List UInt8) (w : World) (hn : t.length = n) (hA : Seen eL w A t) (hR : T.RightT t) (h : S.cmdsT t = l) :
    Calls Try.prog 18 #[.slice A n c] w (WroteQ w.heap.size w l) := by subst hn; subst h; exact refLines_yes A c t w hA hR
set_option maxRecDepth 100000 in
set_option maxHeartbeats 2000000 in
theorem linesText_walk (w : World) (A : Option Addr) (c : Nat) (t : List T.Ln) (hc : t.length ≤ c) (hA : Seen eL w A t) (hl : t.length ≤ maxLen) (nk : NilOk A c) :
    Calls Try.prog 4 #[.slice A t.length c] w (TrueS w) := by
  unfold maxLen at hl
  have HA := Lib.hid hA
  clear hA
  have hb : Below w.heap.size w w := Below.refl _ _
  go_enter Try.func4, Try.ntmps4
  go_wp2_with fail
  refine (small_is A c t _ HA.out).mono ?_
  rintro e wx1 ⟨bs, rfl, hsm, hx⟩
  replace HA := Lib.hid (HA.out.below hx)
  replace hb := bthen hb hx
  clear hx
  cases bs with
  | false =>
    clear hsm
    go_wp2_with fail
    refine (awake_any _).mono ?_
    rintro e wz ⟨rfl, hx⟩
    go_wp2
    go_ret
    exact ⟨rfl, bthen hb hx⟩
  | true =>
    replace hsm := hsm rfl
    have hll : t.length ≤ 1073741824 := by omega
    by_cases hR : T.RightT t
    · have HR := Lib.hid hR
      clear hR
      obtain ⟨L, hL⟩ : ∃ L, S.cmdsT t = L := ⟨_, rfl⟩
      have HL := Lib.hid hL
      clear hL
      go_wp2_with fail
      refine (ltext_is A c t.length t L _ rfl HA.out HR.out HL.out).mono ?_
      rintro e wx2 ⟨rfl, hx⟩
      replace HA := Lib.hid (HA.out.below hx)
      replace hb := bthen hb hx
      clear hx
      go_wp2_with fail
      refine (rightR_is A c t true _ HA.out hll (yes_iff HR.out)).mono ?_
      rintro e wx3 ⟨rfl, hx⟩
      replace HA := Lib.hid (HA.out.below hx)
      replace hb := bthen hb hx
      clear hx
      go_wp2_with fail
      refine (refLines_is A c t.length t L _ rfl HA.out HR.out HL.out).mono ?_
      rintro e wx4 ⟨rfl, hx⟩
      replace HA := Lib.hid (HA.out.below hx)
      replace hb := bthen hb hx
      clear hx
      go_wp2_with fail
      refine (awake_any _).mono ?_
      rintro e wz ⟨rfl, hx⟩
      go_wp2
      go_ret
      exact ⟨rfl, bthen hb hx⟩
    · have HR := Lib.hid hR
      clear hR
      go_wp2_with fail
      refine (linesText_no A c t _ HA.out hll HR.out).mono ?_
      rintro e wx2 ⟨rfl, hx⟩
      replace HA := Lib.hid (HA.out.below hx)
      replace hb := bthen hb hx
      clear hx
      go_wp2_with fail
      refine (rightR_is A c t false _ HA.out hll (no_iff HR.out)).mono ?_
      rintro e wx3 ⟨rfl, hx⟩
      replace HA := Lib.hid (HA.out.below hx)
      replace hb := bthen hb hx
      clear hx
      go_wp2_with fail
      refine (awake_any _).mono ?_
      rintro e wz ⟨rfl, hx⟩
      go_wp2
      go_ret
      exact ⟨rfl, bthen hb hx⟩
end Go.Proofs.Ytdohnbdhloknnaa
