/-
  The walk of layer 5's statement ParseBack: it returns true whatever the lines are. No conditions.
-/
import Derived.Test.YtjgogjamkbmcjaaParseAwake
import Derived.Test.YtjgogjamkbmcjaaTreeC
import Derived.Test.YtjgogjamkbmcjaaShowC
namespace Go.Proofs.Ytjgogjamkbmcjaa
open Go.RowKit

set_option maxRecDepth 100000 in
set_option maxHeartbeats 1000000 in
theorem parseBack_walk (w : World) (A : Option Addr) (c : Nat) (t : List T.Ln) (_hc : t.length ≤ c) (hA : Seen eL w A t) (hl : t.length ≤ maxLen) :
    Calls Try.prog 4 #[.slice A t.length c] w (TrueS w) := by
  unfold maxLen at hl
  have HA := Lib.hid hA
  clear hA
  have hb : Below w.heap.size w w := Below.refl _ _
  go_enter Try.func4, Try.ntmps4
  go_wp2_with fail
  refine (small_is A c t _ HA.out).mono ?_
  rintro e wx1 ⟨bs, rfl, hsm, hx⟩
  replace HA := Lib.hid (HA.out.below hx)
  replace hb := bthen hb hx
  clear hx
  cases bs with
  | false =>
    clear hsm
    go_wp2_with fail
    refine (awake_any _).mono ?_
    rintro e wz ⟨rfl, hx⟩
    go_wp2
    go_ret
    exact ⟨rfl, bthen hb hx⟩
  | true =>
    replace hsm := hsm rfl
    have hla : t.length ≤ 1073741824 := by omega
    clear hsm
    by_cases hR : T.RightT t
    · have HR := Lib.hid hR
      clear hR
      obtain ⟨L, hL⟩ : ∃ L, S.textL t = L := ⟨_, rfl⟩
      have HL := Lib.hid hL
      clear hL
      have hlenL : L.length ≤ 200000 := by rw [← HL.out]; exact text_small HR.out
      go_wp2_with fail
      refine (text_is A c t.length t L _ HA.out rfl HR.out HL.out).mono ?_
      rintro e wx2 ⟨rfl, hx⟩
      replace HA := Lib.hid (HA.out.below hx)
      replace hb := bthen hb hx
      clear hx
      go_wp2_with fail
      refine (tree_okL L t t.length _ (by omega) (by rw [← HL.out]; exact S.parse_text HR.out) rfl).mono ?_
      rintro e wx3 ⟨B3, cap3, rfl, hcap3, hseen, hx⟩
      replace HA := Lib.hid (HA.out.below hx)
      have HU := Lib.hid hseen
      clear hseen
      replace hb := bthen hb hx
      clear hx
      go_wp2_with fail
      refine (same_any A B3 c cap3 t t _ true (yes_iff rfl) hla HA.out HU.out).mono ?_
      rintro e wx4 ⟨rfl, hx⟩
      replace HA := Lib.hid (HA.out.below hx)
      replace HU := Lib.hid (HU.out.below hx)
      replace hb := bthen hb hx
      clear hx
      go_wp2_with fail
      refine (awake_any _).mono ?_
      rintro e wz ⟨rfl, hx⟩
      go_wp2
      go_ret
      exact ⟨rfl, bthen hb hx⟩
    · have HR := Lib.hid hR
      clear hR
      go_wp2_with fail
      refine (text_no A c t _ HA.out hla HR.out).mono ?_
      rintro e wx2 ⟨rfl, hx⟩
      replace HA := Lib.hid (HA.out.below hx)
      replace hb := bthen hb hx
      clear hx
      go_wp2_with fail
      refine (rightR_is A c t false _ HA.out hla (no_iff HR.out)).mono ?_
      rintro e wx3 ⟨rfl, hx⟩
      replace HA := Lib.hid (HA.out.below hx)
      replace hb := bthen hb hx
      clear hx
      go_wp2_with fail
      refine (awake_any _).mono ?_
      rintro e wz ⟨rfl, hx⟩
      go_wp2
      go_ret
      exact ⟨rfl, bthen hb hx⟩
end Go.Proofs.Ytjgogjamkbmcjaa
