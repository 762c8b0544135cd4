/-
  The walk of layer 5's statement ParseFixed: it returns true whatever the text is. No conditions.
-/
import Derived.Test.YtjgogjamkbmcjaaParseAwake
import Derived.Test.YtjgogjamkbmcjaaTreeC
import Derived.Test.YtjgogjamkbmcjaaShowC
namespace Go.Proofs.Ytjgogjamkbmcjaa
open Go.RowKit

set_option maxRecDepth 100000 in
set_option maxHeartbeats 1000000 in
theorem parseFixed_walk (w : World) (s : ByteArray) (hl : s.size ≤ maxLen) :
    Calls Try.prog 5 #[.string s] w (TrueS w) := by
  unfold maxLen at hl
  have hb : Below w.heap.size w w := Below.refl _ _
  by_cases h6 : 600 < s.size
  · have b6 : decide ((600 : Int) < (s.size : Int)) = true := decide_eq_true (by omega)
    clear h6
    go_enter Try.func5, Try.ntmps5
    go_wp2_with fail
    refine (awake_any _).mono ?_
    rintro e wz ⟨rfl, hx⟩
    go_wp2
    go_ret
    exact ⟨rfl, bthen hb hx⟩
  · have b6 : decide ((600 : Int) < (s.size : Int)) = false := decide_eq_false (by omega)
    have hs : s.size ≤ 1073741824 := by omega
    cases hp : S.parseL s.data.toList with
    | bad p er =>
      obtain ⟨hpl, her⟩ := S.parseL_bad hp
      rw [← Lib.size_eq] at hpl
      have bp0 : decide ((0 : Int) ≤ (p : Int)) = true := decide_eq_true (by omega)
      have bp1 : decide (p ≤ s.size) = true := decide_eq_true hpl
      have be : (er != 0) = true := by simp [her]
      have HP := Lib.hid hp
      clear hp h6 her hpl
      go_enter Try.func5, Try.ntmps5
      go_wp2_with fail
      refine (tree_bad s p er _ hs HP.out).mono ?_
      rintro e wx1 ⟨rfl, hx⟩
      replace hb := bthen hb hx
      clear hx
      go_wp2_with fail
      refine (awake_any _).mono ?_
      rintro e wz ⟨rfl, hx⟩
      go_wp2
      go_ret
      exact ⟨rfl, bthen hb hx⟩
    | ok t =>
      have hR := S.parseL_right hp
      have hla : t.length ≤ 1073741824 := by have := hR.len; omega
      have HR := Lib.hid hR
      have HP := Lib.hid hp
      clear hp h6 hR
      obtain ⟨L, hL⟩ : ∃ L, S.textL t = L := ⟨_, rfl⟩
      have HL := Lib.hid hL
      clear hL
      have hlenL : L.length ≤ 200000 := by rw [← HL.out]; exact text_small HR.out
      go_enter Try.func5, Try.ntmps5
      go_wp2_with fail
      refine (tree_ok s t t.length _ hs HP.out rfl).mono ?_
      rintro e wx1 ⟨B1, cap1, rfl, hcap1, hseen, hx⟩
      have HT := Lib.hid hseen
      clear hseen
      replace hb := bthen hb hx
      clear hx
      go_wp2_with fail
      refine (text_is B1 cap1 t.length t L _ HT.out rfl HR.out HL.out).mono ?_
      rintro e wx2 ⟨rfl, hx⟩
      replace HT := Lib.hid (HT.out.below hx)
      replace hb := bthen hb hx
      clear hx
      go_wp2_with fail
      refine (tree_okL L t t.length _ (by omega) (by rw [← HL.out]; exact S.parse_text HR.out) rfl).mono ?_
      rintro e wx3 ⟨B3, cap3, rfl, hcap3, hseen, hx⟩
      replace HT := Lib.hid (HT.out.below hx)
      have HV := Lib.hid hseen
      clear hseen
      replace hb := bthen hb hx
      clear hx
      go_wp2_with fail
      refine (text_is B3 cap3 t.length t L _ HV.out rfl HR.out HL.out).mono ?_
      rintro e wx4 ⟨rfl, hx⟩
      replace HT := Lib.hid (HT.out.below hx)
      replace HV := Lib.hid (HV.out.below hx)
      replace hb := bthen hb hx
      clear hx
      go_wp2_with fail
      refine (right_is B1 cap1 t true _ HT.out hla (yes_iff HR.out)).mono ?_
      rintro e wx5 ⟨rfl, hx⟩
      replace HT := Lib.hid (HT.out.below hx)
      replace HV := Lib.hid (HV.out.below hx)
      replace hb := bthen hb hx
      clear hx
      go_wp2_with fail
      refine (same_any B1 B3 cap1 cap3 t t _ true (yes_iff rfl) hla HT.out HV.out).mono ?_
      rintro e wx6 ⟨rfl, hx⟩
      replace HT := Lib.hid (HT.out.below hx)
      replace HV := Lib.hid (HV.out.below hx)
      replace hb := bthen hb hx
      clear hx
      go_wp2_with fail
      refine (awake_any _).mono ?_
      rintro e wz ⟨rfl, hx⟩
      go_wp2
      go_ret
      exact ⟨rfl, bthen hb hx⟩
end Go.Proofs.Ytjgogjamkbmcjaa
