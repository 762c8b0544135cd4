/-
  The walk of layer 5's statement ParseExact: it returns true whatever the text is. No conditions.
-/
import Derived.Test.YtjgogjamkbmcjaaParseAwake
import Derived.Test.YtjgogjamkbmcjaaParseRefT
import Derived.Test.YtjgogjamkbmcjaaTreeC
namespace Go.Proofs.Ytjgogjamkbmcjaa
open Go.RowKit

theorem refTree_ok (s : ByteArray) (t : List T.Ln) (n : Nat) (w : World) (hs : s.size ≤ 1073741824) (h : S.parseL s.data.toList = .ok t) (hn : t.length = n) :
    Calls Try.prog 12 #[.string s] w (fun e w' => ∃ A cap, e = .returned (.tuple #[.slice A n cap, .int .i64 0, .int .i64 0]) ∧ n ≤ cap ∧ Seen eL w' A t ∧ Below w.heap.size w w') := by
  subst hn
  have hc := refTree_any s w hs
  rw [h] at hc
  exact hc.mono fun e w' ⟨A, cap, a, b, c, d⟩ => ⟨A, cap, a, b, c, d⟩
theorem refTree_bad (s : ByteArray) (p : Nat) (er : Int) (w : World) (hs : s.size ≤ 1073741824) (h : S.parseL s.data.toList = .bad p er) :
    Calls Try.prog 12 #[.string s] w (fun e w' => e = .returned (.tuple #[.slice none 0 0, .int .i64 (p : Int), .int .i64 er]) ∧ Below w.heap.size w w') := by
  have hc := refTree_any s w hs
  rw [h] at hc
  exact hc.mono fun e w' ⟨a, b⟩ => ⟨a, b⟩

set_option maxRecDepth 100000 in
set_option maxHeartbeats 1000000 in
theorem parseExact_walk (w : World) (s : ByteArray) (hl : s.size ≤ maxLen) :
    Calls Try.prog 3 #[.string s] w (TrueS w) := by
  unfold maxLen at hl
  have hb : Below w.heap.size w w := Below.refl _ _
  by_cases h6 : 600 < s.size
  · have b6 : decide ((600 : Int) < (s.size : Int)) = true := decide_eq_true (by omega)
    clear h6
    go_enter Try.func3, Try.ntmps3
    go_wp2_with fail
    refine (awake_any _).mono ?_
    rintro e wz ⟨rfl, hx⟩
    go_wp2
    go_ret
    exact ⟨rfl, bthen hb hx⟩
  · have b6 : decide ((600 : Int) < (s.size : Int)) = false := decide_eq_false (by omega)
    have hs : s.size ≤ 1073741824 := by omega
    cases hp : S.parseL s.data.toList with
    | bad p er =>
      have HP := Lib.hid hp
      clear hp h6
      go_enter Try.func3, Try.ntmps3
      go_wp2_with fail
      refine (tree_bad s p er _ hs HP.out).mono ?_
      rintro e wx1 ⟨rfl, hx⟩
      replace hb := bthen hb hx
      clear hx
      go_wp2_with fail
      refine (refTree_bad s p er _ hs HP.out).mono ?_
      rintro e wx2 ⟨rfl, hx⟩
      replace hb := bthen hb hx
      clear hx
      go_wp2_with fail
      refine (same_any none none 0 0 [] [] _ true (yes_iff rfl) (by decide) Seen.nil Seen.nil).mono ?_
      rintro e wx3 ⟨rfl, hx⟩
      replace hb := bthen hb hx
      clear hx
      go_wp2_with fail
      refine (awake_any _).mono ?_
      rintro e wz ⟨rfl, hx⟩
      go_wp2
      go_ret
      exact ⟨rfl, bthen hb hx⟩
    | ok t =>
      have hR := S.parseL_right hp
      have hla : t.length ≤ 1073741824 := by have := hR.len; omega
      have HP := Lib.hid hp
      clear hp h6 hR
      go_enter Try.func3, Try.ntmps3
      go_wp2_with fail
      refine (tree_ok s t t.length _ hs HP.out rfl).mono ?_
      rintro e wx1 ⟨B1, cap1, rfl, hcap1, hseen, hx⟩
      have HT := Lib.hid hseen
      clear hseen
      replace hb := bthen hb hx
      clear hx
      go_wp2_with fail
      refine (refTree_ok s t t.length _ hs HP.out rfl).mono ?_
      rintro e wx2 ⟨B2, cap2, rfl, hcap2, hseen, hx⟩
      replace HT := Lib.hid (HT.out.below hx)
      have HV := Lib.hid hseen
      clear hseen
      replace hb := bthen hb hx
      clear hx
      go_wp2_with fail
      refine (same_any B1 B2 cap1 cap2 t t _ true (yes_iff rfl) hla HT.out HV.out).mono ?_
      rintro e wx3 ⟨rfl, hx⟩
      replace HT := Lib.hid (HT.out.below hx)
      replace HV := Lib.hid (HV.out.below hx)
      replace hb := bthen hb hx
      clear hx
      go_wp2_with fail
      refine (awake_any _).mono ?_
      rintro e wz ⟨rfl, hx⟩
      go_wp2
      go_ret
      exact ⟨rfl, bthen hb hx⟩
end Go.Proofs.Ytjgogjamkbmcjaa
