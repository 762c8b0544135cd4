/-
  The walk of layer 6's statement LinesBack: it returns true whatever the lines are. No conditions.
-/
import Derived.Test.YtdohnbdhloknnaaLinesAwake
namespace Go.Proofs.Ytdohnbdhloknnaa
open Go.RowKit
set_option linter.unusedVariables false

theorem cmds_len {t : List T.Ln} (h : T.RightT t) : (S.cmdsT t).length ≤ 2000000 := by
  have h1 := S.sets_len h (T.leavesL t) fun i hi => S.leaf_lt hi
  have h2 := S.marks_len h t.length (Nat.le_refl _)
  have h3 : (T.leavesL t).length ≤ t.length := T.filter_len t.length (T.leafB t)
  have h4 := h.len
  unfold S.cmdsT
  rw [List.length_append]
  omega
set_option maxRecDepth 100000 in
set_option maxHeartbeats 2000000 in
theorem linesBack_walk (w : World) (A : Option Addr) (c : Nat) (t : List T.Ln) (hc : t.length ≤ c) (hA : Seen eL w A t) (hl : t.length ≤ maxLen) (nk : NilOk A c) :
    Calls Try.prog 5 #[.slice A t.length c] w (TrueS w) := by
  unfold maxLen at hl
  have HA := Lib.hid hA
  clear hA
  have hb : Below w.heap.size w w := Below.refl _ _
  go_enter Try.func5, Try.ntmps5
  go_wp2_with fail
  refine (small_is A c t _ HA.out).mono ?_
  rintro e wx1 ⟨bs, rfl, hsm, hx⟩
  replace HA := Lib.hid (HA.out.below hx)
  replace hb := bthen hb hx
  clear hx
  cases bs with
  | false =>
    clear hsm
    go_wp2_with fail
    refine (awake_any _).mono ?_
    rintro e wz ⟨rfl, hx⟩
    go_wp2
    go_ret
    exact ⟨rfl, bthen hb hx⟩
  | true =>
    replace hsm := hsm rfl
    have hll : t.length ≤ 1073741824 := by omega
    by_cases h60 : 60 < t.length
    · have b60 : decide ((60 : Int) < (t.length : Int)) = true := decide_eq_true (by omega)
      have b61 : decide (60 < t.length) = true := decide_eq_true h60
      go_wp2_with fail
      refine (awake_any _).mono ?_
      rintro e wz ⟨rfl, hx⟩
      go_wp2
      go_ret
      exact ⟨rfl, bthen hb hx⟩
    · have b60 : decide ((60 : Int) < (t.length : Int)) = false := decide_eq_false (by omega)
      have b61 : decide (60 < t.length) = false := decide_eq_false h60
      by_cases hR : T.RightT t
      · have HR := Lib.hid hR
        have hLl := cmds_len hR
        have hrd := S.read_cmds hR
        obtain ⟨L, hL⟩ : ∃ L, S.cmdsT t = L := ⟨_, rfl⟩
        have HL := Lib.hid hL
        rw [hL] at hLl hrd
        have HRD := Lib.hid (show S.readL (⟨L.toArray⟩ : ByteArray).data.toList = .ok t by simpa using hrd)
        have HLS := Lib.hid (show (⟨L.toArray⟩ : ByteArray).size ≤ 1073741824 by show L.toArray.size ≤ _; rw [List.size_toArray]; omega)
        clear hR hL hrd
        go_wp2_with fail
        refine (ltext_is A c t.length t L _ rfl HA.out HR.out HL.out).mono ?_
        rintro e wx2 ⟨rfl, hx⟩
        replace HA := Lib.hid (HA.out.below hx)
        replace hb := bthen hb hx
        clear hx
        go_wp2_with fail
        refine (lread_ok _ t t.length _ HLS.out HRD.out rfl).mono ?_
        rintro e wx3 ⟨A1, c1, rfl, _, ho1, hx⟩
        replace HA := Lib.hid (HA.out.below hx)
        have HU := Lib.hid (ho1.view)
        replace hb := bthen hb hx
        clear hx
        clear ho1
        go_wp2_with fail
        refine (same_any A A1 c c1 t t _ true (yes_iff rfl) hll HA.out HU.out).mono ?_
        rintro e wx4 ⟨rfl, hx⟩
        replace HA := Lib.hid (HA.out.below hx)
        replace HU := Lib.hid (HU.out.below hx)
        replace hb := bthen hb hx
        clear hx
        go_wp2_with fail
        refine (awake_any _).mono ?_
        rintro e wz ⟨rfl, hx⟩
        go_wp2
        go_ret
        exact ⟨rfl, bthen hb hx⟩
      · have HR := Lib.hid hR
        clear hR
        go_wp2_with fail
        refine (linesText_no A c t _ HA.out hll HR.out).mono ?_
        rintro e wx2 ⟨rfl, hx⟩
        replace HA := Lib.hid (HA.out.below hx)
        replace hb := bthen hb hx
        clear hx
        go_wp2_with fail
        refine (awake_any _).mono ?_
        rintro e wz ⟨rfl, hx⟩
        go_wp2
        go_ret
        exact ⟨rfl, bthen hb hx⟩
end Go.Proofs.Ytdohnbdhloknnaa
