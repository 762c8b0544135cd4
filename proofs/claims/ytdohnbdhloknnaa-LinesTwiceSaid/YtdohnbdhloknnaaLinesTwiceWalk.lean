/-
  The walk of layer 6's statement LinesTwice: it returns true whatever the text is. No conditions.
-/
import Derived.Test.YtdohnbdhloknnaaLinesAwake
namespace Go.Proofs.Ytdohnbdhloknnaa
open Go.RowKit
set_option linter.unusedVariables false

theorem read_err {l : List UInt8} {q : Nat} {er : Int} (h : S.readL l = .bad q er) : er ≠ 0 := by
  unfold S.readL at h
  cases hl : W.lexL 0 l with
  | bad p e =>
    rw [hl] at h
    injection h with _ h2
    rw [← h2]
    exact (W.bad_lt l 0 p e hl).2.2
  | ok a => rw [hl] at h; exact S.readF_bad _ _ _ _ _ _ h
set_option maxRecDepth 100000 in
set_option maxHeartbeats 2000000 in
theorem linesTwice_walk (w : World) (s : ByteArray) (hl : s.size ≤ maxLen) :
    Calls Try.prog 6 #[.string s] w (TrueS w) := by
  unfold maxLen at hl
  have hb : Below w.heap.size w w := Below.refl _ _
  by_cases h300 : 300 < s.size
  · have b3 : decide ((300 : Int) < (s.size : Int)) = true := decide_eq_true (by omega)
    clear h300
    go_enter Try.func6, Try.ntmps6
    go_wp2_with fail
    refine (awake_any _).mono ?_
    rintro e wz ⟨rfl, hx⟩
    go_wp2
    go_ret
    exact ⟨rfl, bthen hb hx⟩
  · have b3 : decide ((300 : Int) < (s.size : Int)) = false := decide_eq_false (by omega)
    have hs : s.size ≤ 1073741824 := by omega
    cases hr : S.readL s.data.toList with
    | bad q er =>
      have hne : er ≠ 0 := read_err hr
      have b0 : (er != 0) = true := bne_iff_ne.2 hne
      have HR := Lib.hid hr
      clear hr hne h300
      go_enter Try.func6, Try.ntmps6
      go_wp2_with fail
      refine (lread_bad s q er _ hs HR.out).mono ?_
      rintro e wx1 ⟨rfl, hx⟩
      replace hb := bthen hb hx
      clear hx
      go_wp2_with fail
      refine (awake_any _).mono ?_
      rintro e wz ⟨rfl, hx⟩
      go_wp2
      go_ret
      exact ⟨rfl, bthen hb hx⟩
    | ok t =>
      have hRt := S.readL_right hr
      have htl : t.length ≤ 1073741824 := by have := hRt.len; omega
      have h2 := S.read_twice hr
      have HR := Lib.hid hr
      have HR2 := Lib.hid (show S.readL ((s ++ ⟨#[10]⟩) ++ s : ByteArray).data.toList = .ok t by rw [ByteArray.data_append, ByteArray.data_append]; simpa using h2)
      have HSZ := Lib.hid (show ((s ++ ⟨#[10]⟩) ++ s : ByteArray).size ≤ 1073741824 by rw [ByteArray.size_append, ByteArray.size_append]; show s.size + 1 + s.size ≤ _; omega)
      clear hr hRt h2 h300
      go_enter Try.func6, Try.ntmps6
      go_wp2_with fail
      refine (lread_ok s t t.length _ hs HR.out rfl).mono ?_
      rintro e wx1 ⟨A1, c1, rfl, _, ho1, hx⟩
      have HT := Lib.hid (ho1.view)
      replace hb := bthen hb hx
      clear hx
      clear ho1
      go_wp2_with fail
      refine (lread_ok _ t t.length _ HSZ.out HR2.out rfl).mono ?_
      rintro e wx2 ⟨A2, c2, rfl, _, ho2, hx⟩
      replace HT := Lib.hid (HT.out.below hx)
      have HU := Lib.hid (ho2.view)
      replace hb := bthen hb hx
      clear hx
      clear ho2
      go_wp2_with fail
      refine (same_any A1 A2 c1 c2 t t _ true (yes_iff rfl) htl HT.out HU.out).mono ?_
      rintro e wx3 ⟨rfl, hx⟩
      replace HT := Lib.hid (HT.out.below hx)
      replace HU := Lib.hid (HU.out.below hx)
      replace hb := bthen hb hx
      clear hx
      go_wp2_with fail
      refine (awake_any _).mono ?_
      rintro e wz ⟨rfl, hx⟩
      go_wp2
      go_ret
      exact ⟨rfl, bthen hb hx⟩
end Go.Proofs.Ytdohnbdhloknnaa
