/-
  Layer 11's code: Read. Condition: at most 100 bytes.
-/
import Derived.Test.YtgjfjjdljngklaaDoorMetricD
import Derived.Test.YtgjfjjdljngklaaDoorLaysJ
import Derived.Lib.ConvBytes
import Derived.Laws.Concat
namespace Go.Proofs.YtgjfjjdljngklaaDoor
open Go.RowKit
open F
open N (digB valL val_snoc val_lt)
set_option linter.unusedVariables false

theorem F.digs_parts {l : List UInt8} {k : Nat} (h0 : l ≠ []) (h1 : l.length ≤ k) : digsB l k = l.all digB := by
  unfold digsB
  rw [decide_eq_true h1]
  cases l with
  | nil => exact absurd rfl h0
  | cons => rfl
theorem F.all_more {l : List UInt8} {i : Nat} {c : UInt8} (h : (l.take i).all digB = true) (hc : l[i]? = some c) (hd : digB c = true) : (l.take (i + 1)).all digB = true := by
  obtain ⟨h5, h6⟩ := List.getElem?_eq_some_iff.1 hc
  rw [List.take_succ_eq_append_getElem h5, h6, List.all_append, h, List.all_cons, hd]; rfl
theorem F.all_not {l : List UInt8} {i : Nat} {c : UInt8} (hc : l[i]? = some c) (hd : digB c = false) : l.all digB = false := by
  cases h : l.all digB with
  | false => rfl
  | true =>
    have := List.all_eq_true.1 h c (List.mem_of_getElem? hc)
    rw [hd] at this; cases this
set_option maxRecDepth 100000 in
theorem areDigits_any (s : ByteArray) (k : Nat) (r : Bool) (w : World) (hs : s.size ≤ 1000) (hk : k ≤ 100) (hr : digsB s.data.toList k = r) : Calls Tryd.prog 47 #[.string s, .int .i64 (k : Int)] w (Yes w (.bool r)) := by
  obtain ⟨n, hn⟩ : ∃ n, s.size = n := ⟨_, rfl⟩
  have hln : s.data.toList.length = n := by rw [← Lib.size_eq]; exact hn
  have HNS := Lib.hid hn
  by_cases h0 : n = 0
  · have e0 : s.data.toList = [] := List.eq_nil_of_length_eq_zero (by rw [hln]; exact h0)
    have b0 : (s.toList == []) = true := by rw [Lib.toList_data, e0]; rfl
    have b0a : s.toList = [] := by rw [Lib.toList_data, e0]
    have HR := Lib.hid (show r = false by rw [← hr, e0]; rfl)
    clear hr e0 hln h0 hn
    go_enter Tryd.func47, Tryd.ntmps47
    go_wp2
    go_ret
    exact ⟨by rw [HR.out]; rfl, rfl⟩
  have e0 : s.data.toList ≠ [] := fun e => h0 (by rw [← hln, e]; rfl)
  have b0 : (s.toList == []) = false := by rw [Lib.toList_data]; exact beq_eq_false_iff_ne.2 e0
  have b0a : ¬ s.toList = [] := by rw [Lib.toList_data]; exact e0
  by_cases h1 : k < n
  · have b1 : decide ((n : Int) > (k : Int)) = true := decide_eq_true (by omega)
    have b1a : decide ((k : Int) < (n : Int)) = true := decide_eq_true (by omega)
    have b1b : decide (k < n) = true := decide_eq_true h1
    have HR := Lib.hid (show r = false by rw [← hr]; unfold digsB; rw [decide_eq_false (by omega : ¬ s.data.toList.length ≤ k), Bool.and_false, Bool.false_and])
    clear hr e0 hln h0 h1
    go_enter Tryd.func47, Tryd.ntmps47
    go_wp2
    go_ret
    exact ⟨by rw [HR.out]; rfl, rfl⟩
  have b1 : decide ((n : Int) > (k : Int)) = false := decide_eq_false (by omega)
  have b1a : decide ((k : Int) < (n : Int)) = false := decide_eq_false (by omega)
  have b1b : decide (k < n) = false := decide_eq_false h1
  have HR := Lib.hid (show s.data.toList.all digB = r by rw [← hr, digs_parts e0 (by omega)])
  have HLN := Lib.hid hln
  have hn1000 : n ≤ 1000 := by omega
  clear hr e0 hln h0 h1
  go_enter Tryd.func47, Tryd.ntmps47
  go_wp2
  go_loopg [5] n (fun gk vi wr => ∃ i : Nat, Hid (i + gk = n) ∧ i ≤ n ∧ vi = .int .i64 (i : Int) ∧ Hid ((s.data.toList.take i).all digB = true) ∧ wr = w)
  case atStart => exact ⟨0, Nat.zero_add _, Nat.zero_le _, rfl, rfl, rfl⟩
  case round =>
    obtain ⟨i, HG, hi, rfl, HD, rfl⟩ := hrel
    by_cases hlt0 : i < n
    · have blt : decide ((i : Int) < (n : Int)) = true := decide_eq_true (by omega)
      have blt2 : decide (i < n) = true := decide_eq_true hlt0
      have hii : (i : Int) < (n : Int) := by omega
      have hlt : i < s.size := by rw [HNS.out]; exact hlt0
      have hgk := HG.out
      have HAT := Lib.hid (at_of s i hlt)
      by_cases hlo : s[i].toNat < 48
      · have c1 : decide ((s[i].toNat : Int) < 48) = true := decide_eq_true (by omega)
        have c1b : decide (s[i].toNat < 48) = true := decide_eq_true hlo
        have HE := Lib.hid (show r = false by rw [← HR.out]; exact all_not HAT.out (digB_not (.inl hlo)))
        clear hlo
        go_wp2
        go_ret
        exact ⟨by rw [HE.out]; rfl, rfl⟩
      have c1 : decide ((s[i].toNat : Int) < 48) = false := decide_eq_false (by omega)
      have c1b : decide (s[i].toNat < 48) = false := decide_eq_false hlo
      by_cases hhi : 57 < s[i].toNat
      · have c2 : decide ((s[i].toNat : Int) > 57) = true := decide_eq_true (by omega)
        have c2a : decide ((57 : Int) < (s[i].toNat : Int)) = true := decide_eq_true (by omega)
        have c2b : decide (57 < s[i].toNat) = true := decide_eq_true hhi
        have HE := Lib.hid (show r = false by rw [← HR.out]; exact all_not HAT.out (digB_not (.inr hhi)))
        clear hlo hhi
        go_wp2
        go_ret
        exact ⟨by rw [HE.out]; rfl, rfl⟩
      have c2 : decide ((s[i].toNat : Int) > 57) = false := decide_eq_false (by omega)
      have c2a : decide ((57 : Int) < (s[i].toNat : Int)) = false := decide_eq_false (by omega)
      have c2b : decide (57 < s[i].toNat) = false := decide_eq_false hhi
      have HD2 := Lib.hid (all_more HD.out HAT.out (digB_yes (by omega) (by omega)))
      clear hlo hhi
      go_wp2
      go_roundg (n - (i + 1))
      case rel => exact ⟨i + 1, (by show _ = _; omega), by omega, by go_num, HD2.out, rfl⟩
      case measure => omega
    · have blt : decide ((i : Int) < (n : Int)) = false := decide_eq_false (by omega)
      have blt2 : decide (i < n) = false := decide_eq_false hlt0
      obtain rfl : i = n := by omega
      have HE := Lib.hid (show r = true by rw [← HR.out, ← HD.out, List.take_of_length_le (by rw [HLN.out]; omega)])
      go_wp2
      go_ret
      exact ⟨by rw [HE.out]; rfl, rfl⟩
set_option maxRecDepth 100000 in
theorem isWhole_any (s : ByteArray) (r : Bool) (w : World) (hs : s.size ≤ 1000) (hr : wholeB s.data.toList = r) : Calls Tryd.prog 41 #[.string s] w (Yes w (.bool r)) := by
  have HS := Lib.hid hs
  cases hd : digsB s.data.toList 6 with
  | false =>
    have HD := Lib.hid hd
    have HR := Lib.hid (show r = false by rw [← hr]; unfold wholeB; rw [hd]; rfl)
    clear hr hd hs
    go_enter Tryd.func41, Tryd.ntmps41
    go_wp2_with fail
    refine (areDigits_any s 6 false _ HS.out (by omega) HD.out).mono ?_
    rintro e w1 ⟨rfl, rfl⟩
    go_wp2
    go_ret
    exact ⟨by rw [HR.out]; rfl, rfl⟩
  | true =>
    have HD := Lib.hid hd
    have h0 : s.data.toList ≠ [] := by
      intro e; rw [e] at hd; cases hd
    have hpos : 0 < s.size := by rw [Lib.size_eq]; exact List.length_pos_iff.2 h0
    have hposi : (0 : Int) < (s.size : Int) := by omega
    have hat := at_of s 0 hpos
    by_cases h1 : s.data.toList = [48]
    · have b1 : (s.toList == [48]) = true := by rw [Lib.toList_data, h1]; rfl
      have HR := Lib.hid (show r = true by rw [← hr]; unfold wholeB; rw [hd, h1]; rfl)
      clear hr hd hs h0 h1 hat
      go_enter Tryd.func41, Tryd.ntmps41
      go_wp2_with fail
      refine (areDigits_any s 6 true _ HS.out (by omega) HD.out).mono ?_
      rintro e w1 ⟨rfl, rfl⟩
      go_wp2
      go_ret
      exact ⟨by rw [HR.out]; rfl, rfl⟩
    · have b1 : (s.toList == [48]) = false := by rw [Lib.toList_data]; exact beq_eq_false_iff_ne.2 h1
      have hh : s.data.toList.head? = some s[0] := by rw [List.head?_eq_getElem?]; exact hat
      have hr2 : r = decide (s[0] ≠ 48) := by
        rw [← hr]; unfold wholeB; rw [hd, hh, decide_eq_false h1, Bool.true_and, Bool.false_or]
        exact decide_eq_decide.2 ⟨fun h e => h (by rw [e]), fun h e => h (by injection e)⟩
      by_cases h48 : s[0].toNat = 48
      · have c1 : ((s[0].toNat : Int) != 48) = false := by simp; omega
        have c1b : (s[0].toNat != 48) = false := by simp; omega
        have HR := Lib.hid (show r = false by rw [hr2]; exact decide_eq_false (fun h => h (UInt8.toNat_inj.1 h48)))
        clear hr hd hs h0 h1 hat hh hr2 h48
        go_enter Tryd.func41, Tryd.ntmps41
        go_wp2_with fail
        refine (areDigits_any s 6 true _ HS.out (by omega) HD.out).mono ?_
        rintro e w1 ⟨rfl, rfl⟩
        go_wp2
        go_ret
        exact ⟨by rw [HR.out]; rfl, rfl⟩
      · have c1 : ((s[0].toNat : Int) != 48) = true := by simp; omega
        have c1b : (s[0].toNat != 48) = true := by simp; omega
        have HR := Lib.hid (show r = true by rw [hr2]; exact decide_eq_true (fun e => h48 (by rw [e]; rfl)))
        clear hr hd hs h0 h1 hat hh hr2 h48
        go_enter Tryd.func41, Tryd.ntmps41
        go_wp2_with fail
        refine (areDigits_any s 6 true _ HS.out (by omega) HD.out).mono ?_
        rintro e w1 ⟨rfl, rfl⟩
        go_wp2
        go_ret
        exact ⟨by rw [HR.out]; rfl, rfl⟩
set_option maxRecDepth 100000 in
theorem isPart_any (s : ByteArray) (r : Bool) (w : World) (hs : s.size ≤ 1000) (hr : partB s.data.toList = r) : Calls Tryd.prog 42 #[.string s] w (Yes w (.bool r)) := by
  have HS := Lib.hid hs
  cases hd : digsB s.data.toList 3 with
  | false =>
    have HD := Lib.hid hd
    have HR := Lib.hid (show r = false by rw [← hr]; unfold partB; rw [hd]; rfl)
    clear hr hd hs
    go_enter Tryd.func42, Tryd.ntmps42
    go_wp2_with fail
    refine (areDigits_any s 3 false _ HS.out (by omega) HD.out).mono ?_
    rintro e w1 ⟨rfl, rfl⟩
    go_wp2
    go_ret
    exact ⟨by rw [HR.out]; rfl, rfl⟩
  | true =>
    have HD := Lib.hid hd
    have h0 : s.data.toList ≠ [] := by
      intro e; rw [e] at hd; cases hd
    have hpos : 0 < s.size := by rw [Lib.size_eq]; exact List.length_pos_iff.2 h0
    obtain ⟨n, hn⟩ : ∃ n, s.size = n := ⟨_, rfl⟩
    obtain ⟨la, hla⟩ : ∃ la, n = la + 1 := ⟨n - 1, by omega⟩
    have hlas : la < s.size := by omega
    have hlai : (la : Int) < (n : Int) := by omega
    have wl : IntKind.i64.wrap ((n : Int) - 1) = (la : Int) := by rw [IntKind.wrap_i64]; omega
    have HNS := Lib.hid hn
    have hat := at_of s la hlas
    have hh : s.data.toList.getLast? = some s[la] := by
      rw [List.getLast?_eq_getElem?, show s.data.toList.length - 1 = la by rw [← Lib.size_eq]; omega]; exact hat
    have hr2 : r = decide (s[la] ≠ 48) := by
      rw [← hr]; unfold partB; rw [hd, hh, Bool.true_and]
      exact decide_eq_decide.2 ⟨fun h e => h (by rw [e]), fun h e => h (by injection e)⟩
    by_cases h48 : s[la].toNat = 48
    · have c1 : ((s[la].toNat : Int) != 48) = false := by simp; omega
      have c1b : (s[la].toNat != 48) = false := by simp; omega
      have HR := Lib.hid (show r = false by rw [hr2]; exact decide_eq_false (fun h => h (UInt8.toNat_inj.1 h48)))
      clear hr hd hs h0 hat hh hr2 h48 hla hpos
      go_enter Tryd.func42, Tryd.ntmps42
      go_wp2_with fail
      refine (areDigits_any s 3 true _ HS.out (by omega) HD.out).mono ?_
      rintro e w1 ⟨rfl, rfl⟩
      go_wp2
      go_ret
      exact ⟨by rw [HR.out]; rfl, rfl⟩
    · have c1 : ((s[la].toNat : Int) != 48) = true := by simp; omega
      have c1b : (s[la].toNat != 48) = true := by simp; omega
      have HR := Lib.hid (show r = true by rw [hr2]; exact decide_eq_true (fun e => h48 (by rw [e]; rfl)))
      clear hr hd hs h0 hat hh hr2 h48 hla hpos
      go_enter Tryd.func42, Tryd.ntmps42
      go_wp2_with fail
      refine (areDigits_any s 3 true _ HS.out (by omega) HD.out).mono ?_
      rintro e w1 ⟨rfl, rfl⟩
      go_wp2
      go_ret
      exact ⟨by rw [HR.out]; rfl, rfl⟩
end Go.Proofs.YtgjfjjdljngklaaDoor
