/-
  Layer 11's code: Read. Condition: at most 100 bytes.
  Layer 11's code: thousandths, Read. Condition: at most 100 bytes.
  Layer 13's code: a name, the types, the last place of a byte, whether a path meets a row. Condition: words of at most 100 bytes.
  Layer 13's code: the last place of a byte, whether a path meets a row. Condition: words of at most 100 bytes.
  Layer 13's code: the table's rows, one by one; the first row that a path meets. Condition: words of at most 100 bytes; the table holds what it was laid with.
  Layer 13's code: which row's second path a path is, the error of a path that is no statement, what a line holds. Condition: words of at most 100 bytes; the table holds what it was laid with.
-/
import Derived.Test.YtfcikfohmehmkaaGreatDoorBase11
import Derived.Lib.ConvBytes
import Derived.Laws.Concat
import Derived.Deep.LoopGhost
import Derived.Laws.Rows
import Derived.ChangeKeysEq
import Derived.StillTailTactics
import Derived.Deep.QuietTactic
import Derived.BigQuiet

namespace Go.Proofs.YtfcikfohmehmkaaGreatDoor
open Go.RowKit
open F
open N (digB valL val_snoc val_lt)
set_option linter.unusedVariables false

theorem F.digs_parts {l : List UInt8} {k : Nat} (h0 : l ≠ []) (h1 : l.length ≤ k) : digsB l k = l.all digB := by
  unfold digsB
  rw [decide_eq_true h1]
  cases l with
  | nil => exact absurd rfl h0
  | cons => rfl
theorem F.all_more {l : List UInt8} {i : Nat} {c : UInt8} (h : (l.take i).all digB = true) (hc : l[i]? = some c) (hd : digB c = true) : (l.take (i + 1)).all digB = true := by
  obtain ⟨h5, h6⟩ := List.getElem?_eq_some_iff.1 hc
  rw [List.take_succ_eq_append_getElem h5, h6, List.all_append, h, List.all_cons, hd]; rfl
theorem F.all_not {l : List UInt8} {i : Nat} {c : UInt8} (hc : l[i]? = some c) (hd : digB c = false) : l.all digB = false := by
  cases h : l.all digB with
  | false => rfl
  | true =>
    have := List.all_eq_true.1 h c (List.mem_of_getElem? hc)
    rw [hd] at this; cases this
set_option maxRecDepth 100000 in
theorem areDigits_any (s : ByteArray) (k : Nat) (r : Bool) (w : World) (hs : s.size ≤ 1000) (hk : k ≤ 100) (hr : digsB s.data.toList k = r) : Calls Tryz.prog 185 #[.string s, .int .i64 (k : Int)] w (Yes w (.bool r)) := by
  obtain ⟨n, hn⟩ : ∃ n, s.size = n := ⟨_, rfl⟩
  have hln : s.data.toList.length = n := by rw [← Lib.size_eq]; exact hn
  have HNS := Lib.hid hn
  by_cases h0 : n = 0
  · have e0 : s.data.toList = [] := List.eq_nil_of_length_eq_zero (by rw [hln]; exact h0)
    have b0 : (s.toList == []) = true := by rw [Lib.toList_data, e0]; rfl
    have b0a : s.toList = [] := by rw [Lib.toList_data, e0]
    have HR := Lib.hid (show r = false by rw [← hr, e0]; rfl)
    clear hr e0 hln h0 hn
    go_enter Tryz.func185, Tryz.ntmps185
    go_wp2
    go_ret
    exact ⟨by rw [HR.out]; rfl, rfl⟩
  have e0 : s.data.toList ≠ [] := fun e => h0 (by rw [← hln, e]; rfl)
  have b0 : (s.toList == []) = false := by rw [Lib.toList_data]; exact beq_eq_false_iff_ne.2 e0
  have b0a : ¬ s.toList = [] := by rw [Lib.toList_data]; exact e0
  by_cases h1 : k < n
  · have b1 : decide ((n : Int) > (k : Int)) = true := decide_eq_true (by omega)
    have b1a : decide ((k : Int) < (n : Int)) = true := decide_eq_true (by omega)
    have b1b : decide (k < n) = true := decide_eq_true h1
    have HR := Lib.hid (show r = false by rw [← hr]; unfold digsB; rw [decide_eq_false (by omega : ¬ s.data.toList.length ≤ k), Bool.and_false, Bool.false_and])
    clear hr e0 hln h0 h1
    go_enter Tryz.func185, Tryz.ntmps185
    go_wp2
    go_ret
    exact ⟨by rw [HR.out]; rfl, rfl⟩
  have b1 : decide ((n : Int) > (k : Int)) = false := decide_eq_false (by omega)
  have b1a : decide ((k : Int) < (n : Int)) = false := decide_eq_false (by omega)
  have b1b : decide (k < n) = false := decide_eq_false h1
  have HR := Lib.hid (show s.data.toList.all digB = r by rw [← hr, digs_parts e0 (by omega)])
  have HLN := Lib.hid hln
  have hn1000 : n ≤ 1000 := by omega
  clear hr e0 hln h0 h1
  go_enter Tryz.func185, Tryz.ntmps185
  go_wp2
  go_loopg [5] n (fun gk vi wr => ∃ i : Nat, Hid (i + gk = n) ∧ i ≤ n ∧ vi = .int .i64 (i : Int) ∧ Hid ((s.data.toList.take i).all digB = true) ∧ wr = w)
  case atStart => exact ⟨0, Nat.zero_add _, Nat.zero_le _, rfl, rfl, rfl⟩
  case round =>
    obtain ⟨i, HG, hi, rfl, HD, rfl⟩ := hrel
    by_cases hlt0 : i < n
    · have blt : decide ((i : Int) < (n : Int)) = true := decide_eq_true (by omega)
      have blt2 : decide (i < n) = true := decide_eq_true hlt0
      have hii : (i : Int) < (n : Int) := by omega
      have hlt : i < s.size := by rw [HNS.out]; exact hlt0
      have hgk := HG.out
      have HAT := Lib.hid (at_of s i hlt)
      by_cases hlo : s[i].toNat < 48
      · have c1 : decide ((s[i].toNat : Int) < 48) = true := decide_eq_true (by omega)
        have c1b : decide (s[i].toNat < 48) = true := decide_eq_true hlo
        have HE := Lib.hid (show r = false by rw [← HR.out]; exact all_not HAT.out (digB_not (.inl hlo)))
        clear hlo
        go_wp2
        go_ret
        exact ⟨by rw [HE.out]; rfl, rfl⟩
      have c1 : decide ((s[i].toNat : Int) < 48) = false := decide_eq_false (by omega)
      have c1b : decide (s[i].toNat < 48) = false := decide_eq_false hlo
      by_cases hhi : 57 < s[i].toNat
      · have c2 : decide ((s[i].toNat : Int) > 57) = true := decide_eq_true (by omega)
        have c2a : decide ((57 : Int) < (s[i].toNat : Int)) = true := decide_eq_true (by omega)
        have c2b : decide (57 < s[i].toNat) = true := decide_eq_true hhi
        have HE := Lib.hid (show r = false by rw [← HR.out]; exact all_not HAT.out (digB_not (.inr hhi)))
        clear hlo hhi
        go_wp2
        go_ret
        exact ⟨by rw [HE.out]; rfl, rfl⟩
      have c2 : decide ((s[i].toNat : Int) > 57) = false := decide_eq_false (by omega)
      have c2a : decide ((57 : Int) < (s[i].toNat : Int)) = false := decide_eq_false (by omega)
      have c2b : decide (57 < s[i].toNat) = false := decide_eq_false hhi
      have HD2 := Lib.hid (all_more HD.out HAT.out (digB_yes (by omega) (by omega)))
      clear hlo hhi
      go_wp2
      go_roundg (n - (i + 1))
      case rel => exact ⟨i + 1, (by show _ = _; omega), by omega, by go_num, HD2.out, rfl⟩
      case measure => omega
    · have blt : decide ((i : Int) < (n : Int)) = false := decide_eq_false (by omega)
      have blt2 : decide (i < n) = false := decide_eq_false hlt0
      obtain rfl : i = n := by omega
      have HE := Lib.hid (show r = true by rw [← HR.out, ← HD.out, List.take_of_length_le (by rw [HLN.out]; omega)])
      go_wp2
      go_ret
      exact ⟨by rw [HE.out]; rfl, rfl⟩
set_option maxRecDepth 100000 in
theorem isWhole_any (s : ByteArray) (r : Bool) (w : World) (hs : s.size ≤ 1000) (hr : wholeB s.data.toList = r) : Calls Tryz.prog 178 #[.string s] w (Yes w (.bool r)) := by
  have HS := Lib.hid hs
  cases hd : digsB s.data.toList 6 with
  | false =>
    have HD := Lib.hid hd
    have HR := Lib.hid (show r = false by rw [← hr]; unfold wholeB; rw [hd]; rfl)
    clear hr hd hs
    go_enter Tryz.func178, Tryz.ntmps178
    go_wp2_with fail
    refine (areDigits_any s 6 false _ HS.out (by omega) HD.out).mono ?_
    rintro e w1 ⟨rfl, rfl⟩
    go_wp2
    go_ret
    exact ⟨by rw [HR.out]; rfl, rfl⟩
  | true =>
    have HD := Lib.hid hd
    have h0 : s.data.toList ≠ [] := by
      intro e; rw [e] at hd; cases hd
    have hpos : 0 < s.size := by rw [Lib.size_eq]; exact List.length_pos_iff.2 h0
    have hposi : (0 : Int) < (s.size : Int) := by omega
    have hat := at_of s 0 hpos
    by_cases h1 : s.data.toList = [48]
    · have b1 : (s.toList == [48]) = true := by rw [Lib.toList_data, h1]; rfl
      have HR := Lib.hid (show r = true by rw [← hr]; unfold wholeB; rw [hd, h1]; rfl)
      clear hr hd hs h0 h1 hat
      go_enter Tryz.func178, Tryz.ntmps178
      go_wp2_with fail
      refine (areDigits_any s 6 true _ HS.out (by omega) HD.out).mono ?_
      rintro e w1 ⟨rfl, rfl⟩
      go_wp2
      go_ret
      exact ⟨by rw [HR.out]; rfl, rfl⟩
    · have b1 : (s.toList == [48]) = false := by rw [Lib.toList_data]; exact beq_eq_false_iff_ne.2 h1
      have hh : s.data.toList.head? = some s[0] := by rw [List.head?_eq_getElem?]; exact hat
      have hr2 : r = decide (s[0] ≠ 48) := by
        rw [← hr]; unfold wholeB; rw [hd, hh, decide_eq_false h1, Bool.true_and, Bool.false_or]
        exact decide_eq_decide.2 ⟨fun h e => h (by rw [e]), fun h e => h (by injection e)⟩
      by_cases h48 : s[0].toNat = 48
      · have c1 : ((s[0].toNat : Int) != 48) = false := by simp; omega
        have c1b : (s[0].toNat != 48) = false := by simp; omega
        have HR := Lib.hid (show r = false by rw [hr2]; exact decide_eq_false (fun h => h (UInt8.toNat_inj.1 h48)))
        clear hr hd hs h0 h1 hat hh hr2 h48
        go_enter Tryz.func178, Tryz.ntmps178
        go_wp2_with fail
        refine (areDigits_any s 6 true _ HS.out (by omega) HD.out).mono ?_
        rintro e w1 ⟨rfl, rfl⟩
        go_wp2
        go_ret
        exact ⟨by rw [HR.out]; rfl, rfl⟩
      · have c1 : ((s[0].toNat : Int) != 48) = true := by simp; omega
        have c1b : (s[0].toNat != 48) = true := by simp; omega
        have HR := Lib.hid (show r = true by rw [hr2]; exact decide_eq_true (fun e => h48 (by rw [e]; rfl)))
        clear hr hd hs h0 h1 hat hh hr2 h48
        go_enter Tryz.func178, Tryz.ntmps178
        go_wp2_with fail
        refine (areDigits_any s 6 true _ HS.out (by omega) HD.out).mono ?_
        rintro e w1 ⟨rfl, rfl⟩
        go_wp2
        go_ret
        exact ⟨by rw [HR.out]; rfl, rfl⟩
set_option maxRecDepth 100000 in
theorem isPart_any (s : ByteArray) (r : Bool) (w : World) (hs : s.size ≤ 1000) (hr : partB s.data.toList = r) : Calls Tryz.prog 179 #[.string s] w (Yes w (.bool r)) := by
  have HS := Lib.hid hs
  cases hd : digsB s.data.toList 3 with
  | false =>
    have HD := Lib.hid hd
    have HR := Lib.hid (show r = false by rw [← hr]; unfold partB; rw [hd]; rfl)
    clear hr hd hs
    go_enter Tryz.func179, Tryz.ntmps179
    go_wp2_with fail
    refine (areDigits_any s 3 false _ HS.out (by omega) HD.out).mono ?_
    rintro e w1 ⟨rfl, rfl⟩
    go_wp2
    go_ret
    exact ⟨by rw [HR.out]; rfl, rfl⟩
  | true =>
    have HD := Lib.hid hd
    have h0 : s.data.toList ≠ [] := by
      intro e; rw [e] at hd; cases hd
    have hpos : 0 < s.size := by rw [Lib.size_eq]; exact List.length_pos_iff.2 h0
    obtain ⟨n, hn⟩ : ∃ n, s.size = n := ⟨_, rfl⟩
    obtain ⟨la, hla⟩ : ∃ la, n = la + 1 := ⟨n - 1, by omega⟩
    have hlas : la < s.size := by omega
    have hlai : (la : Int) < (n : Int) := by omega
    have wl : IntKind.i64.wrap ((n : Int) - 1) = (la : Int) := by rw [IntKind.wrap_i64]; omega
    have HNS := Lib.hid hn
    have hat := at_of s la hlas
    have hh : s.data.toList.getLast? = some s[la] := by
      rw [List.getLast?_eq_getElem?, show s.data.toList.length - 1 = la by rw [← Lib.size_eq]; omega]; exact hat
    have hr2 : r = decide (s[la] ≠ 48) := by
      rw [← hr]; unfold partB; rw [hd, hh, Bool.true_and]
      exact decide_eq_decide.2 ⟨fun h e => h (by rw [e]), fun h e => h (by injection e)⟩
    by_cases h48 : s[la].toNat = 48
    · have c1 : ((s[la].toNat : Int) != 48) = false := by simp; omega
      have c1b : (s[la].toNat != 48) = false := by simp; omega
      have HR := Lib.hid (show r = false by rw [hr2]; exact decide_eq_false (fun h => h (UInt8.toNat_inj.1 h48)))
      clear hr hd hs h0 hat hh hr2 h48 hla hpos
      go_enter Tryz.func179, Tryz.ntmps179
      go_wp2_with fail
      refine (areDigits_any s 3 true _ HS.out (by omega) HD.out).mono ?_
      rintro e w1 ⟨rfl, rfl⟩
      go_wp2
      go_ret
      exact ⟨by rw [HR.out]; rfl, rfl⟩
    · have c1 : ((s[la].toNat : Int) != 48) = true := by simp; omega
      have c1b : (s[la].toNat != 48) = true := by simp; omega
      have HR := Lib.hid (show r = true by rw [hr2]; exact decide_eq_true (fun e => h48 (by rw [e]; rfl)))
      clear hr hd hs h0 hat hh hr2 h48 hla hpos
      go_enter Tryz.func179, Tryz.ntmps179
      go_wp2_with fail
      refine (areDigits_any s 3 true _ HS.out (by omega) HD.out).mono ?_
      rintro e w1 ⟨rfl, rfl⟩
      go_wp2
      go_ret
      exact ⟨by rw [HR.out]; rfl, rfl⟩
end Go.Proofs.YtfcikfohmehmkaaGreatDoor

namespace Go.Proofs.YtfcikfohmehmkaaGreatDoor
open Go.RowKit
open F
open N (digB valL val_snoc val_lt)
set_option linter.unusedVariables false

theorem below_bytes11 (w : World) (t : TypeId) (q : ByteArray) : Below w.heap.size w (Lib.bytesWorld w t q) :=
  ⟨by rfl, by rfl, by rfl, by rw [Lib.bytesWorld_size]; omega, fun j hj => Lib.bytesWorld_at_old w t q j hj⟩
theorem conv_bytes11 (w : World) (q : ByteArray) (sz : Nat) (h : q.size = sz) : ∃ (cp : Nat) (wq : World), (convert 9 134 (.string q)).run Tryz.prog w = .ok (.slice (some ⟨w.heap.size, 0, none⟩) sz cp) wq ∧ Below w.heap.size w wq ∧ ∀ (j : Nat) (c : UInt8), q.data.toList[j]? = some c → wq.cell? ⟨w.heap.size, j, none⟩ = some (.int .u8 (c.toNat : Int)) := by
  refine ⟨_, _, by rw [← h]; exact Lib.run_convert_string_bytes w _ _ 5 q Tryz.underlying9 Tryz.underlying134 Tryz.underlying5, ?_, fun j c hc => ?_⟩
  · exact below_bytes11 w _ q
  · obtain ⟨h5, h6⟩ := List.getElem?_eq_some_iff.1 hc
    rw [Lib.bytesWorld_cell w _ q j (by rw [Lib.size_eq]; exact h5)]
    have e : q.data.toList.getD j 0 = c := by rw [List.getD_eq_getElem?_getD, hc]; rfl
    rw [e]
theorem F.val_thou {l : List UInt8} {m : Nat} (h : l.all digB = true) (hl : l.length + m ≤ 9) : valL l * 10 ^ m < 1000000000 := by
  have h1 := val_lt l h l.length (Nat.le_refl _)
  have h2 := Nat.mul_lt_mul_of_pos_right h1 (Nat.pow_pos (n := m) (show 0 < 10 by omega))
  rw [← Nat.pow_add] at h2
  have h3 : 10 ^ (l.length + m) ≤ 10 ^ 9 := Nat.pow_le_pow_right (by omega) hl
  exact Nat.lt_of_lt_of_le h2 h3
theorem F.val_nine {l : List UInt8} {i : Nat} (h : l.all digB = true) (hl : l.length ≤ 9) : valL (l.take i) < 1000000000 := by
  have h1 := val_lt (l.take i) (by
    rw [List.all_eq_true] at h ⊢
    exact fun x hx => h x (List.mem_of_mem_take hx)) 9 (by rw [List.length_take]; omega)
  exact h1
theorem F.pow_step {v u j m : Nat} (h : v * 10 ^ j = u) (hj : j ≤ m) (hm : v * 10 ^ m < 1000000000) : u < 1000000000 := by
  have h3 : 10 ^ j ≤ 10 ^ m := Nat.pow_le_pow_right (by omega) hj
  have := Nat.mul_le_mul_left v h3
  omega
theorem F.sub48 {c d : Nat} (h : c - 48 = d) (h2 : 48 ≤ c) (h3 : c < 256) : IntKind.u8.wrap ((c : Int) - 48) = (d : Int) := by rw [IntKind.wrap_u8]; omega
theorem F.times10 {v v1 : Nat} (h : v * 10 = v1) (h2 : v < 1000000000) : IntKind.i64.wrap ((v : Int) * 10) = (v1 : Int) := by rw [IntKind.wrap_i64]; omega
theorem F.plus10 {v v1 v2 d : Nat} (h : v * 10 = v1) (h2 : v1 + d = v2) (h3 : v < 1000000000) (h4 : d ≤ 9) : IntKind.i64.wrap ((v1 : Int) + (d : Int)) = (v2 : Int) := by rw [IntKind.wrap_i64]; omega
theorem F.small9 {d : Nat} (h : d ≤ 9) : IntKind.i64.wrap (d : Int) = (d : Int) := by rw [IntKind.wrap_i64]; omega
theorem F.whole_parts {a : List UInt8} (h : wholeB a = true) : a.length ≤ 6 ∧ a.all digB = true := by
  unfold wholeB digsB at h
  simp only [Bool.and_eq_true, decide_eq_true_eq] at h
  exact ⟨h.1.1.2, h.1.2⟩
theorem F.part_parts {b : List UInt8} (h : partB b = true) : b.length ≤ 3 ∧ b.all digB = true := by
  unfold partB digsB at h
  simp only [Bool.and_eq_true, decide_eq_true_eq] at h
  exact ⟨h.1.1.2, h.1.2⟩
/-- What thousandths answers. -/
def ThouIs (s : List UInt8) (n : Nat) (ok : Bool) : Prop := (ok = true ∧ n < 1000000000 ∧ thoL s = some n) ∨ (ok = false ∧ n = 0 ∧ thoL s = none)
set_option maxRecDepth 100000 in
set_option maxHeartbeats 4000000 in
theorem thousandths_any (s : ByteArray) (w : World) (hs : s.size ≤ 100) : Calls Tryz.prog 158 #[.string s] w (fun e w' => ∃ (n : Nat) (ok : Bool), e = .returned (.tuple #[.int .i64 (n : Int), .bool ok]) ∧ ThouIs s.data.toList n ok ∧ Below w.heap.size w w') := by
  go_enter Tryz.func158, Tryz.ntmps158
  go_wp2_with fail
  refine (cut_any10 s 46 _ (by omega)).mono ?_
  rintro e w1 ⟨⟨a, b, f, rfl, hc⟩, hb⟩
  have HT := Lib.hid (tho_cut hc)
  have hlen : a.length + b.length ≤ 100 := by
    have hz : s.data.toList.length = s.size := (Lib.size_eq s).symm
    rcases hc with ⟨_, e1, e2, _⟩ | ⟨_, e1, _⟩
    · rw [e1, e2]; simp; omega
    · have := congrArg List.length e1
      rw [List.length_append, List.length_cons] at this; omega
  have HLA := Lib.hid hlen
  have HB0 := Lib.hid (show f = false → b = [] from fun hf => by
    rcases hc with ⟨_, _, e2, _⟩ | ⟨e1, _, _⟩
    · exact e2
    · rw [hf] at e1; cases e1)
  obtain ⟨qa, hqa⟩ : ∃ q, sB a = q := ⟨_, rfl⟩
  obtain ⟨qb, hqb⟩ : ∃ q, sB b = q := ⟨_, rfl⟩
  rw [hqa, hqb]
  have HQA := Lib.hid hqa
  have HQB := Lib.hid hqb
  have HSA := Lib.hid (show qa.size ≤ 1000 by rw [← hqa, sB_size]; omega)
  have HSB := Lib.hid (show qb.size ≤ 1000 by rw [← hqb, sB_size]; omega)
  have HDQA := Lib.hid (show qa.data.toList = a by rw [← hqa, sB_data])
  have HDQB := Lib.hid (show qb.data.toList = b by rw [← hqb, sB_data])
  clear hc hlen hqa hqb hs
  cases hw : wholeB a with
  | false =>
    have HW := Lib.hid (show wholeB qa.data.toList = false by rw [HDQA.out]; exact hw)
    have HE := Lib.hid (show thoL s.data.toList = none by rw [HT.out, hw, Bool.false_and, if_neg (by decide)])
    clear hw
    go_wp2_with fail
    refine (isWhole_any qa false _ HSA.out HW.out).mono ?_
    rintro e w2 ⟨rfl, rfl⟩
    go_wp2
    go_ret2
    exact ⟨0, false, rfl, .inr ⟨rfl, rfl, HE.out⟩, hb⟩
  | true =>
  have HW := Lib.hid (show wholeB qa.data.toList = true by rw [HDQA.out]; exact hw)
  have HDA := Lib.hid (whole_parts hw).2
  have HLA2 := Lib.hid (whole_parts hw).1
  cases f with
  | false =>
    have hb0 := HB0.out rfl
    have HDB := Lib.hid (show b.all digB = true by rw [hb0]; rfl)
    have HLB2 := Lib.hid (show b.length ≤ 3 by rw [hb0]; exact Nat.zero_le _)
    have HOK := Lib.hid (show (wholeB a && (!false || partB b)) = true by rw [hw]; rfl)
    clear hw hb0
    go_wp2_with fail
    refine (isWhole_any qa true _ HSA.out HW.out).mono ?_
    rintro e w1 ⟨rfl, rfl⟩
    obtain ⟨qs, hqs⟩ : ∃ q, qa ++ qb = q := ⟨_, rfl⟩
    have hL : qs.data.toList = a ++ b := by rw [← hqs, ByteArray.data_append, Array.toList_append, ← HQA.out, ← HQB.out, sB_data, sB_data]
    obtain ⟨sz, hsz⟩ : ∃ sz, qs.size = sz := ⟨_, rfl⟩
    have hszl : sz = a.length + b.length := by rw [← hsz, Lib.size_eq, hL, List.length_append]
    have hadd : ∀ w : World, Sem.run Tryz.prog (Op.stringOp .add qa qb) w = .ok (.string qs) w := fun w => by
      rw [run_string_add_sum (P := Tryz.prog) (w := w) qa qb (by rw [← HQA.out, ← HQB.out, sB_size, sB_size]; have := HLA.out; omega), hqs]
    obtain ⟨cp, wq, hconv, hbq, hcl⟩ := conv_bytes11 w1 qs sz hsz
    have HCL := Lib.hid hcl
    have HL := Lib.hid hL
    have HBQ := Lib.hid (bthen hb hbq)
    have HSZ := Lib.hid hszl
    have hsz9 : sz ≤ 9 := by have := HLA2.out; have := HLB2.out; omega
    have HALL := Lib.hid (show (a ++ b).all digB = true by rw [List.all_append, HDA.out, HDB.out]; rfl)
    obtain ⟨m, hm⟩ : ∃ m, 3 - b.length = m := ⟨_, rfl⟩
    have hlb : b.length = qb.size := by rw [← HQB.out, sB_size]
    obtain ⟨lb, hlbe⟩ : ∃ lb, qb.size = lb := ⟨_, rfl⟩
    have wm : IntKind.i64.wrap (3 - (lb : Int)) = (m : Int) := by have := HLB2.out; rw [IntKind.wrap_i64]; omega
    have HM := Lib.hid hm
    have hm3 : m ≤ 3 := by omega
    have HV9 := Lib.hid (show valL (a ++ b) * 10 ^ m < 1000000000 from val_thou HALL.out (by rw [List.length_append]; have := HLA2.out; have := HLB2.out; omega))
    clear hqs hL hsz hszl hcl hbq hm hlb
    go_wp2
    go_loopg [7, 32] sz (fun gk vn vi wr => ∃ i v : Nat, Hid (i + gk = sz) ∧ i ≤ sz ∧ vi = .int .i64 (i : Int) ∧ vn = .int .i64 (v : Int) ∧ Hid (valL ((a ++ b).take i) = v) ∧ wr = wq)
    case atStart => exact ⟨0, 0, Nat.zero_add _, Nat.zero_le _, rfl, rfl, rfl, rfl⟩
    case round =>
      obtain ⟨i, v, HG, hi, rfl, rfl, HV, rfl⟩ := hrel
      by_cases hlt0 : i < sz
      · have blt : decide ((i : Int) < (sz : Int)) = true := decide_eq_true (by omega)
        have blt2 : decide (i < sz) = true := decide_eq_true hlt0
        have hii : (i : Int) < (sz : Int) := by omega
        have hgk := HG.out
        obtain ⟨c, hc⟩ : ∃ c, (a ++ b)[i]? = some c := ⟨_, List.getElem?_eq_getElem (by rw [List.length_append]; have := HSZ.out; omega)⟩
        have hcell := HCL.out i c (by rw [HL.out]; exact hc)
        have hcd : digB c = true := List.all_eq_true.1 HALL.out c (List.mem_of_getElem? hc)
        have hvb : v < 1000000000 := by rw [← HV.out]; exact val_nine HALL.out (by rw [List.length_append]; have := HSZ.out; omega)
        obtain ⟨d, hd, hd9⟩ : ∃ d, c.toNat - 48 = d ∧ (48 ≤ c.toNat ∧ d ≤ 9) := by
          unfold N.digB at hcd
          simp only [Bool.and_eq_true, decide_eq_true_eq] at hcd
          exact ⟨_, rfl, by omega, by omega⟩
        obtain ⟨v1, hv1⟩ : ∃ v1, v * 10 = v1 := ⟨_, rfl⟩
        obtain ⟨v2, hv2⟩ : ∃ v2, v1 + d = v2 := ⟨_, rfl⟩
        have hcb := c.toNat_lt
        have s1 : IntKind.u8.wrap ((c.toNat : Int) - 48) = (d : Int) := sub48 hd hd9.1 hcb
        have s2 : IntKind.i64.wrap ((v : Int) * 10) = (v1 : Int) := times10 hv1 hvb
        have s3 : IntKind.i64.wrap ((v1 : Int) + (d : Int)) = (v2 : Int) := plus10 hv1 hv2 hvb hd9.2
        have s4 : IntKind.i64.wrap (d : Int) = (d : Int) := small9 hd9.2
        have HV2 := Lib.hid (show valL ((a ++ b).take (i + 1)) = v2 by
          obtain ⟨h5, h6⟩ := List.getElem?_eq_some_iff.1 hc
          rw [List.take_succ_eq_append_getElem h5, h6, val_snoc, HV.out, hd, ← hv2, ← hv1, Nat.mul_comm])
        clear hc hcd hd hd9 hv1 hv2 hvb hcb
        go_wp2
        go_roundg (sz - (i + 1))
        case rel => exact ⟨i + 1, v2, (by show _ = _; omega), by omega, by go_num, rfl, HV2.out, rfl⟩
        case measure => omega
      · have blt : decide ((i : Int) < (sz : Int)) = false := decide_eq_false (by omega)
        have blt2 : decide (i < sz) = false := decide_eq_false hlt0
        obtain rfl : i = sz := by omega
        have HVV := Lib.hid (show valL (a ++ b) = v by rw [← HV.out, List.take_of_length_le (by rw [List.length_append]; have := HSZ.out; omega)])
        have HV10 := Lib.hid (show v * 10 ^ m < 1000000000 by rw [← HVV.out]; exact HV9.out)
        go_wp2
        go_loopg [7, 46] m (fun gk vn vi w2 => ∃ j u : Nat, Hid (j + gk = m) ∧ j ≤ m ∧ vi = .int .i64 (j : Int) ∧ vn = .int .i64 (u : Int) ∧ Hid (v * 10 ^ j = u) ∧ w2 = wr)
        case atStart => exact ⟨0, v, Nat.zero_add _, Nat.zero_le _, rfl, rfl, (by show _ = _; omega), rfl⟩
        case round =>
          obtain ⟨j, u, HG2, hj, rfl, rfl, HU, rfl⟩ := hrel
          by_cases hlt2 : j < m
          · have blt3 : decide ((j : Int) < (m : Int)) = true := decide_eq_true (by omega)
            have blt4 : decide (j < m) = true := decide_eq_true hlt2
            have hgk2 := HG2.out
            obtain ⟨u1, hu1⟩ : ∃ u1, u * 10 = u1 := ⟨_, rfl⟩
            have hub : u < 1000000000 := pow_step HU.out hj HV10.out
            have s2 : IntKind.i64.wrap ((u : Int) * 10) = (u1 : Int) := times10 hu1 hub
            have HU2 := Lib.hid (show v * 10 ^ (j + 1) = u1 by rw [Nat.pow_succ, ← Nat.mul_assoc, HU.out, hu1])
            clear hu1 hub
            go_wp2
            go_roundg (m - (j + 1))
            case rel => exact ⟨j + 1, u1, (by show _ = _; omega), by omega, by go_num, rfl, HU2.out, rfl⟩
            case measure => omega
          · have blt3 : decide ((j : Int) < (m : Int)) = false := decide_eq_false (by omega)
            have blt4 : decide (j < m) = false := decide_eq_false hlt2
            obtain rfl : j = m := by omega
            have HE := Lib.hid (show thoL s.data.toList = some u ∧ u < 1000000000 by
              rw [HT.out, if_pos HOK.out, HM.out, HVV.out, HU.out]
              exact ⟨rfl, by rw [← HU.out]; exact HV10.out⟩)
            go_wp2
            go_ret2
            exact ⟨u, true, rfl, .inl ⟨rfl, HE.out.2, HE.out.1⟩, HBQ.out⟩
  | true =>
  cases hp : partB b with
  | false =>
    have HP := Lib.hid (show partB qb.data.toList = false by rw [HDQB.out]; exact hp)
    have HE := Lib.hid (show thoL s.data.toList = none by rw [HT.out, hw, hp]; rfl)
    clear hw hp
    go_wp2_with fail
    refine (isWhole_any qa true _ HSA.out HW.out).mono ?_
    rintro e w2 ⟨rfl, rfl⟩
    go_wp2_with fail
    refine (isPart_any qb false _ HSB.out HP.out).mono ?_
    rintro e w2 ⟨rfl, rfl⟩
    go_wp2
    go_ret2
    exact ⟨0, false, rfl, .inr ⟨rfl, rfl, HE.out⟩, hb⟩
  | true =>
    have HP := Lib.hid (show partB qb.data.toList = true by rw [HDQB.out]; exact hp)
    have HDB := Lib.hid (part_parts hp).2
    have HLB2 := Lib.hid (part_parts hp).1
    have HOK := Lib.hid (show (wholeB a && (!true || partB b)) = true by rw [hw, hp]; rfl)
    clear hw hp
    go_wp2_with fail
    refine (isWhole_any qa true _ HSA.out HW.out).mono ?_
    rintro e w1 ⟨rfl, rfl⟩
    go_wp2_with fail
    refine (isPart_any qb true _ HSB.out HP.out).mono ?_
    rintro e w1 ⟨rfl, rfl⟩
    obtain ⟨qs, hqs⟩ : ∃ q, qa ++ qb = q := ⟨_, rfl⟩
    have hL : qs.data.toList = a ++ b := by rw [← hqs, ByteArray.data_append, Array.toList_append, ← HQA.out, ← HQB.out, sB_data, sB_data]
    obtain ⟨sz, hsz⟩ : ∃ sz, qs.size = sz := ⟨_, rfl⟩
    have hszl : sz = a.length + b.length := by rw [← hsz, Lib.size_eq, hL, List.length_append]
    have hadd : ∀ w : World, Sem.run Tryz.prog (Op.stringOp .add qa qb) w = .ok (.string qs) w := fun w => by
      rw [run_string_add_sum (P := Tryz.prog) (w := w) qa qb (by rw [← HQA.out, ← HQB.out, sB_size, sB_size]; have := HLA.out; omega), hqs]
    obtain ⟨cp, wq, hconv, hbq, hcl⟩ := conv_bytes11 w1 qs sz hsz
    have HCL := Lib.hid hcl
    have HL := Lib.hid hL
    have HBQ := Lib.hid (bthen hb hbq)
    have HSZ := Lib.hid hszl
    have hsz9 : sz ≤ 9 := by have := HLA2.out; have := HLB2.out; omega
    have HALL := Lib.hid (show (a ++ b).all digB = true by rw [List.all_append, HDA.out, HDB.out]; rfl)
    obtain ⟨m, hm⟩ : ∃ m, 3 - b.length = m := ⟨_, rfl⟩
    have hlb : b.length = qb.size := by rw [← HQB.out, sB_size]
    obtain ⟨lb, hlbe⟩ : ∃ lb, qb.size = lb := ⟨_, rfl⟩
    have wm : IntKind.i64.wrap (3 - (lb : Int)) = (m : Int) := by have := HLB2.out; rw [IntKind.wrap_i64]; omega
    have HM := Lib.hid hm
    have hm3 : m ≤ 3 := by omega
    have HV9 := Lib.hid (show valL (a ++ b) * 10 ^ m < 1000000000 from val_thou HALL.out (by rw [List.length_append]; have := HLA2.out; have := HLB2.out; omega))
    clear hqs hL hsz hszl hcl hbq hm hlb
    go_wp2
    go_loopg [7, 32] sz (fun gk vn vi wr => ∃ i v : Nat, Hid (i + gk = sz) ∧ i ≤ sz ∧ vi = .int .i64 (i : Int) ∧ vn = .int .i64 (v : Int) ∧ Hid (valL ((a ++ b).take i) = v) ∧ wr = wq)
    case atStart => exact ⟨0, 0, Nat.zero_add _, Nat.zero_le _, rfl, rfl, rfl, rfl⟩
    case round =>
      obtain ⟨i, v, HG, hi, rfl, rfl, HV, rfl⟩ := hrel
      by_cases hlt0 : i < sz
      · have blt : decide ((i : Int) < (sz : Int)) = true := decide_eq_true (by omega)
        have blt2 : decide (i < sz) = true := decide_eq_true hlt0
        have hii : (i : Int) < (sz : Int) := by omega
        have hgk := HG.out
        obtain ⟨c, hc⟩ : ∃ c, (a ++ b)[i]? = some c := ⟨_, List.getElem?_eq_getElem (by rw [List.length_append]; have := HSZ.out; omega)⟩
        have hcell := HCL.out i c (by rw [HL.out]; exact hc)
        have hcd : digB c = true := List.all_eq_true.1 HALL.out c (List.mem_of_getElem? hc)
        have hvb : v < 1000000000 := by rw [← HV.out]; exact val_nine HALL.out (by rw [List.length_append]; have := HSZ.out; omega)
        obtain ⟨d, hd, hd9⟩ : ∃ d, c.toNat - 48 = d ∧ (48 ≤ c.toNat ∧ d ≤ 9) := by
          unfold N.digB at hcd
          simp only [Bool.and_eq_true, decide_eq_true_eq] at hcd
          exact ⟨_, rfl, by omega, by omega⟩
        obtain ⟨v1, hv1⟩ : ∃ v1, v * 10 = v1 := ⟨_, rfl⟩
        obtain ⟨v2, hv2⟩ : ∃ v2, v1 + d = v2 := ⟨_, rfl⟩
        have hcb := c.toNat_lt
        have s1 : IntKind.u8.wrap ((c.toNat : Int) - 48) = (d : Int) := sub48 hd hd9.1 hcb
        have s2 : IntKind.i64.wrap ((v : Int) * 10) = (v1 : Int) := times10 hv1 hvb
        have s3 : IntKind.i64.wrap ((v1 : Int) + (d : Int)) = (v2 : Int) := plus10 hv1 hv2 hvb hd9.2
        have s4 : IntKind.i64.wrap (d : Int) = (d : Int) := small9 hd9.2
        have HV2 := Lib.hid (show valL ((a ++ b).take (i + 1)) = v2 by
          obtain ⟨h5, h6⟩ := List.getElem?_eq_some_iff.1 hc
          rw [List.take_succ_eq_append_getElem h5, h6, val_snoc, HV.out, hd, ← hv2, ← hv1, Nat.mul_comm])
        clear hc hcd hd hd9 hv1 hv2 hvb hcb
        go_wp2
        go_roundg (sz - (i + 1))
        case rel => exact ⟨i + 1, v2, (by show _ = _; omega), by omega, by go_num, rfl, HV2.out, rfl⟩
        case measure => omega
      · have blt : decide ((i : Int) < (sz : Int)) = false := decide_eq_false (by omega)
        have blt2 : decide (i < sz) = false := decide_eq_false hlt0
        obtain rfl : i = sz := by omega
        have HVV := Lib.hid (show valL (a ++ b) = v by rw [← HV.out, List.take_of_length_le (by rw [List.length_append]; have := HSZ.out; omega)])
        have HV10 := Lib.hid (show v * 10 ^ m < 1000000000 by rw [← HVV.out]; exact HV9.out)
        go_wp2
        go_loopg [7, 46] m (fun gk vn vi w2 => ∃ j u : Nat, Hid (j + gk = m) ∧ j ≤ m ∧ vi = .int .i64 (j : Int) ∧ vn = .int .i64 (u : Int) ∧ Hid (v * 10 ^ j = u) ∧ w2 = wr)
        case atStart => exact ⟨0, v, Nat.zero_add _, Nat.zero_le _, rfl, rfl, (by show _ = _; omega), rfl⟩
        case round =>
          obtain ⟨j, u, HG2, hj, rfl, rfl, HU, rfl⟩ := hrel
          by_cases hlt2 : j < m
          · have blt3 : decide ((j : Int) < (m : Int)) = true := decide_eq_true (by omega)
            have blt4 : decide (j < m) = true := decide_eq_true hlt2
            have hgk2 := HG2.out
            obtain ⟨u1, hu1⟩ : ∃ u1, u * 10 = u1 := ⟨_, rfl⟩
            have hub : u < 1000000000 := pow_step HU.out hj HV10.out
            have s2 : IntKind.i64.wrap ((u : Int) * 10) = (u1 : Int) := times10 hu1 hub
            have HU2 := Lib.hid (show v * 10 ^ (j + 1) = u1 by rw [Nat.pow_succ, ← Nat.mul_assoc, HU.out, hu1])
            clear hu1 hub
            go_wp2
            go_roundg (m - (j + 1))
            case rel => exact ⟨j + 1, u1, (by show _ = _; omega), by omega, by go_num, rfl, HU2.out, rfl⟩
            case measure => omega
          · have blt3 : decide ((j : Int) < (m : Int)) = false := decide_eq_false (by omega)
            have blt4 : decide (j < m) = false := decide_eq_false hlt2
            obtain rfl : j = m := by omega
            have HE := Lib.hid (show thoL s.data.toList = some u ∧ u < 1000000000 by
              rw [HT.out, if_pos HOK.out, HM.out, HVV.out, HU.out]
              exact ⟨rfl, by rw [← HU.out]; exact HV10.out⟩)
            go_wp2
            go_ret2
            exact ⟨u, true, rfl, .inl ⟨rfl, HE.out.2, HE.out.1⟩, HBQ.out⟩
theorem F.pre_minus (s : ByteArray) : (s.data.toList.head? = some 45 ∧ Lib.trimPrefix s.data.toList [45] = s.data.toList.tail ∧ Lib.hasPrefix s.data.toList [45] = true) ∨ (s.data.toList.head? ≠ some 45 ∧ Lib.trimPrefix s.data.toList [45] = s.data.toList ∧ Lib.hasPrefix s.data.toList [45] = false) := by
  unfold Lib.trimPrefix Lib.hasPrefix
  cases s.data.toList with
  | nil => right; exact ⟨by simp, rfl, rfl⟩
  | cons c l =>
    by_cases h : c = 45
    · subst h; left; exact ⟨rfl, by simp [List.isPrefixOf], by simp [List.isPrefixOf]⟩
    · right
      have e : ((45 : UInt8) == c) = false := beq_eq_false_iff_ne.2 (fun e => h e.symm)
      refine ⟨by simp [h], ?_, ?_⟩ <;> simp [List.isPrefixOf, e]
set_option maxRecDepth 100000 in
set_option maxHeartbeats 2000000 in
theorem read_any11 (s : ByteArray) (w : World) (hs : s.size ≤ 100) : Calls Tryz.prog 126 #[.string s] w (fun e w' => ∃ (x : Nat) (ok : Bool), e = .returned (.tuple #[.float .f64 x, .bool ok]) ∧ ReadIs s.data.toList x ok ∧ Below w.heap.size w w') := by
  by_cases h1 : s.data.toList = [110, 97, 110]
  · have b1 : (s.toList == [110, 97, 110]) = true := by rw [Lib.toList_data, h1]; rfl
    have HR := Lib.hid (show ReadIs s.data.toList 9221120237041090561 true from ⟨by omega, by unfold readM; rw [if_pos h1]; exact ⟨by decide, rfl⟩⟩)
    clear h1
    go_enter Tryz.func126, Tryz.ntmps126
    go_wp2_with fail
    refine (nanC _).mono ?_
    rintro e w1 ⟨rfl, rfl⟩
    go_wp2
    go_ret2
    exact ⟨_, _, rfl, HR.out, Below.refl _ _⟩
  have b1 : (s.toList == [110, 97, 110]) = false := by rw [Lib.toList_data]; exact beq_eq_false_iff_ne.2 h1
  by_cases h2 : s.data.toList = [105, 110, 102]
  · have b2 : (s.toList == [105, 110, 102]) = true := by rw [Lib.toList_data, h2]; rfl
    have HR := Lib.hid (show ReadIs s.data.toList posInf true from ⟨by decide, by unfold readM; rw [if_neg h1, if_pos h2]; exact ⟨rfl, rfl⟩⟩)
    clear h1 h2
    go_enter Tryz.func126, Tryz.ntmps126
    go_wp2_with fail
    refine (infC _).mono ?_
    rintro e w1 ⟨rfl, rfl⟩
    go_wp2
    go_ret2
    exact ⟨_, _, rfl, HR.out, Below.refl _ _⟩
  have b2 : (s.toList == [105, 110, 102]) = false := by rw [Lib.toList_data]; exact beq_eq_false_iff_ne.2 h2
  by_cases h3 : s.data.toList = [45, 105, 110, 102]
  · have b3 : (s.toList == [45, 105, 110, 102]) = true := by rw [Lib.toList_data, h3]; rfl
    have HR := Lib.hid (show ReadIs s.data.toList negInf true from ⟨by decide, by unfold readM; rw [if_neg h1, if_neg h2, if_pos h3]; exact ⟨rfl, rfl⟩⟩)
    clear h1 h2 h3
    go_enter Tryz.func126, Tryz.ntmps126
    go_wp2_with fail
    refine (ninfC _).mono ?_
    rintro e w1 ⟨rfl, rfl⟩
    go_wp2
    go_ret2
    exact ⟨_, _, rfl, HR.out, Below.refl _ _⟩
  have b3 : (s.toList == [45, 105, 110, 102]) = false := by rw [Lib.toList_data]; exact beq_eq_false_iff_ne.2 h3
  obtain ⟨q, hq⟩ : ∃ q : ByteArray, (⟨(Lib.trimPrefix s.data.toList [45]).toArray⟩ : ByteArray) = q := ⟨_, rfl⟩
  have hqd : q.data.toList = Lib.trimPrefix s.data.toList [45] := by rw [← hq]
  obtain ⟨mi, hmi⟩ : ∃ mi, Lib.hasPrefix s.data.toList [45] = mi := ⟨_, rfl⟩
  have HQE := Lib.hid hq
  have HMI := Lib.hid hmi
  have hql : q.size ≤ 100 := by
    rw [Lib.size_eq, hqd]
    have hz : s.data.toList.length = s.size := (Lib.size_eq s).symm
    rcases pre_minus s with ⟨_, e, _⟩ | ⟨_, e, _⟩ <;> rw [e]
    · rw [List.length_tail]; omega
    · omega
  have hno : thoL q.data.toList = none → ReadIs s.data.toList 0 false := by
    rw [hqd]
    rcases pre_minus s with ⟨h4, e, _⟩ | ⟨h4, e, _⟩ <;> rw [e]
    · exact (read_signed h1 h2 h3 h4).1
    · exact (read_plain h1 h2 h3 h4).1
  have hyes : ∀ n, n < 1000000000 → thoL q.data.toList = some n → ReadIs s.data.toList (if mi = true then negW (thouW n) else thouW n) true := by
    rw [hqd, ← hmi]
    rcases pre_minus s with ⟨h4, e, e2⟩ | ⟨h4, e, e2⟩ <;> rw [e, e2]
    · exact (read_signed h1 h2 h3 h4).2
    · exact (read_plain h1 h2 h3 h4).2
  have HNO := Lib.hid hno
  have HYES := Lib.hid hyes
  have HQL := Lib.hid hql
  clear h1 h2 h3 hq hmi hqd hql hno hyes hs
  go_enter Tryz.func126, Tryz.ntmps126
  go_wp2_with fail
  refine (cutPrefix_any s ⟨#[45]⟩ _).mono ?_
  rintro e w1 ⟨rfl, rfl⟩
  rw [show (⟨#[45]⟩ : ByteArray).data.toList = [45] from rfl, HQE.out, HMI.out]
  go_wp2_with fail
  refine (thousandths_any q _ HQL.out).mono ?_
  rintro e w2 ⟨n, ok, rfl, hth, hb⟩
  cases ok with
  | false =>
    have HR := Lib.hid (HNO.out (hth.elim (fun h => absurd h.1 (by decide)) (fun h => h.2.2)))
    clear hth
    go_wp2
    go_ret2
    exact ⟨_, _, rfl, HR.out, hb⟩
  | true =>
    have hth2 : n < 1000000000 ∧ thoL q.data.toList = some n := by
      rcases hth with ⟨_, h1, h2⟩ | ⟨h, _⟩
      · exact ⟨h1, h2⟩
      · cases h
    have HR := Lib.hid (HYES.out n hth2.1 hth2.2)
    have hd := thou_quo hth2.1
    obtain ⟨x, hx⟩ : ∃ x, thouW n = x := ⟨_, rfl⟩
    obtain ⟨g, hg⟩ : ∃ g, floatOfInt .f64 (n : Int) = g := ⟨_, rfl⟩
    have hxl : x < 9223372036854775808 := by rw [← hx]; have := (thou_word hth2.1).2.1; omega
    rw [hx, hg] at hd
    rw [hx] at HR
    have kd := fun (t : TypeId) (w : World) => run_float_arith (P := Tryz.prog) w .quo t .f64 g 4652007308841189376 x hd
    have HXL := Lib.hid hxl
    have HG := Lib.hid hg
    clear hth hth2 hd hx hxl
    cases mi with
    | false =>
      go_wp2
      go_ret2
      exact ⟨_, _, rfl, HR.out, hb⟩
    | true =>
      go_wp2_with fail
      refine (copysign_neg x _ _ HXL.out rfl).mono ?_
      rintro e w3 ⟨rfl, rfl⟩
      go_wp2
      go_ret2
      exact ⟨_, _, rfl, HR.out, hb⟩
end Go.Proofs.YtfcikfohmehmkaaGreatDoor

namespace Go.Proofs.YtfcikfohmehmkaaGreatDoor
open Go.RowKit
open F
set_option linter.unusedVariables false

theorem isLetter_any (c : Nat) (r : Bool) (w : World) (hr : (decide (97 ≤ c) && decide (c ≤ 122)) = r) : Calls Tryz.prog 151 #[.int .u8 (c : Int)] w (Yes w (.bool r)) := by
  by_cases h1 : 97 ≤ c
  · have b1 : decide ((c : Int) ≥ 97) = true := decide_eq_true (by omega)
    have b1a : decide ((97 : Int) ≤ (c : Int)) = true := decide_eq_true (by omega)
    have b1b : decide (97 ≤ c) = true := decide_eq_true h1
    by_cases h2 : c ≤ 122
    · have b2 : decide ((c : Int) ≤ 122) = true := decide_eq_true (by omega)
      have b2b : decide (c ≤ 122) = true := decide_eq_true h2
      have HR := Lib.hid (show r = true by rw [← hr, b1b, b2b]; rfl)
      clear hr h1 h2
      go_enter Tryz.func151, Tryz.ntmps151
      go_wp2
      go_ret
      exact ⟨by rw [HR.out]; rfl, rfl⟩
    · have b2 : decide ((c : Int) ≤ 122) = false := decide_eq_false (by omega)
      have b2b : decide (c ≤ 122) = false := decide_eq_false h2
      have HR := Lib.hid (show r = false by rw [← hr, b1b, b2b]; rfl)
      clear hr h1 h2
      go_enter Tryz.func151, Tryz.ntmps151
      go_wp2
      go_ret
      exact ⟨by rw [HR.out]; rfl, rfl⟩
  · have b1 : decide ((c : Int) ≥ 97) = false := decide_eq_false (by omega)
    have b1a : decide ((97 : Int) ≤ (c : Int)) = false := decide_eq_false (by omega)
    have b1b : decide (97 ≤ c) = false := decide_eq_false h1
    have HR := Lib.hid (show r = false by rw [← hr, b1b]; rfl)
    clear hr h1
    go_enter Tryz.func151, Tryz.ntmps151
    go_wp2
    go_ret
    exact ⟨by rw [HR.out]; rfl, rfl⟩
set_option maxRecDepth 100000 in
set_option maxHeartbeats 4000000 in
theorem isName_any (s : ByteArray) (r : Bool) (w : World) (hs : s.size ≤ 1073741824) (hr : C.nameB s.data.toList = r) : Calls Tryz.prog 121 #[.string s] w (fun e w' => e = .returned (.bool r) ∧ w = w') := by
  have hsz : s.data.toList.length = s.size := by simp
  by_cases h0 : s.size = 0
  · have e0 : s.data.toList = [] := List.eq_nil_of_length_eq_zero (hsz.trans h0)
    have HE := Lib.hid (show r = false by rw [← hr, e0]; rfl)
    have b0 : (s.toList == []) = true := by rw [Lib.toList_data, e0]; rfl
    have b0a : s.toList = [] := by rw [Lib.toList_data, e0]
    clear hsz h0 hr e0
    go_enter Tryz.func121, Tryz.ntmps121
    go_wp2
    go_ret
    exact ⟨by rw [HE.out]; rfl, rfl⟩
  have hpos : 0 < s.size := by omega
  have e0 : s.data.toList ≠ [] := fun e => h0 (by rw [← hsz, e]; rfl)
  have b0 : (s.toList == []) = false := by rw [Lib.toList_data]; exact beq_eq_false_iff_ne.2 e0
  have b0a : ¬ s.toList = [] := by rw [Lib.toList_data]; exact e0
  by_cases h1 : 16 < s.size
  · have HE := Lib.hid (show r = false by rw [← hr]; exact name_long (by rw [hsz]; exact h1))
    have b2 : decide ((16 : Int) < (s.size : Int)) = true := decide_eq_true (by omega)
    have b2b : decide (16 < s.size) = true := decide_eq_true h1
    clear hsz h0 h1 hr e0
    go_enter Tryz.func121, Tryz.ntmps121
    go_wp2
    go_ret
    exact ⟨by rw [HE.out]; rfl, rfl⟩
  have b2 : decide ((16 : Int) < (s.size : Int)) = false := decide_eq_false (by omega)
  have b2b : decide (16 < s.size) = false := decide_eq_false h1
  have hhd := head_is s hpos
  have hposi : (0 : Int) < (s.size : Int) := by omega
  obtain ⟨lt, hlt⟩ : ∃ lt, (decide (97 ≤ s[0].toNat) && decide (s[0].toNat ≤ 122)) = lt := ⟨_, rfl⟩
  have HLT := Lib.hid hlt
  cases lt with
  | false =>
    have HE := Lib.hid (show r = false by
      rw [← hr]
      refine name_head hhd ?_
      rcases Bool.and_eq_false_iff.1 hlt with h | h
      · exact .inl (by have := of_decide_eq_false h; omega)
      · exact .inr (by have := of_decide_eq_false h; omega))
    clear hsz h0 h1 hhd hlt hr e0
    go_enter Tryz.func121, Tryz.ntmps121
    go_wp2_with fail
    refine (isLetter_any _ false _ HLT.out).mono ?_
    rintro e w1 ⟨rfl, rfl⟩
    go_wp2
    go_ret
    exact ⟨by rw [HE.out]; rfl, rfl⟩
  | true =>
  have hb := Bool.and_eq_true_iff.1 hlt
  have HHD := Lib.hid hhd
  have HSZ := Lib.hid hsz
  have HLO := Lib.hid (show 97 ≤ s[0].toNat ∧ s[0].toNat ≤ 122 ∧ s.size ≤ 16 from ⟨of_decide_eq_true hb.1, of_decide_eq_true hb.2, by omega⟩)
  have HR := Lib.hid hr
  have HPOS := Lib.hid hpos
  clear hsz h0 h1 hhd hlt hb hr e0
  go_enter Tryz.func121, Tryz.ntmps121
  go_wp2_with fail
  refine (isLetter_any _ true _ HLT.out).mono ?_
  rintro e w1 ⟨rfl, rfl⟩
  go_wp2
  go_loopg [3] s.size (fun gk vi wr => ∃ k : Nat, Hid (k + gk = s.size + 1) ∧ k ≤ s.size ∧ vi = .int .i64 (k : Int) ∧ Hid ((s.data.toList.take k).all C.okC = true) ∧ w1 = wr)
  case atStart => exact ⟨1, (by show _ = _; omega), by omega, rfl, (by
    show _ = _
    obtain ⟨h1, h2, _⟩ := HLO.out
    have := HHD.out
    cases hd : s.data.toList with
    | nil => rfl
    | cons x t =>
      rw [hd] at this
      injection this with this
      simp only [List.take_succ_cons, List.take_zero, List.all_cons, List.all_nil, Bool.and_true]
      rw [this]; exact okC_az h1 h2), rfl⟩
  case round =>
    obtain ⟨k, HG, hk, rfl, HD, rfl⟩ := hrel
    by_cases hlt : k < s.size
    · have blt : decide ((k : Int) < (s.size : Int)) = true := decide_eq_true (by omega)
      have blt2 : decide (k < s.size) = true := decide_eq_true hlt
      have hki : (k : Int) < (s.size : Int) := by omega
      have hsn := W.take_snoc s k hlt
      have hmem : s[k] ∈ s.data.toList := List.mem_of_mem_take (i := k + 1) (by rw [hsn]; simp)
      have hgk := HG.out
      obtain ⟨lk, hlk⟩ : ∃ lt, (decide (97 ≤ s[k].toNat) && decide (s[k].toNat ≤ 122)) = lt := ⟨_, rfl⟩
      have HLK := Lib.hid hlk
      have HNX := Lib.hid (show C.okC s[k] = true → (s.data.toList.take (k + 1)).all C.okC = true by intro h; rw [hsn, List.all_append, HD.out, List.all_cons, h]; rfl)
      have HNO := Lib.hid (show C.okC s[k] = false → r = false by intro h; rw [← HR.out]; exact name_bad hmem h)
      clear hsn hmem
      cases lk with
      | true =>
        have hb := Bool.and_eq_true_iff.1 hlk
        have HD2 := Lib.hid (HNX.out (okC_az (of_decide_eq_true hb.1) (of_decide_eq_true hb.2)))
        clear hlk hb
        go_wp2_with fail
        refine (isLetter_any _ true _ HLK.out).mono ?_
        rintro e w2 ⟨rfl, rfl⟩
        go_wp2
        go_roundg (s.size + 1 - (k + 1))
        case rel => exact ⟨k + 1, (by show _ = _; omega), by omega, by go_num, HD2.out, rfl⟩
        case measure => omega
      | false =>
        have hnl : ¬ (97 ≤ s[k].toNat ∧ s[k].toNat ≤ 122) := by
          rintro ⟨h1, h2⟩; rw [decide_eq_true h1, decide_eq_true h2] at hlk; cases hlk
        clear hlk
        by_cases hlo : s[k].toNat < 48
        · have c1 : decide ((s[k].toNat : Int) < 48) = true := decide_eq_true (by omega)
          have c1b : decide (s[k].toNat < 48) = true := decide_eq_true hlo
          by_cases hd : s[k].toNat = 45
          · have c3 : ((s[k].toNat : Int) != 45) = false := by rw [bne_eq_false_iff_eq]; omega
            have c3b : ((s[k].toNat : Int) == 45) = true := by rw [beq_iff_eq]; omega
            have c3c : (s[k].toNat == 45) = true := by rw [beq_iff_eq]; omega
            have HD2 := Lib.hid (HNX.out (okC_dash hd))
            clear hnl hlo hd
            go_wp2_with fail
            refine (isLetter_any _ false _ HLK.out).mono ?_
            rintro e w2 ⟨rfl, rfl⟩
            go_wp2
            go_roundg (s.size + 1 - (k + 1))
            case rel => exact ⟨k + 1, (by show _ = _; omega), by omega, by go_num, HD2.out, rfl⟩
            case measure => omega
          · have c3 : ((s[k].toNat : Int) != 45) = true := by rw [bne_iff_ne]; omega
            have c3b : ((s[k].toNat : Int) == 45) = false := by rw [beq_eq_false_iff_ne]; omega
            have c3c : (s[k].toNat == 45) = false := by rw [beq_eq_false_iff_ne]; omega
            have HE := Lib.hid (HNO.out (okC_no hnl (by omega) hd))
            clear hnl hlo hd
            go_wp2_with fail
            refine (isLetter_any _ false _ HLK.out).mono ?_
            rintro e w2 ⟨rfl, rfl⟩
            go_wp2
            go_ret
            exact ⟨by rw [HE.out]; rfl, rfl⟩
        · have c1 : decide ((s[k].toNat : Int) < 48) = false := decide_eq_false (by omega)
          have c1b : decide (s[k].toNat < 48) = false := decide_eq_false hlo
          by_cases hhi : 57 < s[k].toNat
          · have c2 : decide ((s[k].toNat : Int) > 57) = true := decide_eq_true (by omega)
            have c2a : decide ((57 : Int) < (s[k].toNat : Int)) = true := decide_eq_true (by omega)
            have c2b : decide (57 < s[k].toNat) = true := decide_eq_true hhi
            have c3 : ((s[k].toNat : Int) != 45) = true := by rw [bne_iff_ne]; omega
            have c3b : ((s[k].toNat : Int) == 45) = false := by rw [beq_eq_false_iff_ne]; omega
            have c3c : (s[k].toNat == 45) = false := by rw [beq_eq_false_iff_ne]; omega
            have HE := Lib.hid (HNO.out (okC_no hnl (by omega) (by omega)))
            clear hnl hlo hhi
            go_wp2_with fail
            refine (isLetter_any _ false _ HLK.out).mono ?_
            rintro e w2 ⟨rfl, rfl⟩
            go_wp2
            go_ret
            exact ⟨by rw [HE.out]; rfl, rfl⟩
          · have c2 : decide ((s[k].toNat : Int) > 57) = false := decide_eq_false (by omega)
            have c2a : decide ((57 : Int) < (s[k].toNat : Int)) = false := decide_eq_false (by omega)
            have c2b : decide (57 < s[k].toNat) = false := decide_eq_false hhi
            have HD2 := Lib.hid (HNX.out (okC_dig (by omega) (by omega)))
            clear hnl hlo hhi
            go_wp2_with fail
            refine (isLetter_any _ false _ HLK.out).mono ?_
            rintro e w2 ⟨rfl, rfl⟩
            go_wp2
            go_roundg (s.size + 1 - (k + 1))
            case rel => exact ⟨k + 1, (by show _ = _; omega), by omega, by go_num, HD2.out, rfl⟩
            case measure => omega
    · have blt : decide ((k : Int) < (s.size : Int)) = false := decide_eq_false (by omega)
      have blt2 : decide (k < s.size) = false := decide_eq_false hlt
      have HE := Lib.hid (show r = true by
        obtain ⟨h1, h2, h3⟩ := HLO.out
        rw [← HR.out]
        refine name_yes HHD.out h1 h2 (by rw [HSZ.out]; exact h3) ?_
        rw [← HD.out, List.take_of_length_le (by rw [HSZ.out]; omega)])
      go_wp2
      go_ret
      exact ⟨by rw [HE.out]; rfl, rfl⟩
theorem isNameQ (x : List UInt8) (r : Bool) (w : World) (hs : x.length ≤ 1073741824) (h : C.nameB x = r) : Calls Tryz.prog 121 #[.string (sB x)] w (fun e w' => e = .returned (.bool r) ∧ w = w') := isName_any (sB x) r w (by rw [sB_size]; exact hs) (by rw [sB_data]; exact h)
theorem okA_ok (z : Int) : (okA z).2 = decide (0 ≤ z) := by unfold okA; split <;> simp_all
theorem numA_ok (l : List UInt8) (a b : Int) (ha : 0 ≤ a) : (numA l a b).2 = (decide (a ≤ N.numL l) && decide (N.numL l ≤ b)) := by
  unfold numA
  by_cases h : a ≤ N.numL l ∧ N.numL l ≤ b
  · rw [if_pos ⟨by omega, h.1, h.2⟩, decide_eq_true h.1, decide_eq_true h.2]; rfl
  · rw [if_neg (fun g => h ⟨g.2.1, g.2.2⟩)]
    by_cases g : a ≤ N.numL l
    · rw [decide_eq_false (fun k => h ⟨g, k⟩), Bool.and_false]
    · rw [decide_eq_false g, Bool.false_and]
theorem prefA_ok (l : List UInt8) : (prefA l).2.2 = decide (0 ≤ (N.prefL l).1) := by unfold prefA; split <;> simp_all
set_option maxRecDepth 100000 in
set_option maxHeartbeats 8000000 in
/-- Is a word of a type? -/
theorem typeC (k x : List UInt8) (r : Bool) (w : World) (hx : x.length ≤ 100) (hr : C.typeB k x = r) : Calls Tryz.prog 86 #[.string (sB k), .string (sB x)] w (BoolS w r) := by
  have HL := Lib.hid (show x.length ≤ 1073741824 by omega)
  have HX := Lib.hid (show (sB x).size ≤ 100 by rw [sB_size]; exact hx)
  have HX2 := Lib.hid (show (sB x).size ≤ 1073741824 by rw [sB_size]; omega)
  have hb : Below w.heap.size w w := Below.refl _ _
  by_cases h0 : k = C.kName
  · have q0 : ((sB k).toList == [36, 110, 97, 109, 101]) = true := by rw [sB_toList, beq_iff_eq]; exact h0
    have hv : C.nameB x = r := by rw [← hr]; unfold C.typeB; rw [if_pos h0]
    have HV := Lib.hid hv
    clear h0 hx hr hv
    go_enter Tryz.func86, Tryz.ntmps86
    go_wp2_with fail
    refine (isNameQ x r _ HL.out HV.out).mono ?_
    rintro e w1 ⟨rfl, rfl⟩
    go_wp2
    go_ret
    exact ⟨rfl, hb⟩
  have q0 : ((sB k).toList == [36, 110, 97, 109, 101]) = false := by rw [sB_toList, beq_eq_false_iff_ne]; exact h0
  by_cases h1 : k = C.kIp
  · have q1 : ((sB k).toList == [36, 105, 112]) = true := by rw [sB_toList, beq_iff_eq]; exact h1
    have hv : decide (0 ≤ N.ipL x) = r := by rw [← hr]; unfold C.typeB; rw [if_neg h0, if_pos h1]
    obtain ⟨z, ok, hz⟩ : ∃ z ok, okA (N.ipL (sB x).data.toList) = (z, ok) := ⟨_, _, rfl⟩
    have HZ := Lib.hid hz
    have HV := Lib.hid (show ok = r by rw [← hv, ← okA_ok, ← sB_data x, hz])
    clear h0 h1 hx hr hz hv
    go_enter Tryz.func86, Tryz.ntmps86
    go_wp2_with fail
    refine (ip_any10 (sB x) z ok _ HX.out HZ.out).mono ?_
    rintro e w2 ⟨rfl, hx⟩
    go_wp2
    go_ret
    exact ⟨by rw [HV.out]; rfl, bthen hb hx⟩
  have q1 : ((sB k).toList == [36, 105, 112]) = false := by rw [sB_toList, beq_eq_false_iff_ne]; exact h1
  by_cases h2 : k = C.kPrefix
  · have q2 : ((sB k).toList == [36, 112, 114, 101, 102, 105, 120]) = true := by rw [sB_toList, beq_iff_eq]; exact h2
    have hv : decide (0 ≤ (N.prefL x).1) = r := by rw [← hr]; unfold C.typeB; rw [if_neg h0, if_neg h1, if_pos h2]
    obtain ⟨z, zb, ok, hz⟩ : ∃ z zb ok, prefA (sB x).data.toList = (z, zb, ok) := ⟨_, _, _, rfl⟩
    have HZ := Lib.hid hz
    have HV := Lib.hid (show ok = r by rw [← hv, ← prefA_ok, ← sB_data x, hz])
    clear h0 h1 h2 hx hr hz hv
    go_enter Tryz.func86, Tryz.ntmps86
    go_wp2_with fail
    refine (pref_any10 (sB x) z zb ok _ HX.out HZ.out).mono ?_
    rintro e w2 ⟨rfl, hx⟩
    go_wp2
    go_ret
    exact ⟨by rw [HV.out]; rfl, bthen hb hx⟩
  have q2 : ((sB k).toList == [36, 112, 114, 101, 102, 105, 120]) = false := by rw [sB_toList, beq_eq_false_iff_ne]; exact h2
  by_cases h3 : k = C.kMac
  · have q3 : ((sB k).toList == [36, 109, 97, 99]) = true := by rw [sB_toList, beq_iff_eq]; exact h3
    have hv : decide (0 ≤ N.macL x) = r := by rw [← hr]; unfold C.typeB; rw [if_neg h0, if_neg h1, if_neg h2, if_pos h3]
    obtain ⟨z, ok, hz⟩ : ∃ z ok, okA (N.macL (sB x).data.toList) = (z, ok) := ⟨_, _, rfl⟩
    have HZ := Lib.hid hz
    have HV := Lib.hid (show ok = r by rw [← hv, ← okA_ok, ← sB_data x, hz])
    clear h0 h1 h2 h3 hx hr hz hv
    go_enter Tryz.func86, Tryz.ntmps86
    go_wp2_with fail
    refine (mac_any10 (sB x) z ok _ HZ.out).mono ?_
    rintro e w2 ⟨rfl, rfl⟩
    go_wp2
    go_ret
    exact ⟨by rw [HV.out]; rfl, hb⟩
  have q3 : ((sB k).toList == [36, 109, 97, 99]) = false := by rw [sB_toList, beq_eq_false_iff_ne]; exact h3
  by_cases h4 : k = C.kVni
  · have q4 : ((sB k).toList == [36, 118, 110, 105]) = true := by rw [sB_toList, beq_iff_eq]; exact h4
    have hv : (decide (1 ≤ N.numL x) && decide (N.numL x ≤ 16777215)) = r := by rw [← hr]; unfold C.typeB; rw [if_neg h0, if_neg h1, if_neg h2, if_neg h3, if_pos h4]
    obtain ⟨z, ok, hz⟩ : ∃ z ok, numA (sB x).data.toList 1 16777215 = (z, ok) := ⟨_, _, rfl⟩
    have HZ := Lib.hid hz
    have HV := Lib.hid (show ok = r by rw [← hv, ← numA_ok _ _ _ (by omega), ← sB_data x, hz])
    clear h0 h1 h2 h3 h4 hx hr hz hv
    go_enter Tryz.func86, Tryz.ntmps86
    go_wp2_with fail
    refine (num_any10 (sB x) 1 16777215 z ok _ HX2.out HZ.out).mono ?_
    rintro e w2 ⟨rfl, rfl⟩
    go_wp2
    go_ret
    exact ⟨by rw [HV.out]; rfl, hb⟩
  have q4 : ((sB k).toList == [36, 118, 110, 105]) = false := by rw [sB_toList, beq_eq_false_iff_ne]; exact h4
  by_cases h5 : k = C.kNum
  · have q5 : ((sB k).toList == [36, 110, 117, 109]) = true := by rw [sB_toList, beq_iff_eq]; exact h5
    have hv : (decide (1 ≤ N.numL x) && decide (N.numL x ≤ 1000)) = r := by rw [← hr]; unfold C.typeB; rw [if_neg h0, if_neg h1, if_neg h2, if_neg h3, if_neg h4, if_pos h5]
    obtain ⟨z, ok, hz⟩ : ∃ z ok, numA (sB x).data.toList 1 1000 = (z, ok) := ⟨_, _, rfl⟩
    have HZ := Lib.hid hz
    have HV := Lib.hid (show ok = r by rw [← hv, ← numA_ok _ _ _ (by omega), ← sB_data x, hz])
    clear h0 h1 h2 h3 h4 h5 hx hr hz hv
    go_enter Tryz.func86, Tryz.ntmps86
    go_wp2_with fail
    refine (num_any10 (sB x) 1 1000 z ok _ HX2.out HZ.out).mono ?_
    rintro e w2 ⟨rfl, rfl⟩
    go_wp2
    go_ret
    exact ⟨by rw [HV.out]; rfl, hb⟩
  have q5 : ((sB k).toList == [36, 110, 117, 109]) = false := by rw [sB_toList, beq_eq_false_iff_ne]; exact h5
  by_cases h6 : k = C.kMetric
  · have q6 : ((sB k).toList == [36, 109, 101, 116, 114, 105, 99]) = true := by rw [sB_toList, beq_iff_eq]; exact h6
    have hv : C.readB x = r := by rw [← hr]; unfold C.typeB; rw [if_neg h0, if_neg h1, if_neg h2, if_neg h3, if_neg h4, if_neg h5, if_pos h6]
    have HV := Lib.hid hv
    clear h0 h1 h2 h3 h4 h5 h6 hx hr hv
    go_enter Tryz.func86, Tryz.ntmps86
    go_wp2_with fail
    refine (read_any11 (sB x) _ HX.out).mono ?_
    rintro e w2 ⟨y, ok, rfl, hrd, hx⟩
    rw [sB_data] at hrd
    have HO := Lib.hid (show ok = r by rw [← HV.out]; exact read_readB hrd)
    clear hrd
    go_wp2
    go_ret
    exact ⟨by rw [HO.out]; rfl, bthen hb hx⟩
  have q6 : ((sB k).toList == [36, 109, 101, 116, 114, 105, 99]) = false := by rw [sB_toList, beq_eq_false_iff_ne]; exact h6
  by_cases h7 : k = C.kAction
  · have q7 : ((sB k).toList == [36, 97, 99, 116, 105, 111, 110]) = true := by rw [sB_toList, beq_iff_eq]; exact h7
    have hv : (decide (x = C.wPermit) || decide (x = C.wDeny)) = r := by rw [← hr]; unfold C.typeB; rw [if_neg h0, if_neg h1, if_neg h2, if_neg h3, if_neg h4, if_neg h5, if_neg h6, if_pos h7]
    have e1 : ((sB x).toList == [112, 101, 114, 109, 105, 116]) = decide (x = C.wPermit) := by rw [sB_toList]; exact beq_decW
    have e2 : ((sB x).toList == [100, 101, 110, 121]) = decide (x = C.wDeny) := by rw [sB_toList]; exact beq_decW
    obtain ⟨p1, hp1⟩ : ∃ p, decide (x = C.wPermit) = p := ⟨_, rfl⟩
    obtain ⟨p2, hp2⟩ : ∃ p, decide (x = C.wDeny) = p := ⟨_, rfl⟩
    rw [hp1] at e1 hv
    rw [hp2] at e2 hv
    have HV := Lib.hid hv
    clear h0 h1 h2 h3 h4 h5 h6 h7 hx hr hp1 hp2 hv
    cases p1 <;> cases p2
    all_goals
      go_enter Tryz.func86, Tryz.ntmps86
      go_wp2
      go_ret
      exact ⟨by rw [← HV.out]; rfl, hb⟩
  have q7 : ((sB k).toList == [36, 97, 99, 116, 105, 111, 110]) = false := by rw [sB_toList, beq_eq_false_iff_ne]; exact h7
  have HV := Lib.hid (show r = false by rw [← hr]; unfold C.typeB; rw [if_neg h0, if_neg h1, if_neg h2, if_neg h3, if_neg h4, if_neg h5, if_neg h6, if_neg h7])
  clear h0 h1 h2 h3 h4 h5 h6 h7 hx hr
  go_enter Tryz.func86, Tryz.ntmps86
  go_wp2
  go_ret
  exact ⟨by rw [HV.out]; rfl, hb⟩
theorem pre_dollar (s : List UInt8) : Lib.hasPrefix s [36] = decide (s.head? = some 36) := by
  cases s with
  | nil => rfl
  | cons x t => rw [Bool.eq_iff_iff]; simp [Lib.hasPrefix]; exact eq_comm
/-- May a word stand where the table has that one? -/
theorem standsC (a s : List UInt8) (r : Bool) (w : World) (ha : a.length ≤ 100) (hr : C.standsB a s = r) : Calls Tryz.prog 150 #[.string (sB a), .string (sB s)] w (BoolS w r) := by
  have hb : Below w.heap.size w w := Below.refl _ _
  by_cases h : s.head? = some 36
  · have HP := Lib.hid (show Lib.hasPrefix (sB s).data.toList (⟨#[36]⟩ : ByteArray).data.toList = true by rw [sB_data]; show Lib.hasPrefix s [36] = true; rw [pre_dollar, decide_eq_true h])
    have HV := Lib.hid (show C.typeB s a = r by rw [← hr]; unfold C.standsB; rw [if_pos h])
    clear h hr
    go_enter Tryz.func150, Tryz.ntmps150
    go_wp2_with fail
    refine (prefix_any _ _ _).mono ?_
    rintro e w1 ⟨rfl, rfl⟩
    rw [HP.out]
    go_wp2_with fail
    refine (typeC s a r _ ha HV.out).mono ?_
    rintro e w1 ⟨rfl, hx⟩
    go_wp2
    go_ret
    exact ⟨rfl, bthen hb hx⟩
  · have HP := Lib.hid (show Lib.hasPrefix (sB s).data.toList (⟨#[36]⟩ : ByteArray).data.toList = false by rw [sB_data]; show Lib.hasPrefix s [36] = false; rw [pre_dollar, decide_eq_false h])
    have hv : decide (a = s) = r := by rw [← hr]; unfold C.standsB; rw [if_neg h]
    have e1 : ((sB a).toList == (sB s).toList) = r := by rw [sB_toList, sB_toList, ← hv]; exact beq_decW
    clear h hr hv
    go_enter Tryz.func150, Tryz.ntmps150
    go_wp2_with fail
    refine (prefix_any _ _ _).mono ?_
    rintro e w1 ⟨rfl, rfl⟩
    rw [HP.out]
    go_wp2
    go_ret
    exact ⟨rfl, hb⟩
end Go.Proofs.YtfcikfohmehmkaaGreatDoor

namespace Go.Proofs.YtfcikfohmehmkaaGreatDoor
namespace C
/-- The last place of a byte; -1: there is none. -/
def lastI (c : UInt8) (l : List UInt8) : Int := (l.length : Int) - 1 - ((l.reverse.takeWhile (fun x => x != c)).length : Int)
theorem while_all {c : UInt8} : ∀ (l r : List UInt8), c ∉ l → (l ++ r).takeWhile (fun x => x != c) = l ++ r.takeWhile (fun x => x != c)
  | [], _, _ => rfl
  | x :: l, r, h => by
    rw [List.cons_append, List.takeWhile_cons, if_pos (by rw [bne_iff_ne]; exact fun e => h (e ▸ List.mem_cons_self)), while_all l r (fun g => h (List.mem_cons_of_mem _ g)), List.cons_append]
theorem last_none {c : UInt8} {l : List UInt8} (h : c ∉ l) : lastI c l = -1 := by
  unfold lastI
  have e := while_all l.reverse [] (by rwa [List.mem_reverse])
  rw [List.append_nil] at e
  rw [e, List.takeWhile_nil, List.append_nil, List.length_reverse]; omega
theorem last_at {c : UInt8} {l : List UInt8} {i : Nat} (hc : l[i]? = some c) (h : c ∉ l.drop (i + 1)) : lastI c l = (i : Int) := by
  obtain ⟨hi, hx⟩ := List.getElem?_eq_some_iff.1 hc
  have e : l = l.take i ++ c :: l.drop (i + 1) := by
    have := (List.take_append_drop i l).symm
    rw [List.drop_eq_getElem_cons hi, hx] at this
    exact this
  have e2 : l.reverse = (l.drop (i + 1)).reverse ++ (c :: (l.take i).reverse) := by
    conv => lhs; rw [e]
    rw [List.reverse_append, List.reverse_cons, List.append_assoc]; rfl
  have e3 : l.reverse.takeWhile (fun x => x != c) = (l.drop (i + 1)).reverse := by
    rw [e2, while_all _ _ (by rwa [List.mem_reverse]), List.takeWhile_cons, if_neg (by simp), List.append_nil]
  unfold lastI
  rw [e3, List.length_reverse, List.length_drop]; omega
theorem drop_next {c x : UInt8} {l : List UInt8} {i : Nat} (hx : l[i]? = some x) (hne : x ≠ c) (h : c ∉ l.drop (i + 1)) : c ∉ l.drop i := by
  obtain ⟨hi, hx⟩ := List.getElem?_eq_some_iff.1 hx
  rw [List.drop_eq_getElem_cons hi, hx, List.mem_cons]
  rintro (e | e)
  · exact hne e.symm
  · exact h e
end C
open Go.RowKit
open F
open T (Pth)
set_option linter.unusedVariables false

set_option maxRecDepth 100000 in
theorem lastByte_any (s : ByteArray) (c : UInt8) (z : Int) (w : World) (hs : s.size ≤ 1073741824) (hz : C.lastI c s.data.toList = z) : Calls Tryz.prog 160 #[.string s, .int .u8 (c.toNat : Int)] w (fun e w' => e = .returned (.int .i64 z) ∧ w = w') := by
  obtain ⟨n, hn⟩ : ∃ n, s.size = n := ⟨_, rfl⟩
  have hln : s.data.toList.length = n := by rw [← Lib.size_eq]; exact hn
  have HNS := Lib.hid hn
  have HLN := Lib.hid hln
  have HZ := Lib.hid hz
  rw [hn] at hs
  clear hln hz
  go_enter Tryz.func160, Tryz.ntmps160
  go_wp2
  go_loopg [5] n (fun gk vi wr => ∃ y : Int, Hid (y + 1 = (gk : Int)) ∧ vi = .int .i64 y ∧ gk ≤ n ∧ Hid (c ∉ s.data.toList.drop gk) ∧ w = wr)
  case atStart => exact ⟨(n : Int) - 1, (by show _ = _; omega), (by go_num), Nat.le_refl _, (by show _ ∉ _; rw [List.drop_eq_nil_of_le (by rw [HLN.out]; exact Nat.le_refl _)]; exact List.not_mem_nil), rfl⟩
  case round =>
    obtain ⟨y0, HY, rfl, hgn, HF, rfl⟩ := hrel
    by_cases hy : 0 ≤ y0
    · obtain ⟨y, rfl⟩ := Int.eq_ofNat_of_zero_le hy
      have c1 : decide ((0 : Int) ≤ (y : Int)) = true := decide_eq_true hy
      have c1a : decide ((y : Int) ≥ 0) = true := decide_eq_true hy
      obtain rfl : y + 1 = gk := by have := HY.out; omega
      have hyn : y < n := by omega
      have hys : y < s.size := by rw [HNS.out]; exact hyn
      have hyi : (y : Int) < (n : Int) := by omega
      have HAT := Lib.hid (at_of s y hys)
      by_cases he : s[y] = c
      · have e1 : ((s[y].toNat : Int) == (c.toNat : Int)) = true := by rw [he]; exact beq_self_eq_true _
        have e1b : (s[y].toNat == c.toNat) = true := by rw [he]; exact beq_self_eq_true _
        have e1c : (s[y] == c) = true := by rw [he]; exact beq_self_eq_true _
        have HE := Lib.hid (show z = (y : Int) by rw [← HZ.out]; exact C.last_at (by rw [← he]; exact HAT.out) HF.out)
        clear he hy
        go_wp2
        go_ret
        exact ⟨by rw [HE.out]; rfl, rfl⟩
      · have hne : s[y].toNat ≠ c.toNat := fun e => he (UInt8.toNat_inj.1 e)
        have e1 : ((s[y].toNat : Int) == (c.toNat : Int)) = false := beq_eq_false_iff_ne.2 (by omega)
        have e1b : (s[y].toNat == c.toNat) = false := beq_eq_false_iff_ne.2 hne
        have e1c : (s[y] == c) = false := beq_eq_false_iff_ne.2 he
        have HF2 := Lib.hid (C.drop_next HAT.out he HF.out)
        clear he hne hy
        go_wp2
        go_roundg y
        case rel => exact ⟨(y : Int) - 1, (by show _ = _; omega), (by go_num), by omega, HF2.out, rfl⟩
        case measure => omega
    · have c1 : decide ((0 : Int) ≤ y0) = false := decide_eq_false hy
      have c1a : decide (y0 ≥ 0) = false := decide_eq_false hy
      have HE := Lib.hid (show z = -1 by
        have h0 : gk = 0 := by have := HY.out; omega
        subst h0
        rw [← HZ.out]; exact C.last_none (by simpa using HF.out))
      clear hy
      go_wp2
      go_ret
      exact ⟨by rw [HE.out]; rfl, rfl⟩
theorem lastIndex_any (s : ByteArray) (c : UInt8) (z : Int) (w : World) (hs : s.size ≤ 1073741824) (hz : C.lastI c s.data.toList = z) : Calls Tryz.prog 127 #[.string s, .string ⟨#[c]⟩] w (fun e w' => e = .returned (.int .i64 z) ∧ w = w') := by
  have b1 : ((⟨#[c]⟩ : ByteArray).size : Int) = 1 := rfl
  have b2 : (⟨#[c]⟩ : ByteArray)[0]? = some c := rfl
  go_enter Tryz.func127, Tryz.ntmps127
  go_wp2_with fail
  refine (lastByte_any s c z _ hs hz).mono ?_
  rintro e w1 ⟨rfl, rfl⟩
  go_wp2
  go_ret
  exact ⟨rfl, rfl⟩
theorem cutQ (x : List UInt8) (w : World) (hs : x.length ≤ 100) : Calls Tryz.prog 149 #[.string (sB x), .string ⟨#[32]⟩] w (fun e w' => ∃ a b f, e = .returned (.tuple #[.string (sB a), .string (sB b), .bool f]) ∧ CutIs 32 x a b f ∧ Below w.heap.size w w') := by
  refine (cut_any10 (sB x) 32 w (by rw [sB_size]; omega)).mono ?_
  rintro e w' ⟨⟨a, b, f, rfl, h⟩, hb⟩
  rw [sB_data] at h
  exact ⟨a, b, f, rfl, h, hb⟩
set_option maxRecDepth 100000 in
set_option maxHeartbeats 4000000 in
/-- Is a path, word by word, what the table says? -/
theorem meetsC (A : Option Addr) (c n : Nat) (p : Pth) (s : List UInt8) (r : Bool) (w : World) (hn : p.length = n) (hA : Seen eS w A p) (hsw : ShortW p) (hl : n ≤ 1073741824) (hs : s.length ≤ 100) (hr : C.meetsB p s = r) :
    Calls Tryz.prog 120 #[.slice A n c, .string (sB s)] w (BoolS w r) := by
  rcases Nat.eq_zero_or_pos n with h0 | h0
  · subst h0
    have hp : p = [] := List.eq_nil_of_length_eq_zero hn
    have HE := Lib.hid (show r = false by rw [← hr, hp]; exact C.meets_nil s)
    clear hr hp
    go_enter Tryz.func120, Tryz.ntmps120
    go_wp2
    go_loopg [1, 12] 0 (fun gk vs vi wr => vi = .int .i64 0 ∧ w = wr)
    case atStart => exact ⟨rfl, rfl⟩
    case round =>
      obtain ⟨rfl, rfl⟩ := hrel
      go_wp2
      go_ret
      exact ⟨by rw [HE.out]; rfl, Below.refl _ _⟩
  obtain ⟨m, rfl⟩ : ∃ m, n = m + 1 := ⟨n - 1, by omega⟩
  have j1 : ((m + 1 : Nat) : Int) - 1 = (m : Int) := by omega
  have j2 : IntKind.i64.wrap (m : Int) = (m : Int) := by rw [IntKind.wrap_i64]; omega
  have HN := Lib.hid hn
  have HA := Lib.hid hA
  have HSW := Lib.hid hsw
  have HR := Lib.hid hr
  have hpos : 0 < p.length := by omega
  obtain ⟨b, o, rfl, hbw, hL⟩ := hA hpos
  have HL := Lib.hid hL
  clear hn hA hsw hr hL
  go_enter Tryz.func120, Tryz.ntmps120
  go_wp2
  go_loopg [1, 12] (m + 1) (fun gk vs vi wr => ∃ (k : Nat) (rest : List UInt8), Hid (k + gk = m + 1) ∧ k ≤ m + 1 ∧ vs = .string (sB rest) ∧ vi = .int .i64 (k : Int) ∧ Hid (rest.length ≤ 100) ∧ Hid ((k < m + 1 → C.matchB (p.drop k) (N.splitL 32 rest) = r) ∧ (k = m + 1 → r = true)) ∧ Below w.heap.size w wr)
  case atStart => exact ⟨0, s, Nat.zero_add _, Nat.zero_le _, rfl, rfl, hs, ⟨fun _ => HR.out, fun h => by omega⟩, Below.refl _ _⟩
  case round =>
    obtain ⟨k, rest, HG, hk, rfl, rfl, HRL, HM, hb⟩ := hrel
    have hgk := HG.out
    by_cases hlt : k < m + 1
    · have blt : decide ((k : Int) < ((m + 1 : Nat) : Int)) = true := decide_eq_true (by omega)
      have blt2 : decide (k < m + 1) = true := decide_eq_true hlt
      have hki : (k : Int) < ((m + 1 : Nat) : Int) := by omega
      have hkp : k < p.length := by rw [HN.out]; exact hlt
      obtain ⟨x, hx⟩ : ∃ x, p[k]? = some x := ⟨_, List.getElem?_eq_getElem hkp⟩
      have c0 : wr.cell? ⟨b, o + k, none⟩ = some (.string (sB x)) := cellS (HL.out.below hb hbw) hx
      have HX := Lib.hid (show x.length ≤ 100 from HSW.out x (List.mem_of_getElem? hx))
      have HDR := Lib.hid (show p.drop k = x :: p.drop (k + 1) by rw [List.drop_eq_getElem_cons hkp]; congr 1; exact (List.getElem?_eq_some_iff.1 hx).2)
      clear hx
      go_wp2_with fail
      refine (cutQ rest _ HRL.out).mono ?_
      rintro e w2 ⟨a, b2, f, rfl, hc, hx⟩
      replace hb := bthen hb hx
      clear hx
      have HAB := Lib.hid (hc.small HRL.out)
      obtain ⟨sb, hsb⟩ : ∃ sb, C.standsB x a = sb := ⟨_, rfl⟩
      have HSB := Lib.hid hsb
      have HCU := Lib.hid hc
      clear hc hsb
      have HW := Lib.hid (HM.out.1 hlt)
      cases sb with
      | false =>
        have HE := Lib.hid (show r = false by
          rw [← HW.out, HDR.out]
          cases f with
          | false => rw [(cut_false HCU.out).1]; show (C.standsB x a && _) = false; rw [HSB.out]; rfl
          | true => rw [(cut_true HCU.out).1]; show (C.standsB x a && _) = false; rw [HSB.out]; rfl)
        go_wp2_with fail
        refine (standsC x a false _ HX.out HSB.out).mono ?_
        rintro e w3 ⟨rfl, hx⟩
        go_wp2
        go_ret
        exact ⟨by rw [HE.out]; rfl, bthen hb hx⟩
      | true =>
        by_cases hkm : k < m
        · have d1 : decide ((k : Int) < (m : Int)) = true := decide_eq_true (by omega)
          have d1b : decide (k < m) = true := decide_eq_true hkm
          cases f with
          | false =>
            have HE := Lib.hid (show r = false by
              rw [← HW.out, HDR.out, (cut_false HCU.out).1]
              show (C.standsB x a && _) = false
              rw [C.match_none _ (fun e => by have := congrArg List.length e; rw [List.length_drop, HN.out] at this; simp at this; omega), Bool.and_false])
            go_wp2_with fail
            refine (standsC x a true _ HX.out HSB.out).mono ?_
            rintro e w3 ⟨rfl, hx⟩
            go_wp2
            go_ret
            exact ⟨by rw [HE.out]; rfl, bthen hb hx⟩
          | true =>
            have HM2 := Lib.hid (show C.matchB (p.drop (k + 1)) (N.splitL 32 b2) = r by
              rw [← HW.out, HDR.out, (cut_true HCU.out).1]
              show _ = (C.standsB x a && _)
              rw [HSB.out, Bool.true_and])
            go_wp2_with fail
            refine (standsC x a true _ HX.out HSB.out).mono ?_
            rintro e w3 ⟨rfl, hx⟩
            go_wp2
            go_roundg (m + 1 - (k + 1))
            case rel => exact ⟨k + 1, b2, (by show _ = _; omega), by omega, rfl, by go_num, HAB.out.2, ⟨fun _ => HM2.out, fun h => by omega⟩, bthen hb hx⟩
            case measure => omega
        · have d1 : decide ((k : Int) < (m : Int)) = false := decide_eq_false (by omega)
          have d1b : decide (k < m) = false := decide_eq_false hkm
          have HD0 := Lib.hid (show p.drop (k + 1) = [] from List.drop_eq_nil_of_le (by rw [HN.out]; omega))
          cases f with
          | false =>
            have HE := Lib.hid (show r = true by
              rw [← HW.out, HDR.out, (cut_false HCU.out).1, HD0.out]
              show (C.standsB x a && true) = true
              rw [HSB.out]; rfl)
            go_wp2_with fail
            refine (standsC x a true _ HX.out HSB.out).mono ?_
            rintro e w3 ⟨rfl, hx⟩
            go_wp2
            go_roundg (m + 1 - (k + 1))
            case rel => exact ⟨k + 1, b2, (by show _ = _; omega), by omega, rfl, by go_num, HAB.out.2, ⟨fun h => by omega, fun _ => HE.out⟩, bthen hb hx⟩
            case measure => omega
          | true =>
            have HE := Lib.hid (show r = false by
              rw [← HW.out, HDR.out, (cut_true HCU.out).1, HD0.out]
              show (C.standsB x a && C.matchB [] _) = false
              rw [C.match_nil (N.split_ne 32 b2), Bool.and_false])
            go_wp2_with fail
            refine (standsC x a true _ HX.out HSB.out).mono ?_
            rintro e w3 ⟨rfl, hx⟩
            go_wp2
            go_ret
            exact ⟨by rw [HE.out]; rfl, bthen hb hx⟩
    · have blt : decide ((k : Int) < ((m + 1 : Nat) : Int)) = false := decide_eq_false (by omega)
      have blt2 : decide (k < m + 1) = false := decide_eq_false hlt
      have HE := Lib.hid (HM.out.2 (by omega))
      have d2 : decide (((m + 1 : Nat) : Int) > 0) = true := decide_eq_true (by omega)
      have d2a : decide ((0 : Int) < ((m + 1 : Nat) : Int)) = true := decide_eq_true (by omega)
      go_wp2
      go_ret
      exact ⟨by rw [HE.out]; rfl, hb⟩
end Go.Proofs.YtfcikfohmehmkaaGreatDoor

namespace Go.Proofs.YtfcikfohmehmkaaGreatDoor
namespace C
def rowOf : Option Rw → Wd × Wd × Bool × Bool × Bool
  | none => ([], [], false, false, false)
  | some r => (r.1, r.2.1, r.2.2.1, r.2.2.2, true)
theorem rows_len : rowsL.length = 17 := rfl
theorem rows_short : ∀ r ∈ rowsL, r.1.length ≤ 100 ∧ r.2.1.length ≤ 100 := by decide +kernel
theorem find_next {p : T.Pth} {k : Nat} {r : Rw} (hr : rowsL[k]? = some r) (h : (rowsL.take k).find? (fun r => meetsB p r.1) = none) (hm : meetsB p r.1 = false) : (rowsL.take (k + 1)).find? (fun r => meetsB p r.1) = none := by
  obtain ⟨h5, h6⟩ := List.getElem?_eq_some_iff.1 hr
  rw [List.take_succ_eq_append_getElem h5, h6, List.find?_append, h, List.find?_cons, hm]; rfl
theorem find_hit {p : T.Pth} {k : Nat} {r : Rw} (hr : rowsL[k]? = some r) (h : (rowsL.take k).find? (fun r => meetsB p r.1) = none) (hm : meetsB p r.1 = true) : firstR p = some r := by
  obtain ⟨h5, h6⟩ := List.getElem?_eq_some_iff.1 hr
  unfold firstR
  rw [← List.take_append_drop k rowsL, List.find?_append, h, List.drop_eq_getElem_cons h5, h6, List.find?_cons, hm]; rfl
end C
open Go.RowKit
open F
open T (Pth)
set_option linter.unusedVariables false

def rowsC : Array Value := (rowsL.flatMap rowV).toArray
theorem rows_heap {w : World} (h : RowsOk w) : ∃ t fr, w.heap[1]? = some (.cells rowsC t fr) := by
  unfold RowsOk World.var? at h
  rw [show Tryz.prog.globalNamed "ferryslip/schema.rows" = some 1 by kernel_rfl] at h
  simp only [Option.bind_some] at h
  split at h
  · rename_i cs t fr e
    injection h with h
    rw [e, h]; exact ⟨t, fr, rfl⟩
  · cases h
theorem rows_info : (Tryz.prog.info? 161).map (·.size) = some rowsC.size := by kernel_rfl
/-- A row of the table in a block of its own. -/
def RowB (w : World) (g : Nat) (s1 s2 : C.Wd) (b1 b2 : Bool) : Prop := w.heap[g]? = some (.cells #[.string (sB s1), .string (sB s2), .bool b1, .bool b2] 126 (0, 0))
theorem RowB.cells {w : World} {g : Nat} {s1 s2 : C.Wd} {b1 b2 : Bool} (h : RowB w g s1 s2 b1 b2) : w.cell? ⟨g, 0, none⟩ = some (.string (sB s1)) ∧ w.cell? ⟨g, 1, none⟩ = some (.string (sB s2)) ∧ w.cell? ⟨g, 2, none⟩ = some (.bool b1) ∧ w.cell? ⟨g, 3, none⟩ = some (.bool b2) :=
  ⟨cell_of_row w g 0 _ _ _ h, cell_of_row w g 1 _ _ _ h, cell_of_row w g 2 _ _ _ h, cell_of_row w g 3 _ _ _ h⟩
theorem RowB.fzn {w : World} {g : Nat} {s1 s2 : C.Wd} {b1 b2 : Bool} (h : RowB w g s1 s2 b1 b2) (j : Nat) : w.frozen? ⟨g, j, none⟩ = false := frozen_of_row w g j _ _ h
theorem RowB.keep {w w1 : World} {B g : Nat} {s1 s2 : C.Wd} {b1 b2 : Bool} (h : RowB w g s1 s2 b1 b2) (hb : Below B w w1) (hg : g < B) : RowB w1 g s1 s2 b1 b2 := (hb.block g hg).trans h
theorem RowB.lt {w : World} {g : Nat} {s1 s2 : C.Wd} {b1 b2 : Bool} (h : RowB w g s1 s2 b1 b2) : g < w.heap.size := (Array.getElem?_eq_some_iff.1 h).1
theorem RowB.new (w : World) (s1 s2 : C.Wd) (b1 b2 : Bool) : RowB (w.alloc (.cells #[.string (sB s1), .string (sB s2), .bool b1, .bool b2] 126)) w.heap.size s1 s2 b1 b2 := heap_alloc_new w _
theorem RowB.set {w : World} {g : Nat} {s1 s2 : C.Wd} {b1 b2 : Bool} (h : RowB w g s1 s2 b1 b2) (u1 u2 : C.Wd) (c1 c2 : Bool) : RowB ((((w.setCell ⟨g, 0, none⟩ (.string (sB u1))).setCell ⟨g, 1, none⟩ (.string (sB u2))).setCell ⟨g, 2, none⟩ (.bool c1)).setCell ⟨g, 3, none⟩ (.bool c2)) g u1 u2 c1 c2 :=
  Joins.block_setCell (i := 3) (Joins.block_setCell (i := 2) (Joins.block_setCell (i := 1) (Joins.block_setCell (i := 0) h _) _) _) _
theorem RowB.bare {w : World} {g : Nat} {s1 s2 : C.Wd} {b1 b2 : Bool} (h : RowB w g s1 s2 b1 b2) : ((((w.setCell ⟨g, 0, none⟩ (.string ⟨#[]⟩)).setCell ⟨g, 1, none⟩ (.string ⟨#[]⟩)).setCell ⟨g, 2, none⟩ (.bool false)).setCell ⟨g, 3, none⟩ (.bool false)).cell? ⟨g, 0, none⟩ = some (.string ⟨#[]⟩) ∧ ((((w.setCell ⟨g, 0, none⟩ (.string ⟨#[]⟩)).setCell ⟨g, 1, none⟩ (.string ⟨#[]⟩)).setCell ⟨g, 2, none⟩ (.bool false)).setCell ⟨g, 3, none⟩ (.bool false)).cell? ⟨g, 1, none⟩ = some (.string ⟨#[]⟩) ∧ ((((w.setCell ⟨g, 0, none⟩ (.string ⟨#[]⟩)).setCell ⟨g, 1, none⟩ (.string ⟨#[]⟩)).setCell ⟨g, 2, none⟩ (.bool false)).setCell ⟨g, 3, none⟩ (.bool false)).cell? ⟨g, 2, none⟩ = some (.bool false) ∧ ((((w.setCell ⟨g, 0, none⟩ (.string ⟨#[]⟩)).setCell ⟨g, 1, none⟩ (.string ⟨#[]⟩)).setCell ⟨g, 2, none⟩ (.bool false)).setCell ⟨g, 3, none⟩ (.bool false)).cell? ⟨g, 3, none⟩ = some (.bool false) := (h.set [] [] false false).cells
theorem below_set4 {B g : Nat} {w0 w : World} (h : Below B w0 w) (hg : B ≤ g) (v0 v1 v2 v3 : Value) : Below B w0 ((((w.setCell ⟨g, 0, none⟩ v0).setCell ⟨g, 1, none⟩ v1).setCell ⟨g, 2, none⟩ v2).setCell ⟨g, 3, none⟩ v3) :=
  (((h.setCell hg v0).setCell hg v1).setCell hg v2).setCell hg v3
set_option maxRecDepth 100000 in
theorem rowsCut (k : Nat) (hk : k < 17) : rowsC.extract (k * 4) (k * 4 + 4) = (rowV (rowsL.getD k ([], [], false, false))).toArray := by
  have hs : k = 0 ∨ k = 1 ∨ k = 2 ∨ k = 3 ∨ k = 4 ∨ k = 5 ∨ k = 6 ∨ k = 7 ∨ k = 8 ∨ k = 9 ∨ k = 10 ∨ k = 11 ∨ k = 12 ∨ k = 13 ∨ k = 14 ∨ k = 15 ∨ k = 16 := by omega
  clear hk
  rcases hs with rfl | rfl | rfl | rfl | rfl | rfl | rfl | rfl | rfl | rfl | rfl | rfl | rfl | rfl | rfl | rfl | rfl <;> rfl
theorem rowAt_all (k : Nat) (hk : k < 17) (w : World) : (Instr.index 161 (.agg rowsC) (.int .i64 (k : Int))).run Tryz.prog w = .ok (.agg (rowV (rowsL.getD k ([], [], false, false))).toArray) w := by
  have hn : 0 ≤ (k : Int) ∧ (k : Int) < 17 := by omega
  rw [← rowsCut k hk]
  simp [Instr.index, run_underlying Tryz.underlying161, asIntOf, hn, hk, part, Sem.run_bind]
/-- A row out of the table. -/
theorem row_at {k : Nat} {s1 s2 : C.Wd} {b1 b2 : Bool} (hr : rowsL[k]? = some (s1, s2, b1, b2)) (w : World) : (Instr.index 161 (.agg rowsC) (.int .i64 (k : Int))).run Tryz.prog w = .ok (.agg #[.string (sB s1), .string (sB s2), .bool b1, .bool b2]) w := by
  have hk : k < 17 := (List.getElem?_eq_some_iff.1 hr).1
  rw [rowAt_all k hk w, List.getD_eq_getElem?_getD, hr]; rfl
theorem wpList_index_row {ops : Array Oper} {rest : List Oper} {o : Oper} {a : Act} {w : World} {Q : Exit → Act → World → Prop} (hgd : o.guard = none) (x i : Operand) (ho : o.op = .index 161 x i)
    (cs : Array Value) (hcs : rowsC = cs) (k : Nat) {s1 s2 : C.Wd} {b1 b2 : Bool} (hr : rowsL[k]? = some (s1, s2, b1, b2)) (hx : a.eval x = .agg cs) (hi : a.eval i = .int .i64 (k : Int))
    (h : wpList Tryz.prog ops Q rest (a.put o.dst (.agg #[.string (sB s1), .string (sB s2), .bool b1, .bool b2])) w) : wpList Tryz.prog ops Q (o :: rest) a w :=
  wpList_plain hgd fun _ hK => by
    subst hcs
    unfold Oper.wp execOp
    simp only [ho, hx, hi, Sem.run_bind, Sem.run_pure, Result.andThen_ok, row_at hr]
    exact hK _ _ h
set_option maxRecDepth 100000 in
set_option maxHeartbeats 8000000 in
theorem firstC (A : Option Addr) (c n : Nat) (p : Pth) (k1 k2 : C.Wd) (b1 b2 ok : Bool) (w : World) (hn : p.length = n) (hA : Seen eS w A p) (hsw : ShortW p) (hl : n ≤ 1073741824) (HT : RowsOk w) (hr : C.rowOf (C.firstR p) = (k1, k2, b1, b2, ok)) :
    Calls Tryz.prog 85 #[.slice A n c] w (fun e w' => e = .returned (.tuple #[.agg #[.string (sB k1), .string (sB k2), .bool b1, .bool b2], .bool ok]) ∧ Below w.heap.size w w') := by
  have HN := Lib.hid hn
  have HA := Lib.hid hA
  have HSW := Lib.hid hsw
  have HR := Lib.hid hr
  have hb0 := up w (.cells #[.string ⟨#[]⟩, .string ⟨#[]⟩, .bool false, .bool false] 126)
  obtain ⟨tt, fr, hg1⟩ := rows_heap (HT.below hb0)
  obtain ⟨cs, hcs⟩ : ∃ cs, rowsC = cs := ⟨_, rfl⟩
  have hin := rows_info
  rw [hcs] at hg1 hin
  have HCS := Lib.hid hcs
  have HZ := Lib.hid (show RowB (w.alloc (.cells #[.string ⟨#[]⟩, .string ⟨#[]⟩, .bool false, .bool false] 126)) w.heap.size [] [] false false from RowB.new w [] [] false false)
  clear hn hA hsw hr hcs HT
  go_enter Tryz.func85, Tryz.ntmps85
  go_wp2_with (refine wpList_load_row rfl 161 _ rfl 1 rfl tt _ fr _ hg1 Tryz.underlying161 rfl hin ?_)
  go_loopg [7] 17 (fun gk vi wr => ∃ k : Nat, Hid (k + gk = 17) ∧ k ≤ 17 ∧ vi = .int .i64 (k : Int) ∧ Hid ((rowsL.take k).find? (fun r => C.meetsB p r.1) = none) ∧ Hid (RowB wr w.heap.size [] [] false false) ∧ Below w.heap.size w wr)
  case atStart => exact ⟨0, Nat.zero_add _, Nat.zero_le _, rfl, rfl, HZ.out, hb0⟩
  case round =>
    obtain ⟨k, HG, hk, rfl, HF, HB, hb⟩ := hrel
    have hgk := HG.out
    by_cases hlt : k < 17
    · have blt : decide ((k : Int) < 17) = true := decide_eq_true (by omega)
      have blt2 : decide (k < 17) = true := decide_eq_true hlt
      obtain ⟨⟨s1, s2, d1, d2⟩, hrk⟩ : ∃ r, rowsL[k]? = some r := ⟨_, List.getElem?_eq_getElem (by rw [C.rows_len]; exact hlt)⟩
      have HRK := Lib.hid hrk
      have HSH := Lib.hid (C.rows_short _ (List.mem_of_getElem? hrk))
      obtain ⟨mb, hmb⟩ : ∃ mb, C.meetsB p s1 = mb := ⟨_, rfl⟩
      have HMB := Lib.hid hmb
      have hbr := bthen hb (up wr (.cells #[.string (sB s1), .string (sB s2), .bool d1, .bool d2] 126))
      have HB1 := Lib.hid (HB.out.keep (up wr (.cells #[.string (sB s1), .string (sB s2), .bool d1, .bool d2] 126)) HB.out.lt)
      clear hrk hmb
      go_wp2_with (refine wpList_index_row rfl _ _ rfl cs HCS.out k HRK.out rfl rfl ?_)
      refine (meetsC A c n p s1 mb _ HN.out (HA.out.below hbr) HSW.out hl HSH.out.1 HMB.out).mono ?_
      rintro e w2 ⟨rfl, hx⟩
      have HB2 := Lib.hid (HB1.out.keep hx HB1.out.lt)
      have HRB := Lib.hid ((RowB.new wr s1 s2 d1 d2).keep hx (RowB.new wr s1 s2 d1 d2).lt)
      have hb2 := bthen hbr hx
      clear hx hbr
      cases mb with
      | true =>
        have HE := Lib.hid (show (k1, k2, b1, b2, ok) = (s1, s2, d1, d2, true) by rw [← HR.out, C.find_hit HRK.out HF.out HMB.out]; rfl)
        obtain ⟨c0, c1, c2, c3⟩ := HRB.out.cells
        obtain ⟨z0, z1, z2, z3⟩ := HB2.out.cells
        have f0 := HB2.out.fzn 0
        have f1 := HB2.out.fzn 1
        have f2 := HB2.out.fzn 2
        have f3 := HB2.out.fzn 3
        go_wp2
        have HW := HB2.out.set s1 s2 d1 d2
        obtain ⟨y0, y1, y2, y3⟩ := HW.cells
        refine bodyPost_ret (v := .tuple #[.agg #[.string (sB s1), .string (sB s2), .bool d1, .bool d2], .bool true]) (by simp [results, Tryz.results85, go_sem, y0, y1, y2, y3]) rfl ⟨?_, below_set4 hb2 (Nat.le_refl _) _ _ _ _⟩
        have := HE.out
        simp only [Prod.mk.injEq] at this
        obtain ⟨rfl, rfl, rfl, rfl, rfl⟩ := this
        rfl
      | false =>
        have HF2 := Lib.hid (C.find_next HRK.out HF.out HMB.out)
        go_wp2
        go_roundg (17 - (k + 1))
        case rel => exact ⟨k + 1, (by show _ = _; omega), by omega, by go_num, HF2.out, HB2.out, hb2⟩
        case measure => omega
    · have blt : decide ((k : Int) < 17) = false := decide_eq_false (by omega)
      have blt2 : decide (k < 17) = false := decide_eq_false hlt
      obtain rfl : k = 17 := by omega
      have HE := Lib.hid (show (k1, k2, b1, b2, ok) = ([], [], false, false, false) by
        have := HF.out
        rw [List.take_of_length_le (by rw [C.rows_len]; exact Nat.le_refl _)] at this
        rw [← HR.out, show C.firstR p = none from this]; rfl)
      obtain ⟨z0, z1, z2, z3⟩ := HB.out.cells
      have f0 := HB.out.fzn 0
      have f1 := HB.out.fzn 1
      have f2 := HB.out.fzn 2
      have f3 := HB.out.fzn 3
      go_wp2
      obtain ⟨y0, y1, y2, y3⟩ := HB.out.bare
      refine bodyPost_ret (v := .tuple #[.agg #[.string ⟨#[]⟩, .string ⟨#[]⟩, .bool false, .bool false], .bool false]) (by simp [results, Tryz.results85, go_sem, y0, y1, y2, y3]) rfl ⟨?_, below_set4 hb (Nat.le_refl _) _ _ _ _⟩
      have := HE.out
      simp only [Prod.mk.injEq] at this
      obtain ⟨rfl, rfl, rfl, rfl, rfl⟩ := this
      rfl
end Go.Proofs.YtfcikfohmehmkaaGreatDoor

namespace Go.Proofs.YtfcikfohmehmkaaGreatDoor
namespace C
open T (Pth)
/-- The first path of the row whose second one a path is. -/
def secondB (p : Pth) : Wd := match firstR p.dropLast with
  | some r => if typeB r.2.1 (p.getLastD []) = true then r.1 else []
  | none => []
/-- The error of a path that is no statement. -/
def unsaidB (p : Pth) : Int := if (firstR p).isSome then 0 else match firstR p.dropLast with
  | none => 3
  | some r => if typeB r.2.1 (p.getLastD []) = true then 0 else 2
/-- The error of a line that holds one, and has so many under it. -/
def heldB (p : Pth) (k : Nat) : Int := match firstR p with
  | some r => if r.2.2.1 = true then (if k = 0 then 1 else if k = 1 then 0 else 4) else 0
  | none => 0
theorem second_of {p : Pth} {k1 k2 : Wd} {b1 b2 ok : Bool} (h : rowOf (firstR p.dropLast) = (k1, k2, b1, b2, ok)) : secondB p = if ok = true then (if typeB k2 (p.getLastD []) = true then k1 else []) else [] := by
  unfold secondB
  cases hf : firstR p.dropLast with
  | none => rw [hf] at h; cases h; rfl
  | some r => rw [hf] at h; cases h; rfl
theorem unsaid_of {p : Pth} {k1 k2 : Wd} {b1 b2 ok ok1 : Bool} (h1 : (firstR p).isSome = ok1) (h : rowOf (firstR p.dropLast) = (k1, k2, b1, b2, ok)) : unsaidB p = if ok1 = true then 0 else if ok = true then (if typeB k2 (p.getLastD []) = true then 0 else 2) else 3 := by
  unfold unsaidB
  rw [h1]
  cases hf : firstR p.dropLast with
  | none => rw [hf] at h; cases h; cases ok1 <;> rfl
  | some r => rw [hf] at h; cases h; cases ok1 <;> rfl
theorem held_of {p : Pth} {k1 k2 : Wd} {b1 b2 ok : Bool} (h : rowOf (firstR p) = (k1, k2, b1, b2, ok)) (k : Nat) : heldB p k = if ok = true then (if b1 = true then (if k = 0 then 1 else if k = 1 then 0 else 4) else 0) else 0 := by
  unfold heldB
  cases hf : firstR p with
  | none => rw [hf] at h; cases h; rfl
  | some r => rw [hf] at h; cases h; rfl
theorem row_ex (o : Option Rw) : ∃ k1 k2 b1 b2 ok, rowOf o = (k1, k2, b1, b2, ok) := ⟨_, _, _, _, _, rfl⟩
theorem row_some {o : Option Rw} {k1 k2 : Wd} {b1 b2 ok : Bool} (h : rowOf o = (k1, k2, b1, b2, ok)) : o.isSome = ok := by
  cases o with
  | none => cases h; rfl
  | some r => cases h; rfl
theorem last_get {p : Pth} {m : Nat} {x : Wd} (hn : p.length = m + 1) (hx : p[m]? = some x) : p.getLastD [] = x := by
  rw [List.getLastD_eq_getLast?, List.getLast?_eq_getElem?, hn, Nat.add_sub_cancel, hx]; rfl
theorem drop_take {p : Pth} {m : Nat} (hn : p.length = m + 1) : p.dropLast = p.take m := by rw [List.dropLast_eq_take, hn, Nat.add_sub_cancel]
end C
open Go.RowKit
open F
open T (Pth)
set_option linter.unusedVariables false

theorem seen_take13 {w : World} {b o q : Nat} {P : Pth} (h : Seen eS w (some ⟨b, o, none⟩) P) : Seen eS w (some ⟨b, o, none⟩) (P.take q) := by
  intro h0
  have hP : 0 < P.length := by rw [List.length_take] at h0; omega
  obtain ⟨b2, o2, e, hb, hH⟩ := h hP
  refine ⟨b2, o2, e, hb, fun d hd j u hu => ?_⟩
  rw [List.getElem_take] at hu
  exact hH d (by rw [List.length_take] at hd; omega) j u hu
theorem short_take {p : Pth} (h : ShortW p) (q : Nat) : ShortW (p.take q) := fun x hx => h x (List.mem_of_mem_take hx)
set_option maxRecDepth 100000 in
set_option maxHeartbeats 4000000 in
theorem secondC (A : Option Addr) (c n : Nat) (p : Pth) (s : C.Wd) (w : World) (hn : p.length = n) (hnc : n ≤ c) (hA : Seen eS w A p) (hsw : ShortW p) (h0 : 0 < n) (hl : n ≤ 1073741824) (HT : RowsOk w) (hr : C.secondB p = s) :
    Calls Tryz.prog 128 #[.slice A n c] w (fun e w' => e = .returned (.string (sB s)) ∧ Below w.heap.size w w') := by
  obtain ⟨m, rfl⟩ : ∃ m, n = m + 1 := ⟨n - 1, by omega⟩
  have j1 : ((m + 1 : Nat) : Int) - 1 = (m : Int) := by omega
  have j2 : IntKind.i64.wrap (m : Int) = (m : Int) := by rw [IntKind.wrap_i64]; omega
  have jd : (m : Int) ≤ (c : Int) := by omega
  have j0 : (0 : Int) ≤ (m : Int) := by omega
  have jm : (m : Int) < ((m + 1 : Nat) : Int) := by omega
  have jm2 : (m : Int) < (m : Int) + 1 := by omega
  obtain ⟨x, hx⟩ : ∃ x, p[m]? = some x := ⟨_, List.getElem?_eq_getElem (by omega)⟩
  obtain ⟨b, o, rfl, hbw, hL⟩ := hA (by omega)
  obtain ⟨k1, k2, b1, b2, ok, hrow⟩ := C.row_ex (C.firstR p.dropLast)
  have HR := Lib.hid (show (if ok = true then (if C.typeB k2 x = true then k1 else []) else []) = s by rw [← hr, C.second_of hrow, C.last_get hn hx])
  have HROW := Lib.hid (show C.rowOf (C.firstR (p.take m)) = (k1, k2, b1, b2, ok) by rw [← C.drop_take hn]; exact hrow)
  have HTK := Lib.hid (show (p.take m).length = m by rw [List.length_take, hn]; omega)
  have HA := Lib.hid (seen_take13 (q := m) hA)
  have HSW := Lib.hid (short_take hsw m)
  have HX := Lib.hid (show x.length ≤ 100 from hsw x (List.mem_of_getElem? hx))
  have HL := Lib.hid hL
  have HP := Lib.hid hx
  have HT := Lib.hid HT
  clear hn hA hsw hL hr hrow hx
  go_enter Tryz.func128, Tryz.ntmps128
  go_wp2_with fail
  refine (firstC (some ⟨b, o, none⟩) c m (p.take m) k1 k2 b1 b2 ok _ HTK.out HA.out HSW.out (by omega) HT.out HROW.out).mono ?_
  rintro e w1 ⟨rfl, hx⟩
  have hb1 := bthen hx (up w1 (.cells #[.string (sB k1), .string (sB k2), .bool b1, .bool b2] 126))
  obtain ⟨c0, c1, c2, c3⟩ := (RowB.new w1 k1 k2 b1 b2).cells
  have cp : (w1.alloc (.cells #[.string (sB k1), .string (sB k2), .bool b1, .bool b2] 126)).cell? ⟨b, o + m, none⟩ = some (.string (sB x)) := cellS (HL.out.below hb1 hbw) HP.out
  obtain ⟨W1, hW1⟩ : ∃ W, w1.alloc (.cells #[.string (sB k1), .string (sB k2), .bool b1, .bool b2] 126) = W := ⟨_, rfl⟩
  rw [hW1] at hb1 c0 c1 c2 c3 cp
  have HW1 := Lib.hid hW1
  have HLT := Lib.hid (show w1.heap.size < W1.heap.size by rw [← hW1]; simp)
  clear hx hW1
  cases ok with
  | false =>
    have HE := Lib.hid (show s = [] by rw [← HR.out]; rfl)
    go_wp2
    rw [HW1.out]
    go_quiet (fail)
    go_wp2
    go_ret
    exact ⟨by rw [HE.out]; rfl, below_drawn10 hb1 _⟩
  | true =>
    obtain ⟨tb, htb⟩ : ∃ tb, C.typeB k2 x = tb := ⟨_, rfl⟩
    have HTB := Lib.hid htb
    go_wp2
    rw [HW1.out]
    clear htb
    go_still_tail 8, (by kernel_rfl)
    change wpList _ _ _ _ _ W1.drew
    go_wp2_with fail
    refine (typeC k2 x tb _ HX.out HTB.out).mono ?_
    rintro e w2 ⟨rfl, hx⟩
    have c0' : w2.cell? ⟨w1.heap.size, 0, none⟩ = some (.string (sB k1)) := ((below_drawn13 (Below.refl _ W1) 1).trans hx).cell (p := ⟨w1.heap.size, 0, none⟩) (HLT.out) |>.trans c0
    have hb2 := hb1.drew.trans (hx.mono hb1.size)
    cases tb with
    | false =>
      have HE := Lib.hid (show s = [] by rw [← HR.out, HTB.out]; rfl)
      go_wp2
      go_ret
      exact ⟨by rw [HE.out]; rfl, hb2⟩
    | true =>
      have HE := Lib.hid (show s = k1 by rw [← HR.out, HTB.out]; rfl)
      go_wp2
      go_ret
      exact ⟨by rw [HE.out]; rfl, hb2⟩
set_option maxRecDepth 100000 in
set_option maxHeartbeats 4000000 in
theorem unsaidC (A : Option Addr) (c n : Nat) (p : Pth) (z : Int) (w : World) (hn : p.length = n) (hnc : n ≤ c) (hA : Seen eS w A p) (hsw : ShortW p) (h0 : 0 < n) (hl : n ≤ 1073741824) (HT : RowsOk w) (hr : C.unsaidB p = z) :
    Calls Tryz.prog 54 #[.slice A n c] w (IntS w z) := by
  obtain ⟨m, rfl⟩ : ∃ m, n = m + 1 := ⟨n - 1, by omega⟩
  have j1 : ((m + 1 : Nat) : Int) - 1 = (m : Int) := by omega
  have j2 : IntKind.i64.wrap (m : Int) = (m : Int) := by rw [IntKind.wrap_i64]; omega
  have jd : (m : Int) ≤ (c : Int) := by omega
  have j0 : (0 : Int) ≤ (m : Int) := by omega
  have jm : (m : Int) < ((m + 1 : Nat) : Int) := by omega
  have jm2 : (m : Int) < (m : Int) + 1 := by omega
  obtain ⟨x, hx⟩ : ∃ x, p[m]? = some x := ⟨_, List.getElem?_eq_getElem (by omega)⟩
  obtain ⟨b, o, rfl, hbw, hL⟩ := hA (by omega)
  obtain ⟨h1, h2, e1, e2, ok1, hrow1⟩ := C.row_ex (C.firstR p)
  obtain ⟨k1, k2, b1, b2, ok, hrow⟩ := C.row_ex (C.firstR p.dropLast)
  have HR := Lib.hid (show (if ok1 = true then 0 else if ok = true then (if C.typeB k2 x = true then 0 else 2) else 3) = z by rw [← hr, C.unsaid_of (C.row_some hrow1) hrow, C.last_get hn hx])
  have HROW1 := Lib.hid hrow1
  have HROW := Lib.hid (show C.rowOf (C.firstR (p.take m)) = (k1, k2, b1, b2, ok) by rw [← C.drop_take hn]; exact hrow)
  have HN := Lib.hid hn
  have HTK := Lib.hid (show (p.take m).length = m by rw [List.length_take, hn]; omega)
  have HA0 := Lib.hid hA
  have HA := Lib.hid (seen_take13 (q := m) hA)
  have HSW0 := Lib.hid hsw
  have HSW := Lib.hid (short_take hsw m)
  have HX := Lib.hid (show x.length ≤ 100 from hsw x (List.mem_of_getElem? hx))
  have HL := Lib.hid hL
  have HP := Lib.hid hx
  have HT := Lib.hid HT
  clear hn hA hsw hL hr hrow hrow1 hx
  go_enter Tryz.func54, Tryz.ntmps54
  go_wp2_with fail
  refine (firstC (some ⟨b, o, none⟩) c (m + 1) p h1 h2 e1 e2 ok1 _ HN.out HA0.out HSW0.out (by omega) HT.out HROW1.out).mono ?_
  rintro e w0 ⟨rfl, hx⟩
  have hb0 := bthen hx (up w0 (.cells #[.string (sB h1), .string (sB h2), .bool e1, .bool e2] 126))
  clear hx
  cases ok1 with
  | true =>
    have HE := Lib.hid (show z = 0 by rw [← HR.out]; rfl)
    go_wp2
    go_ret
    exact ⟨by rw [HE.out]; rfl, hb0⟩
  | false =>
  go_wp2_with fail
  refine (firstC (some ⟨b, o, none⟩) c m (p.take m) k1 k2 b1 b2 ok _ HTK.out (HA.out.below hb0) HSW.out (by omega) (HT.out.below hb0) HROW.out).mono ?_
  rintro e w1 ⟨rfl, hx⟩
  have hb1 := bthen (bthen hb0 hx) (up w1 (.cells #[.string (sB k1), .string (sB k2), .bool b1, .bool b2] 126))
  obtain ⟨c0, c1, c2, c3⟩ := (RowB.new w1 k1 k2 b1 b2).cells
  have cp : (w1.alloc (.cells #[.string (sB k1), .string (sB k2), .bool b1, .bool b2] 126)).cell? ⟨b, o + m, none⟩ = some (.string (sB x)) := cellS (HL.out.below hb1 hbw) HP.out
  obtain ⟨W1, hW1⟩ : ∃ W, w1.alloc (.cells #[.string (sB k1), .string (sB k2), .bool b1, .bool b2] 126) = W := ⟨_, rfl⟩
  rw [hW1] at hb1 c0 c1 c2 c3 cp
  have HW1 := Lib.hid hW1
  clear hx hW1 hb0
  cases ok with
  | false =>
    have HE := Lib.hid (show z = 3 by rw [← HR.out]; rfl)
    go_wp2
    rw [HW1.out]
    go_ret
    exact ⟨by rw [HE.out]; rfl, hb1⟩
  | true =>
    obtain ⟨tb, htb⟩ : ∃ tb, C.typeB k2 x = tb := ⟨_, rfl⟩
    have HTB := Lib.hid htb
    go_wp2
    rw [HW1.out]
    clear htb
    go_still_tail 6, (by kernel_rfl)
    change wpList _ _ _ _ _ W1.drew
    go_wp2_with fail
    refine (typeC k2 x tb _ HX.out HTB.out).mono ?_
    rintro e w2 ⟨rfl, hx⟩
    have hb2 := hb1.drew.trans (hx.mono hb1.size)
    cases tb with
    | false =>
      have HE := Lib.hid (show z = 2 by rw [← HR.out, HTB.out]; rfl)
      go_wp2
      go_ret
      exact ⟨by rw [HE.out]; rfl, hb2⟩
    | true =>
      have HE := Lib.hid (show z = 0 by rw [← HR.out, HTB.out]; rfl)
      go_wp2
      go_ret
      exact ⟨by rw [HE.out]; rfl, hb2⟩
theorem kidsC13 (A : Option Addr) (c n m : Nat) (t : List T.Ln) (i : Int) (K : List Nat) (w : World) (hn : t.length = n) (hm : K.length = m) (hA : Seen eL w A t) (hl : n ≤ 1073741824) (hi : -1 ≤ i) (hil : i < n) (hR : T.RightT t) (h : T.kidsL t i = K) :
    Calls Tryz.prog 76 #[.slice A n c, .int .i64 i] w (fun e w' => ∃ B d, e = .returned (.slice B m d) ∧ m ≤ d ∧ Seen eI w' B K ∧ Below w.heap.size w w') := by
  subst hn; subst hm; exact kids_is A c t i K w hA hl hi hil hR h
set_option maxRecDepth 100000 in
set_option maxHeartbeats 4000000 in
/-- The error of a line that holds one, and has none or more. -/
theorem heldC (A B : Option Addr) (c d n i np k : Nat) (t : List T.Ln) (p : Pth) (z : Int) (w : World) (hn : t.length = n) (hA : Seen eL w A t) (hl : n ≤ 200) (hR : T.RightT t) (hi : i < n) (hnp : p.length = np) (hB : Seen eS w B p) (hsw : ShortW p) (hl2 : np ≤ 1073741824) (HT : RowsOk w) (hk : (T.kidsL t (i : Int)).length = k) (hr : C.heldB p k = z) :
    Calls Tryz.prog 88 #[.slice A n c, .int .i64 (i : Int), .slice B np d] w (IntS w z) := by
  obtain ⟨k1, k2, b1, b2, ok, hrow⟩ := C.row_ex (C.firstR p)
  obtain ⟨K, hK⟩ : ∃ K, T.kidsL t (i : Int) = K := ⟨_, rfl⟩
  have hk2 : k ≤ n := by rw [← hk, ← hn]; exact T.filter_len t.length _
  have HR := Lib.hid (show (if ok = true then (if b1 = true then (if k = 0 then 1 else if k = 1 then 0 else 4) else 0) else 0) = z by rw [← hr, C.held_of hrow])
  have HROW := Lib.hid hrow
  have HN := Lib.hid hn
  have HA := Lib.hid hA
  have HRT := Lib.hid hR
  have HNP := Lib.hid hnp
  have HB := Lib.hid hB
  have HSW := Lib.hid hsw
  have HT := Lib.hid HT
  have HK := Lib.hid hK
  have HKL := Lib.hid (show K.length = k by rw [← hK]; exact hk)
  clear hrow hn hA hR hnp hB hsw hr hK hk
  go_enter Tryz.func88, Tryz.ntmps88
  go_wp2_with fail
  refine (firstC B d np p k1 k2 b1 b2 ok _ HNP.out HB.out HSW.out hl2 HT.out HROW.out).mono ?_
  rintro e w1 ⟨rfl, hx⟩
  have hb1 := bthen hx (up w1 (.cells #[.string (sB k1), .string (sB k2), .bool b1, .bool b2] 126))
  obtain ⟨c0, c1, c2, c3⟩ := (RowB.new w1 k1 k2 b1 b2).cells
  clear hx
  cases ok with
  | false =>
    have HE := Lib.hid (show z = 0 by rw [← HR.out]; rfl)
    go_wp2
    go_ret
    exact ⟨by rw [HE.out]; rfl, hb1⟩
  | true =>
    cases b1 with
    | false =>
      have HE := Lib.hid (show z = 0 by rw [← HR.out]; rfl)
      go_wp2
      go_ret
      exact ⟨by rw [HE.out]; rfl, hb1⟩
    | true =>
      go_wp2_with fail
      refine (kidsC13 A c n k t (i : Int) K _ HN.out HKL.out (HA.out.below hb1) (by omega) (by omega) (by omega) HRT.out HK.out).mono ?_
      rintro e w2 ⟨B2, d2, rfl, hd2, hs2, hx⟩
      have hb2 := bthen hb1 hx
      clear hx hs2 hd2
      by_cases g0 : k = 0
      · have d0 : ((k : Int) == 0) = true := beq_iff_eq.2 (by omega)
        have d0b : (k == 0) = true := beq_iff_eq.2 g0
        have HE := Lib.hid (show z = 1 by rw [← HR.out]; simp [g0])
        clear g0
        go_wp2
        go_ret
        exact ⟨by rw [HE.out]; rfl, hb2⟩
      · have d0 : ((k : Int) == 0) = false := beq_eq_false_iff_ne.2 (by omega)
        have d0b : (k == 0) = false := beq_eq_false_iff_ne.2 g0
        have d0c : ¬ k = 0 := g0
        by_cases g1 : k = 1
        · have d1 : ((k : Int) == 1) = true := beq_iff_eq.2 (by omega)
          have d1b : (k == 1) = true := beq_iff_eq.2 g1
          have HE := Lib.hid (show z = 0 by rw [← HR.out]; simp [g1])
          clear g0 g1
          go_wp2
          go_ret
          exact ⟨by rw [HE.out]; rfl, hb2⟩
        · have d1 : ((k : Int) == 1) = false := beq_eq_false_iff_ne.2 (by omega)
          have d1b : (k == 1) = false := beq_eq_false_iff_ne.2 g1
          have d1c : ¬ k = 1 := g1
          have HE := Lib.hid (show z = 4 by rw [← HR.out]; simp [g0, g1])
          clear g0 g1
          go_wp2
          go_ret
          exact ⟨by rw [HE.out]; rfl, hb2⟩
end Go.Proofs.YtfcikfohmehmkaaGreatDoor
