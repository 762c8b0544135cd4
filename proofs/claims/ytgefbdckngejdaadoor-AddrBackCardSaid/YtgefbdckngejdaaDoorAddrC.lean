/-
  Layer 10's code: isBelow, isPrefix, number, Num, In. No conditions but the texts' length.
-/
import Derived.Test.YtgefbdckngejdaaDoorAddrA
import Derived.Test.YtgefbdckngejdaaDoorAddrB
import Derived.IntWalk
namespace Go.Proofs.YtgefbdckngejdaaDoor
open Go.RowKit
set_option linter.unusedVariables false

set_option maxRecDepth 100000 in
theorem belowIP (n : Int) (r : Bool) (w : World) (h : (decide (0 ≤ n) && decide (n < 4294967296)) = r) : Calls Tryd.prog 34 #[.int .i64 n, .int .i64 32] w (fun e w' => e = .returned (.bool r) ∧ w = w') := by
  by_cases h0 : 0 ≤ n
  · have c0 : decide (0 ≤ n) = true := decide_eq_true h0
    rw [c0, Bool.true_and] at h
    go_enter Tryd.func34, Tryd.ntmps34
    go_wp2
    go_ret
    exact ⟨by rw [← h]; rfl, rfl⟩
  · have c0 : decide (0 ≤ n) = false := decide_eq_false h0
    rw [c0, Bool.false_and] at h
    subst h
    go_enter Tryd.func34, Tryd.ntmps34
    go_wp2
    go_ret
    exact ⟨rfl, rfl⟩
set_option maxRecDepth 100000 in
theorem belowMAC (n : Int) (r : Bool) (w : World) (h : (decide (0 ≤ n) && decide (n < 281474976710656)) = r) : Calls Tryd.prog 34 #[.int .i64 n, .int .i64 48] w (fun e w' => e = .returned (.bool r) ∧ w = w') := by
  by_cases h0 : 0 ≤ n
  · have c0 : decide (0 ≤ n) = true := decide_eq_true h0
    rw [c0, Bool.true_and] at h
    go_enter Tryd.func34, Tryd.ntmps34
    go_wp2
    go_ret
    exact ⟨by rw [← h]; rfl, rfl⟩
  · have c0 : decide (0 ≤ n) = false := decide_eq_false h0
    rw [c0, Bool.false_and] at h
    subst h
    go_enter Tryd.func34, Tryd.ntmps34
    go_wp2
    go_ret
    exact ⟨rfl, rfl⟩
theorem and_lowC (a k p : Nat) (hp : 2 ^ k = p) (ha : (a : Int) < 4294967296) (hk : p ≤ 4294967296) : Go.bits .and .i64 (a : Int) (((p - 1 : Nat) : Int)) = ((a % p : Nat) : Int) := by
  have h1 : a < 9223372036854775808 := by omega
  have h2 : p ≤ 9223372036854775808 := by omega
  exact N.and_low a k p hp h1 h2
theorem sub1C {p q : Nat} (h : 0 < p) (hq : p - 1 = q) : (p : Int) - 1 = (q : Int) := by omega
theorem subC {p q : Nat} (h : p ≤ 4294967296) (hq : p - 1 = q) : q ≤ 4294967296 := by omega
theorem wrapC {p : Nat} (h : p ≤ 4294967296) : wrap64 (p : Int) = (p : Int) := Go.IntWalk.wrap64_in _ (by omega)
set_option maxRecDepth 100000 in
set_option maxHeartbeats 2000000 in
theorem prefix_any (n bits : Int) (r : Bool) (w : World) (hr : N.rightB n bits = r) : Calls Tryd.prog 31 #[.int .i64 n, .int .i64 bits] w (fun e w' => e = .returned (.bool r) ∧ w = w') := by
  by_cases h0 : 0 ≤ n ∧ n < 4294967296
  · have HB := Lib.hid (show (decide (0 ≤ n) && decide (n < 4294967296)) = true by rw [decide_eq_true h0.1, decide_eq_true h0.2]; rfl)
    by_cases h1 : 0 ≤ bits
    · have c1 : decide (0 ≤ bits) = true := decide_eq_true h1
      by_cases h2 : bits ≤ 32
      · have c2 : decide (bits ≤ 32) = true := decide_eq_true h2
        obtain ⟨k, hk⟩ : ∃ k : Nat, (32 - bits).toNat = k := ⟨_, rfl⟩
        have hk2 : 32 - bits = (k : Int) := by omega
        have hk3 : k ≤ 32 := by omega
        obtain ⟨nn, rfl⟩ := Int.eq_ofNat_of_zero_le h0.1
        obtain ⟨p, hp⟩ : ∃ p, 2 ^ k = p := ⟨_, rfl⟩
        have hpp : 0 < p := by rw [← hp]; exact N.pow_pos2 k
        have hpb : p ≤ 4294967296 := by rw [← hp]; exact Nat.le_trans (Nat.pow_le_pow_right (by omega) (show k ≤ 32 by omega)) (by decide)
        obtain ⟨q, hq⟩ : ∃ q, p - 1 = q := ⟨_, rfl⟩
        obtain ⟨d, hd⟩ : ∃ d, nn % p = d := ⟨_, rfl⟩
        have e1 : wrap64 (2 ^ (32 - bits).toNat) = (p : Int) := by
          rw [hk, show ((2 : Int) ^ k) = (p : Int) by rw [← hp, Int.natCast_pow]; rfl]; exact wrapC hpb
        have e0 : (p : Int) - 1 = (q : Int) := sub1C hpp hq
        have e2 : wrap64 ((p : Int) - 1) = (q : Int) := by rw [e0]; exact wrapC (subC hpb hq)
        have e3 : Go.bits .and .i64 (nn : Int) (q : Int) = (d : Int) := by rw [← hq, ← hd]; exact and_lowC nn k p hp h0.2 hpb
        have HR := Lib.hid (show (Go.bits .and .i64 (nn : Int) (wrap64 (wrap64 (2 ^ (32 - bits).toNat) - 1)) == 0) = r by
          rw [e1, e2, e3, ← hr]; unfold N.rightB
          rw [decide_eq_true (show (0 : Int) ≤ (nn : Int) by omega), decide_eq_true (show (nn : Int) < 4294967296 from h0.2), c1, c2, hk, hp]
          show _ = decide ((nn : Int) % (p : Int) = 0)
          rw [← Int.natCast_emod, hd, Bool.eq_iff_iff, decide_eq_true_eq, beq_iff_eq])
        clear hr hp hq hd h0 hk hk2 e0 e1 e2 e3 hpp hpb hk3
        go_enter Tryd.func31, Tryd.ntmps31
        go_wp2_with fail
        refine (belowIP _ true _ HB.out).mono ?_
        rintro e w1 ⟨rfl, rfl⟩
        go_wp2
        go_ret
        exact ⟨by rw [← HR.out]; rfl, rfl⟩
      · have c2 : decide (bits ≤ 32) = false := decide_eq_false h2
        have HR := Lib.hid (show false = r by rw [← hr]; unfold N.rightB; rw [c2, Bool.and_false, Bool.false_and])
        clear hr h0
        go_enter Tryd.func31, Tryd.ntmps31
        go_wp2_with fail
        refine (belowIP _ true _ HB.out).mono ?_
        rintro e w1 ⟨rfl, rfl⟩
        go_wp2
        go_ret
        exact ⟨by rw [← HR.out]; rfl, rfl⟩
    · have c1 : decide (0 ≤ bits) = false := decide_eq_false h1
      have HR := Lib.hid (show false = r by rw [← hr]; unfold N.rightB; rw [c1, Bool.and_false, Bool.false_and, Bool.false_and])
      clear hr h0
      go_enter Tryd.func31, Tryd.ntmps31
      go_wp2_with fail
      refine (belowIP _ true _ HB.out).mono ?_
      rintro e w1 ⟨rfl, rfl⟩
      go_wp2
      go_ret
      exact ⟨by rw [← HR.out]; rfl, rfl⟩
  · have hz : (decide (0 ≤ n) && decide (n < 4294967296)) = false := by
      cases hz : (decide (0 ≤ n) && decide (n < 4294967296)) with
      | false => rfl
      | true => rw [Bool.and_eq_true, decide_eq_true_eq, decide_eq_true_eq] at hz; exact absurd hz h0
    have HB := Lib.hid hz
    have HR := Lib.hid (show false = r by rw [← hr]; unfold N.rightB; rw [hz, Bool.false_and, Bool.false_and, Bool.false_and])
    clear hr h0 hz
    go_enter Tryd.func31, Tryd.ntmps31
    go_wp2_with fail
    refine (belowIP _ false _ HB.out).mono ?_
    rintro e w1 ⟨rfl, rfl⟩
    go_wp2
    go_ret
    exact ⟨by rw [← HR.out]; rfl, rfl⟩
theorem okA_nat (n : Nat) : okA (n : Int) = ((n : Int), true) := by unfold okA; rw [if_pos (by omega)]
set_option maxRecDepth 100000 in
set_option maxHeartbeats 2000000 in
theorem number_any (s : ByteArray) (w : World) (hs : s.size ≤ 1073741824) : Calls Tryd.prog 28 #[.string s] w (fun e w' => e = .returned (.tuple #[.int .i64 (okA (N.numL s.data.toList)).1, .bool (okA (N.numL s.data.toList)).2]) ∧ w = w') := by
  have hsz : s.data.toList.length = s.size := by simp
  by_cases h0 : s.size = 0
  · have HE := Lib.hid (show N.numL s.data.toList = -1 by rw [List.eq_nil_of_length_eq_zero (hsz.trans h0)]; rfl)
    have b1 : decide ((s.size : Int) < 1) = true := decide_eq_true (by omega)
    have b1b : decide (s.size < 1) = true := decide_eq_true (by omega)
    have b1c : decide (s.size = 0) = true := decide_eq_true h0
    have b1d : s.toList = [] := by rw [ByteArray.toList_eq, List.eq_nil_of_length_eq_zero (hsz.trans h0)]
    clear hsz h0
    go_enter Tryd.func28, Tryd.ntmps28
    go_wp2
    go_ret2
    exact ⟨by rw [HE.out]; rfl, rfl⟩
  have hpos : 0 < s.size := by omega
  have b1 : decide ((s.size : Int) < 1) = false := decide_eq_false (by omega)
  have b1b : decide (s.size < 1) = false := decide_eq_false (by omega)
  have b1c : decide (s.size = 0) = false := decide_eq_false h0
  have b1d : ¬ s.toList = [] := by rw [ByteArray.toList_eq]; exact fun e => h0 (by rw [← hsz, e]; rfl)
  have b1e : s.toList.isEmpty = false := by cases hx : s.toList with | nil => exact absurd hx b1d | cons => rfl
  by_cases h1 : 10 < s.size
  · have HE := Lib.hid (show N.numL s.data.toList = -1 by unfold N.numL; rw [if_pos (.inr (.inl (by rw [hsz]; exact h1)))])
    have b2 : decide ((10 : Int) < (s.size : Int)) = true := decide_eq_true (by omega)
    have b2b : decide (10 < s.size) = true := decide_eq_true h1
    clear hsz h0 h1
    go_enter Tryd.func28, Tryd.ntmps28
    go_wp2
    go_ret2
    exact ⟨by rw [HE.out]; rfl, rfl⟩
  have b2 : decide ((10 : Int) < (s.size : Int)) = false := decide_eq_false (by omega)
  have b2b : decide (10 < s.size) = false := decide_eq_false h1
  have hhd := head_is s hpos
  by_cases h2 : s[0].toNat = 48 ∧ 1 < s.size
  · have HE := Lib.hid (show N.numL s.data.toList = -1 by unfold N.numL; rw [if_pos (.inr (.inr (.inl ⟨by rw [hhd, show s[0] = 48 from UInt8.toNat_inj.1 h2.1], by rw [hsz]; exact h2.2⟩)))])
    have b3 : ((s[0].toNat : Int) == 48) = true := by simp; omega
    have b4 : decide ((1 : Int) < (s.size : Int)) = true := decide_eq_true (by omega)
    have b4b : decide (1 < s.size) = true := decide_eq_true h2.2
    clear hsz h0 h1 h2 hhd
    go_enter Tryd.func28, Tryd.ntmps28
    go_wp2
    go_ret2
    exact ⟨by rw [HE.out]; rfl, rfl⟩
  have HSZ := Lib.hid hsz
  have HNE := Lib.hid (show s.data.toList ≠ [] from fun e => h0 (by rw [← hsz, e]; rfl))
  have HH := Lib.hid (show ¬ (s.data.toList.head? = some 48 ∧ 1 < s.data.toList.length) by
    rintro ⟨e1, e2⟩
    rw [hhd] at e1
    injection e1 with e1
    exact h2 ⟨by rw [e1]; rfl, by omega⟩)
  by_cases h4 : 1 < s.size
  all_goals
    first
    | (have b3 : ((s[0].toNat : Int) == 48) = false := by (have : s[0].toNat ≠ 48 := fun e => h2 ⟨e, h4⟩; simp; omega)
       have b4 : decide ((1 : Int) < (s.size : Int)) = true := decide_eq_true (by omega)
       have b4b : decide (1 < s.size) = true := decide_eq_true (by omega))
    | (have b4 : decide ((1 : Int) < (s.size : Int)) = false := decide_eq_false (by omega)
       have b4b : decide (1 < s.size) = false := decide_eq_false (by omega))
    clear hsz h0 h2 h4 hhd
    go_enter Tryd.func28, Tryd.ntmps28
    go_wp2
    go_loopg [4, 5] s.size (fun gk vn vi wr => ∃ k v : Nat, Hid (k + gk = s.size) ∧ k ≤ s.size ∧ vi = .int .i64 (k : Int) ∧ vn = .int .i64 (v : Int) ∧ Hid (N.valL (s.data.toList.take k) = v) ∧ Hid ((s.data.toList.take k).all N.digB = true) ∧ w = wr)
    case atStart => exact ⟨0, 0, Nat.zero_add _, Nat.zero_le _, rfl, rfl, rfl, rfl, rfl⟩
    case round =>
      obtain ⟨k, v, HG, hk, rfl, rfl, HV, HD, rfl⟩ := hrel
      by_cases hlt : k < s.size
      · have blt : decide ((k : Int) < (s.size : Int)) = true := decide_eq_true (by omega)
        have blt2 : decide (k < s.size) = true := decide_eq_true hlt
        have hki : (k : Int) < (s.size : Int) := by omega
        have hsn := W.take_snoc s k hlt
        have hmem : s[k] ∈ s.data.toList := List.mem_of_mem_take (i := k + 1) (by rw [hsn]; simp)
        have hv : v < 10000000000 := by
          rw [← HV.out]
          exact N.val_lt _ HD.out 10 (by rw [List.length_take]; omega)
        have hc := s[k].toNat_lt
        by_cases hlo : s[k].toNat < 48
        · have c1 : decide ((s[k].toNat : Int) < 48) = true := decide_eq_true (by omega)
          have HE := Lib.hid (num_bad hmem (digB_lo hlo))
          clear hsn hmem hlo
          go_wp2
          go_ret2
          exact ⟨by rw [HE.out]; rfl, rfl⟩
        · have c1 : decide ((s[k].toNat : Int) < 48) = false := decide_eq_false (by omega)
          by_cases hhi : 57 < s[k].toNat
          · have c2 : decide ((57 : Int) < (s[k].toNat : Int)) = true := decide_eq_true (by omega)
            have c2b : decide (57 < s[k].toNat) = true := decide_eq_true hhi
            have HE := Lib.hid (num_bad hmem (digB_hi hhi))
            clear hsn hmem hlo hhi
            go_wp2
            go_ret2
            exact ⟨by rw [HE.out]; rfl, rfl⟩
          · have c2 : decide ((57 : Int) < (s[k].toNat : Int)) = false := decide_eq_false (by omega)
            have c2b : decide (57 < s[k].toNat) = false := decide_eq_false hhi
            have HSN := Lib.hid hsn
            have HD2 := Lib.hid (show (s.data.toList.take (k + 1)).all N.digB = true by rw [hsn, List.all_append, HD.out]; show ([s[k]] : List UInt8).all N.digB = true; rw [List.all_cons, digB_in (by omega) (by omega)]; rfl)
            have HV2 := Lib.hid (show N.valL (s.data.toList.take (k + 1)) = 10 * v + (s[k].toNat - 48) by rw [hsn, N.val_snoc, HV.out])
            have hgk := HG.out
            have hu : IntKind.u8.wrap ((s[k].toNat : Int) - 48) = ((s[k].toNat - 48 : Nat) : Int) := by rw [IntKind.wrap_u8]; omega
            clear hsn hmem
            go_wp2
            go_roundg (s.size - (k + 1))
            case rel => exact ⟨k + 1, 10 * v + (s[k].toNat - 48), (by show _ = _; omega), by omega, by go_num, by go_num, HV2, HD2, rfl⟩
            case measure => omega
      · have blt : decide ((k : Int) < (s.size : Int)) = false := decide_eq_false (by omega)
        have blt2 : decide (k < s.size) = false := decide_eq_false hlt
        have htk : s.data.toList.take k = s.data.toList := List.take_of_length_le (by have := HSZ.out; omega)
        have HE := Lib.hid (show N.numL s.data.toList = v by
          have h5 := HV.out
          have h6 := HD.out
          rw [htk] at h5 h6
          rw [num_all HNE.out (by rw [HSZ.out]; exact h1) HH.out h6, h5])
        clear htk
        go_wp2
        go_ret2
        exact ⟨by rw [HE.out, okA_nat]; rfl, rfl⟩
set_option maxRecDepth 100000 in
theorem num_any10 (s : ByteArray) (least most z : Int) (ok : Bool) (w : World) (hs : s.size ≤ 1073741824) (hz : numA s.data.toList least most = (z, ok)) : Calls Tryd.prog 11 #[.string s, .int .i64 least, .int .i64 most] w (fun e w' => e = .returned (.tuple #[.int .i64 z, .bool ok]) ∧ w = w') := by
  have HN := Lib.hid (number_any s w hs)
  rcases N.num_cases s.data.toList with h | ⟨n, h, _, _⟩
  · have e1 : okA (N.numL s.data.toList) = (0, false) := by rw [h]; rfl
    have e2 : numA s.data.toList least most = (0, false) := by unfold numA; rw [if_neg (by omega)]
    rw [e1] at HN
    rw [e2] at hz
    cases hz
    clear e1 e2 h
    go_enter Tryd.func11, Tryd.ntmps11
    go_wp2_with fail
    refine (HN.out).mono ?_
    rintro e w1 ⟨rfl, rfl⟩
    go_wp2
    go_ret2
    exact ⟨rfl, rfl⟩
  · have e1 : okA (N.numL s.data.toList) = ((n : Int), true) := by rw [h, okA_nat]
    rw [e1] at HN
    clear e1
    by_cases h1 : (n : Int) < least
    · have c1 : decide ((n : Int) < least) = true := decide_eq_true h1
      have e2 : numA s.data.toList least most = (0, false) := by unfold numA; rw [if_neg (by omega)]
      rw [e2] at hz
      cases hz
      clear e2 h h1
      go_enter Tryd.func11, Tryd.ntmps11
      go_wp2_with fail
      refine (HN.out).mono ?_
      rintro e w1 ⟨rfl, rfl⟩
      go_wp2
      go_ret2
      exact ⟨rfl, rfl⟩
    · have c1 : decide ((n : Int) < least) = false := decide_eq_false h1
      by_cases h2 : most < (n : Int)
      · have c2 : decide (most < (n : Int)) = true := decide_eq_true h2
        have e2 : numA s.data.toList least most = (0, false) := by unfold numA; rw [if_neg (by omega)]
        rw [e2] at hz
        cases hz
        clear e2 h h1 h2
        go_enter Tryd.func11, Tryd.ntmps11
        go_wp2_with fail
        refine (HN.out).mono ?_
        rintro e w1 ⟨rfl, rfl⟩
        go_wp2
        go_ret2
        exact ⟨rfl, rfl⟩
      · have c2 : decide (most < (n : Int)) = false := decide_eq_false h2
        have e2 : numA s.data.toList least most = ((n : Int), true) := by unfold numA; rw [if_pos (by omega), h]
        rw [e2] at hz
        cases hz
        clear e2 h h1 h2
        go_enter Tryd.func11, Tryd.ntmps11
        go_wp2_with fail
        refine (HN.out).mono ?_
        rintro e w1 ⟨rfl, rfl⟩
        go_wp2
        go_ret2
        exact ⟨rfl, rfl⟩
end Go.Proofs.YtgefbdckngejdaaDoor
